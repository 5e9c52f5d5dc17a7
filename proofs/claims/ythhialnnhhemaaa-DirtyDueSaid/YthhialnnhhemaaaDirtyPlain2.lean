/- LAYER 14, plain: what is due stands first. No condition. -/
import Derived.Test.YthhialnnhhemaaaDirtyPlain
namespace Go.Proofs.Ythhialnnhhemaaa
open Go.RowKit
set_option linter.unusedVariables false
namespace Dy
def isDue (now age : Int) (a : It) : Bool := decide (a.since ≤ now ∧ age ≤ now - a.since)
theorem dueOf_eq (l : List It) (now age : Int) : dueOf l now age = (l.filter (isDue now age)).map It.page := rfl
/-- how many are due -/
def dueN (l : List It) (now age : Int) : Nat := l.countP (isDue now age)
theorem filter_take : ∀ (l : List It) (p : It → Bool), l.Pairwise (fun a b => a.since ≤ b.since) → (∀ a b : It, a.since ≤ b.since → p b = true → p a = true) → l.filter p = l.take (l.countP p) ∧ ∀ i (h : i < l.length), (i < l.countP p ↔ p l[i] = true) := by
  intro l p
  induction l with
  | nil => intro _ _; exact ⟨rfl, fun i h => by simp at h⟩
  | cons a l ih =>
    intro hs hp
    obtain ⟨h1, h2⟩ := List.pairwise_cons.1 hs
    obtain ⟨e, hi⟩ := ih h2 hp
    cases ha : p a with
    | true =>
      have hcp : (a :: l).countP p = l.countP p + 1 := by rw [List.countP_cons, ha]; rfl
      rw [List.filter_cons, ha, hcp]
      simp only [if_true, List.take_succ_cons]
      refine ⟨by rw [e], ?_⟩
      intro i h
      match i with
      | 0 => simp [ha]
      | i + 1 =>
        have := hi i (by simpa using h)
        simp only [List.getElem_cons_succ]
        rw [← this]
        omega
    | false =>
      have hno : ∀ b ∈ l, p b = false := by
        intro b hb
        cases hpb : p b with
        | false => rfl
        | true => rw [hp a b (h1 b hb) hpb] at ha; exact Bool.noConfusion ha
      have hz : l.countP p = 0 := by rw [List.countP_eq_zero]; intro b hb; rw [hno b hb]; simp
      have hcp : (a :: l).countP p = 0 := by rw [List.countP_cons, ha, hz]; rfl
      rw [List.filter_cons, ha, hcp]
      refine ⟨?_, ?_⟩
      · simp only [Bool.false_eq_true, if_false, List.take_zero]
        rw [List.filter_eq_nil_iff]
        intro b hb; rw [hno b hb]; simp
      · intro i h
        match i with
        | 0 => simp [ha]
        | i + 1 =>
          have hil : i < l.length := by simpa using h
          have : p l[i] = false := hno _ (List.getElem_mem hil)
          simp [this]
theorem isDue_iff {now age : Int} (hage : 0 ≤ age) (a : It) : isDue now age a = true ↔ a.since ≤ now - age := by
  unfold isDue; rw [decide_eq_true_iff]; omega
theorem due_take {l : List It} (h : Ok l) {now age : Int} (hage : 0 ≤ age) : due l now age = (l.take (dueN l now age)).map It.page ∧ ∀ i (hi : i < l.length), (i < dueN l now age ↔ l[i].since ≤ now - age) := by
  have hp : ∀ a b : It, a.since ≤ b.since → isDue now age b = true → isDue now age a = true := by
    intro a b hab hb
    rw [isDue_iff hage] at hb ⊢
    omega
  obtain ⟨e, hi⟩ := filter_take l (isDue now age) h.rise hp
  refine ⟨?_, fun i h' => by unfold dueN; rw [hi i h', isDue_iff hage]⟩
  unfold due
  rw [(right_iff l).2 h, decide_eq_true hage, dueOf_eq, e]
  rfl
theorem dueN_le (l : List It) (now age : Int) : dueN l now age ≤ l.length := List.countP_le_length
theorem dueN_mono {l : List It} (h : Ok l) {now now' age age' : Int} (hage : 0 ≤ age) (hage' : 0 ≤ age') (hn : now - age ≤ now' - age') : dueN l now age ≤ dueN l now' age' := by
  unfold dueN
  apply List.countP_mono_left
  intro a _ ha
  rw [isDue_iff hage] at ha
  rw [isDue_iff hage']
  omega
theorem dueN_all {l : List It} (h : Ok l) {now age : Int} (hage : 0 ≤ age) (ha : ∀ a ∈ l, a.since ≤ now - age) : dueN l now age = l.length := by
  unfold dueN
  rw [List.countP_eq_length]
  intro a hm
  rw [isDue_iff hage]
  exact ha a hm
theorem dueN_zero {l : List It} (h : Ok l) {now age : Int} (hage : 0 ≤ age) (ha : ∀ a ∈ l, now - age < a.since) : dueN l now age = 0 := by
  unfold dueN
  rw [List.countP_eq_zero]
  intro a hm
  rw [isDue_iff hage]
  have := ha a hm
  omega
/-- since when a page is dirty; 0: it is not -/
def sinceOf (l : List It) (p : Int) : Int := match l.find? (fun a => a.page == p) with
  | some a => a.since
  | none => 0
def hasPage (l : List It) (p : Int) : Bool := l.any fun a => a.page == p
theorem at_has (l : List It) (p : Int) : (0 ≤ at' l p) ↔ hasPage l p = true := by
  unfold hasPage
  rw [List.any_eq_true]
  rcases at_cases l p with ⟨e, h⟩ | ⟨k, hk, e, h, _⟩
  · rw [e]
    constructor
    · intro h'; omega
    · rintro ⟨a, ha, h2⟩; exact absurd (by simpa using h2) (h a ha)
  · rw [e]
    exact ⟨fun _ => ⟨l[k], List.getElem_mem hk, by simpa using h⟩, fun _ => by omega⟩
theorem sinceOf_at {l : List It} {p : Int} {k : Nat} (hk : k < l.length) (h : at' l p = k) : sinceOf l p = l[k].since := by
  rcases at_cases l p with ⟨e, _⟩ | ⟨m, hm, e, h1, h2⟩
  · rw [e] at h; omega
  · have : m = k := by rw [e] at h; omega
    subst this
    unfold sinceOf
    have : l.find? (fun a => a.page == p) = some l[m] := by
      rw [List.find?_eq_some_iff_getElem]
      exact ⟨by simpa using h1, m, hm, rfl, fun j hj => by simpa using h2 j hj⟩
    rw [this]
theorem sinceOf_none {l : List It} {p : Int} (h : ∀ a ∈ l, a.page ≠ p) : sinceOf l p = 0 := by
  unfold sinceOf
  have : l.find? (fun a => a.page == p) = none := by
    rw [List.find?_eq_none]; intro a ha; simpa using h a ha
  rw [this]
theorem sinceOf_snoc {l : List It} {a : It} (h : ∀ b ∈ l, b.page ≠ a.page) (p : Int) : sinceOf (l ++ [a]) p = if p = a.page then a.since else sinceOf l p := by
  unfold sinceOf
  rw [List.find?_append]
  by_cases e : p = a.page
  · subst e
    have : l.find? (fun b => b.page == a.page) = none := by rw [List.find?_eq_none]; intro b hb; simpa using h b hb
    rw [this]; simp
  · rw [if_neg e]
    have : ([a] : List It).find? (fun b => b.page == p) = none := by
      rw [List.find?_eq_none]; intro b hb; simp at hb; subst hb; simpa using fun e2 : b.page = p => e e2.symm
    rw [this]; simp
theorem erase_mem {l : List It} (h : Ok l) {k : Nat} (hk : k < l.length) (b : It) : b ∈ l.eraseIdx k ↔ b ∈ l ∧ b.page ≠ l[k].page := by
  rw [List.mem_eraseIdx_iff_getElem]
  constructor
  · rintro ⟨i, hi, hne, rfl⟩
    refine ⟨List.getElem_mem hi, fun e => hne ?_⟩
    have hn := h.apart
    have := (List.getElem_inj (h₀ := by simpa using hi) (h₁ := by simpa using hk) hn).1 (by simpa using e)
    exact this
  · rintro ⟨hb, hne⟩
    obtain ⟨i, hi, rfl⟩ := List.getElem_of_mem hb
    exact ⟨i, hi, fun e => hne (by subst e; rfl), rfl⟩
theorem sinceOf_mem {l : List It} (h : Ok l) {a : It} (ha : a ∈ l) : sinceOf l a.page = a.since := by
  rcases at_cases l a.page with ⟨_, hno⟩ | ⟨k, hk, e, h1, _⟩
  · exact absurd rfl (hno a ha)
  · rw [sinceOf_at hk e]
    obtain ⟨i, hi, rfl⟩ := List.getElem_of_mem ha
    have := (List.getElem_inj (h₀ := by simpa using hk) (h₁ := by simpa using hi) h.apart).1 (by simpa using h1)
    subst this; rfl
theorem sinceOf_erase {l : List It} (h : Ok l) {k : Nat} (hk : k < l.length) (p : Int) : sinceOf (l.eraseIdx k) p = if p = l[k].page then 0 else sinceOf l p := by
  by_cases e : p = l[k].page
  · rw [if_pos e]
    apply sinceOf_none
    intro a ha
    rw [erase_mem h hk] at ha
    rw [e]; exact ha.2
  · rw [if_neg e]
    by_cases hp : ∃ a ∈ l, a.page = p
    · obtain ⟨a, ha, rfl⟩ := hp
      rw [sinceOf_mem h ha, sinceOf_mem (h.erase k) ((erase_mem h hk a).2 ⟨ha, e⟩)]
    · have h1 : ∀ a ∈ l, a.page ≠ p := fun a ha e2 => hp ⟨a, ha, e2⟩
      rw [sinceOf_none h1, sinceOf_none (fun a ha => h1 a ((erase_mem h hk a).1 ha).1)]
end Dy
end Go.Proofs.Ythhialnnhhemaaa
