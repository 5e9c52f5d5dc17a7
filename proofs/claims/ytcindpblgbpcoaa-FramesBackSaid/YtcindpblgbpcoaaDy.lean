/- LAYER 14, plain: items, who is where. No condition. -/
import Derived.Test.YtcindpblgbpcoaaDelKit
namespace Go.Proofs.Ytcindpblgbpcoaa
set_option linter.unusedVariables false

structure It where
  page : Int
  since : Int
deriving DecidableEq, Inhabited
namespace Dy
def fits (n : Int) : Prop := -9223372036854775808 ≤ n ∧ n ≤ 9223372036854775807
def Fit (l : List It) : Prop := ∀ a ∈ l, fits a.page ∧ fits a.since
def last (l : List It) : Int := match l.getLast? with
  | some a => a.since
  | none => 0
def good (l : List It) (a : It) : Bool := decide (1 ≤ a.page ∧ a.page ≤ 16) && ((l.all fun o => o.page != a.page) && decide (last l ≤ a.since ∧ a.since ≤ 2147483647))
def okAt (l : List It) (i : Nat) : Bool := match l[i]? with
  | some a => good (l.take i) a
  | none => true
def right (l : List It) : Bool := (List.range l.length).all (okAt l)
def at' (l : List It) (p : Int) : Int := match l.findIdx? (fun a => a.page == p) with
  | some i => i
  | none => -1
theorem last_snoc (l : List It) (a : It) : last (l ++ [a]) = a.since := by simp [last]
theorem last_nil : last [] = 0 := rfl
theorem at_some {l : List It} {p : Int} {k : Nat} (hk : k < l.length) (h : l[k].page = p) (hno : ∀ j (hj : j < k), (l[j]'(by omega)).page ≠ p) : at' l p = k := by
  unfold at'
  rw [show l.findIdx? (fun a => a.page == p) = some k by
    rw [List.findIdx?_eq_some_iff_getElem]
    exact ⟨hk, by simpa using h, fun j hj => by simpa using hno j hj⟩]
theorem at_none {l : List It} {p : Int} (hno : ∀ j (hj : j < l.length), l[j].page ≠ p) : at' l p = -1 := by
  unfold at'
  rw [show l.findIdx? (fun a => a.page == p) = none by
    rw [List.findIdx?_eq_none_iff]
    intro a ha
    obtain ⟨j, hj, rfl⟩ := List.getElem_of_mem ha
    simpa using hno j hj]
theorem at_cases (l : List It) (p : Int) : (at' l p = -1 ∧ ∀ a ∈ l, a.page ≠ p) ∨ (∃ k, ∃ hk : k < l.length, at' l p = k ∧ l[k].page = p ∧ ∀ j (hj : j < k), (l[j]'(by omega)).page ≠ p) := by
  cases h : l.findIdx? (fun a => a.page == p) with
  | none =>
    left
    rw [List.findIdx?_eq_none_iff] at h
    exact ⟨at_none (fun j hj => by simpa using h _ (List.getElem_mem hj)), fun a ha => by simpa using h a ha⟩
  | some k =>
    right
    rw [List.findIdx?_eq_some_iff_getElem] at h
    obtain ⟨hk, h1, h2⟩ := h
    have h1' : l[k].page = p := by simpa using h1
    have h2' : ∀ j (hj : j < k), (l[j]'(by omega)).page ≠ p := fun j hj => by simpa using h2 j hj
    exact ⟨k, hk, at_some hk h1' h2', h1', h2'⟩
theorem okAt_snoc {l : List It} {a : It} {i : Nat} (h : i < l.length) : okAt (l ++ [a]) i = okAt l i := by
  unfold okAt
  rw [List.getElem?_append_left h, List.take_append_of_le_length (by omega)]
theorem okAt_get {l : List It} {i : Nat} (h : i < l.length) : okAt l i = good (l.take i) l[i] := by
  unfold okAt; rw [List.getElem?_eq_getElem h]
theorem right_snoc (l : List It) (a : It) : right (l ++ [a]) = (right l && good l a) := by
  unfold right
  rw [List.length_append, List.length_singleton, List.range_succ, List.all_append]
  have h1 : (List.range l.length).all (okAt (l ++ [a])) = (List.range l.length).all (okAt l) := by
    rw [Bool.eq_iff_iff, List.all_eq_true, List.all_eq_true]
    constructor
    · intro h i hi; rw [← okAt_snoc (a := a) (by simpa using hi)]; exact h i hi
    · intro h i hi; rw [okAt_snoc (by simpa using hi)]; exact h i hi
  rw [h1]
  simp only [List.all_cons, List.all_nil, Bool.and_true]
  unfold okAt
  rw [List.getElem?_append_right (Nat.le_refl _), Nat.sub_self]
  simp
theorem right_nil : right [] = true := rfl
theorem right_take {l : List It} (k : Nat) (hk : k ≤ l.length) : right (l.take k) = (List.range k).all (okAt l) := by
  unfold right
  rw [List.length_take, Nat.min_eq_left hk, Bool.eq_iff_iff, List.all_eq_true, List.all_eq_true]
  have e : ∀ i, i < k → okAt (l.take k) i = okAt l i := by
    intro i hi
    unfold okAt
    rw [List.getElem?_take, if_pos hi, List.take_take, Nat.min_eq_left (by omega)]
  constructor
  · intro h i hi; rw [← e i (by simpa using hi)]; exact h i hi
  · intro h i hi; rw [e i (by simpa using hi)]; exact h i hi
theorem right_step {l : List It} {k : Nat} (hk : k < l.length) : right (l.take (k + 1)) = (right (l.take k) && good (l.take k) l[k]) := by
  rw [List.take_succ_eq_append_getElem hk, right_snoc]
/-- a beginning that is wrong makes the whole wrong -/
theorem right_of_take {l : List It} (k : Nat) (h : right (l.take k) = false) : right l = false := by
  by_cases hk : k ≤ l.length
  · rw [right_take k hk] at h
    rw [Bool.eq_false_iff] at h ⊢
    intro h2
    apply h
    unfold right at h2
    rw [List.all_eq_true] at h2 ⊢
    intro i hi
    exact h2 i (by simp at hi ⊢; omega)
  · rw [List.take_of_length_le (by omega)] at h; exact h

/-- right, as one says it -/
structure Ok (l : List It) : Prop where
  page : ∀ a ∈ l, 1 ≤ a.page ∧ a.page ≤ 16
  since : ∀ a ∈ l, 0 ≤ a.since ∧ a.since ≤ 2147483647
  apart : (l.map It.page).Nodup
  rise : l.Pairwise fun a b => a.since ≤ b.since
theorem Ok.last {l : List It} (h : Ok l) : ∀ a ∈ l, a.since ≤ last l := by
  intro a ha
  unfold Dy.last
  cases hl : l.getLast? with
  | none => rw [List.getLast?_eq_none_iff] at hl; subst hl; simp at ha
  | some b =>
    obtain ⟨l', rfl⟩ := List.getLast?_eq_some_iff.1 hl
    simp only
    rcases List.mem_append.1 ha with h1 | h1
    · exact (List.pairwise_append.1 h.rise).2.2 a h1 b (by simp)
    · simp at h1; subst h1; exact Int.le_refl _
theorem last_nonneg {l : List It} (h : Ok l) : 0 ≤ Dy.last l := by
  unfold Dy.last
  cases hl : l.getLast? with
  | none => simp
  | some b => exact (h.since b (List.mem_of_getLast? hl)).1
theorem good_iff (l : List It) (a : It) : good l a = true ↔ (1 ≤ a.page ∧ a.page ≤ 16) ∧ (∀ o ∈ l, o.page ≠ a.page) ∧ Dy.last l ≤ a.since ∧ a.since ≤ 2147483647 := by
  unfold good
  rw [Bool.and_eq_true, Bool.and_eq_true, decide_eq_true_iff, decide_eq_true_iff, List.all_eq_true]
  simp
theorem right_iff_rev (l : List It) : right l.reverse = true ↔ Ok l.reverse := by
  induction l with
  | nil => exact ⟨fun _ => ⟨by simp, by simp, by simp, by simp⟩, fun _ => rfl⟩
  | cons a l ih =>
    rw [List.reverse_cons, right_snoc, Bool.and_eq_true, ih, good_iff]
    constructor
    · rintro ⟨h, h1, h2, h3, h4⟩
      refine ⟨?_, ?_, ?_, ?_⟩
      · intro b hb
        rcases List.mem_append.1 hb with hb | hb
        · exact h.page b hb
        · simp at hb; subst hb; exact h1
      · intro b hb
        rcases List.mem_append.1 hb with hb | hb
        · exact h.since b hb
        · simp at hb; subst hb; have := last_nonneg h; omega
      · rw [List.map_append, List.nodup_append]
        refine ⟨h.apart, by simp, ?_⟩
        intro x hx y hy
        obtain ⟨o, ho, rfl⟩ := List.mem_map.1 hx
        simp at hy; subst hy
        exact h2 o ho
      · rw [List.pairwise_append]
        refine ⟨h.rise, by simp, ?_⟩
        intro x hx y hy
        simp at hy; subst hy
        have := h.last x hx
        omega
    · intro h
      have hk : Ok l.reverse := ⟨fun b hb => h.page b (List.mem_append_left _ hb), fun b hb => h.since b (List.mem_append_left _ hb), by have := h.apart; rw [List.map_append, List.nodup_append] at this; exact this.1, (List.pairwise_append.1 h.rise).1⟩
      refine ⟨hk, h.page a (by simp), ?_, ?_, (h.since a (by simp)).2⟩
      · intro o ho
        have := h.apart
        rw [List.map_append, List.nodup_append] at this
        exact this.2.2 o.page (List.mem_map.2 ⟨o, ho, rfl⟩) a.page (by simp)
      · unfold Dy.last
        cases hl : l.reverse.getLast? with
        | none => exact (h.since a (by simp)).1
        | some b => exact (List.pairwise_append.1 h.rise).2.2 b (List.mem_of_getLast? hl) a (by simp)
theorem right_iff (l : List It) : right l = true ↔ Ok l := by
  have := right_iff_rev l.reverse
  rwa [List.reverse_reverse] at this
theorem nodup_le : ∀ (n : Nat) (l : List Int), l.Nodup → (∀ x ∈ l, 1 ≤ x ∧ x ≤ n) → l.length ≤ n := by
  intro n
  induction n with
  | zero =>
    intro l hn h
    cases l with
    | nil => simp
    | cons a l => have := h a (by simp); omega
  | succ n ih =>
    intro l hn h
    by_cases hm : ((n + 1 : Nat) : Int) ∈ l
    · have h1 := ih (l.erase ((n + 1 : Nat) : Int)) (hn.erase _) (by
        intro x hx
        have h2 := h x (List.mem_of_mem_erase hx)
        have h3 : x ≠ ((n + 1 : Nat) : Int) := by rintro rfl; exact hn.not_mem_erase hx
        omega)
      rw [List.length_erase_of_mem hm] at h1
      omega
    · have h1 := ih l hn (by
        intro x hx
        have h2 := h x hx
        have h3 : x ≠ ((n + 1 : Nat) : Int) := by rintro rfl; exact hm hx
        omega)
      omega
theorem Ok.short {l : List It} (h : Ok l) : l.length ≤ 16 := by
  have := nodup_le 16 (l.map It.page) h.apart (by
    intro x hx
    obtain ⟨a, ha, rfl⟩ := List.mem_map.1 hx
    exact h.page a ha)
  simpa using this
theorem Ok.erase {l : List It} (h : Ok l) (k : Nat) : Ok (l.eraseIdx k) := by
  have hs := List.eraseIdx_sublist l k
  exact ⟨fun a ha => h.page a (hs.subset ha), fun a ha => h.since a (hs.subset ha), h.apart.sublist (hs.map It.page), h.rise.sublist hs⟩
/-- what is due -/
def dueOf (l : List It) (now age : Int) : List Int := (l.filter fun a => decide (a.since ≤ now ∧ age ≤ now - a.since)).map It.page
def due (l : List It) (now age : Int) : List Int := if right l && decide (0 ≤ age) then dueOf l now age else []
def sinceOf (l : List It) (p : Int) : Int := match l.find? (fun a => a.page == p) with
  | some a => a.since
  | none => 0
def hasPage (l : List It) (p : Int) : Bool := l.any fun a => a.page == p
theorem at_has (l : List It) (p : Int) : (0 ≤ at' l p) ↔ hasPage l p = true := by
  unfold hasPage
  rw [List.any_eq_true]
  rcases at_cases l p with ⟨e, h⟩ | ⟨k, hk, e, h, _⟩
  · rw [e]
    constructor
    · intro h'; omega
    · rintro ⟨a, ha, h2⟩; exact absurd (by simpa using h2) (h a ha)
  · rw [e]
    exact ⟨fun _ => ⟨l[k], List.getElem_mem hk, by simpa using h⟩, fun _ => by omega⟩
theorem sinceOf_at {l : List It} {p : Int} {k : Nat} (hk : k < l.length) (h : at' l p = k) : sinceOf l p = l[k].since := by
  rcases at_cases l p with ⟨e, _⟩ | ⟨m, hm, e, h1, h2⟩
  · rw [e] at h; omega
  · have : m = k := by rw [e] at h; omega
    subst this
    unfold sinceOf
    have : l.find? (fun a => a.page == p) = some l[m] := by
      rw [List.find?_eq_some_iff_getElem]
      exact ⟨by simpa using h1, m, hm, rfl, fun j hj => by simpa using h2 j hj⟩
    rw [this]
theorem sinceOf_none {l : List It} {p : Int} (h : ∀ a ∈ l, a.page ≠ p) : sinceOf l p = 0 := by
  unfold sinceOf
  have : l.find? (fun a => a.page == p) = none := by
    rw [List.find?_eq_none]; intro a ha; simpa using h a ha
  rw [this]
theorem sinceOf_snoc {l : List It} {a : It} (h : ∀ b ∈ l, b.page ≠ a.page) (p : Int) : sinceOf (l ++ [a]) p = if p = a.page then a.since else sinceOf l p := by
  unfold sinceOf
  rw [List.find?_append]
  by_cases e : p = a.page
  · subst e
    have : l.find? (fun b => b.page == a.page) = none := by rw [List.find?_eq_none]; intro b hb; simpa using h b hb
    rw [this]; simp
  · rw [if_neg e]
    have : ([a] : List It).find? (fun b => b.page == p) = none := by
      rw [List.find?_eq_none]; intro b hb; simp at hb; subst hb; simpa using fun e2 : b.page = p => e e2.symm
    rw [this]; simp
theorem dup_iff {l : List It} {k : Nat} (hk : k < l.length) : (at' l l[k].page < (k : Int)) ↔ ((l.take k).all fun o => o.page != l[k].page) = false := by
  rw [List.all_eq_false]
  constructor
  · intro h
    rcases at_cases l l[k].page with ⟨e, hno⟩ | ⟨m, hm, e, h1, _⟩
    · exact absurd rfl (hno _ (List.getElem_mem hk))
    · refine ⟨l[m], ?_, by simpa using h1⟩
      rw [e] at h
      rw [List.mem_take_iff_getElem]
      exact ⟨m, by omega, rfl⟩
  · rintro ⟨o, ho, h1⟩
    rw [List.mem_take_iff_getElem] at ho
    obtain ⟨j, hj, rfl⟩ := ho
    rcases at_cases l l[k].page with ⟨e, hno⟩ | ⟨m, hm, e, _, h2⟩
    · exact absurd rfl (hno _ (List.getElem_mem hk))
    · rw [e]
      have h3 : l[j].page = l[k].page := by simpa using h1
      have : ¬ j < m := fun hjm => h2 j hjm h3
      omega
theorem good_eq {l : List It} {k : Nat} (hk : k < l.length) : good (l.take k) l[k] = decide ((1 ≤ l[k].page ∧ l[k].page ≤ 16) ∧ ¬ at' l l[k].page < (k : Int) ∧ last (l.take k) ≤ l[k].since ∧ l[k].since ≤ 2147483647) := by
  unfold good
  by_cases h : at' l l[k].page < (k : Int)
  · rw [(dup_iff hk).1 h, Bool.false_and, Bool.and_false]
    exact (decide_eq_false (fun h' => h'.2.1 h)).symm
  · have : ((l.take k).all fun o => o.page != l[k].page) = true := by
      cases hb : ((l.take k).all fun o => o.page != l[k].page) with
      | true => rfl
      | false => exact absurd ((dup_iff hk).2 hb) h
    rw [this, Bool.true_and, ← Bool.decide_and, decide_eq_decide]
    exact ⟨fun h' => ⟨h'.1, h, h'.2⟩, fun h' => ⟨h'.1, h'.2.2⟩⟩
theorem bad_of {l : List It} {k : Nat} (hk : k < l.length) (h : good (l.take k) l[k] = false) : right l = false := by
  apply right_of_take (k + 1)
  rw [right_step hk, h, Bool.and_false]
theorem last_take {l : List It} {k : Nat} (hk : k < l.length) : last (l.take (k + 1)) = l[k].since := by
  rw [List.take_succ_eq_append_getElem hk, last_snoc]
theorem hasPage_snoc (l : List It) (a : It) (p : Int) : hasPage (l ++ [a]) p = (hasPage l p || (a.page == p)) := by
  unfold hasPage; rw [List.any_append]; simp
theorem good_eq2 (l : List It) (a : It) : good l a = decide ((1 ≤ a.page ∧ a.page ≤ 16) ∧ hasPage l a.page = false ∧ last l ≤ a.since ∧ a.since ≤ 2147483647) := by
  rw [Bool.eq_iff_iff, good_iff, decide_eq_true_iff]
  constructor
  · rintro ⟨h1, h2, h3⟩
    refine ⟨h1, ?_, h3⟩
    unfold hasPage
    rw [List.any_eq_false]
    intro o ho
    simpa using h2 o ho
  · rintro ⟨h1, h2, h3⟩
    refine ⟨h1, ?_, h3⟩
    intro o ho
    unfold hasPage at h2
    rw [List.any_eq_false] at h2
    simpa using h2 o ho
theorem right_long {l : List It} (h : 16 < l.length) : right l = false := by
  rw [Bool.eq_false_iff]
  intro hr
  have := ((right_iff l).1 hr).short
  omega
end Dy

end Go.Proofs.Ytcindpblgbpcoaa
