/- PLAIN FACTS of layer 10: when there is an order at all in which all can be served. No program; conditions: nobody holds less than nothing. -/
import Derived.Test.YtjdjdojmgoibbaaBankSafe
namespace Go.Proofs.Ytjdjdojmgoibbaa
namespace Bk
set_option linter.unusedVariables false

def need (c : Cl) : Int := c.claim - c.held
inductive Feas : Int → List Cl → Prop
  | nil (f : Int) : Feas f []
  | cons {f : Int} {l : List Cl} (c : Cl) : c ∈ l → need c ≤ f → Feas (f + c.held) (l.erase c) → Feas f l
def NonNeg (l : List Cl) : Prop := ∀ c ∈ l, 0 ≤ c.held
theorem NonNeg.erase {l : List Cl} (h : NonNeg l) (c : Cl) : NonNeg (l.erase c) := fun d hd => h d (List.mem_of_mem_erase hd)

theorem Feas.mono {f : Int} {l : List Cl} (h : Feas f l) : ∀ {g : Int}, f ≤ g → Feas g l := by
  induction h with
  | nil f => intro g _; exact .nil g
  | cons c hm hn _ ih => intro g hg; exact .cons c hm (by omega) (ih (by omega))
theorem Feas.perm {f : Int} {l : List Cl} (h : Feas f l) : ∀ {m : List Cl}, l.Perm m → Feas f m := by
  induction h with
  | nil f => intro m hp; rw [List.nil_perm.1 hp]; exact .nil f
  | cons c hm hn _ ih => intro m hp; exact .cons c (hp.mem_iff.1 hm) hn (ih (hp.erase c))
theorem Feas.exch {f : Int} {l : List Cl} (h : Feas f l) : NonNeg l → ∀ c ∈ l, need c ≤ f → Feas (f + c.held) (l.erase c) := by
  induction h with
  | nil f => intro _ c hc; simp at hc
  | @cons f l d hm hn hrest ih =>
    intro hnn c hc hcn
    by_cases e : c = d
    · subst e; exact hrest
    · have hd0 := hnn d hm
      have hc0 := hnn c hc
      have h1 := ih (hnn.erase d) c ((List.mem_erase_of_ne e).2 hc) (by omega)
      refine .cons d ((List.mem_erase_of_ne (Ne.symm e)).2 hm) (by omega) ?_
      rw [List.erase_comm]
      exact h1.mono (by omega)
theorem Feas.stuck {f : Int} {l : List Cl} (h : Feas f l) (hne : l ≠ []) : ∃ c ∈ l, need c ≤ f := by
  cases h with
  | nil => exact absurd rfl hne
  | cons c hm hn _ => exact ⟨c, hm, hn⟩
theorem Feas.all {l : List Cl} : ∀ {f : Int}, NonNeg l → (∀ c ∈ l, need c ≤ f) → Feas f l := by
  induction l with
  | nil => intro f _ _; exact .nil f
  | cons c l ih =>
    intro f hn h
    refine .cons c (by simp) (h c (by simp)) ?_
    rw [List.erase_cons_head]
    have := hn c (by simp)
    exact ih (fun d hd => hn d (by simp [hd])) (fun d hd => by have := h d (by simp [hd]); omega)

/-- who was not served yet -/
def unserved : List Cl → List Bool → List Cl
  | c :: l, true :: sv => unserved l sv
  | c :: l, false :: sv => c :: unserved l sv
  | _, _ => []
theorem unserved_none (l : List Cl) : unserved l (List.replicate l.length false) = l := by
  induction l with
  | nil => rfl
  | cons c l ih => rw [List.length_cons, List.replicate_succ]; simp only [unserved, ih]
theorem mem_unserved {l : List Cl} {c : Cl} : ∀ {sv : List Bool}, sv.length = l.length → (c ∈ unserved l sv ↔ ∃ i, ∃ h : i < l.length, sv.getD i true = false ∧ l[i] = c) := by
  induction l with
  | nil => intro sv _; simp [unserved]
  | cons d l ih =>
    intro sv hs
    match sv, hs with
    | s :: sv, hs =>
      have ih' := ih (sv := sv) (by simpa using hs)
      cases s with
      | true =>
        simp only [unserved]
        rw [ih']
        constructor
        · rintro ⟨i, hi, h1, h2⟩
          exact ⟨i + 1, by simpa using hi, by simpa using h1, by simpa using h2⟩
        · rintro ⟨i, hi, h1, h2⟩
          match i with
          | 0 => simp at h1
          | i + 1 => exact ⟨i, by simpa using hi, by simpa using h1, by simpa using h2⟩
      | false =>
        simp only [unserved, List.mem_cons]
        rw [ih']
        constructor
        · rintro (rfl | ⟨i, hi, h1, h2⟩)
          · exact ⟨0, by simp, by simp, by simp⟩
          · exact ⟨i + 1, by simpa using hi, by simpa using h1, by simpa using h2⟩
        · rintro ⟨i, hi, h1, h2⟩
          match i with
          | 0 => exact .inl (by simpa using h2.symm)
          | i + 1 => exact .inr ⟨i, by simpa using hi, by simpa using h1, by simpa using h2⟩
theorem unserved_set {l : List Cl} : ∀ {sv : List Bool} (i : Nat) (hi : i < l.length), sv.length = l.length → sv.getD i true = false → (unserved l (sv.set i true)).Perm ((unserved l sv).erase l[i]) := by
  induction l with
  | nil => intro sv i hi; simp at hi
  | cons d l ih =>
    intro sv i hi hs hg
    match sv, hs with
    | s :: sv, hs =>
      match i with
      | 0 =>
        have : s = false := by simpa using hg
        subst this
        simp [unserved]
      | i + 1 =>
        have h := ih (sv := sv) i (by simpa using hi) (by simpa using hs) (by simpa using hg)
        cases s with
        | true => simpa [unserved] using h
        | false =>
          simp only [List.set_cons_succ, unserved, List.getElem_cons_succ]
          have hil : i < l.length := by simpa using hi
          by_cases e : d = l[i]
          · subst e
            rw [List.erase_cons_head]
            have hmem : l[i]'(by simpa using hi) ∈ unserved l sv := (mem_unserved (by simpa using hs)).2 ⟨i, by simpa using hi, by simpa using hg, rfl⟩
            exact (h.cons _).trans (List.perm_cons_erase hmem).symm
          · rw [List.erase_cons_tail (by simpa using e)]
            exact h.cons d
theorem unserved_length {l : List Cl} : ∀ {sv : List Bool}, sv.length = l.length → (unserved l sv).length = sv.count false := by
  induction l with
  | nil => intro sv hs; obtain rfl := List.eq_nil_of_length_eq_zero hs; rfl
  | cons d l ih =>
    intro sv hs
    match sv, hs with
    | s :: sv, hs =>
      cases s with
      | true => simp [unserved, ih (sv := sv) (by simpa using hs)]
      | false => simp [unserved, ih (sv := sv) (by simpa using hs)]

theorem next_none {f : Int} {l : List Cl} {sv : List Bool} (hs : sv.length = l.length) (h : next f l sv = none) : ∀ c ∈ unserved l sv, ¬ need c ≤ f := by
  intro c hc hn
  obtain ⟨i, hi, h1, h2⟩ := (mem_unserved hs).1 hc
  unfold next at h
  rw [List.find?_eq_none] at h
  have := h i (by simpa using hi)
  rw [h1] at this
  apply this
  rw [List.getD_eq_getElem?_getD, List.getElem?_eq_getElem hi]
  simp only [Option.getD_some, h2, can]
  unfold need at hn
  simpa using hn
theorem go_iff (n : Nat) : ∀ (f : Int) (l : List Cl) (sv : List Bool) (ord : List Nat), NonNeg l → sv.length = l.length → ord.length + sv.count false = l.length → sv.count false < n → ((go n f l sv ord).length = l.length ↔ Feas f (unserved l sv)) := by
  induction n with
  | zero => intro f l sv ord _ _ _ h; omega
  | succ n ih =>
    intro f l sv ord hnn hs ho hn
    cases hx : next f l sv with
    | none =>
      simp only [go, hx]
      have hno := next_none hs hx
      constructor
      · intro hl
        have : (unserved l sv).length = 0 := by rw [unserved_length hs]; omega
        rw [List.eq_nil_of_length_eq_zero this]
        exact .nil f
      · intro hf
        by_cases hne : unserved l sv = []
        · have : sv.count false = 0 := by rw [← unserved_length hs, hne]; rfl
          omega
        · obtain ⟨c, hc, hcn⟩ := hf.stuck hne
          exact absurd hcn (hno c hc)
    | some i =>
      obtain ⟨hil, hsv, hcan⟩ := next_lt hx
      have hld : l.getD i default = l[i] := by rw [List.getD_eq_getElem?_getD, List.getElem?_eq_getElem hil]; rfl
      have hcnt := count_set hsv
      simp only [go, hx]
      rw [ih _ l (sv.set i true) (ord ++ [i]) hnn (by simpa using hs) (by simp; omega) (by omega), hld]
      have hp := unserved_set i hil hs hsv
      have hmem : l[i] ∈ unserved l sv := (mem_unserved hs).2 ⟨i, hil, hsv, rfl⟩
      have hnn2 : NonNeg (unserved l sv) := by
        intro c hc
        obtain ⟨j, hj, _, hjc⟩ := (mem_unserved hs).1 hc
        exact hnn c (by rw [← hjc]; exact List.getElem_mem hj)
      have hneed : need l[i] ≤ f := by
        rw [hld] at hcan
        unfold can at hcan
        simpa [need] using hcan
      constructor
      · intro h; exact .cons l[i] hmem hneed (h.perm hp)
      · intro h; exact (h.exch hnn2 l[i] hmem hneed).perm hp.symm
theorem order_iff (f : Int) (l : List Cl) (h : NonNeg l) : (order f l).length = l.length ↔ Feas f l := by
  unfold order
  rw [go_iff (l.length + 1) f l (List.replicate l.length false) [] h (by simp) (by simp) (by simp), unserved_none]

/-! who are clients, in other words -/
theorem right_iff (l : List Cl) : right l = true ↔ l.length ≤ 8 ∧ (∀ c ∈ l, good c = true) ∧ (l.map Cl.who).Nodup := by
  unfold right
  rw [Bool.and_eq_true, decide_eq_true_iff, List.all_eq_true]
  refine and_congr_right fun _ => ?_
  have h1 : (∀ x ∈ List.range l.length, okAt l x = true) ↔ ∀ i (h : i < l.length), good l[i] = true ∧ ∀ j (hj : j < i), (l[j]'(by omega)).who ≠ l[i].who := by
    constructor
    · intro h i hi
      have h2 := h i (by simpa using hi)
      unfold okAt at h2
      rw [List.getElem?_eq_getElem hi] at h2
      simp only [Bool.and_eq_true] at h2
      refine ⟨h2.1, fun j hj e => ?_⟩
      have h3 := h2.2
      unfold apart at h3
      rw [List.all_eq_true] at h3
      have h4 := h3 (l[j]'(by omega)) (by
        rw [List.mem_take_iff_getElem]
        exact ⟨j, by omega, rfl⟩)
      rw [bne_iff_ne] at h4
      exact h4 e
    · intro h i hi
      have hi' : i < l.length := by simpa using hi
      obtain ⟨h2, h3⟩ := h i hi'
      unfold okAt
      rw [List.getElem?_eq_getElem hi']
      simp only [Bool.and_eq_true]
      refine ⟨h2, ?_⟩
      unfold apart
      rw [List.all_eq_true]
      intro o ho
      obtain ⟨j, hj, rfl⟩ := List.mem_take_iff_getElem.1 ho
      rw [bne_iff_ne]
      exact h3 j (by omega)
  rw [h1]
  constructor
  · intro h
    refine ⟨?_, ?_⟩
    · intro c hc
      obtain ⟨i, hi, rfl⟩ := List.getElem_of_mem hc
      exact (h i hi).1
    · rw [List.nodup_iff_pairwise_ne, List.pairwise_iff_getElem]
      intro i j hi hj hij
      have := (h j (by simpa using hj)).2 i hij
      simpa using this
  · rintro ⟨ha, hb⟩ i hi
    refine ⟨ha _ (List.getElem_mem hi), fun j hj => ?_⟩
    rw [List.nodup_iff_pairwise_ne, List.pairwise_iff_getElem] at hb
    have := hb j i (by simp; omega) (by simpa using hi) hj
    simpa using this
theorem right_perm {l m : List Cl} (hp : l.Perm m) : right l = right m := by
  rw [Bool.eq_iff_iff, right_iff, right_iff, hp.length_eq, (hp.map Cl.who).nodup_iff]
  refine and_congr_right fun _ => and_congr_left fun _ => ?_
  exact ⟨fun h c hc => h c (hp.mem_iff.2 hc), fun h c hc => h c (hp.mem_iff.1 hc)⟩
theorem nonneg_of_right {l : List Cl} (h : right l = true) : NonNeg l := fun c hc => ((good_of_right h).1 c hc).2.2.1
theorem safe_iff (f : Int) (l : List Cl) : safe f l = true ↔ right l = true ∧ (0 ≤ f ∧ f ≤ 1000) ∧ Feas f l := by
  unfold safe inRange
  simp only [Bool.and_eq_true, decide_eq_true_iff]
  constructor
  · rintro ⟨⟨h1, h2⟩, h3⟩
    exact ⟨h1, h2, (order_iff f l (nonneg_of_right h1)).1 h3⟩
  · rintro ⟨h1, h2, h3⟩
    exact ⟨⟨h1, h2⟩, (order_iff f l (nonneg_of_right h1)).2 h3⟩
theorem safe_perm (f : Int) {l m : List Cl} (hp : l.Perm m) : safe f l = safe f m := by
  rw [Bool.eq_iff_iff, safe_iff, safe_iff, right_perm hp]
  exact ⟨fun ⟨a, b, c⟩ => ⟨a, b, c.perm hp⟩, fun ⟨a, b, c⟩ => ⟨a, b, c.perm hp.symm⟩⟩
end Bk
end Go.Proofs.Ytjdjdojmgoibbaa
