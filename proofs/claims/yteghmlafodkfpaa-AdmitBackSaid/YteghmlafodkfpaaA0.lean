/- layer 10 for layer 11: clients, plain (own texts of layer 10 without the walks). -/
namespace Go.Proofs.Yteghmlafodkfpaa
set_option linter.unusedVariables false
set_option linter.unusedSimpArgs false
structure Cl where
  who : Int
  claim : Int
  held : Int
deriving DecidableEq, Inhabited
namespace Bk
def fits (n : Int) : Prop := -9223372036854775808 ≤ n ∧ n ≤ 9223372036854775807
def Fit (l : List Cl) : Prop := ∀ c ∈ l, fits c.who ∧ fits c.claim ∧ fits c.held
def good (c : Cl) : Bool := decide (0 ≤ c.who ∧ c.who ≤ 2147483647 ∧ 0 ≤ c.claim ∧ c.claim ≤ 100 ∧ 0 ≤ c.held ∧ c.held ≤ c.claim)
def apart (l : List Cl) (c : Cl) : Bool := l.all fun o => o.who != c.who
def okAt (l : List Cl) (i : Nat) : Bool := match l[i]? with
  | some c => good c && apart (l.take i) c
  | none => true
def right (l : List Cl) : Bool := decide (l.length ≤ 8) && (List.range l.length).all (okAt l)
end Bk
namespace Bk
def can (free : Int) (c : Cl) : Bool := decide (c.claim - c.held ≤ free)
def next (free : Int) (l : List Cl) (sv : List Bool) : Option Nat := (List.range l.length).find? fun i => !sv.getD i true && can free (l.getD i default)
def go : Nat → Int → List Cl → List Bool → List Nat → List Nat
  | 0, _, _, _, ord => ord
  | n + 1, free, l, sv, ord => match next free l sv with
    | none => ord
    | some i => go n (free + (l.getD i default).held) l (sv.set i true) (ord ++ [i])
def order (free : Int) (l : List Cl) : List Nat := go (l.length + 1) free l (List.replicate l.length false) []
def Good (l : List Cl) : Prop := ∀ c ∈ l, 0 ≤ c.claim ∧ c.claim ≤ 100 ∧ 0 ≤ c.held ∧ c.held ≤ c.claim
end Bk
theorem Bk.good_of_right {l : List Cl} (h : Bk.right l = true) : Bk.Good l ∧ l.length ≤ 8 := by
  unfold Bk.right at h
  rw [Bool.and_eq_true, decide_eq_true_iff, List.all_eq_true] at h
  refine ⟨?_, h.1⟩
  intro c hc
  obtain ⟨i, hi, rfl⟩ := List.getElem_of_mem hc
  have h2 := h.2 i (by simpa using hi)
  unfold Bk.okAt at h2
  rw [List.getElem?_eq_getElem hi] at h2
  simp only [Bool.and_eq_true] at h2
  have h3 := h2.1
  unfold Bk.good at h3
  rw [decide_eq_true_iff] at h3
  omega
theorem Bk.go_none {n : Nat} {free : Int} {l : List Cl} {sv : List Bool} {ord : List Nat} (h : Bk.next free l sv = none) : Bk.go n free l sv ord = ord := by
  cases n with
  | zero => rfl
  | succ n => simp only [Bk.go, h]
theorem Bk.go_some {n : Nat} {free : Int} {l : List Cl} {sv : List Bool} {ord : List Nat} {i : Nat} (h : Bk.next free l sv = some i) : Bk.go (n + 1) free l sv ord = Bk.go n (free + (l.getD i default).held) l (sv.set i true) (ord ++ [i]) := by
  simp only [Bk.go, h]
theorem Bk.next_lt {free : Int} {l : List Cl} {sv : List Bool} {i : Nat} (h : Bk.next free l sv = some i) : i < l.length ∧ sv.getD i true = false ∧ Bk.can free (l.getD i default) = true := by
  unfold Bk.next at h
  rw [List.find?_range_eq_some] at h
  obtain ⟨h1, h2, _⟩ := h
  rw [Bool.and_eq_true] at h1
  exact ⟨by simpa using h2, by simpa using h1.1, h1.2⟩
theorem count_set {sv : List Bool} {i : Nat} (hi : sv.getD i true = false) : (sv.set i true).count false + 1 = sv.count false := by
  have hlt : i < sv.length := by
    by_cases h : i < sv.length
    · exact h
    · rw [List.getD_eq_getElem?_getD, List.getElem?_eq_none (by omega)] at hi; simp at hi
  have he : sv[i] = false := by rw [List.getD_eq_getElem?_getD, List.getElem?_eq_getElem hlt] at hi; simpa using hi
  rw [List.count_set hlt, he]
  have hpos : 0 < sv.count false := List.count_pos_iff.2 (by rw [← he]; exact List.getElem_mem hlt)
  simp
  omega

def Bk.inRange (free : Int) : Bool := decide (0 ≤ free) && decide (free ≤ 1000)
def Bk.safe (free : Int) (l : List Cl) : Bool := Bk.right l && Bk.inRange free && decide ((Bk.order free l).length = l.length)

namespace Bk

def need (c : Cl) : Int := c.claim - c.held
inductive Feas : Int → List Cl → Prop
  | nil (f : Int) : Feas f []
  | cons {f : Int} {l : List Cl} (c : Cl) : c ∈ l → need c ≤ f → Feas (f + c.held) (l.erase c) → Feas f l
def NonNeg (l : List Cl) : Prop := ∀ c ∈ l, 0 ≤ c.held
theorem NonNeg.erase {l : List Cl} (h : NonNeg l) (c : Cl) : NonNeg (l.erase c) := fun d hd => h d (List.mem_of_mem_erase hd)

theorem Feas.mono {f : Int} {l : List Cl} (h : Feas f l) : ∀ {g : Int}, f ≤ g → Feas g l := by
  induction h with
  | nil f => intro g _; exact .nil g
  | cons c hm hn _ ih => intro g hg; exact .cons c hm (by omega) (ih (by omega))
theorem Feas.perm {f : Int} {l : List Cl} (h : Feas f l) : ∀ {m : List Cl}, l.Perm m → Feas f m := by
  induction h with
  | nil f => intro m hp; rw [List.nil_perm.1 hp]; exact .nil f
  | cons c hm hn _ ih => intro m hp; exact .cons c (hp.mem_iff.1 hm) hn (ih (hp.erase c))
theorem Feas.exch {f : Int} {l : List Cl} (h : Feas f l) : NonNeg l → ∀ c ∈ l, need c ≤ f → Feas (f + c.held) (l.erase c) := by
  induction h with
  | nil f => intro _ c hc; simp at hc
  | @cons f l d hm hn hrest ih =>
    intro hnn c hc hcn
    by_cases e : c = d
    · subst e; exact hrest
    · have hd0 := hnn d hm
      have hc0 := hnn c hc
      have h1 := ih (hnn.erase d) c ((List.mem_erase_of_ne e).2 hc) (by omega)
      refine .cons d ((List.mem_erase_of_ne (Ne.symm e)).2 hm) (by omega) ?_
      rw [List.erase_comm]
      exact h1.mono (by omega)
theorem Feas.stuck {f : Int} {l : List Cl} (h : Feas f l) (hne : l ≠ []) : ∃ c ∈ l, need c ≤ f := by
  cases h with
  | nil => exact absurd rfl hne
  | cons c hm hn _ => exact ⟨c, hm, hn⟩
theorem Feas.all {l : List Cl} : ∀ {f : Int}, NonNeg l → (∀ c ∈ l, need c ≤ f) → Feas f l := by
  induction l with
  | nil => intro f _ _; exact .nil f
  | cons c l ih =>
    intro f hn h
    refine .cons c (by simp) (h c (by simp)) ?_
    rw [List.erase_cons_head]
    have := hn c (by simp)
    exact ih (fun d hd => hn d (by simp [hd])) (fun d hd => by have := h d (by simp [hd]); omega)

/-- who was not served yet -/
def unserved : List Cl → List Bool → List Cl
  | c :: l, true :: sv => unserved l sv
  | c :: l, false :: sv => c :: unserved l sv
  | _, _ => []
theorem unserved_none (l : List Cl) : unserved l (List.replicate l.length false) = l := by
  induction l with
  | nil => rfl
  | cons c l ih => rw [List.length_cons, List.replicate_succ]; simp only [unserved, ih]
theorem mem_unserved {l : List Cl} {c : Cl} : ∀ {sv : List Bool}, sv.length = l.length → (c ∈ unserved l sv ↔ ∃ i, ∃ h : i < l.length, sv.getD i true = false ∧ l[i] = c) := by
  induction l with
  | nil => intro sv _; simp [unserved]
  | cons d l ih =>
    intro sv hs
    match sv, hs with
    | s :: sv, hs =>
      have ih' := ih (sv := sv) (by simpa using hs)
      cases s with
      | true =>
        simp only [unserved]
        rw [ih']
        constructor
        · rintro ⟨i, hi, h1, h2⟩
          exact ⟨i + 1, by simpa using hi, by simpa using h1, by simpa using h2⟩
        · rintro ⟨i, hi, h1, h2⟩
          match i with
          | 0 => simp at h1
          | i + 1 => exact ⟨i, by simpa using hi, by simpa using h1, by simpa using h2⟩
      | false =>
        simp only [unserved, List.mem_cons]
        rw [ih']
        constructor
        · rintro (rfl | ⟨i, hi, h1, h2⟩)
          · exact ⟨0, by simp, by simp, by simp⟩
          · exact ⟨i + 1, by simpa using hi, by simpa using h1, by simpa using h2⟩
        · rintro ⟨i, hi, h1, h2⟩
          match i with
          | 0 => exact .inl (by simpa using h2.symm)
          | i + 1 => exact .inr ⟨i, by simpa using hi, by simpa using h1, by simpa using h2⟩
theorem unserved_set {l : List Cl} : ∀ {sv : List Bool} (i : Nat) (hi : i < l.length), sv.length = l.length → sv.getD i true = false → (unserved l (sv.set i true)).Perm ((unserved l sv).erase l[i]) := by
  induction l with
  | nil => intro sv i hi; simp at hi
  | cons d l ih =>
    intro sv i hi hs hg
    match sv, hs with
    | s :: sv, hs =>
      match i with
      | 0 =>
        have : s = false := by simpa using hg
        subst this
        simp [unserved]
      | i + 1 =>
        have h := ih (sv := sv) i (by simpa using hi) (by simpa using hs) (by simpa using hg)
        cases s with
        | true => simpa [unserved] using h
        | false =>
          simp only [List.set_cons_succ, unserved, List.getElem_cons_succ]
          have hil : i < l.length := by simpa using hi
          by_cases e : d = l[i]
          · subst e
            rw [List.erase_cons_head]
            have hmem : l[i]'(by simpa using hi) ∈ unserved l sv := (mem_unserved (by simpa using hs)).2 ⟨i, by simpa using hi, by simpa using hg, rfl⟩
            exact (h.cons _).trans (List.perm_cons_erase hmem).symm
          · rw [List.erase_cons_tail (by simpa using e)]
            exact h.cons d
theorem unserved_length {l : List Cl} : ∀ {sv : List Bool}, sv.length = l.length → (unserved l sv).length = sv.count false := by
  induction l with
  | nil => intro sv hs; obtain rfl := List.eq_nil_of_length_eq_zero hs; rfl
  | cons d l ih =>
    intro sv hs
    match sv, hs with
    | s :: sv, hs =>
      cases s with
      | true => simp [unserved, ih (sv := sv) (by simpa using hs)]
      | false => simp [unserved, ih (sv := sv) (by simpa using hs)]

theorem next_none {f : Int} {l : List Cl} {sv : List Bool} (hs : sv.length = l.length) (h : next f l sv = none) : ∀ c ∈ unserved l sv, ¬ need c ≤ f := by
  intro c hc hn
  obtain ⟨i, hi, h1, h2⟩ := (mem_unserved hs).1 hc
  unfold next at h
  rw [List.find?_eq_none] at h
  have := h i (by simpa using hi)
  rw [h1] at this
  apply this
  rw [List.getD_eq_getElem?_getD, List.getElem?_eq_getElem hi]
  simp only [Option.getD_some, h2, can]
  unfold need at hn
  simpa using hn
theorem go_iff (n : Nat) : ∀ (f : Int) (l : List Cl) (sv : List Bool) (ord : List Nat), NonNeg l → sv.length = l.length → ord.length + sv.count false = l.length → sv.count false < n → ((go n f l sv ord).length = l.length ↔ Feas f (unserved l sv)) := by
  induction n with
  | zero => intro f l sv ord _ _ _ h; omega
  | succ n ih =>
    intro f l sv ord hnn hs ho hn
    cases hx : next f l sv with
    | none =>
      simp only [go, hx]
      have hno := next_none hs hx
      constructor
      · intro hl
        have : (unserved l sv).length = 0 := by rw [unserved_length hs]; omega
        rw [List.eq_nil_of_length_eq_zero this]
        exact .nil f
      · intro hf
        by_cases hne : unserved l sv = []
        · have : sv.count false = 0 := by rw [← unserved_length hs, hne]; rfl
          omega
        · obtain ⟨c, hc, hcn⟩ := hf.stuck hne
          exact absurd hcn (hno c hc)
    | some i =>
      obtain ⟨hil, hsv, hcan⟩ := next_lt hx
      have hld : l.getD i default = l[i] := by rw [List.getD_eq_getElem?_getD, List.getElem?_eq_getElem hil]; rfl
      have hcnt := count_set hsv
      simp only [go, hx]
      rw [ih _ l (sv.set i true) (ord ++ [i]) hnn (by simpa using hs) (by simp; omega) (by omega), hld]
      have hp := unserved_set i hil hs hsv
      have hmem : l[i] ∈ unserved l sv := (mem_unserved hs).2 ⟨i, hil, hsv, rfl⟩
      have hnn2 : NonNeg (unserved l sv) := by
        intro c hc
        obtain ⟨j, hj, _, hjc⟩ := (mem_unserved hs).1 hc
        exact hnn c (by rw [← hjc]; exact List.getElem_mem hj)
      have hneed : need l[i] ≤ f := by
        rw [hld] at hcan
        unfold can at hcan
        simpa [need] using hcan
      constructor
      · intro h; exact .cons l[i] hmem hneed (h.perm hp)
      · intro h; exact (h.exch hnn2 l[i] hmem hneed).perm hp.symm
theorem order_iff (f : Int) (l : List Cl) (h : NonNeg l) : (order f l).length = l.length ↔ Feas f l := by
  unfold order
  rw [go_iff (l.length + 1) f l (List.replicate l.length false) [] h (by simp) (by simp) (by simp), unserved_none]

/-! who are clients, in other words -/
theorem right_iff (l : List Cl) : right l = true ↔ l.length ≤ 8 ∧ (∀ c ∈ l, good c = true) ∧ (l.map Cl.who).Nodup := by
  unfold right
  rw [Bool.and_eq_true, decide_eq_true_iff, List.all_eq_true]
  refine and_congr_right fun _ => ?_
  have h1 : (∀ x ∈ List.range l.length, okAt l x = true) ↔ ∀ i (h : i < l.length), good l[i] = true ∧ ∀ j (hj : j < i), (l[j]'(by omega)).who ≠ l[i].who := by
    constructor
    · intro h i hi
      have h2 := h i (by simpa using hi)
      unfold okAt at h2
      rw [List.getElem?_eq_getElem hi] at h2
      simp only [Bool.and_eq_true] at h2
      refine ⟨h2.1, fun j hj e => ?_⟩
      have h3 := h2.2
      unfold apart at h3
      rw [List.all_eq_true] at h3
      have h4 := h3 (l[j]'(by omega)) (by
        rw [List.mem_take_iff_getElem]
        exact ⟨j, by omega, rfl⟩)
      rw [bne_iff_ne] at h4
      exact h4 e
    · intro h i hi
      have hi' : i < l.length := by simpa using hi
      obtain ⟨h2, h3⟩ := h i hi'
      unfold okAt
      rw [List.getElem?_eq_getElem hi']
      simp only [Bool.and_eq_true]
      refine ⟨h2, ?_⟩
      unfold apart
      rw [List.all_eq_true]
      intro o ho
      obtain ⟨j, hj, rfl⟩ := List.mem_take_iff_getElem.1 ho
      rw [bne_iff_ne]
      exact h3 j (by omega)
  rw [h1]
  constructor
  · intro h
    refine ⟨?_, ?_⟩
    · intro c hc
      obtain ⟨i, hi, rfl⟩ := List.getElem_of_mem hc
      exact (h i hi).1
    · rw [List.nodup_iff_pairwise_ne, List.pairwise_iff_getElem]
      intro i j hi hj hij
      have := (h j (by simpa using hj)).2 i hij
      simpa using this
  · rintro ⟨ha, hb⟩ i hi
    refine ⟨ha _ (List.getElem_mem hi), fun j hj => ?_⟩
    rw [List.nodup_iff_pairwise_ne, List.pairwise_iff_getElem] at hb
    have := hb j i (by simp; omega) (by simpa using hi) hj
    simpa using this
theorem right_perm {l m : List Cl} (hp : l.Perm m) : right l = right m := by
  rw [Bool.eq_iff_iff, right_iff, right_iff, hp.length_eq, (hp.map Cl.who).nodup_iff]
  refine and_congr_right fun _ => and_congr_left fun _ => ?_
  exact ⟨fun h c hc => h c (hp.mem_iff.2 hc), fun h c hc => h c (hp.mem_iff.1 hc)⟩
theorem nonneg_of_right {l : List Cl} (h : right l = true) : NonNeg l := fun c hc => ((good_of_right h).1 c hc).2.2.1
theorem safe_iff (f : Int) (l : List Cl) : safe f l = true ↔ right l = true ∧ (0 ≤ f ∧ f ≤ 1000) ∧ Feas f l := by
  unfold safe inRange
  simp only [Bool.and_eq_true, decide_eq_true_iff]
  constructor
  · rintro ⟨⟨h1, h2⟩, h3⟩
    exact ⟨h1, h2, (order_iff f l (nonneg_of_right h1)).1 h3⟩
  · rintro ⟨h1, h2, h3⟩
    exact ⟨⟨h1, h2⟩, (order_iff f l (nonneg_of_right h1)).2 h3⟩
theorem safe_perm (f : Int) {l m : List Cl} (hp : l.Perm m) : safe f l = safe f m := by
  rw [Bool.eq_iff_iff, safe_iff, safe_iff, right_perm hp]
  exact ⟨fun ⟨a, b, c⟩ => ⟨a, b, c.perm hp⟩, fun ⟨a, b, c⟩ => ⟨a, b, c.perm hp.symm⟩⟩
end Bk
namespace Bk
theorem go_prefix (n : Nat) : ∀ (f : Int) (l : List Cl) (sv : List Bool) (ord : List Nat), ∃ t, go n f l sv ord = ord ++ t := by
  induction n with
  | zero => intro f l sv ord; exact ⟨[], by simp [go]⟩
  | succ n ih =>
    intro f l sv ord
    cases hx : next f l sv with
    | none => exact ⟨[], by simp [go, hx]⟩
    | some i =>
      obtain ⟨t, ht⟩ := ih (f + (l.getD i default).held) l (sv.set i true) (ord ++ [i])
      exact ⟨i :: t, by simp only [go, hx]; rw [ht]; simp⟩
theorem order_first {f : Int} {l : List Cl} (h : (order f l).length = l.length) (hne : l ≠ []) : ∃ i, ∃ hi : i < l.length, (∃ t, order f l = i :: t) ∧ need l[i] ≤ f := by
  have hpos := List.length_pos_iff.2 hne
  unfold order at h ⊢
  cases hx : next f l (List.replicate l.length false) with
  | none => simp only [go, hx] at h; simp at h; omega
  | some i =>
    obtain ⟨hil, _, hcan⟩ := next_lt hx
    refine ⟨i, hil, ?_, ?_⟩
    · obtain ⟨t, ht⟩ := go_prefix l.length (f + (l.getD i default).held) l ((List.replicate l.length false).set i true) ([] ++ [i])
      exact ⟨t, by simp only [go, hx]; rw [ht]; simp⟩
    · rw [show l.getD i default = l[i] by rw [List.getD_eq_getElem?_getD, List.getElem?_eq_getElem hil]; rfl] at hcan
      unfold can at hcan
      simpa [need] using hcan
theorem set_perm (l : List Cl) (i : Nat) (hi : i < l.length) (c : Cl) : (l.set i c).Perm (c :: l.erase l[i]) := by
  have h1 : (l[i] :: l.eraseIdx i).Perm l := by
    have e : l = l.take i ++ l[i] :: l.drop (i + 1) := by rw [← List.drop_eq_getElem_cons hi, List.take_append_drop]
    rw [List.eraseIdx_eq_take_drop_succ]
    conv => rhs; rw [e]
    exact List.perm_middle.symm
  have h2 : (l[i] :: l.erase l[i]).Perm l := (List.perm_cons_erase (List.getElem_mem hi)).symm
  have h3 : (l.eraseIdx i).Perm (l.erase l[i]) := (h1.trans h2.symm).cons_inv
  have h4 : (l.set i c).Perm (c :: l.eraseIdx i) := by
    rw [List.set_eq_take_append_cons_drop, if_pos hi, List.eraseIdx_eq_take_drop_succ]
    exact List.perm_middle
  exact h4.trans (h3.cons c)
theorem go_le (n : Nat) : ∀ (f : Int) (l : List Cl) (sv : List Bool) (ord : List Nat), (go n f l sv ord).length ≤ ord.length + sv.count false := by
  induction n with
  | zero => intro f l sv ord; simp [go]
  | succ n ih =>
    intro f l sv ord
    cases hx : next f l sv with
    | none => simp [go, hx]
    | some i =>
      have h1 := ih (f + (l.getD i default).held) l (sv.set i true) (ord ++ [i])
      have h2 := count_set (next_lt hx).2.1
      simp only [List.length_append, List.length_cons, List.length_nil] at h1
      simp only [go, hx]
      omega
theorem order_le (f : Int) (l : List Cl) : (order f l).length ≤ l.length := by
  have := go_le (l.length + 1) f l (List.replicate l.length false) []
  unfold order
  simpa using this
/-- the first one may have one more -/
theorem first_more {f : Int} {l : List Cl} {i : Nat} (hi : i < l.length) (hs : safe f l = true) (hn : need l[i] ≤ f) (hne : l[i].held ≠ l[i].claim) :
    1 ≤ f ∧ safe (f - 1) (l.set i ⟨l[i].who, l[i].claim, l[i].held + 1⟩) = true := by
  obtain ⟨hr, hf, hfe⟩ := (safe_iff f l).1 hs
  have hg := (good_of_right hr).1 l[i] (List.getElem_mem hi)
  have hf1 : 1 ≤ f := by unfold need at hn; omega
  refine ⟨hf1, (safe_iff _ _).2 ⟨?_, by omega, ?_⟩⟩
  · obtain ⟨r1, r2, r3⟩ := (right_iff l).1 hr
    refine (right_iff _).2 ⟨by simpa using r1, ?_, ?_⟩
    · intro c hc
      rcases List.mem_or_eq_of_mem_set hc with h | h
      · exact r2 c h
      · subst h
        have h0 := r2 l[i] (List.getElem_mem hi)
        unfold good at h0 ⊢
        rw [decide_eq_true_iff] at h0 ⊢
        simp only
        omega
    · rw [List.map_set]
      rw [show (⟨l[i].who, l[i].claim, l[i].held + 1⟩ : Cl).who = (l.map Cl.who)[i]'(by simpa using hi) by simp, List.set_getElem_self]
      exact r3
  · have hex := hfe.exch (nonneg_of_right hr) l[i] (List.getElem_mem hi) hn
    refine Feas.perm (Feas.cons ⟨l[i].who, l[i].claim, l[i].held + 1⟩ (by simp) ?_ ?_) (set_perm l i hi _).symm
    · unfold need at hn ⊢; simp only; omega
    · rw [List.erase_cons_head]
      exact hex.mono (by simp only; omega)
end Bk
namespace Bk
theorem perm_swap {c0 d : Cl} {L : List Cl} (hd : d ∈ L) : ((c0 :: L).erase d).Perm (c0 :: L.erase d) := by
  have h1 : (d :: (c0 :: L).erase d).Perm (c0 :: L) := (List.perm_cons_erase (List.mem_cons_of_mem _ hd)).symm
  have h2 : (c0 :: L).Perm (d :: c0 :: L.erase d) := ((List.perm_cons_erase hd).cons c0).trans (List.Perm.swap _ _ _)
  exact (h1.trans h2).cons_inv
theorem Feas.back {f : Int} {l : List Cl} (h : Feas f l) : ∀ (c c0 : Cl), c ∈ l → 0 ≤ c.held → need c0 ≤ need c + c.held → c0.held = 0 → ∀ m : List Cl, m.Perm (c0 :: l.erase c) → Feas (f + c.held) m := by
  induction h with
  | nil f => intro c c0 hc; simp at hc
  | @cons f l d hd hn hr ih =>
    intro c c0 hc hh hn0 h0 m hm
    by_cases e : d = c
    · subst e
      refine Feas.perm (Feas.cons c0 (by simp) (by omega) ?_) hm.symm
      rw [List.erase_cons_head]
      exact hr.mono (by omega)
    · have hc2 : c ∈ l.erase d := (List.mem_erase_of_ne (Ne.symm e)).2 hc
      have hd2 : d ∈ l.erase c := (List.mem_erase_of_ne e).2 hd
      refine Feas.perm (Feas.cons d (by simp [hd2]) (by omega) ?_) hm.symm
      have := ih c c0 hc2 hh hn0 h0 ((c0 :: l.erase c).erase d) (by rw [List.erase_comm]; exact perm_swap hd2)
      exact this.mono (by omega)
theorem Feas.gone {f : Int} {l : List Cl} (h : Feas f l) : ∀ (c : Cl), c ∈ l → 0 ≤ c.held → Feas (f + c.held) (l.erase c) := by
  induction h with
  | nil f => intro c hc; simp at hc
  | @cons f l d hd hn hr ih =>
    intro c hc hh
    by_cases e : d = c
    · subst e; exact hr
    · have hc2 : c ∈ l.erase d := (List.mem_erase_of_ne (Ne.symm e)).2 hc
      have hd2 : d ∈ l.erase c := (List.mem_erase_of_ne e).2 hd
      refine Feas.cons d hd2 (by omega) ?_
      rw [List.erase_comm]
      exact (ih c hc2 hh).mono (by omega)
theorem safe_more {f g : Int} {l : List Cl} (h : safe f l = true) (hg : f ≤ g) (hg2 : g ≤ 1000) : safe g l = true := by
  obtain ⟨hr, hf, hfe⟩ := (safe_iff f l).1 h
  exact (safe_iff g l).2 ⟨hr, ⟨by omega, hg2⟩, hfe.mono hg⟩
theorem safe_top {f : Int} {l : List Cl} (hr : right l = true) (hf0 : 0 ≤ f) (hf2 : f ≤ 1000) (h : ∀ j (hj : j < l.length), need l[j] ≤ f) : safe f l = true := by
  refine (safe_iff f l).2 ⟨hr, ⟨hf0, hf2⟩, Feas.all (nonneg_of_right hr) ?_⟩
  intro c hc
  obtain ⟨j, hj, rfl⟩ := List.getElem_of_mem hc
  exact h j hj
theorem safe_back {f : Int} {l : List Cl} {i : Nat} (hi : i < l.length) (hs : safe f l = true) (hb : f + l[i].held ≤ 1000) :
    safe (f + l[i].held) (l.set i ⟨l[i].who, l[i].claim, 0⟩) = true := by
  obtain ⟨hr, hf, hfe⟩ := (safe_iff f l).1 hs
  have hh := nonneg_of_right hr l[i] (List.getElem_mem hi)
  refine (safe_iff _ _).2 ⟨?_, ⟨by omega, hb⟩, ?_⟩
  · obtain ⟨r1, r2, r3⟩ := (right_iff l).1 hr
    refine (right_iff _).2 ⟨by simpa using r1, ?_, ?_⟩
    · intro c hc
      rcases List.mem_or_eq_of_mem_set hc with h | h
      · exact r2 c h
      · subst h
        have h0 := r2 l[i] (List.getElem_mem hi)
        unfold good at h0 ⊢
        rw [decide_eq_true_iff] at h0 ⊢
        simp only
        omega
    · rw [List.map_set]
      rw [show (⟨l[i].who, l[i].claim, 0⟩ : Cl).who = (l.map Cl.who)[i]'(by simpa using hi) by simp, List.set_getElem_self]
      exact r3
  · exact hfe.back l[i] ⟨l[i].who, l[i].claim, 0⟩ (List.getElem_mem hi) hh (by unfold need; simp only; omega) rfl _ (set_perm l i hi _)
theorem take_drop_perm (l : List Cl) (i : Nat) (hi : i < l.length) : (l.erase l[i]).Perm (l.take i ++ l.drop (i + 1)) := by
  have h1 : l.Perm (l[i] :: (l.take i ++ l.drop (i + 1))) := by
    have : l = l.take i ++ l[i] :: l.drop (i + 1) := by rw [List.getElem_cons_drop, List.take_append_drop]
    exact (List.Perm.of_eq this).trans List.perm_middle
  exact ((List.perm_cons_erase (List.getElem_mem hi)).symm.trans h1).cons_inv
theorem safe_gone {f : Int} {l : List Cl} {i : Nat} (hi : i < l.length) (hs : safe f l = true) (hb : f + l[i].held ≤ 1000) :
    safe (f + l[i].held) (l.take i ++ l.drop (i + 1)) = true := by
  obtain ⟨hr, hf, hfe⟩ := (safe_iff f l).1 hs
  have hh := nonneg_of_right hr l[i] (List.getElem_mem hi)
  have hp := take_drop_perm l i hi
  refine (safe_iff _ _).2 ⟨?_, ⟨by omega, hb⟩, (hfe.gone l[i] (List.getElem_mem hi) hh).perm hp⟩
  obtain ⟨r1, r2, r3⟩ := (right_iff l).1 hr
  have hsub : (l.take i ++ l.drop (i + 1)).Sublist l := by
    rw [← List.eraseIdx_eq_take_drop_succ]; exact List.eraseIdx_sublist l i
  exact (right_iff _).2 ⟨Nat.le_trans hsub.length_le r1, fun c hc => r2 c (hsub.mem hc), (hsub.map Cl.who).nodup r3⟩
end Bk
end Go.Proofs.Yteghmlafodkfpaa
