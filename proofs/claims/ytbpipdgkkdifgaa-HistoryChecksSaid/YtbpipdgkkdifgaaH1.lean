/- stable sorting, plain: what a list in order, with equals as they stood, is. -/
namespace Go.Proofs.Ytbpipdgkkdifgaa
set_option linter.unusedVariables false
set_option linter.unusedSimpArgs false
namespace Ss
section
variable {α : Type} {lt : α → α → Bool}
structure Swo (lt : α → α → Bool) : Prop where
  asym : ∀ x y, lt x y = true → lt y x = false
  neg : ∀ x y z, lt x y = false → lt y z = false → lt x z = false
theorem Swo.irr (h : Swo lt) (x : α) : lt x x = false := by
  cases e : lt x x
  · rfl
  · have := h.asym x x e; rw [e] at this; cases this
/-- less, and no more: still less -/
theorem Swo.ltle (h : Swo lt) {x y z : α} (h1 : lt x y = true) (h2 : lt z y = false) : lt x z = true := by
  cases e : lt x z
  · have := h.neg x z y e h2; rw [h1] at this; cases this
  · rfl
theorem Swo.lelt (h : Swo lt) {x y z : α} (h1 : lt y x = false) (h2 : lt y z = true) : lt x z = true := by
  cases e : lt x z
  · have := h.neg y x z h1 e; rw [h2] at this; cases this
  · rfl
def insr (lt : α → α → Bool) (x : α) : List α → List α
  | [] => [x]
  | y :: ys => if lt x y = true then x :: y :: ys else y :: insr lt x ys
def stbl (lt : α → α → Bool) (l : List α) : List α := l.foldl (fun out x => insr lt x out) []
theorem stbl_snoc {l : List α} {x : α} : stbl lt (l ++ [x]) = insr lt x (stbl lt l) := by unfold stbl; rw [List.foldl_append]; rfl
theorem insr_len {x : α} : ∀ {l : List α}, (insr lt x l).length = l.length + 1
  | [] => rfl
  | y :: ys => by
    unfold insr
    split
    · rfl
    · simp [insr_len (l := ys)]
theorem snoc_ind {P : List α → Prop} (h0 : P []) (h1 : ∀ l x, P l → P (l ++ [x])) (l : List α) : P l := by
  have : ∀ n (l : List α), l.length = n → P l := by
    intro n
    induction n with
    | zero => intro l hl; rw [List.eq_nil_of_length_eq_zero hl]; exact h0
    | succ n ih =>
      intro l hl
      have hne : l ≠ [] := by intro e; subst e; simp at hl
      rw [← List.dropLast_concat_getLast hne]
      exact h1 _ _ (ih _ (by simp [hl]))
  exact this _ l rfl
theorem stbl_len {l : List α} : (stbl lt l).length = l.length := by
  induction l using snoc_ind with
  | h0 => rfl
  | h1 l x ih => rw [stbl_snoc, insr_len, ih]; simp
def Srtd (lt : α → α → Bool) (l : List α) : Prop := l.Pairwise fun x y => lt y x = false
def cls (lt : α → α → Bool) (z : α) (l : List α) : List α := l.filter fun x => !lt x z && !lt z x
theorem cls_append {z : α} {a b : List α} : cls lt z (a ++ b) = cls lt z a ++ cls lt z b := List.filter_append ..
theorem cls_cons {z x : α} {l : List α} : cls lt z (x :: l) = if (!lt x z && !lt z x) = true then x :: cls lt z l else cls lt z l := List.filter_cons
/-- lists whose elements are all less than those of the others may change places -/
theorem cls_swap (h : Swo lt) {z : α} {a b : List α} (hab : ∀ x ∈ a, ∀ y ∈ b, lt y x = true) : cls lt z (a ++ b) = cls lt z (b ++ a) := by
  rw [cls_append, cls_append]
  cases ha : cls lt z a with
  | nil => simp
  | cons x xs =>
    have hx : x ∈ cls lt z a := by rw [ha]; simp
    cases hb : cls lt z b with
    | nil => simp
    | cons y ys =>
      have hy : y ∈ cls lt z b := by rw [hb]; simp
      unfold cls at hx hy
      rw [List.mem_filter] at hx hy
      have h1 := hab x hx.1 y hy.1
      have h2 := hx.2
      have h3 := hy.2
      simp only [Bool.and_eq_true, Bool.not_eq_true'] at h2 h3
      have := h.neg y z x h3.1 h2.2
      rw [h1] at this; cases this
theorem mem_of_cls (h : Swo lt) {x : α} {l : List α} : x ∈ l ↔ x ∈ cls lt x l := by
  unfold cls
  rw [List.mem_filter]
  simp [h.irr]
theorem srtd_uniq (h : Swo lt) : ∀ {r s : List α}, Srtd lt r → Srtd lt s → (∀ z, cls lt z r = cls lt z s) → r = s
  | [], [], _, _, _ => rfl
  | [], y :: s, _, _, hc => by
    have := (mem_of_cls h (x := y) (l := y :: s)).1 (by simp)
    rw [← hc y] at this; simp [cls] at this
  | x :: r, [], _, _, hc => by
    have := (mem_of_cls h (x := x) (l := x :: r)).1 (by simp)
    rw [hc x] at this; simp [cls] at this
  | x :: r, y :: s, hr, hs, hc => by
    unfold Srtd at hr hs
    rw [List.pairwise_cons] at hr hs
    have e : x = y := by
      by_cases hq : lt x y = false ∧ lt y x = false
      · have := hc x
        rw [cls_cons, cls_cons, if_pos (by simp [h.irr]), if_pos (by simp [hq])] at this
        exact (List.cons.inj this).1
      · exfalso
        have h1 : x ∈ y :: s := by rw [mem_of_cls h, ← hc x, ← mem_of_cls h]; simp
        have h2 : y ∈ x :: r := by rw [mem_of_cls h, hc y, ← mem_of_cls h]; simp
        rcases List.mem_cons.1 h1 with e | h1
        · subst e; exact hq ⟨h.irr _, h.irr _⟩
        rcases List.mem_cons.1 h2 with e | h2
        · subst e; exact hq ⟨h.irr _, h.irr _⟩
        exact hq ⟨hs.1 x h1, hr.1 y h2⟩
    subst e
    refine congrArg _ (srtd_uniq h hr.2 hs.2 fun z => ?_)
    have := hc z
    rw [cls_cons, cls_cons] at this
    split at this
    · exact (List.cons.inj this).2
    · exact this
theorem insr_at (h : Swo lt) {x : α} : ∀ {s : List α}, Srtd lt s → ∀ {k : Nat}, (∀ y ∈ s.take k, lt x y = false) → (∀ y ∈ s.drop k, lt x y = true) → insr lt x s = s.take k ++ x :: s.drop k
  | [], _, k, _, _ => by simp [insr]
  | y :: s, hs, 0, _, h2 => by
    unfold insr
    rw [if_pos (h2 y (by simp))]
    rfl
  | y :: s, hs, k + 1, h1, h2 => by
    unfold insr
    rw [if_neg (by rw [h1 y (by simp)]; simp)]
    unfold Srtd at hs
    rw [List.pairwise_cons] at hs
    rw [insr_at h hs.2 (k := k) (fun z hz => h1 z (by simp [hz])) (fun z hz => h2 z (by simpa using hz))]
    rfl
/-- there is a place for it -/
theorem place_ex (h : Swo lt) {x : α} : ∀ {s : List α}, Srtd lt s → ∃ k, k ≤ s.length ∧ (∀ y ∈ s.take k, lt x y = false) ∧ (∀ y ∈ s.drop k, lt x y = true)
  | [], _ => ⟨0, by simp, by simp, by simp⟩
  | y :: s, hs => by
    unfold Srtd at hs
    rw [List.pairwise_cons] at hs
    cases e : lt x y
    · obtain ⟨k, h1, h2, h3⟩ := place_ex h (x := x) hs.2
      refine ⟨k + 1, by simp; omega, fun z hz => ?_, fun z hz => h3 z (by simpa using hz)⟩
      rcases List.mem_cons.1 (by simpa using hz) with rfl | hz
      · exact e
      · exact h2 z hz
    · refine ⟨0, by simp, by simp, fun z hz => ?_⟩
      rcases List.mem_cons.1 (by simpa using hz) with rfl | hz
      · exact e
      · exact h.ltle e (hs.1 z hz)
theorem insr_srtd (h : Swo lt) {x : α} {s : List α} (hs : Srtd lt s) : Srtd lt (insr lt x s) ∧ ∀ z, cls lt z (insr lt x s) = cls lt z (s ++ [x]) := by
  obtain ⟨k, h1, h2, h3⟩ := place_ex h (x := x) hs
  rw [insr_at h hs h2 h3]
  constructor
  · have hs' : Srtd lt (s.take k ++ s.drop k) := by rw [List.take_append_drop]; exact hs
    unfold Srtd at hs' ⊢
    rw [List.pairwise_append] at hs' ⊢
    refine ⟨hs'.1, List.pairwise_cons.2 ⟨fun y hy => h.asym _ _ (h3 y hy), hs'.2.1⟩, fun a ha b hb => ?_⟩
    rcases List.mem_cons.1 hb with rfl | hb
    · exact h2 a ha
    · exact hs'.2.2 a ha b hb
  · intro z
    have h4 : cls lt z (s.drop k ++ [x]) = cls lt z ([x] ++ s.drop k) := cls_swap h (fun y hy w hw => by rw [List.mem_singleton.1 hw]; exact h3 y hy)
    have h5 : s ++ [x] = s.take k ++ (s.drop k ++ [x]) := by rw [← List.append_assoc, List.take_append_drop]
    rw [h5, cls_append, cls_append (a := s.take k) (b := s.drop k ++ [x]), h4]
    rfl
theorem stbl_ok (h : Swo lt) (l : List α) : Srtd lt (stbl lt l) ∧ ∀ z, cls lt z (stbl lt l) = cls lt z l := by
  induction l using snoc_ind with
  | h0 => exact ⟨.nil, fun z => rfl⟩
  | h1 l x ih =>
    obtain ⟨i1, i2⟩ := ih
    obtain ⟨j1, j2⟩ := insr_srtd h (x := x) i1
    rw [stbl_snoc]
    exact ⟨j1, fun z => by rw [j2, cls_append, i2, cls_append]⟩
/-- what is in order, and has equals as they stood, is it -/
theorem stbl_of (h : Swo lt) {l r : List α} (h1 : Srtd lt r) (h2 : ∀ z, cls lt z r = cls lt z l) : stbl lt l = r :=
  srtd_uniq h (stbl_ok h l).1 h1 fun z => by rw [(stbl_ok h l).2, h2]
theorem stbl_self (h : Swo lt) {l : List α} (h1 : Srtd lt l) : stbl lt l = l := stbl_of h h1 fun _ => rfl
theorem stbl_mem (h : Swo lt) {l : List α} {x : α} : x ∈ stbl lt l ↔ x ∈ l := by rw [mem_of_cls h, (stbl_ok h l).2, ← mem_of_cls h]
/-- of two parts, in order, and unlike enough -/
theorem stbl_two (h : Swo lt) {a b : List α} (hab : ∀ x ∈ a, ∀ y ∈ b, lt y x = false) : stbl lt (a ++ b) = stbl lt a ++ stbl lt b := by
  refine stbl_of h ?_ fun z => by rw [cls_append, (stbl_ok h a).2, (stbl_ok h b).2, cls_append]
  unfold Srtd
  rw [List.pairwise_append]
  exact ⟨(stbl_ok h a).1, (stbl_ok h b).1, fun x hx y hy => hab x ((stbl_mem h).1 hx) y ((stbl_mem h).1 hy)⟩
/-- parts that are sorted ahead -/
theorem stbl_parts (h : Swo lt) {a b : List α} : stbl lt (stbl lt a ++ stbl lt b) = stbl lt (a ++ b) :=
  stbl_of h (stbl_ok h _).1 fun z => by rw [(stbl_ok h _).2, cls_append, cls_append, (stbl_ok h a).2, (stbl_ok h b).2]
theorem stbl_cls (h : Swo lt) {a b : List α} (hc : ∀ z, cls lt z a = cls lt z b) : stbl lt a = stbl lt b := stbl_of h (stbl_ok h _).1 fun z => by rw [(stbl_ok h _).2, hc]
/-- the heart of the merge -/
theorem merge_ok (h : Swo lt) {l1 l2 r1 r2 : List α} (hl : Srtd lt (l1 ++ l2)) (hr : Srtd lt (r1 ++ r2)) (h1 : ∀ x ∈ l2, ∀ y ∈ r1, lt y x = true) (h2 : ∀ x ∈ l1, ∀ y ∈ r2, lt y x = false) :
    stbl lt (l1 ++ l2 ++ (r1 ++ r2)) = stbl lt (l1 ++ r1) ++ stbl lt (l2 ++ r2) := by
  unfold Srtd at hl hr
  rw [List.pairwise_append] at hl hr
  rw [← stbl_two h]
  · refine stbl_cls h fun z => ?_
    have := cls_swap h (z := z) h1
    rw [List.append_assoc, ← List.append_assoc l2, cls_append, cls_append (a := l2 ++ r1), this]
    simp only [cls_append, List.append_assoc]
  · intro x hx y hy
    rcases List.mem_append.1 hx with hx | hx <;> rcases List.mem_append.1 hy with hy | hy
    · exact hl.2.2 x hx y hy
    · exact h2 x hx y hy
    · exact h.asym _ _ (h1 y hy x hx)
    · exact hr.2.2 x hx y hy
end
end Ss
end Go.Proofs.Ytbpipdgkkdifgaa
