/- stable sorting, plain: parts of a list; the places that a search by halves finds; blocks that change places. -/
import Derived.Test.YtbpipdgkkdifgaaH1
namespace Go.Proofs.Ytbpipdgkkdifgaa
set_option linter.unusedVariables false
set_option linter.unusedSimpArgs false
namespace Ss
section
variable {α : Type} {lt : α → α → Bool}
/-- from a up to b -/
def seg (a b : Nat) (l : List α) : List α := (l.drop a).take (b - a)
/-- that part, sorted -/
def ss (lt : α → α → Bool) (a b : Nat) (l : List α) : List α := l.take a ++ stbl lt (seg a b l) ++ l.drop b
theorem seg_len {a b : Nat} {l : List α} (h : b ≤ l.length) : (seg a b l).length = b - a := by unfold seg; simp; omega
theorem split3 {a b : Nat} {l : List α} (h : a ≤ b) : l = l.take a ++ seg a b l ++ l.drop b := by
  unfold seg
  have h1 : l.drop b = (l.drop a).drop (b - a) := by rw [List.drop_drop]; congr 1; omega
  rw [h1, List.append_assoc, List.take_append_drop, List.take_append_drop]
theorem seg_split {a m b : Nat} {l : List α} (h1 : a ≤ m) (h2 : m ≤ b) : seg a b l = seg a m l ++ seg m b l := by
  unfold seg
  have e : b - a = (m - a) + (b - m) := by omega
  rw [e, List.take_add, List.drop_drop]
  congr 3
  omega
theorem seg_of {p s q l : List α} {a b : Nat} (hl : l = p ++ s ++ q) (ha : a = p.length) (hb : b = p.length + s.length) : seg a b l = s := by
  subst hl ha hb
  unfold seg
  rw [List.append_assoc, List.drop_left, show p.length + s.length - p.length = s.length by omega, List.take_left]
theorem take_of {p s q l : List α} {a : Nat} (hl : l = p ++ s ++ q) (ha : a = p.length) : l.take a = p := by
  subst hl ha; rw [List.append_assoc, List.take_left]
theorem drop_of {p s q l : List α} {b : Nat} (hl : l = p ++ s ++ q) (hb : b = p.length + s.length) : l.drop b = q := by
  subst hl hb; rw [← List.length_append, List.drop_left]
theorem ss_len {a b : Nat} {l : List α} (h1 : a ≤ b) (h2 : b ≤ l.length) : (ss lt a b l).length = l.length := by
  unfold ss
  rw [List.length_append, List.length_append, stbl_len, seg_len h2]
  simp; omega
theorem ss_seg {a b : Nat} {l : List α} (h1 : a ≤ b) (h2 : b ≤ l.length) : seg a b (ss lt a b l) = stbl lt (seg a b l) :=
  seg_of rfl (by simp; omega) (by rw [stbl_len, seg_len h2]; simp; omega)
theorem ss_take {a b : Nat} {l : List α} (h2 : a ≤ l.length) : (ss lt a b l).take a = l.take a := take_of rfl (by simp; omega)
theorem ss_drop {a b : Nat} {l : List α} (h1 : a ≤ b) (h2 : b ≤ l.length) : (ss lt a b l).drop b = l.drop b := drop_of rfl (by rw [stbl_len, seg_len h2]; simp; omega)
theorem seg_take {a b c : Nat} {l l' : List α} (h : l'.take c = l.take c) (hb : b ≤ c) : seg a b l' = seg a b l := by
  have key : ∀ l : List α, seg a b l = seg a b (l.take c) := by
    intro l
    unfold seg
    rw [List.drop_take, List.take_take]
    congr 1
    omega
  rw [key l', key l, h]
theorem seg_drop {a b c : Nat} {l l' : List α} (h : l'.drop c = l.drop c) (hb : c ≤ a) : seg a b l' = seg a b l := by
  have key : ∀ l : List α, seg a b l = ((l.drop c).drop (a - c)).take (b - a) := by
    intro l
    unfold seg
    rw [List.drop_drop]
    congr 2
    omega
  rw [key l', key l, h]
theorem srtd_seg {a b c d : Nat} {l : List α} (h : Srtd lt (seg a b l)) (h1 : a ≤ c) (h2 : c ≤ d) (h3 : d ≤ b) : Srtd lt (seg c d l) := by
  rw [seg_split h1 (show c ≤ b by omega), seg_split h2 h3] at h
  unfold Srtd at h ⊢
  exact ((List.pairwise_append.1 ((List.pairwise_append.1 h).2.1)).1)
theorem seg_mem {a b i : Nat} {l : List α} (hi : i < l.length) (h1 : a ≤ i) (h2 : i < b) : l[i] ∈ seg a b l := by
  unfold seg
  rw [List.mem_iff_getElem]
  refine ⟨i - a, by simp; omega, ?_⟩
  simp only [List.getElem_take, List.getElem_drop]
  congr 1; omega
theorem mem_seg {a b : Nat} {l : List α} {x : α} (h : x ∈ seg a b l) : ∃ i, ∃ hi : i < l.length, a ≤ i ∧ i < b ∧ l[i] = x := by
  unfold seg at h
  obtain ⟨k, hk, rfl⟩ := List.getElem_of_mem h
  simp only [List.length_take, List.length_drop] at hk
  refine ⟨a + k, by omega, by omega, by omega, ?_⟩
  simp
theorem srtd_at {a b i j : Nat} {l : List α} (h : Srtd lt (seg a b l)) (hb : b ≤ l.length) (h1 : a ≤ i) (h2 : i < j) (h3 : j < b) : lt (l[j]'(by omega)) (l[i]'(by omega)) = false := by
  unfold Srtd at h
  rw [List.pairwise_iff_getElem] at h
  have := h (i - a) (j - a) (by rw [seg_len hb]; omega) (by rw [seg_len hb]; omega) (by omega)
  unfold seg at this
  simp only [List.getElem_take, List.getElem_drop] at this
  have e1 : a + (i - a) = i := by omega
  have e2 : a + (j - a) = j := by omega
  simp only [e1, e2] at this
  exact this
theorem sub_one {A B : List α} {x y : α} : ((A ++ y :: x :: B).set (A.length + 1) y).set A.length x = A ++ x :: y :: B := by
  rw [List.set_append_right _ _ (by omega), List.set_append_right _ _ (by omega)]
  have : A.length + 1 - A.length = 1 := by omega
  rw [this, Nat.sub_self]
  rfl
theorem sub_two {A B : List α} {x y : α} : ((A ++ y :: x :: B).set A.length x).set (A.length + 1) y = A ++ x :: y :: B := by
  rw [List.set_append_right _ _ (by omega), List.set_append_right _ _ (by omega)]
  have : A.length + 1 - A.length = 1 := by omega
  rw [this, Nat.sub_self]
  rfl
theorem at_0 {A B : List α} {y : α} {i : Nat} (hi : i = A.length) (h : i < (A ++ y :: B).length) : (A ++ y :: B)[i] = y := by
  subst hi; simp
theorem at_1 {A B : List α} {x y : α} {i : Nat} (hi : i = A.length + 1) (h : i < (A ++ y :: x :: B).length) : (A ++ y :: x :: B)[i] = x := by
  subst hi
  rw [List.getElem_append_right (by omega)]
  simp
/-! two places, or two blocks of places, change -/
def swr (a b n : Nat) (l : List α) : List α := l.take a ++ seg b (b + n) l ++ seg (a + n) b l ++ seg a (a + n) l ++ l.drop (b + n)
/-- [a, m) and [m, b) change places -/
def rot (a m b : Nat) (l : List α) : List α := l.take a ++ seg m b l ++ seg a m l ++ l.drop b
theorem five {a b n : Nat} {l : List α} (h1 : a + n ≤ b) (h2 : b + n ≤ l.length) : l = l.take a ++ seg a (a + n) l ++ seg (a + n) b l ++ seg b (b + n) l ++ l.drop (b + n) := by
  have h3 := split3 (l := l) (a := a) (b := b + n) (by omega)
  rw [seg_split (a := a) (m := a + n) (b := b + n) (by omega) (by omega), seg_split (a := a + n) (m := b) (b := b + n) h1 (by omega)] at h3
  simpa only [List.append_assoc] using h3
theorem swr_of {P U M V Q : List α} {a b n : Nat} (ha : a = P.length) (hn : n = U.length) (hv : V.length = U.length) (hb : b = P.length + U.length + M.length) :
    swr a b n (P ++ U ++ M ++ V ++ Q) = P ++ V ++ M ++ U ++ Q := by
  unfold swr
  have e1 : List.take a (P ++ U ++ M ++ V ++ Q) = P := take_of (s := U) (q := M ++ V ++ Q) (by simp only [List.append_assoc]) ha
  have e2 : seg b (b + n) (P ++ U ++ M ++ V ++ Q) = V := seg_of rfl (by simp; omega) (by simp; omega)
  have e3 : seg (a + n) b (P ++ U ++ M ++ V ++ Q) = M := seg_of (p := P ++ U) (q := V ++ Q) (by simp only [List.append_assoc]) (by simp [ha, hn]) (by simp [hb])
  have e4 : seg a (a + n) (P ++ U ++ M ++ V ++ Q) = U := seg_of (p := P) (q := M ++ V ++ Q) (by simp only [List.append_assoc]) ha (by rw [ha, hn])
  have e5 : List.drop (b + n) (P ++ U ++ M ++ V ++ Q) = Q := drop_of rfl (by simp; omega)
  rw [e1, e2, e3, e4, e5]
theorem rot_of {P U V Q : List α} {a m b : Nat} (ha : a = P.length) (hm : m = P.length + U.length) (hb : b = m + V.length) : rot a m b (P ++ U ++ V ++ Q) = P ++ V ++ U ++ Q := by
  unfold rot
  have e1 : List.take a (P ++ U ++ V ++ Q) = P := take_of (s := U) (q := V ++ Q) (by simp only [List.append_assoc]) ha
  have e2 : seg m b (P ++ U ++ V ++ Q) = V := seg_of rfl (by rw [hm]; simp) (by rw [hb, hm]; simp)
  have e3 : seg a m (P ++ U ++ V ++ Q) = U := seg_of (p := P) (q := V ++ Q) (by simp only [List.append_assoc]) ha hm
  have e4 : List.drop b (P ++ U ++ V ++ Q) = Q := drop_of rfl (by rw [hb, hm]; simp)
  rw [e1, e2, e3, e4]
theorem four {a m b : Nat} {l : List α} (h1 : a ≤ m) (h2 : m ≤ b) : l = l.take a ++ seg a m l ++ seg m b l ++ l.drop b := by
  have h3 := split3 (l := l) (a := a) (b := b) (by omega)
  rw [seg_split h1 h2] at h3
  simpa only [List.append_assoc] using h3
theorem swr_len {a b n : Nat} {l : List α} (h1 : a + n ≤ b) (h2 : b + n ≤ l.length) : (swr a b n l).length = l.length := by
  unfold swr
  simp only [List.length_append, seg_len h2, seg_len (show b ≤ l.length by omega), seg_len (show a + n ≤ l.length by omega), List.length_take, List.length_drop]
  omega
theorem rot_len {a m b : Nat} {l : List α} (h1 : a ≤ m) (h2 : m ≤ b) (h3 : b ≤ l.length) : (rot a m b l).length = l.length := by
  unfold rot
  simp only [List.length_append, seg_len h3, seg_len (show m ≤ l.length by omega), List.length_take, List.length_drop]
  omega
theorem rot_gt {m i j : Nat} {l : List α} (hij : j < i) (hm : i ≤ m) (hl : m + j ≤ l.length) : rot (m - (i - j)) m (m + j) (swr (m - i) m j l) = rot (m - i) m (m + j) l := by
  obtain ⟨P, U1, U2, V, Q, rfl, l1, l2, l3, l4⟩ : ∃ P U1 U2 V Q, l = P ++ U1 ++ U2 ++ V ++ Q ∧ P.length = m - i ∧ U1.length = j ∧ U2.length = i - j ∧ V.length = j := by
    refine ⟨_, _, _, _, _, five (l := l) (a := m - i) (b := m) (n := j) (by omega) hl, ?_, ?_, ?_, ?_⟩
    · simp; omega
    · rw [seg_len (by omega)]; omega
    · rw [seg_len (by omega)]; omega
    · rw [seg_len hl]; omega
  rw [swr_of (by omega) (by omega) (by omega) (by omega)]
  have e1 : rot (m - i) m (m + j) (P ++ U1 ++ U2 ++ V ++ Q) = P ++ V ++ (U1 ++ U2) ++ Q := by
    rw [List.append_assoc P U1 U2]
    exact rot_of (by omega) (by simp; omega) (by omega)
  have e2 : rot (m - (i - j)) m (m + j) (P ++ V ++ U2 ++ U1 ++ Q) = P ++ V ++ U1 ++ U2 ++ Q := rot_of (P := P ++ V) (by simp; omega) (by simp; omega) (by omega)
  rw [e1, e2]
  simp only [List.append_assoc]
theorem rot_lt {m i j : Nat} {l : List α} (hij : i < j) (hm : i ≤ m) (hl : m + j ≤ l.length) : rot (m - i) m (m + (j - i)) (swr (m - i) (m + j - i) i l) = rot (m - i) m (m + j) l := by
  obtain ⟨P, U, V1, V2, Q, rfl, l1, l2, l3, l4⟩ : ∃ P U V1 V2 Q, l = P ++ U ++ V1 ++ V2 ++ Q ∧ P.length = m - i ∧ U.length = i ∧ V1.length = j - i ∧ V2.length = i := by
    refine ⟨_, _, _, _, _, five (l := l) (a := m - i) (b := m + j - i) (n := i) (by omega) (by omega), ?_, ?_, ?_, ?_⟩
    · simp; omega
    · rw [seg_len (by omega)]; omega
    · rw [seg_len (by omega)]; omega
    · rw [seg_len (by omega)]; omega
  rw [swr_of (by omega) (by omega) (by omega) (by omega)]
  have e1 : rot (m - i) m (m + j) (P ++ U ++ V1 ++ V2 ++ Q) = P ++ (V1 ++ V2) ++ U ++ Q := by
    rw [List.append_assoc (P ++ U) V1 V2]
    exact rot_of (by omega) (by omega) (by simp; omega)
  have e2 : rot (m - i) m (m + (j - i)) (P ++ V2 ++ V1 ++ U ++ Q) = P ++ V1 ++ V2 ++ (U ++ Q) := by
    rw [List.append_assoc (P ++ V2 ++ V1) U Q]
    exact rot_of (by omega) (by omega) (by omega)
  rw [e1, e2]
  simp only [List.append_assoc]
theorem rot_eq {m i : Nat} {l : List α} (hm : i ≤ m) (hl : m + i ≤ l.length) : swr (m - i) m i l = rot (m - i) m (m + i) l := by
  obtain ⟨P, U, V, Q, rfl, l1, l2, l4⟩ : ∃ P U V Q, l = P ++ U ++ V ++ Q ∧ P.length = m - i ∧ U.length = i ∧ V.length = i := by
    refine ⟨_, _, _, _, four (l := l) (a := m - i) (m := m) (b := m + i) (by omega) (by omega), ?_, ?_, ?_⟩
    · simp; omega
    · rw [seg_len (by omega)]; omega
    · rw [seg_len hl]; omega
  have := swr_of (P := P) (U := U) (M := []) (V := V) (Q := Q) (a := m - i) (b := m) (n := i) (by omega) (by omega) (by omega) (by simp; omega)
  simp only [List.append_nil] at this
  rw [this]
  exact (rot_of (by omega) (by omega) (by omega)).symm
theorem swr_zero {a b : Nat} {l : List α} (h : a ≤ b) : swr a b 0 l = l := by
  unfold swr
  have e : ∀ k, seg k (k + 0) l = [] := by intro k; unfold seg; simp
  rw [e, e, Nat.add_zero, Nat.add_zero]
  simp only [List.append_nil]
  exact (split3 h).symm
/-- one place more -/
theorem swr_succ {a b i : Nat} {l : List α} (h1 : a + i + 1 ≤ b) (h2 : b + i + 1 ≤ l.length) (hA : a + i < (swr a b i l).length) (hB : b + i < (swr a b i l).length) :
    ((swr a b i l).set (a + i) (swr a b i l)[b + i]).set (b + i) (swr a b i l)[a + i] = swr a b (i + 1) l := by
  obtain ⟨P, U, u, M, V, v, Q, rfl, l1, l2, l3, l4⟩ : ∃ P U u M V v Q, l = P ++ (U ++ [u]) ++ M ++ (V ++ [v]) ++ Q ∧ P.length = a ∧ U.length = i ∧ M.length = b - (a + i + 1) ∧ V.length = i := by
    have h5 := five (l := l) (a := a) (b := b) (n := i + 1) (by omega) (by omega)
    rw [seg_split (a := a) (m := a + i) (b := a + (i + 1)) (by omega) (by omega), seg_split (a := b) (m := b + i) (b := b + (i + 1)) (by omega) (by omega)] at h5
    have one : ∀ k, k < l.length → ∃ x, seg k (k + 1) l = [x] := by
      intro k hk
      have := seg_len (a := k) (b := k + 1) (l := l) (by omega)
      exact List.length_eq_one_iff.1 (by omega)
    obtain ⟨u, hu⟩ := one (a + i) (by omega)
    obtain ⟨v, hv⟩ := one (b + i) (by omega)
    rw [show a + (i + 1) = a + i + 1 by omega, show b + (i + 1) = b + i + 1 by omega, hu, hv] at h5
    refine ⟨_, _, u, _, _, v, _, h5, ?_, ?_, ?_, ?_⟩
    · simp; omega
    · rw [seg_len (by omega)]; omega
    · rw [seg_len (by omega)]
    · rw [seg_len (by omega)]; omega
  have e1 : swr a b i (P ++ (U ++ [u]) ++ M ++ (V ++ [v]) ++ Q) = P ++ V ++ (u :: M) ++ U ++ (v :: Q) := by
    have := swr_of (P := P) (U := U) (M := u :: M) (V := V) (Q := v :: Q) (a := a) (b := b) (n := i) (by omega) (by omega) (by omega) (by simp; omega)
    simp only [List.append_assoc, List.singleton_append, List.cons_append, List.nil_append] at this ⊢
    exact this
  have e2 : swr a b (i + 1) (P ++ (U ++ [u]) ++ M ++ (V ++ [v]) ++ Q) = P ++ (V ++ [v]) ++ M ++ (U ++ [u]) ++ Q := swr_of (by omega) (by simp; omega) (by simp; omega) (by simp; omega)
  rw [e2]
  simp only [e1] at hA hB ⊢
  have e3 : (P ++ V ++ (u :: M) ++ U ++ (v :: Q))[b + i] = v := at_0 (by simp; omega) _
  have e4 : (P ++ V ++ (u :: M) ++ U ++ (v :: Q))[a + i] = u := by
    have e5 : P ++ V ++ (u :: M) ++ U ++ (v :: Q) = (P ++ V) ++ u :: (M ++ U ++ (v :: Q)) := by simp only [List.append_assoc, List.cons_append]
    simp only [e5]
    exact at_0 (by simp; omega) _
  rw [e3, e4]
  have e6 : (P ++ V ++ (u :: M) ++ U ++ (v :: Q)).set (a + i) v = P ++ V ++ (v :: M) ++ U ++ (v :: Q) := by
    have e5 : ∀ z, P ++ V ++ (z :: M) ++ U ++ (v :: Q) = (P ++ V) ++ z :: (M ++ U ++ (v :: Q)) := by intro z; simp only [List.append_assoc, List.cons_append]
    rw [e5, e5, List.set_append_right _ _ (by simp; omega)]
    have : a + i - (P ++ V).length = 0 := by simp; omega
    rw [this]; rfl
  rw [e6, List.set_append_right _ _ (by simp; omega)]
  have : b + i - (P ++ V ++ (v :: M) ++ U).length = 0 := by simp; omega
  rw [this]
  simp only [List.append_assoc, List.cons_append, List.nil_append, List.set_cons_zero]
/-! insertion: behind the first j places of the part -/
theorem ss_one {a b : Nat} {l : List α} (h : b ≤ a + 1) (h1 : a ≤ b) : ss lt a b l = l := by
  unfold ss
  have e : stbl lt (seg a b l) = seg a b l := by
    have : (seg a b l).length ≤ 1 := by unfold seg; simp; omega
    match hs : seg a b l with
    | [] => rfl
    | [x] => rfl
    | x :: y :: _ => rw [hs] at this; simp at this
  rw [e]
  exact (split3 h1).symm
/-- the element on its way down: k of the sorted ones are ahead of it -/
def ins (lt : α → α → Bool) (a i k : Nat) (l : List α) (x : α) : List α := (l.take a ++ (stbl lt (seg a i l)).take k) ++ x :: ((stbl lt (seg a i l)).drop k ++ l.drop (i + 1))
theorem ins_start {a i : Nat} {l : List α} (h1 : a ≤ i) (h2 : i < l.length) : ss lt a i l = ins lt a i (i - a) l l[i] := by
  unfold ins ss
  have hlen : (stbl lt (seg a i l)).length = i - a := by rw [stbl_len, seg_len (by omega)]
  rw [← hlen, List.take_length, List.drop_length, List.nil_append, List.drop_eq_getElem_cons h2]
theorem ins_end (h : Swo lt) {a i k : Nat} {l : List α} (h1 : a ≤ i) (h2 : i < l.length) (h3 : k = 0 ∨ ∃ hk : k - 1 < (stbl lt (seg a i l)).length, 0 < k ∧ lt l[i] ((stbl lt (seg a i l))[k - 1]'hk) = false) (h4 : ∀ y ∈ (stbl lt (seg a i l)).drop k, lt l[i] y = true) :
    ins lt a i k l l[i] = ss lt a (i + 1) l := by
  unfold ins ss
  have hs := (stbl_ok h (seg a i l)).1
  have e : seg a (i + 1) l = seg a i l ++ [l[i]] := by
    rw [seg_split (a := a) (m := i) (b := i + 1) h1 (by omega)]
    congr 1
    unfold seg
    rw [show i + 1 - i = 1 by omega, List.drop_eq_getElem_cons h2]
    rfl
  rw [e, stbl_snoc, insr_at h hs (k := k) ?_ h4]
  · simp only [List.append_assoc, List.cons_append]
  · intro y hy
    rcases h3 with h3 | ⟨hk, h0, h3⟩
    · subst h3; simp at hy
    · obtain ⟨j, hj, rfl⟩ := List.getElem_of_mem hy
      simp only [List.length_take] at hj
      rw [List.getElem_take]
      by_cases hjk : j = k - 1
      · subst hjk; exact h3
      · have h5 : lt ((stbl lt (seg a i l))[k - 1]'hk) ((stbl lt (seg a i l))[j]'(by omega)) = false := by
          unfold Srtd at hs
          exact List.pairwise_iff_getElem.1 hs j (k - 1) (by omega) hk (by omega)
        exact h.neg _ _ _ h3 h5
theorem ins_step {a i k : Nat} {l : List α} {x : α} (h2 : i < l.length) (h1 : a ≤ i) (hk : k < (stbl lt (seg a i l)).length) :
    ∃ A B y, y = (stbl lt (seg a i l))[k] ∧ A.length = a + k ∧ ins lt a i (k + 1) l x = A ++ y :: x :: B ∧ ins lt a i k l x = A ++ x :: y :: B := by
  refine ⟨l.take a ++ (stbl lt (seg a i l)).take k, (stbl lt (seg a i l)).drop (k + 1) ++ l.drop (i + 1), _, rfl, ?_, ?_, ?_⟩
  · rw [stbl_len, seg_len (by omega)] at hk
    simp only [List.length_append, List.length_take, stbl_len, seg_len (show i ≤ l.length by omega)]
    omega
  · unfold ins
    rw [List.take_succ_eq_append_getElem hk]
    simp only [List.append_assoc, List.cons_append, List.nil_append]
  · unfold ins
    rw [List.drop_eq_getElem_cons hk]
    simp only [List.append_assoc, List.cons_append, List.nil_append]
theorem ins_len {a i k : Nat} {l : List α} {x : α} (h1 : a ≤ i) (h2 : i < l.length) (hk : k ≤ i - a) : (ins lt a i k l x).length = l.length := by
  unfold ins
  simp only [List.length_append, List.length_cons, List.length_take, List.length_drop, stbl_len, seg_len (show i ≤ l.length by omega)]
  omega
/-! merging -/
/-- one element, and the sorted ones behind it -/
theorem mrg_first (h : Swo lt) {a b i : Nat} {l : List α} (h1 : a + 1 ≤ i) (h2 : i ≤ b) (h3 : b ≤ l.length) (hs : Srtd lt (seg (a + 1) b l)) (k1 : ∀ k (hk : k < l.length), a + 1 ≤ k → k < i → lt l[k] (l[a]'(by omega)) = true) (k2 : ∀ k (hk : k < l.length), i ≤ k → k < b → lt l[k] (l[a]'(by omega)) = false) :
    ss lt a b l = l.take a ++ seg (a + 1) i l ++ [l[a]'(by omega)] ++ seg i b l ++ l.drop b := by
  unfold ss
  have e1 : seg a b l = [l[a]'(by omega)] ++ seg (a + 1) i l ++ seg i b l := by
    rw [seg_split (a := a) (m := a + 1) (b := b) (by omega) (by omega), seg_split (a := a + 1) (m := i) (b := b) h1 h2]
    have : seg a (a + 1) l = [l[a]'(by omega)] := by
      unfold seg
      rw [show a + 1 - a = 1 by omega, List.drop_eq_getElem_cons (by omega)]
      rfl
    rw [this, List.append_assoc]
  have e2 : stbl lt (seg a b l) = seg (a + 1) i l ++ [l[a]'(by omega)] ++ seg i b l := by
    refine stbl_of h ?_ fun z => ?_
    · rw [seg_split h1 h2] at hs
      unfold Srtd at hs ⊢
      rw [List.pairwise_append] at hs
      rw [List.append_assoc, List.pairwise_append]
      refine ⟨hs.1, List.pairwise_cons.2 ⟨fun y hy => ?_, hs.2.1⟩, fun x hx y hy => ?_⟩
      · obtain ⟨k, hk, q1, q2, rfl⟩ := mem_seg hy
        exact k2 k hk q1 q2
      · obtain ⟨k, hk, q1, q2, rfl⟩ := mem_seg hx
        rcases List.mem_cons.1 hy with rfl | hy
        · exact h.asym _ _ (k1 k hk q1 q2)
        · exact hs.2.2 _ hx y hy
    · rw [e1, cls_append, cls_append (a := [l[a]] ++ _)]
      congr 1
      refine (cls_swap h fun x hx y hy => ?_).symm
      obtain ⟨k, hk, q1, q2, rfl⟩ := mem_seg hy
      rw [List.mem_singleton.1 hx]
      exact k1 k hk q1 q2
  rw [e2]
  simp only [List.append_assoc]
theorem mrg_last (h : Swo lt) {a m i : Nat} {l : List α} (h1 : a ≤ i) (h2 : i ≤ m) (h3 : m < l.length) (hs : Srtd lt (seg a m l)) (k1 : ∀ k (hk : k < l.length), a ≤ k → k < i → lt l[m] l[k] = false) (k2 : ∀ k (hk : k < l.length), i ≤ k → k < m → lt l[m] l[k] = true) :
    ss lt a (m + 1) l = l.take a ++ seg a i l ++ [l[m]] ++ seg i m l ++ l.drop (m + 1) := by
  unfold ss
  have e1 : seg a (m + 1) l = seg a i l ++ seg i m l ++ [l[m]] := by
    rw [seg_split (a := a) (m := m) (b := m + 1) (by omega) (by omega), seg_split (a := a) (m := i) (b := m) h1 h2]
    have : seg m (m + 1) l = [l[m]] := by
      unfold seg
      rw [show m + 1 - m = 1 by omega, List.drop_eq_getElem_cons h3]
      rfl
    rw [this]
  have e2 : stbl lt (seg a (m + 1) l) = seg a i l ++ [l[m]] ++ seg i m l := by
    refine stbl_of h ?_ fun z => ?_
    · rw [seg_split h1 h2] at hs
      unfold Srtd at hs ⊢
      rw [List.pairwise_append] at hs
      rw [List.append_assoc, List.pairwise_append]
      refine ⟨hs.1, List.pairwise_cons.2 ⟨fun y hy => ?_, hs.2.1⟩, fun x hx y hy => ?_⟩
      · obtain ⟨k, hk, q1, q2, rfl⟩ := mem_seg hy
        exact h.asym _ _ (k2 k hk q1 q2)
      · obtain ⟨k, hk, q1, q2, rfl⟩ := mem_seg hx
        rcases List.mem_cons.1 hy with rfl | hy
        · exact k1 k hk q1 q2
        · exact hs.2.2 _ hx y hy
    · rw [e1, List.append_assoc, List.append_assoc, cls_append, cls_append (a := seg a i l)]
      congr 1
      refine (cls_swap h fun x hx y hy => ?_).symm
      obtain ⟨k, hk, q1, q2, rfl⟩ := mem_seg hx
      rw [List.mem_singleton.1 hy]
      exact k2 k hk q1 q2
  rw [e2]
  simp only [List.append_assoc]
/-- the step by halves: what is left is two merges -/
theorem mrg_half (h : Swo lt) {a m b s mid e : Nat} {l : List α} (h1 : a ≤ s) (h2 : s ≤ m) (h3 : m ≤ e) (h4 : e ≤ b) (hb : b ≤ l.length) (hmid : mid = s + (e - m)) (hl : Srtd lt (seg a m l)) (hr : Srtd lt (seg m b l))
    (k1 : s < m → m < e → ∀ (q1 : s < l.length) (q2 : e - 1 < l.length), lt l[e - 1] l[s] = true) (k2 : a < s → e < b → ∀ (q1 : s - 1 < l.length) (q2 : e < l.length), lt l[e] l[s - 1] = false) :
    ss lt mid b (ss lt a mid (rot s m e l)) = ss lt a b l ∧ Srtd lt (seg a s (rot s m e l)) ∧ Srtd lt (seg s mid (rot s m e l)) ∧
      (∀ l', l'.drop mid = (rot s m e l).drop mid → Srtd lt (seg mid e l') ∧ Srtd lt (seg e b l')) := by
  obtain ⟨P, L1, L2, R1, R2, Q, e0, l0, l1, l2, l3, l4⟩ : ∃ P L1 L2 R1 R2 Q, l = P ++ L1 ++ L2 ++ R1 ++ R2 ++ Q ∧ P.length = a ∧ L1.length = s - a ∧ L2.length = m - s ∧ R1.length = e - m ∧ R2.length = b - e := by
    have h5 := four (l := l) (a := a) (m := m) (b := b) (by omega) (by omega)
    rw [seg_split (a := a) (m := s) (b := m) h1 h2, seg_split (a := m) (m := e) (b := b) h3 h4] at h5
    refine ⟨_, _, _, _, _, _, by simpa only [List.append_assoc] using h5, ?_, ?_, ?_, ?_, ?_⟩
    · simp; omega
    · rw [seg_len (by omega)]
    · rw [seg_len (by omega)]
    · rw [seg_len (by omega)]
    · rw [seg_len (by omega)]
  have g1 : seg a m l = L1 ++ L2 := seg_of (p := P) (q := R1 ++ R2 ++ Q) (by rw [e0]; simp only [List.append_assoc]) (by omega) (by simp; omega)
  have g2 : seg m b l = R1 ++ R2 := seg_of (p := P ++ L1 ++ L2) (q := Q) (by rw [e0]; simp only [List.append_assoc]) (by simp; omega) (by simp; omega)
  have g3 : rot s m e l = P ++ L1 ++ R1 ++ (L2 ++ R2 ++ Q) := by
    rw [e0]
    have := rot_of (P := P ++ L1) (U := L2) (V := R1) (Q := R2 ++ Q) (a := s) (m := m) (b := e) (by simp; omega) (by simp; omega) (by omega)
    simp only [List.append_assoc] at this ⊢
    exact this
  have hl' := hl
  have hr' := hr
  rw [g1] at hl
  rw [g2] at hr
  have c1 : ∀ x ∈ L2, ∀ y ∈ R1, lt y x = true := by
    intro x hx y hy
    have q1 : s < m := by have := List.length_pos_of_mem hx; omega
    have q2 : m < e := by have := List.length_pos_of_mem hy; omega
    have q3 := k1 q1 q2 (by omega) (by omega)
    have g4 : L2 = seg s m l := (seg_of (p := P ++ L1) (q := R1 ++ R2 ++ Q) (by rw [e0]; simp only [List.append_assoc]) (by simp; omega) (by simp; omega)).symm
    have g5 : R1 = seg m e l := (seg_of (p := P ++ L1 ++ L2) (q := R2 ++ Q) (by rw [e0]; simp only [List.append_assoc]) (by simp; omega) (by simp; omega)).symm
    rw [g4] at hx
    rw [g5] at hy
    obtain ⟨i, hi, i1, i2, rfl⟩ := mem_seg hx
    obtain ⟨j, hj, j1, j2, rfl⟩ := mem_seg hy
    have q4 : lt l[e - 1] l[i] = true := by
      by_cases e1 : i = s
      · subst e1; exact q3
      · exact h.ltle q3 (srtd_at hl' (by omega) h1 (show s < i by omega) (by omega))
    by_cases e1 : j = e - 1
    · subst e1; exact q4
    · exact h.lelt (srtd_at hr' (by omega) (show m ≤ j by omega) (show j < e - 1 by omega) (by omega)) q4
  have c2 : ∀ x ∈ L1, ∀ y ∈ R2, lt y x = false := by
    intro x hx y hy
    have q1 : a < s := by have := List.length_pos_of_mem hx; omega
    have q2 : e < b := by have := List.length_pos_of_mem hy; omega
    have q3 := k2 q1 q2 (by omega) (by omega)
    have g4 : L1 = seg a s l := (seg_of (p := P) (q := L2 ++ R1 ++ R2 ++ Q) (by rw [e0]; simp only [List.append_assoc]) (by omega) (by omega)).symm
    have g5 : R2 = seg e b l := (seg_of (p := P ++ L1 ++ L2 ++ R1) (q := Q) (by rw [e0]) (by simp; omega) (by simp; omega)).symm
    rw [g4] at hx
    rw [g5] at hy
    obtain ⟨i, hi, i1, i2, rfl⟩ := mem_seg hx
    obtain ⟨j, hj, j1, j2, rfl⟩ := mem_seg hy
    have q4 : lt l[e] l[i] = false := by
      by_cases e1 : i = s - 1
      · subst e1; exact q3
      · exact h.neg _ _ _ q3 (srtd_at hl' (by omega) (show a ≤ i by omega) (show i < s - 1 by omega) (by omega))
    by_cases e1 : j = e
    · subst e1; exact q4
    · exact h.neg _ _ _ (srtd_at hr' (by omega) (show m ≤ e by omega) (show e < j by omega) (by omega)) q4
  have hm := merge_ok h hl hr c1 c2
  have w1 : ss lt a mid (rot s m e l) = P ++ stbl lt (L1 ++ R1) ++ (L2 ++ R2 ++ Q) := by
    unfold ss
    have x1 : (rot s m e l).take a = P := take_of (s := L1 ++ R1) (q := L2 ++ R2 ++ Q) (by rw [g3]; simp only [List.append_assoc]) (by omega)
    have x2 : seg a mid (rot s m e l) = L1 ++ R1 := seg_of (p := P) (q := L2 ++ R2 ++ Q) (by rw [g3]; simp only [List.append_assoc]) (by omega) (by simp; omega)
    have x3 : (rot s m e l).drop mid = L2 ++ R2 ++ Q := drop_of (p := P) (s := L1 ++ R1) (by rw [g3]; simp only [List.append_assoc]) (by simp; omega)
    rw [x1, x2, x3]
  have sL := List.pairwise_append.1 hl
  have sR := List.pairwise_append.1 hr
  refine ⟨?_, ?_, ?_, ?_⟩
  · rw [w1]
    unfold ss
    have x1 : (P ++ stbl lt (L1 ++ R1) ++ (L2 ++ R2 ++ Q)).take mid = P ++ stbl lt (L1 ++ R1) := by
      have : (P ++ stbl lt (L1 ++ R1)).length = mid := by simp [stbl_len]; omega
      rw [← this, List.take_left]
    have x2 : seg mid b (P ++ stbl lt (L1 ++ R1) ++ (L2 ++ R2 ++ Q)) = L2 ++ R2 := seg_of (p := P ++ stbl lt (L1 ++ R1)) (q := Q) (by simp only [List.append_assoc]) (by simp [stbl_len]; omega) (by simp [stbl_len]; omega)
    have x3 : (P ++ stbl lt (L1 ++ R1) ++ (L2 ++ R2 ++ Q)).drop b = Q := drop_of (p := P ++ stbl lt (L1 ++ R1)) (s := L2 ++ R2) (by simp only [List.append_assoc]) (by simp [stbl_len]; omega)
    have x4 : l.take a = P := take_of (s := L1 ++ L2 ++ R1 ++ R2) (q := Q) (by rw [e0]; simp only [List.append_assoc]) (by omega)
    have x5 : seg a b l = L1 ++ L2 ++ (R1 ++ R2) := by rw [seg_split (show a ≤ m by omega) (show m ≤ b by omega), g1, g2]
    have x6 : l.drop b = Q := drop_of (p := P) (s := L1 ++ L2 ++ R1 ++ R2) (by rw [e0]; simp only [List.append_assoc]) (by simp; omega)
    rw [x1, x2, x3, x4, x5, x6, hm]
    simp only [List.append_assoc]
  · have : seg a s (rot s m e l) = L1 := seg_of (p := P) (q := R1 ++ L2 ++ R2 ++ Q) (by rw [g3]; simp only [List.append_assoc]) (by omega) (by omega)
    rw [this]; exact sL.1
  · have : seg s mid (rot s m e l) = R1 := seg_of (p := P ++ L1) (q := L2 ++ R2 ++ Q) (by rw [g3]) (by simp; omega) (by simp; omega)
    rw [this]; exact sR.1
  · intro l' hd
    have x3 : (rot s m e l).drop mid = L2 ++ R2 ++ Q := drop_of (p := P) (s := L1 ++ R1) (by rw [g3]; simp only [List.append_assoc]) (by simp; omega)
    rw [seg_drop hd (Nat.le_refl mid), seg_drop hd (show mid ≤ e by omega)]
    have y1 : seg mid e (rot s m e l) = L2 := seg_of (p := P ++ L1 ++ R1) (q := R2 ++ Q) (by rw [g3]; simp only [List.append_assoc]) (by simp; omega) (by simp; omega)
    have y2 : seg e b (rot s m e l) = R2 := seg_of (p := P ++ L1 ++ R1 ++ L2) (q := Q) (by rw [g3]; simp only [List.append_assoc]) (by simp; omega) (by simp; omega)
    rw [y1, y2]
    exact ⟨sL.2.1, sR.2.1⟩
/-- a part that is sorted already -/
theorem ss_self (h : Swo lt) {a b : Nat} {l : List α} (h1 : a ≤ b) (hs : Srtd lt (seg a b l)) : ss lt a b l = l := by
  unfold ss
  rw [stbl_self h hs]
  exact (split3 h1).symm
theorem rot_none {s m e : Nat} {l : List α} (h : s = m ∨ m = e) (h1 : s ≤ m) (h2 : m ≤ e) : rot s m e l = l := by
  unfold rot
  rcases h with rfl | rfl
  · have : seg s s l = [] := by unfold seg; simp
    rw [this, List.append_nil]
    exact (split3 h2).symm
  · have : seg m m l = [] := by unfold seg; simp
    rw [this, List.append_nil]
    exact (split3 h1).symm
/-! a search by halves -/
def Cut (p : Nat → Bool) (lo hi i j : Nat) : Prop := lo ≤ i ∧ i ≤ j ∧ j ≤ hi ∧ (∀ k, lo ≤ k → k < i → p k = true) ∧ (∀ k, j ≤ k → k < hi → p k = false)
theorem Cut.up {p : Nat → Bool} {lo hi i j h : Nat} (c : Cut p lo hi i j) (hm : ∀ k k', lo ≤ k → k ≤ k' → k' < hi → p k' = true → p k = true) (h1 : i ≤ h) (h2 : h < j) (hp : p h = true) : Cut p lo hi (h + 1) j :=
  ⟨by have := c.1; omega, by omega, c.2.2.1, fun k k1 k2 => hm k h k1 (by omega) (by have := c.2.2.1; omega) hp, c.2.2.2.2⟩
theorem Cut.down {p : Nat → Bool} {lo hi i j h : Nat} (c : Cut p lo hi i j) (hm : ∀ k k', lo ≤ k → k ≤ k' → k' < hi → p k' = true → p k = true) (h1 : i ≤ h) (h2 : h < j) (hp : p h = false) : Cut p lo hi i h :=
  ⟨c.1, h1, by have := c.2.2.1; omega, c.2.2.2.1, fun k k1 k2 => by
    cases e : p k
    · rfl
    · have := hm h k (by have := c.1; omega) k1 k2 e
      rw [hp] at this; cases this⟩
theorem Cut.start {p : Nat → Bool} {lo hi : Nat} (h : lo ≤ hi) : Cut p lo hi lo hi := ⟨Nat.le_refl _, h, Nat.le_refl _, fun k k1 k2 => by omega, fun k k1 k2 => by omega⟩
end
end Ss
end Go.Proofs.Ytbpipdgkkdifgaa
