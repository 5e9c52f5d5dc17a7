/- layer 7: the contracts: the law's ref, awake; the document's there, Find, Same, Right. -/
import Derived.Test.YtcindpblgbpcoaaTP
namespace Go.Proofs.Ytcindpblgbpcoaa
open Go.RowKit
set_option linter.unusedVariables false
set_option linter.unusedSimpArgs false
def encTR (x : List Sl × Bool) : TV SC := .tup [(true, encTa x.1), (false, [.pv (.bool x.2)])]
theorem cnt_snoc {t : List Sl} {i : Nat} (hi : i < t.length) (p : Int) : Ta.cnt (t.take (i + 1)) p = Ta.cnt (t.take i) p + (if t[i].p = p then 1 else 0) := by
  unfold Ta.cnt
  rw [take_snoc hi, List.map_append, List.count_append, List.map_cons, List.map_nil, List.count_singleton]
  simp only [beq_iff_eq]

theorem rthere_spec (t : List Sl) (p : Int) (hl : t.length ≤ 1000000) : Spec Try.prog 90 [.agg (encTa t), rI p] (.val (rI ((Ta.cnt t p : Nat) : Int))) := by
  refine spec_val mixed fn90 (by simp) ?_
  unfold ac90
  simp -implicitDefEqProofs only [↓aP, aQ, ↓reduceIte, Nat.reduceEqDiff, Nat.reduceAdd, Nat.reduceSub, Nat.reduceMul, Nat.reduceLT, Nat.reduceLeDiff, reduceCtorEq, Nat.reduceBEq, forall_const, implies_true, exists_const, ne_eq, Int.reduceAdd, Int.reduceSub, Int.reduceMul, Int.reduceBEq, Int.reduceEq, Int.reduceLT, Int.reduceLE, Int.reduceToNat, Int.reduceNeg, Int.reduceBNe, encTa]
  refine rangeB t.length (fun i σ => σ.slot 1 = vI p ∧ σ.slot 2 = .c (.ptr 2 1 0 0) ∧ σ.h.gen 2 = 1 ∧ σ.h.blk 2 = .box 54 1 [(encTa t).map AC.s] ∧ σ.slot 5 = vI (Ta.cnt (t.take i) p : Nat) ∧ σ.slot 6 = vI i) ?_ ?_ ?_
  · simp -implicitDefEqProofs only [↓aP, aQ, ↓reduceIte, Nat.reduceEqDiff, Nat.reduceAdd, Nat.reduceSub, Nat.reduceMul, Nat.reduceLT, Nat.reduceLeDiff, reduceCtorEq, Nat.reduceBEq, forall_const, implies_true, exists_const, ne_eq, Int.reduceAdd, Int.reduceSub, Int.reduceMul, Int.reduceBEq, Int.reduceEq, Int.reduceLT, Int.reduceLE, Int.reduceToNat, Int.reduceNeg, Int.reduceBNe, encTa]
    rfl
  · rintro i m σ him hi hlt ⟨s1, s2, g2, b2, s5, s6⟩
    have hcl : Ta.cnt (t.take i) p ≤ i := by
      have h : Ta.cnt (t.take i) p ≤ ((t.take i).map Sl.p).length := List.count_le_length
      simp only [List.length_map, List.length_take] at h
      omega
    have hsn := cnt_snoc hi p
    simp -implicitDefEqProofs only [↓aP, aQ, ↓reduceIte, Nat.reduceEqDiff, Nat.reduceAdd, Nat.reduceSub, Nat.reduceMul, Nat.reduceLT, Nat.reduceLeDiff, reduceCtorEq, Nat.reduceBEq, forall_const, implies_true, exists_const, ne_eq, Int.reduceAdd, Int.reduceSub, Int.reduceMul, Int.reduceBEq, Int.reduceEq, Int.reduceLT, Int.reduceLE, Int.reduceToNat, Int.reduceNeg, Int.reduceBNe, hlt, s1, s2, g2, b2, s5, s6, encTa, askIdx_map, hi, encSl, List.length_map]
    by_cases e : t[i].p = p
    · rw [if_pos e] at hsn
      simp -implicitDefEqProofs only [↓aP, aQ, ↓reduceIte, Nat.reduceEqDiff, Nat.reduceAdd, Nat.reduceSub, Nat.reduceMul, Nat.reduceLT, Nat.reduceLeDiff, reduceCtorEq, Nat.reduceBEq, forall_const, implies_true, exists_const, ne_eq, Int.reduceAdd, Int.reduceSub, Int.reduceMul, Int.reduceBEq, Int.reduceEq, Int.reduceLT, Int.reduceLE, Int.reduceToNat, Int.reduceNeg, Int.reduceBNe, show (t[i].p == p) = true by simpa using e, s1, s2, g2, b2, s5, s6, wrapS (show i < 4611686018427387904 by omega), wrapS (show Ta.cnt (t.take i) p < 4611686018427387904 by omega)]
      refine nextR hi him ?_
      simp -implicitDefEqProofs only [↓aP, aQ, ↓reduceIte, Nat.reduceEqDiff, Nat.reduceAdd, Nat.reduceSub, Nat.reduceMul, Nat.reduceLT, Nat.reduceLeDiff, reduceCtorEq, Nat.reduceBEq, forall_const, implies_true, exists_const, ne_eq, Int.reduceAdd, Int.reduceSub, Int.reduceMul, Int.reduceBEq, Int.reduceEq, Int.reduceLT, Int.reduceLE, Int.reduceToNat, Int.reduceNeg, Int.reduceBNe, s1, s2, g2, b2, s5, s6, encTa, hsn]
    · rw [if_neg e, Nat.add_zero] at hsn
      simp -implicitDefEqProofs only [↓aP, aQ, ↓reduceIte, Nat.reduceEqDiff, Nat.reduceAdd, Nat.reduceSub, Nat.reduceMul, Nat.reduceLT, Nat.reduceLeDiff, reduceCtorEq, Nat.reduceBEq, forall_const, implies_true, exists_const, ne_eq, Int.reduceAdd, Int.reduceSub, Int.reduceMul, Int.reduceBEq, Int.reduceEq, Int.reduceLT, Int.reduceLE, Int.reduceToNat, Int.reduceNeg, Int.reduceBNe, show (t[i].p == p) = false by simpa using e, s1, s2, g2, b2, s5, s6, wrapS (show i < 4611686018427387904 by omega)]
      refine nextR hi him ?_
      simp -implicitDefEqProofs only [↓aP, aQ, ↓reduceIte, Nat.reduceEqDiff, Nat.reduceAdd, Nat.reduceSub, Nat.reduceMul, Nat.reduceLT, Nat.reduceLeDiff, reduceCtorEq, Nat.reduceBEq, forall_const, implies_true, exists_const, ne_eq, Int.reduceAdd, Int.reduceSub, Int.reduceMul, Int.reduceBEq, Int.reduceEq, Int.reduceLT, Int.reduceLE, Int.reduceToNat, Int.reduceNeg, Int.reduceBNe, s1, s2, g2, b2, s5, s6, encTa, hsn]
  · rintro m σ hlt ⟨s1, s2, g2, b2, s5, s6⟩
    rw [List.take_length] at s5
    simp -implicitDefEqProofs only [↓aP, aQ, ↓reduceIte, Nat.reduceEqDiff, Nat.reduceAdd, Nat.reduceSub, Nat.reduceMul, Nat.reduceLT, Nat.reduceLeDiff, reduceCtorEq, Nat.reduceBEq, forall_const, implies_true, exists_const, ne_eq, Int.reduceAdd, Int.reduceSub, Int.reduceMul, Int.reduceBEq, Int.reduceEq, Int.reduceLT, Int.reduceLE, Int.reduceToNat, Int.reduceNeg, Int.reduceBNe, hlt, s1, s2, g2, b2, s5, s6, encTa, List.length_map]

theorem rFind_spec (t : List Sl) (p : Int) (hl : t.length ≤ 1000000) : Spec Try.prog 55 [.agg (encTa t), rI p] (.val (rI (Ta.findM t p))) := by
  refine spec_val mixed fn55 (by simp) ?_
  unfold ac55
  by_cases hp : p = 0
  · have e : Ta.findM t p = -1 := by unfold Ta.findM; rw [if_pos hp]
    simp -implicitDefEqProofs only [↓aP, aQ, ↓reduceIte, Nat.reduceEqDiff, Nat.reduceAdd, Nat.reduceSub, Nat.reduceMul, Nat.reduceLT, Nat.reduceLeDiff, reduceCtorEq, Nat.reduceBEq, forall_const, implies_true, exists_const, ne_eq, Int.reduceAdd, Int.reduceSub, Int.reduceMul, Int.reduceBEq, Int.reduceEq, Int.reduceLT, Int.reduceLE, Int.reduceToNat, Int.reduceNeg, Int.reduceBNe, encTa, show (p == 0) = true by simpa using hp, e]
  simp -implicitDefEqProofs only [↓aP, aQ, ↓reduceIte, Nat.reduceEqDiff, Nat.reduceAdd, Nat.reduceSub, Nat.reduceMul, Nat.reduceLT, Nat.reduceLeDiff, reduceCtorEq, Nat.reduceBEq, forall_const, implies_true, exists_const, ne_eq, Int.reduceAdd, Int.reduceSub, Int.reduceMul, Int.reduceBEq, Int.reduceEq, Int.reduceLT, Int.reduceLE, Int.reduceToNat, Int.reduceNeg, Int.reduceBNe, encTa, show (p == 0) = false by simpa using hp]
  refine rangeB t.length (fun i σ => (∀ j (h : j < t.length), j < i → t[j].p ≠ p) ∧ σ.slot 1 = vI p ∧ σ.slot 2 = .c (.ptr 2 1 0 0) ∧ σ.h.gen 2 = 1 ∧ σ.h.blk 2 = .box 54 1 [(encTa t).map AC.s] ∧ σ.slot 5 = vI i) ?_ ?_ ?_
  · simp -implicitDefEqProofs only [↓aP, aQ, ↓reduceIte, Nat.reduceEqDiff, Nat.reduceAdd, Nat.reduceSub, Nat.reduceMul, Nat.reduceLT, Nat.reduceLeDiff, reduceCtorEq, Nat.reduceBEq, forall_const, implies_true, exists_const, ne_eq, Int.reduceAdd, Int.reduceSub, Int.reduceMul, Int.reduceBEq, Int.reduceEq, Int.reduceLT, Int.reduceLE, Int.reduceToNat, Int.reduceNeg, Int.reduceBNe, encTa]
    exact fun j _ h => by omega
  · rintro i m σ him hi hlt ⟨hno, s1, s2, g2, b2, s5⟩
    simp -implicitDefEqProofs only [↓aP, aQ, ↓reduceIte, Nat.reduceEqDiff, Nat.reduceAdd, Nat.reduceSub, Nat.reduceMul, Nat.reduceLT, Nat.reduceLeDiff, reduceCtorEq, Nat.reduceBEq, forall_const, implies_true, exists_const, ne_eq, Int.reduceAdd, Int.reduceSub, Int.reduceMul, Int.reduceBEq, Int.reduceEq, Int.reduceLT, Int.reduceLE, Int.reduceToNat, Int.reduceNeg, Int.reduceBNe, hlt, s1, s2, g2, b2, s5, encTa, askIdx_map, hi, encSl, List.length_map]
    by_cases e : t[i].p = p
    · have ef : Ta.findM t p = i := by
        unfold Ta.findM
        rw [if_neg hp, show t.findIdx? (fun s => s.p == p) = some i by
          rw [List.findIdx?_eq_some_iff_getElem]
          exact ⟨hi, by simpa using e, fun j hj => by simpa using hno j (by omega) hj⟩]
      simp -implicitDefEqProofs only [↓aP, aQ, ↓reduceIte, Nat.reduceEqDiff, Nat.reduceAdd, Nat.reduceSub, Nat.reduceMul, Nat.reduceLT, Nat.reduceLeDiff, reduceCtorEq, Nat.reduceBEq, forall_const, implies_true, exists_const, ne_eq, Int.reduceAdd, Int.reduceSub, Int.reduceMul, Int.reduceBEq, Int.reduceEq, Int.reduceLT, Int.reduceLE, Int.reduceToNat, Int.reduceNeg, Int.reduceBNe, show (t[i].p == p) = true by simpa using e, s1, s2, g2, b2, s5, ef]
    · simp -implicitDefEqProofs only [↓aP, aQ, ↓reduceIte, Nat.reduceEqDiff, Nat.reduceAdd, Nat.reduceSub, Nat.reduceMul, Nat.reduceLT, Nat.reduceLeDiff, reduceCtorEq, Nat.reduceBEq, forall_const, implies_true, exists_const, ne_eq, Int.reduceAdd, Int.reduceSub, Int.reduceMul, Int.reduceBEq, Int.reduceEq, Int.reduceLT, Int.reduceLE, Int.reduceToNat, Int.reduceNeg, Int.reduceBNe, show (t[i].p == p) = false by simpa using e, s1, s2, g2, b2, s5, wrapS (show i < 4611686018427387904 by omega)]
      refine nextR hi him ⟨fun j h hj => ?_, ?_⟩
      · by_cases ej : j = i
        · subst ej; exact e
        · exact hno j h (by omega)
      · simp -implicitDefEqProofs only [↓aP, aQ, ↓reduceIte, Nat.reduceEqDiff, Nat.reduceAdd, Nat.reduceSub, Nat.reduceMul, Nat.reduceLT, Nat.reduceLeDiff, reduceCtorEq, Nat.reduceBEq, forall_const, implies_true, exists_const, ne_eq, Int.reduceAdd, Int.reduceSub, Int.reduceMul, Int.reduceBEq, Int.reduceEq, Int.reduceLT, Int.reduceLE, Int.reduceToNat, Int.reduceNeg, Int.reduceBNe, s1, s2, g2, b2, s5, encTa]
  · rintro m σ hlt ⟨hno, s1, s2, g2, b2, s5⟩
    have ef : Ta.findM t p = -1 := by
      unfold Ta.findM
      rw [if_neg hp, List.findIdx?_eq_none_iff.2 (fun s hs => by
        obtain ⟨j, hj, rfl⟩ := List.getElem_of_mem hs
        simpa using hno j hj hj)]
    simp -implicitDefEqProofs only [↓aP, aQ, ↓reduceIte, Nat.reduceEqDiff, Nat.reduceAdd, Nat.reduceSub, Nat.reduceMul, Nat.reduceLT, Nat.reduceLeDiff, reduceCtorEq, Nat.reduceBEq, forall_const, implies_true, exists_const, ne_eq, Int.reduceAdd, Int.reduceSub, Int.reduceMul, Int.reduceBEq, Int.reduceEq, Int.reduceLT, Int.reduceLE, Int.reduceToNat, Int.reduceNeg, Int.reduceBNe, hlt, s1, s2, g2, b2, s5, encTa, List.length_map, ef]


theorem rRight_specT (t : List Sl) : Spec Try.prog 53 [.agg (encTa t)] (.val (rB (Ta.right t))) := by
  rw [← Ta.right_eq]
  refine spec_val mixed fn53 (by simp) ?_
  unfold ac53
  by_cases ht : t.length = 16
  case neg =>
    have e : Ta.rightR t = false := by unfold Ta.rightR; rw [decide_eq_false ht]; rfl
    simp -implicitDefEqProofs only [↓aP, aQ, ↓reduceIte, Nat.reduceEqDiff, Nat.reduceAdd, Nat.reduceSub, Nat.reduceMul, Nat.reduceLT, Nat.reduceLeDiff, reduceCtorEq, Nat.reduceBEq, forall_const, implies_true, exists_const, ne_eq, Int.reduceAdd, Int.reduceSub, Int.reduceMul, Int.reduceBEq, Int.reduceEq, Int.reduceLT, Int.reduceLE, Int.reduceToNat, Int.reduceNeg, Int.reduceBNe, encTa, List.length_map, show ((t.length : Int) != 16) = true by simp; omega, e]
  have hRR : Ta.rightR t = true ↔ ∀ k, k < 16 → Ta.okR t k = true := by
    unfold Ta.rightR
    simp only [ht, decide_true, Bool.true_and, List.all_eq_true, List.mem_range]
  simp -implicitDefEqProofs only [↓aP, aQ, ↓reduceIte, Nat.reduceEqDiff, Nat.reduceAdd, Nat.reduceSub, Nat.reduceMul, Nat.reduceLT, Nat.reduceLeDiff, reduceCtorEq, Nat.reduceBEq, forall_const, implies_true, exists_const, ne_eq, Int.reduceAdd, Int.reduceSub, Int.reduceMul, Int.reduceBEq, Int.reduceEq, Int.reduceLT, Int.reduceLE, Int.reduceToNat, Int.reduceNeg, Int.reduceBNe, encTa, List.length_map, ht, bne_self_eq_false]
  refine rangeB 16 (fun i σ => (∀ j, j < i → Ta.okR t j = true) ∧ σ.slot 1 = .c (.ptr 1 1 0 0) ∧ σ.h.gen 1 = 1 ∧ σ.h.blk 1 = .box 54 1 [(encTa t).map AC.s] ∧ σ.slot 3 = vI i) ?_ ?_ ?_
  · simp -implicitDefEqProofs only [↓aP, aQ, ↓reduceIte, Nat.reduceEqDiff, Nat.reduceAdd, Nat.reduceSub, Nat.reduceMul, Nat.reduceLT, Nat.reduceLeDiff, reduceCtorEq, Nat.reduceBEq, forall_const, implies_true, exists_const, ne_eq, Int.reduceAdd, Int.reduceSub, Int.reduceMul, Int.reduceBEq, Int.reduceEq, Int.reduceLT, Int.reduceLE, Int.reduceToNat, Int.reduceNeg, Int.reduceBNe, encTa]
    exact fun j hj => by omega
  · rintro i m σ him hi hlt ⟨hall, s1, g1, b1, s3⟩
    have hi16 : decide ((i : Int) < 16) = true := by simp; omega
    have hk : i < t.length := by omega
    have ha := Ta.at_get hk
    have hok : Ta.okR t i = (Ta.free t[i] || (Ta.isP t[i].p && Ta.isF t[i].f && decide (Ta.cnt t t[i].p = 1) && (List.range (Ta.ahead t[i].p i)).all fun n => (Ta.at' t (Ta.pl t[i].p n)).p != 0)) := by unfold Ta.okR; rw [ha]
    have bad : Ta.okR t i = false → Ta.rightR t = false := fun h => by
      cases hr : Ta.rightR t
      · rfl
      · have := hRR.1 hr i hi; rw [h] at this; cases this
    have nxt : Ta.okR t i = true → ∀ j, j < i + 1 → Ta.okR t j = true := fun h j hj => by
      by_cases ej : j = i
      · subst ej; exact h
      · exact hall j (by omega)
    obtain ⟨GA, hGA⟩ : ∃ G, σ.h.gen 4 = G := ⟨_, rfl⟩
    have hwi := wrapS (show i < 4611686018427387904 by omega)
    cases hf : Ta.free t[i]
    case true =>
      obtain ⟨f1, f2⟩ := Ta.free_p hf
      simp -implicitDefEqProofs only [↓aP, aQ, ↓reduceIte, Nat.reduceEqDiff, Nat.reduceAdd, Nat.reduceSub, Nat.reduceMul, Nat.reduceLT, Nat.reduceLeDiff, reduceCtorEq, Nat.reduceBEq, forall_const, implies_true, exists_const, ne_eq, Int.reduceAdd, Int.reduceSub, Int.reduceMul, Int.reduceBEq, Int.reduceEq, Int.reduceLT, Int.reduceLE, Int.reduceToNat, Int.reduceNeg, Int.reduceBNe, hi16, s1, g1, b1, s3, encTa, askIdx_map, hk, encSl, show (t[i].p == 0) = true by simpa using f1, show (t[i].f == 0) = true by simpa using f2, hwi]
      refine nextR hi him ⟨nxt (by rw [hok, hf]; rfl), ?_⟩
      simp -implicitDefEqProofs only [↓aP, aQ, ↓reduceIte, Nat.reduceEqDiff, Nat.reduceAdd, Nat.reduceSub, Nat.reduceMul, Nat.reduceLT, Nat.reduceLeDiff, reduceCtorEq, Nat.reduceBEq, forall_const, implies_true, exists_const, ne_eq, Int.reduceAdd, Int.reduceSub, Int.reduceMul, Int.reduceBEq, Int.reduceEq, Int.reduceLT, Int.reduceLE, Int.reduceToNat, Int.reduceNeg, Int.reduceBNe, s1, g1, b1, s3, encTa]
    rw [hf, Bool.false_or] at hok
    have badP : Ta.isP t[i].p = false → Ta.rightR t = false := fun h => bad (by rw [hok, h]; rfl)
    have badF : Ta.isF t[i].f = false → Ta.rightR t = false := fun h => bad (by rw [hok, h, Bool.and_false]; rfl)
    by_cases hp0 : t[i].p = 0
    · have hf0 : (t[i].f == 0) = false := by
        unfold Ta.free at hf
        rw [show (t[i].p == 0) = true by simpa using hp0, Bool.true_and] at hf
        exact hf
      have e := badP (by unfold Ta.isP; rw [hp0]; decide)
      simp -implicitDefEqProofs only [↓aP, aQ, ↓reduceIte, Nat.reduceEqDiff, Nat.reduceAdd, Nat.reduceSub, Nat.reduceMul, Nat.reduceLT, Nat.reduceLeDiff, reduceCtorEq, Nat.reduceBEq, forall_const, implies_true, exists_const, ne_eq, Int.reduceAdd, Int.reduceSub, Int.reduceMul, Int.reduceBEq, Int.reduceEq, Int.reduceLT, Int.reduceLE, Int.reduceToNat, Int.reduceNeg, Int.reduceBNe, hi16, s1, g1, b1, s3, encTa, askIdx_map, hk, encSl, show (t[i].p == 0) = true by simpa using hp0, hf0, show decide (t[i].p < 1) = true by simp; omega, e]
    have hp0b : (t[i].p == 0) = false := by simpa using hp0
    by_cases h1 : t[i].p < 1
    · have e := badP (by unfold Ta.isP; simp; omega)
      simp -implicitDefEqProofs only [↓aP, aQ, ↓reduceIte, Nat.reduceEqDiff, Nat.reduceAdd, Nat.reduceSub, Nat.reduceMul, Nat.reduceLT, Nat.reduceLeDiff, reduceCtorEq, Nat.reduceBEq, forall_const, implies_true, exists_const, ne_eq, Int.reduceAdd, Int.reduceSub, Int.reduceMul, Int.reduceBEq, Int.reduceEq, Int.reduceLT, Int.reduceLE, Int.reduceToNat, Int.reduceNeg, Int.reduceBNe, hi16, s1, g1, b1, s3, encTa, askIdx_map, hk, encSl, hp0b, decide_eq_true h1, e]
    by_cases h2 : 2147483647 < t[i].p
    · have e := badP (by unfold Ta.isP; simp; omega)
      simp -implicitDefEqProofs only [↓aP, aQ, ↓reduceIte, Nat.reduceEqDiff, Nat.reduceAdd, Nat.reduceSub, Nat.reduceMul, Nat.reduceLT, Nat.reduceLeDiff, reduceCtorEq, Nat.reduceBEq, forall_const, implies_true, exists_const, ne_eq, Int.reduceAdd, Int.reduceSub, Int.reduceMul, Int.reduceBEq, Int.reduceEq, Int.reduceLT, Int.reduceLE, Int.reduceToNat, Int.reduceNeg, Int.reduceBNe, hi16, s1, g1, b1, s3, encTa, askIdx_map, hk, encSl, hp0b, decide_eq_false h1, decide_eq_true h2, e]
    by_cases h3 : t[i].f < 0
    · have e := badF (by unfold Ta.isF; simp; omega)
      simp -implicitDefEqProofs only [↓aP, aQ, ↓reduceIte, Nat.reduceEqDiff, Nat.reduceAdd, Nat.reduceSub, Nat.reduceMul, Nat.reduceLT, Nat.reduceLeDiff, reduceCtorEq, Nat.reduceBEq, forall_const, implies_true, exists_const, ne_eq, Int.reduceAdd, Int.reduceSub, Int.reduceMul, Int.reduceBEq, Int.reduceEq, Int.reduceLT, Int.reduceLE, Int.reduceToNat, Int.reduceNeg, Int.reduceBNe, hi16, s1, g1, b1, s3, encTa, askIdx_map, hk, encSl, hp0b, decide_eq_false h1, decide_eq_false h2, decide_eq_true h3, e]
    by_cases h4 : 2147483647 < t[i].f
    · have e := badF (by unfold Ta.isF; simp; omega)
      simp -implicitDefEqProofs only [↓aP, aQ, ↓reduceIte, Nat.reduceEqDiff, Nat.reduceAdd, Nat.reduceSub, Nat.reduceMul, Nat.reduceLT, Nat.reduceLeDiff, reduceCtorEq, Nat.reduceBEq, forall_const, implies_true, exists_const, ne_eq, Int.reduceAdd, Int.reduceSub, Int.reduceMul, Int.reduceBEq, Int.reduceEq, Int.reduceLT, Int.reduceLE, Int.reduceToNat, Int.reduceNeg, Int.reduceBNe, hi16, s1, g1, b1, s3, encTa, askIdx_map, hk, encSl, hp0b, decide_eq_false h1, decide_eq_false h2, decide_eq_false h3, decide_eq_true h4, e]
    have hP : Ta.isP t[i].p = true := isP_iff.2 (by omega)
    have hF : Ta.isF t[i].f = true := isF_iff.2 (by omega)
    rw [hP, hF, Bool.true_and, Bool.true_and] at hok
    simp -implicitDefEqProofs only [↓aP, aQ, ↓reduceIte, Nat.reduceEqDiff, Nat.reduceAdd, Nat.reduceSub, Nat.reduceMul, Nat.reduceLT, Nat.reduceLeDiff, reduceCtorEq, Nat.reduceBEq, forall_const, implies_true, exists_const, ne_eq, Int.reduceAdd, Int.reduceSub, Int.reduceMul, Int.reduceBEq, Int.reduceEq, Int.reduceLT, Int.reduceLE, Int.reduceToNat, Int.reduceNeg, Int.reduceBNe, hi16, s1, g1, b1, s3, encTa, askIdx_map, hk, encSl, hp0b, decide_eq_false h1, decide_eq_false h2, decide_eq_false h3, decide_eq_false h4]
    refine ask (rthere_spec t t[i].p (by omega)) ?_
    by_cases hc : Ta.cnt t t[i].p = 1
    case neg =>
      have e := bad (by rw [hok, decide_eq_false hc]; rfl)
      simp -implicitDefEqProofs only [↓aP, aQ, ↓reduceIte, Nat.reduceEqDiff, Nat.reduceAdd, Nat.reduceSub, Nat.reduceMul, Nat.reduceLT, Nat.reduceLeDiff, reduceCtorEq, Nat.reduceBEq, forall_const, implies_true, exists_const, ne_eq, Int.reduceAdd, Int.reduceSub, Int.reduceMul, Int.reduceBEq, Int.reduceEq, Int.reduceLT, Int.reduceLE, Int.reduceToNat, Int.reduceNeg, Int.reduceBNe, show (((Ta.cnt t t[i].p : Nat) : Int) != 1) = true by simp; omega, e]
    rw [decide_eq_true hc, Bool.true_and] at hok
    have hpath : Ta.okR t i = true ↔ ∀ n, n < Ta.ahead t[i].p i → (Ta.at' t (Ta.pl t[i].p n)).p ≠ 0 := by
      rw [hok, List.all_eq_true]
      simp only [List.mem_range, bne_iff_ne]
    simp -implicitDefEqProofs only [↓aP, aQ, ↓reduceIte, Nat.reduceEqDiff, Nat.reduceAdd, Nat.reduceSub, Nat.reduceMul, Nat.reduceLT, Nat.reduceLeDiff, reduceCtorEq, Nat.reduceBEq, forall_const, implies_true, exists_const, ne_eq, Int.reduceAdd, Int.reduceSub, Int.reduceMul, Int.reduceBEq, Int.reduceEq, Int.reduceLT, Int.reduceLE, Int.reduceToNat, Int.reduceNeg, Int.reduceBNe, show (((Ta.cnt t t[i].p : Nat) : Int) != 1) = false by simp; omega]
    refine rangeB 16 (fun n σ => n ≤ Ta.ahead t[i].p i ∧ (∀ j, j < n → (Ta.at' t (Ta.pl t[i].p j)).p ≠ 0) ∧ ∃ G, σ.slot 1 = .c (.ptr 1 1 0 0) ∧ σ.h.gen 1 = 1 ∧ σ.h.blk 1 = .box 54 1 [(encTa t).map AC.s] ∧ σ.slot 3 = vI i ∧ σ.slot 4 = .c (.ptr 4 G 0 0) ∧ σ.h.gen 4 = G ∧ σ.h.blk 4 = .box 121 2 [(encSl t[i]).map AC.s] ∧ σ.slot 5 = vI n) ?_ ?_ ?_
    · refine ⟨by omega, fun j hj => by omega, GA + 1, ?_⟩
      simp -implicitDefEqProofs only [↓aP, aQ, ↓reduceIte, Nat.reduceEqDiff, Nat.reduceAdd, Nat.reduceSub, Nat.reduceMul, Nat.reduceLT, Nat.reduceLeDiff, reduceCtorEq, Nat.reduceBEq, forall_const, implies_true, exists_const, ne_eq, Int.reduceAdd, Int.reduceSub, Int.reduceMul, Int.reduceBEq, Int.reduceEq, Int.reduceLT, Int.reduceLE, Int.reduceToNat, Int.reduceNeg, Int.reduceBNe, s1, g1, b1, s3, encTa, encSl, hGA]
    · clear hlt s1 g1 b1 s3
      rintro n m2 σ hnm hn hlt ⟨hna, hnz, G, s1, g1, b1, s3, s4, g4, b4, s5⟩
      have hn16 : decide ((n : Int) < 16) = true := by simp; omega
      have hpl := Ta.pl_lt (p := t[i].p) (i := n)
      have hpll : Ta.pl t[i].p n < t.length := by omega
      have e1 : (IntKind.i64.wrap (t[i].p + (n : Int))).tmod 16 = ((Ta.pl t[i].p n : Nat) : Int) := by
        rw [wrapI (x := t[i].p + (n : Int)) (by omega), Int.tmod_eq_emod_of_nonneg (by omega)]
        unfold Ta.pl
        omega
      by_cases hki : Ta.pl t[i].p n = i
      · have hna2 := Ta.ahead_pl hn hki
        simp -implicitDefEqProofs only [↓aP, aQ, ↓reduceIte, Nat.reduceEqDiff, Nat.reduceAdd, Nat.reduceSub, Nat.reduceMul, Nat.reduceLT, Nat.reduceLeDiff, reduceCtorEq, Nat.reduceBEq, forall_const, implies_true, exists_const, ne_eq, Int.reduceAdd, Int.reduceSub, Int.reduceMul, Int.reduceBEq, Int.reduceEq, Int.reduceLT, Int.reduceLE, Int.reduceToNat, Int.reduceNeg, Int.reduceBNe, hn16, s1, g1, b1, s3, s4, g4, b4, s5, encTa, encSl, e1, show (((Ta.pl t[i].p n : Nat) : Int) == (i : Int)) = true by simp; omega, hwi]
        refine nextR hi him ⟨nxt (hpath.2 (by rw [← hna2]; exact hnz)), ?_⟩
        simp -implicitDefEqProofs only [↓aP, aQ, ↓reduceIte, Nat.reduceEqDiff, Nat.reduceAdd, Nat.reduceSub, Nat.reduceMul, Nat.reduceLT, Nat.reduceLeDiff, reduceCtorEq, Nat.reduceBEq, forall_const, implies_true, exists_const, ne_eq, Int.reduceAdd, Int.reduceSub, Int.reduceMul, Int.reduceBEq, Int.reduceEq, Int.reduceLT, Int.reduceLE, Int.reduceToNat, Int.reduceNeg, Int.reduceBNe, s1, g1, b1, s3, s4, g4, b4, s5, encTa]
      · have hlt2 : n < Ta.ahead t[i].p i := by
          rcases Nat.lt_or_ge n (Ta.ahead t[i].p i) with h | h
          · exact h
          · have : n = Ta.ahead t[i].p i := by omega
            exact absurd (by rw [this]; exact Ta.pl_ahead hi) hki
        have hatn := Ta.at_get hpll
        have hki1 : (((Ta.pl t[i].p n : Nat) : Int) == (i : Int)) = false := by rw [beq_eq_false_iff_ne]; omega
        by_cases hz : t[Ta.pl t[i].p n].p = 0
        · have e := bad (by
            cases ho : Ta.okR t i
            · rfl
            · exact absurd (by rw [hatn]; exact hz) (hpath.1 ho n hlt2))
          have hz1 : (t[Ta.pl t[i].p n].p == 0) = true := by simpa using hz
          simp -implicitDefEqProofs only [↓aP, aQ, ↓reduceIte, Nat.reduceEqDiff, Nat.reduceAdd, Nat.reduceSub, Nat.reduceMul, Nat.reduceLT, Nat.reduceLeDiff, reduceCtorEq, Nat.reduceBEq, forall_const, implies_true, exists_const, ne_eq, Int.reduceAdd, Int.reduceSub, Int.reduceMul, Int.reduceBEq, Int.reduceEq, Int.reduceLT, Int.reduceLE, Int.reduceToNat, Int.reduceNeg, Int.reduceBNe, hn16, s1, g1, b1, s3, s4, g4, b4, s5, encTa, encSl, e1, hki1, askIdx_map, hpll, hz1, e]
        · have hz1 : (t[Ta.pl t[i].p n].p == 0) = false := by simpa using hz
          simp -implicitDefEqProofs only [↓aP, aQ, ↓reduceIte, Nat.reduceEqDiff, Nat.reduceAdd, Nat.reduceSub, Nat.reduceMul, Nat.reduceLT, Nat.reduceLeDiff, reduceCtorEq, Nat.reduceBEq, forall_const, implies_true, exists_const, ne_eq, Int.reduceAdd, Int.reduceSub, Int.reduceMul, Int.reduceBEq, Int.reduceEq, Int.reduceLT, Int.reduceLE, Int.reduceToNat, Int.reduceNeg, Int.reduceBNe, hn16, s1, g1, b1, s3, s4, g4, b4, s5, encTa, encSl, e1, hki1, askIdx_map, hpll, hz1, wrapS (show n < 4611686018427387904 by omega)]
          refine nextR hn hnm ⟨by omega, fun j hj => ?_, G, ?_⟩
          · by_cases ej : j = n
            · subst ej; rw [hatn]; exact hz
            · exact hnz j (by omega)
          · simp -implicitDefEqProofs only [↓aP, aQ, ↓reduceIte, Nat.reduceEqDiff, Nat.reduceAdd, Nat.reduceSub, Nat.reduceMul, Nat.reduceLT, Nat.reduceLeDiff, reduceCtorEq, Nat.reduceBEq, forall_const, implies_true, exists_const, ne_eq, Int.reduceAdd, Int.reduceSub, Int.reduceMul, Int.reduceBEq, Int.reduceEq, Int.reduceLT, Int.reduceLE, Int.reduceToNat, Int.reduceNeg, Int.reduceBNe, s1, g1, b1, s3, s4, g4, b4, s5, encTa, encSl]
    · clear hlt s1 g1 b1 s3
      rintro m2 σ hlt ⟨hna, hnz, G, s1, g1, b1, s3, s4, g4, b4, s5⟩
      have := Ta.ahead_lt (p := t[i].p) (i := i)
      omega
  · rintro m σ hlt ⟨hall, s1, g1, b1, s3⟩
    simp -implicitDefEqProofs only [↓aP, aQ, ↓reduceIte, Nat.reduceEqDiff, Nat.reduceAdd, Nat.reduceSub, Nat.reduceMul, Nat.reduceLT, Nat.reduceLeDiff, reduceCtorEq, Nat.reduceBEq, forall_const, implies_true, exists_const, ne_eq, Int.reduceAdd, Int.reduceSub, Int.reduceMul, Int.reduceBEq, Int.reduceEq, Int.reduceLT, Int.reduceLE, Int.reduceToNat, Int.reduceNeg, Int.reduceBNe, hlt, s1, g1, b1, s3, hRR.2 hall]
theorem fields_rs : Try.prog.underlying 121 = some (.struct (Try.prog.fieldsOf 121)) := by kernel_rfl
theorem held_rs : Try.prog.stoodInHeld 121 = false := by kernel_rfl
theorem fieldsL_rs : ((Try.prog.fieldsOf 121).toList.map fun f => (f.type, f.offset)) = [(3, 0), (3, 1)] := by kernel_rfl
set_option maxRecDepth 100000 in
theorem eq_rs (x : Sl) : EqRun Try.prog 121 [.int .i64 x.p, .int .i64 x.f] [.int .i64 x.p, .int .i64 x.f] true := by
  intro w
  rw [run_eql_struct, run_equalIn_agg w 9999 _ _ _ fields_rs held_rs]
  go_simp

theorem rSame_specT (l : List Sl) (hl : l.length < 1000000) : Spec Try.prog 28 [.agg (encTa l), .agg (encTa l)] (.val (rB true)) := by
  refine spec_val mixed fn28 (by simp) ?_
  unfold ac28
  simp -implicitDefEqProofs only [↓aP, aQ, ↓reduceIte, Nat.reduceEqDiff, Nat.reduceAdd, Nat.reduceSub, Nat.reduceMul, Nat.reduceLT, Nat.reduceLeDiff, reduceCtorEq, Nat.reduceBEq, forall_const, implies_true, exists_const, ne_eq, Int.reduceAdd, Int.reduceSub, Int.reduceMul, Int.reduceBEq, Int.reduceEq, Int.reduceLT, Int.reduceLE, Int.reduceToNat, Int.reduceNeg, Int.reduceBNe, encTa, bne_self_eq_false]
  refine rangeB l.length (fun i σ => σ.slot 2 = .c (.ptr 2 1 0 0) ∧ σ.h.gen 2 = 1 ∧ σ.h.blk 2 = .box 54 1 [(encTa l).map AC.s] ∧ σ.slot 3 = .c (.ptr 3 1 0 0) ∧ σ.h.gen 3 = 1 ∧ σ.h.blk 3 = .box 54 1 [(encTa l).map AC.s] ∧ σ.slot 5 = vI i) ?_ ?_ ?_
  · simp -implicitDefEqProofs only [↓aP, aQ, ↓reduceIte, Nat.reduceEqDiff, Nat.reduceAdd, Nat.reduceSub, Nat.reduceMul, Nat.reduceLT, Nat.reduceLeDiff, reduceCtorEq, Nat.reduceBEq, forall_const, implies_true, exists_const, ne_eq, Int.reduceAdd, Int.reduceSub, Int.reduceMul, Int.reduceBEq, Int.reduceEq, Int.reduceLT, Int.reduceLE, Int.reduceToNat, Int.reduceNeg, Int.reduceBNe, encTa]
  · rintro i m σ him hi hlt ⟨s2, g2, b2, s3, g3, b3, s5⟩
    simp -implicitDefEqProofs only [↓aP, aQ, ↓reduceIte, Nat.reduceEqDiff, Nat.reduceAdd, Nat.reduceSub, Nat.reduceMul, Nat.reduceLT, Nat.reduceLeDiff, reduceCtorEq, Nat.reduceBEq, forall_const, implies_true, exists_const, ne_eq, Int.reduceAdd, Int.reduceSub, Int.reduceMul, Int.reduceBEq, Int.reduceEq, Int.reduceLT, Int.reduceLE, Int.reduceToNat, Int.reduceNeg, Int.reduceBNe, hlt, s2, g2, b2, s3, g3, b3, s5, encTa, askIdx_map, hi, encSl, List.length_map]
    refine askEq (eq_rs l[i]) ?_
    simp -implicitDefEqProofs only [↓aP, aQ, ↓reduceIte, Nat.reduceEqDiff, Nat.reduceAdd, Nat.reduceSub, Nat.reduceMul, Nat.reduceLT, Nat.reduceLeDiff, reduceCtorEq, Nat.reduceBEq, forall_const, implies_true, exists_const, ne_eq, Int.reduceAdd, Int.reduceSub, Int.reduceMul, Int.reduceBEq, Int.reduceEq, Int.reduceLT, Int.reduceLE, Int.reduceToNat, Int.reduceNeg, Int.reduceBNe, s2, g2, b2, s3, g3, b3, s5, encTa, wrapS (show i < 4611686018427387904 by omega)]
    refine ⟨by decide +kernel, ?_⟩
    refine nextR hi him ?_
    simp -implicitDefEqProofs only [↓aP, aQ, ↓reduceIte, Nat.reduceEqDiff, Nat.reduceAdd, Nat.reduceSub, Nat.reduceMul, Nat.reduceLT, Nat.reduceLeDiff, reduceCtorEq, Nat.reduceBEq, forall_const, implies_true, exists_const, ne_eq, Int.reduceAdd, Int.reduceSub, Int.reduceMul, Int.reduceBEq, Int.reduceEq, Int.reduceLT, Int.reduceLE, Int.reduceToNat, Int.reduceNeg, Int.reduceBNe, s2, g2, b2, s3, g3, b3, s5, encTa]
  · rintro m σ hlt ⟨s2, g2, b2, s3, g3, b3, s5⟩
    simp -implicitDefEqProofs only [↓aP, aQ, ↓reduceIte, Nat.reduceEqDiff, Nat.reduceAdd, Nat.reduceSub, Nat.reduceMul, Nat.reduceLT, Nat.reduceLeDiff, reduceCtorEq, Nat.reduceBEq, forall_const, implies_true, exists_const, ne_eq, Int.reduceAdd, Int.reduceSub, Int.reduceMul, Int.reduceBEq, Int.reduceEq, Int.reduceLT, Int.reduceLE, Int.reduceToNat, Int.reduceNeg, Int.reduceBNe, hlt, s2, g2, b2, s3, g3, b3, s5, encTa, List.length_map]
end Go.Proofs.Ytcindpblgbpcoaa
