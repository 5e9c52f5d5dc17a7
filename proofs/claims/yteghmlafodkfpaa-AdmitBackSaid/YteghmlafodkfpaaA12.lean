/- layer 11: the document's words: who is in, what is held, who may, Right, let. -/
import Derived.Test.YteghmlafodkfpaaA11
namespace Go.Proofs.Yteghmlafodkfpaa
open Go.RowKit
set_option linter.unusedVariables false
set_option linter.unusedSimpArgs false
theorem least_spec (h : Ha) : Spec Try.prog 58 [.agg (encHa h)] (.val (rI (min h.fr h.bu))) := by
  refine spec_val mixed fn58 (by simp) ?_
  unfold ac58
  by_cases hx : h.fr < h.bu
  · simp -implicitDefEqProofs only [↓aP, aQ, ↓reduceIte, Nat.reduceEqDiff, Nat.reduceAdd, Nat.reduceSub, Nat.reduceMul, Nat.reduceLT, Nat.reduceLeDiff, reduceCtorEq, Nat.reduceBEq, forall_const, implies_true, exists_const, ne_eq, Int.reduceAdd, Int.reduceSub, Int.reduceMul, Int.reduceBEq, Int.reduceEq, Int.reduceLT, Int.reduceLE, Int.reduceToNat, Int.reduceNeg, Int.reduceBNe, encHa, decide_eq_true hx, show min h.fr h.bu = h.fr by omega]
  · simp -implicitDefEqProofs only [↓aP, aQ, ↓reduceIte, Nat.reduceEqDiff, Nat.reduceAdd, Nat.reduceSub, Nat.reduceMul, Nat.reduceLT, Nat.reduceLeDiff, reduceCtorEq, Nat.reduceBEq, forall_const, implies_true, exists_const, ne_eq, Int.reduceAdd, Int.reduceSub, Int.reduceMul, Int.reduceBEq, Int.reduceEq, Int.reduceLT, Int.reduceLE, Int.reduceToNat, Int.reduceNeg, Int.reduceBNe, encHa, decide_eq_false hx, show min h.fr h.bu = h.bu by omega]


theorem in_spec (h : Ha) (who : Int) (hl : h.cl.length + h.q.length ≤ 1000000) : Spec Try.prog 59 [.agg (encHa h), rI who] (.val (rI (Ad.inN h who))) := by
  refine spec_val mixed fn59 (by simp) ?_
  unfold ac59
  simp -implicitDefEqProofs only [↓aP, aQ, ↓reduceIte, Nat.reduceEqDiff, Nat.reduceAdd, Nat.reduceSub, Nat.reduceMul, Nat.reduceLT, Nat.reduceLeDiff, reduceCtorEq, Nat.reduceBEq, forall_const, implies_true, exists_const, ne_eq, Int.reduceAdd, Int.reduceSub, Int.reduceMul, Int.reduceBEq, Int.reduceEq, Int.reduceLT, Int.reduceLE, Int.reduceToNat, Int.reduceNeg, Int.reduceBNe, encHa]
  refine rangeB h.cl.length (fun i σ => σ.slot 1 = vI who ∧ σ.slot 2 = .c (.ptr 2 1 0 0) ∧ σ.h.gen 2 = 1 ∧ σ.h.blk 2 = .box 29 4 [(encHa h).map AC.s] ∧ σ.slot 5 = vI (((h.cl.take i).map Cl.who).count who) ∧ σ.slot 6 = vI i) ?_ ?_ ?_
  · simp -implicitDefEqProofs only [↓aP, aQ, ↓reduceIte, Nat.reduceEqDiff, Nat.reduceAdd, Nat.reduceSub, Nat.reduceMul, Nat.reduceLT, Nat.reduceLeDiff, reduceCtorEq, Nat.reduceBEq, forall_const, implies_true, exists_const, ne_eq, Int.reduceAdd, Int.reduceSub, Int.reduceMul, Int.reduceBEq, Int.reduceEq, Int.reduceLT, Int.reduceLE, Int.reduceToNat, Int.reduceNeg, Int.reduceBNe, encHa, List.take_zero, List.map_nil, List.count_nil]
    try rfl
  · rintro i m σ him hi hlt ⟨s1, s2, g2, b2, s5, s6⟩
    have hc : ((h.cl.take (i + 1)).map Cl.who).count who = ((h.cl.take i).map Cl.who).count who + (if h.cl[i].who = who then 1 else 0) := by
      rw [take_snoc hi, List.map_append, List.count_append, List.map_cons, List.map_nil, List.count_singleton]; congr 1; simp only [beq_iff_eq]
    have hb : ((h.cl.take i).map Cl.who).count who ≤ i := by
      have := List.count_le_length (a := who) (l := (h.cl.take i).map Cl.who); rw [List.length_map, List.length_take] at this; omega
    by_cases he : h.cl[i].who = who
    · rw [if_pos he] at hc
      simp -implicitDefEqProofs only [↓aP, aQ, ↓reduceIte, Nat.reduceEqDiff, Nat.reduceAdd, Nat.reduceSub, Nat.reduceMul, Nat.reduceLT, Nat.reduceLeDiff, reduceCtorEq, Nat.reduceBEq, forall_const, implies_true, exists_const, ne_eq, Int.reduceAdd, Int.reduceSub, Int.reduceMul, Int.reduceBEq, Int.reduceEq, Int.reduceLT, Int.reduceLE, Int.reduceToNat, Int.reduceNeg, Int.reduceBNe, hlt, s1, s2, g2, b2, s5, s6, encHa, askIdx_map, hi, encCl, List.length_map, show (h.cl[i].who == who) = true by simpa using he, wrapS (show ((h.cl.take i).map Cl.who).count who < 4611686018427387904 by omega), wrapS (show i < 4611686018427387904 by omega)]
      refine nextR hi him ?_
      simp -implicitDefEqProofs only [↓aP, aQ, ↓reduceIte, Nat.reduceEqDiff, Nat.reduceAdd, Nat.reduceSub, Nat.reduceMul, Nat.reduceLT, Nat.reduceLeDiff, reduceCtorEq, Nat.reduceBEq, forall_const, implies_true, exists_const, ne_eq, Int.reduceAdd, Int.reduceSub, Int.reduceMul, Int.reduceBEq, Int.reduceEq, Int.reduceLT, Int.reduceLE, Int.reduceToNat, Int.reduceNeg, Int.reduceBNe, s1, s2, g2, b2, s5, s6, encHa, hc]
    · rw [if_neg he, Nat.add_zero] at hc
      simp -implicitDefEqProofs only [↓aP, aQ, ↓reduceIte, Nat.reduceEqDiff, Nat.reduceAdd, Nat.reduceSub, Nat.reduceMul, Nat.reduceLT, Nat.reduceLeDiff, reduceCtorEq, Nat.reduceBEq, forall_const, implies_true, exists_const, ne_eq, Int.reduceAdd, Int.reduceSub, Int.reduceMul, Int.reduceBEq, Int.reduceEq, Int.reduceLT, Int.reduceLE, Int.reduceToNat, Int.reduceNeg, Int.reduceBNe, hlt, s1, s2, g2, b2, s5, s6, encHa, askIdx_map, hi, encCl, List.length_map, show (h.cl[i].who == who) = false by simpa using he, wrapS (show i < 4611686018427387904 by omega)]
      refine nextR hi him ?_
      simp -implicitDefEqProofs only [↓aP, aQ, ↓reduceIte, Nat.reduceEqDiff, Nat.reduceAdd, Nat.reduceSub, Nat.reduceMul, Nat.reduceLT, Nat.reduceLeDiff, reduceCtorEq, Nat.reduceBEq, forall_const, implies_true, exists_const, ne_eq, Int.reduceAdd, Int.reduceSub, Int.reduceMul, Int.reduceBEq, Int.reduceEq, Int.reduceLT, Int.reduceLE, Int.reduceToNat, Int.reduceNeg, Int.reduceBNe, s1, s2, g2, b2, s5, s6, encHa, hc]
  · rintro m σ hlt ⟨s1, s2, g2, b2, s5, s6⟩
    rw [List.take_length] at s5
    simp -implicitDefEqProofs only [↓aP, aQ, ↓reduceIte, Nat.reduceEqDiff, Nat.reduceAdd, Nat.reduceSub, Nat.reduceMul, Nat.reduceLT, Nat.reduceLeDiff, reduceCtorEq, Nat.reduceBEq, forall_const, implies_true, exists_const, ne_eq, Int.reduceAdd, Int.reduceSub, Int.reduceMul, Int.reduceBEq, Int.reduceEq, Int.reduceLT, Int.reduceLE, Int.reduceToNat, Int.reduceNeg, Int.reduceBNe, hlt, s1, s2, g2, b2, s5, s6, encHa, List.length_map]
    refine rangeB h.q.length (fun i σ => σ.slot 1 = vI who ∧ σ.slot 2 = .c (.ptr 2 1 0 0) ∧ σ.h.gen 2 = 1 ∧ σ.h.blk 2 = .box 29 4 [(encHa h).map AC.s] ∧ σ.slot 5 = vI ((h.cl.map Cl.who).count who + ((h.q.take i).map Tk.who).count who : Nat) ∧ σ.slot 7 = vI i) ?_ ?_ ?_
    · simp -implicitDefEqProofs only [↓aP, aQ, ↓reduceIte, Nat.reduceEqDiff, Nat.reduceAdd, Nat.reduceSub, Nat.reduceMul, Nat.reduceLT, Nat.reduceLeDiff, reduceCtorEq, Nat.reduceBEq, forall_const, implies_true, exists_const, ne_eq, Int.reduceAdd, Int.reduceSub, Int.reduceMul, Int.reduceBEq, Int.reduceEq, Int.reduceLT, Int.reduceLE, Int.reduceToNat, Int.reduceNeg, Int.reduceBNe, s1, s2, g2, b2, s5, s6, encHa, List.take_zero, List.map_nil, List.count_nil, Nat.add_zero]
    · clear hlt s1 s2 g2 b2 s5 s6
      rintro i k σ him hi hlt ⟨s1, s2, g2, b2, s5, s7⟩
      have hc : ((h.q.take (i + 1)).map Tk.who).count who = ((h.q.take i).map Tk.who).count who + (if h.q[i].who = who then 1 else 0) := by
        rw [take_snoc hi, List.map_append, List.count_append, List.map_cons, List.map_nil, List.count_singleton]; congr 1; simp only [beq_iff_eq]
      have hb : ((h.q.take i).map Tk.who).count who ≤ i := by
        have := List.count_le_length (a := who) (l := (h.q.take i).map Tk.who); rw [List.length_map, List.length_take] at this; omega
      have hb2 : (h.cl.map Cl.who).count who ≤ h.cl.length := by
        have := List.count_le_length (a := who) (l := h.cl.map Cl.who); simpa using this
      by_cases he : h.q[i].who = who
      · rw [if_pos he] at hc
        simp -implicitDefEqProofs only [↓aP, aQ, ↓reduceIte, Nat.reduceEqDiff, Nat.reduceAdd, Nat.reduceSub, Nat.reduceMul, Nat.reduceLT, Nat.reduceLeDiff, reduceCtorEq, Nat.reduceBEq, forall_const, implies_true, exists_const, ne_eq, Int.reduceAdd, Int.reduceSub, Int.reduceMul, Int.reduceBEq, Int.reduceEq, Int.reduceLT, Int.reduceLE, Int.reduceToNat, Int.reduceNeg, Int.reduceBNe, hlt, s1, s2, g2, b2, s5, s7, encHa, askIdx_map, hi, encTk, List.length_map, show (h.q[i].who == who) = true by simpa using he, wrapS (show (h.cl.map Cl.who).count who + ((h.q.take i).map Tk.who).count who < 4611686018427387904 by omega), wrapS (show i < 4611686018427387904 by omega)]
        refine nextR hi him ?_
        simp -implicitDefEqProofs only [↓aP, aQ, ↓reduceIte, Nat.reduceEqDiff, Nat.reduceAdd, Nat.reduceSub, Nat.reduceMul, Nat.reduceLT, Nat.reduceLeDiff, reduceCtorEq, Nat.reduceBEq, forall_const, implies_true, exists_const, ne_eq, Int.reduceAdd, Int.reduceSub, Int.reduceMul, Int.reduceBEq, Int.reduceEq, Int.reduceLT, Int.reduceLE, Int.reduceToNat, Int.reduceNeg, Int.reduceBNe, s1, s2, g2, b2, s5, s7, encHa, hc, Nat.add_assoc]
      · rw [if_neg he, Nat.add_zero] at hc
        simp -implicitDefEqProofs only [↓aP, aQ, ↓reduceIte, Nat.reduceEqDiff, Nat.reduceAdd, Nat.reduceSub, Nat.reduceMul, Nat.reduceLT, Nat.reduceLeDiff, reduceCtorEq, Nat.reduceBEq, forall_const, implies_true, exists_const, ne_eq, Int.reduceAdd, Int.reduceSub, Int.reduceMul, Int.reduceBEq, Int.reduceEq, Int.reduceLT, Int.reduceLE, Int.reduceToNat, Int.reduceNeg, Int.reduceBNe, hlt, s1, s2, g2, b2, s5, s7, encHa, askIdx_map, hi, encTk, List.length_map, show (h.q[i].who == who) = false by simpa using he, wrapS (show i < 4611686018427387904 by omega)]
        refine nextR hi him ?_
        simp -implicitDefEqProofs only [↓aP, aQ, ↓reduceIte, Nat.reduceEqDiff, Nat.reduceAdd, Nat.reduceSub, Nat.reduceMul, Nat.reduceLT, Nat.reduceLeDiff, reduceCtorEq, Nat.reduceBEq, forall_const, implies_true, exists_const, ne_eq, Int.reduceAdd, Int.reduceSub, Int.reduceMul, Int.reduceBEq, Int.reduceEq, Int.reduceLT, Int.reduceLE, Int.reduceToNat, Int.reduceNeg, Int.reduceBNe, s1, s2, g2, b2, s5, s7, encHa, hc]
    · clear hlt s1 s2 g2 b2 s5 s6
      rintro k σ hlt ⟨s1, s2, g2, b2, s5, s7⟩
      rw [List.take_length] at s5
      simp -implicitDefEqProofs only [↓aP, aQ, ↓reduceIte, Nat.reduceEqDiff, Nat.reduceAdd, Nat.reduceSub, Nat.reduceMul, Nat.reduceLT, Nat.reduceLeDiff, reduceCtorEq, Nat.reduceBEq, forall_const, implies_true, exists_const, ne_eq, Int.reduceAdd, Int.reduceSub, Int.reduceMul, Int.reduceBEq, Int.reduceEq, Int.reduceLT, Int.reduceLE, Int.reduceToNat, Int.reduceNeg, Int.reduceBNe, hlt, s1, s2, g2, b2, s5, s7, encHa, List.length_map, Ad.inN, Ad.whos, List.count_append]

theorem held_spec (h : Ha) (hf : FineH h) : Spec Try.prog 22 [.agg (encHa h)] (.val (rI (Ad.heldS h.cl))) := by
  refine spec_val mixed fn22 (by simp) ?_
  unfold ac22
  obtain ⟨f1, f2, f3, f4, f5⟩ := hf
  simp -implicitDefEqProofs only [↓aP, aQ, ↓reduceIte, Nat.reduceEqDiff, Nat.reduceAdd, Nat.reduceSub, Nat.reduceMul, Nat.reduceLT, Nat.reduceLeDiff, reduceCtorEq, Nat.reduceBEq, forall_const, implies_true, exists_const, ne_eq, Int.reduceAdd, Int.reduceSub, Int.reduceMul, Int.reduceBEq, Int.reduceEq, Int.reduceLT, Int.reduceLE, Int.reduceToNat, Int.reduceNeg, Int.reduceBNe, encHa]
  refine rangeB h.cl.length (fun i σ => σ.slot 1 = .c (.ptr 1 1 0 0) ∧ σ.h.gen 1 = 1 ∧ σ.h.blk 1 = .box 29 4 [(encHa h).map AC.s] ∧ σ.slot 3 = vI (Ad.heldS (h.cl.take i)) ∧ σ.slot 4 = vI i) ?_ ?_ ?_
  · simp -implicitDefEqProofs only [↓aP, aQ, ↓reduceIte, Nat.reduceEqDiff, Nat.reduceAdd, Nat.reduceSub, Nat.reduceMul, Nat.reduceLT, Nat.reduceLeDiff, reduceCtorEq, Nat.reduceBEq, forall_const, implies_true, exists_const, ne_eq, Int.reduceAdd, Int.reduceSub, Int.reduceMul, Int.reduceBEq, Int.reduceEq, Int.reduceLT, Int.reduceLE, Int.reduceToNat, Int.reduceNeg, Int.reduceBNe, encHa, List.take_zero, show Ad.heldS [] = 0 from rfl]
  · rintro i m σ him hi hlt ⟨s1, g1, b1, s3, s4⟩
    have hb := take_bd f4 i f3
    have hc := f4 h.cl[i] (List.getElem_mem hi)
    have w : IntKind.i64.wrap (Ad.heldS (h.cl.take i) + h.cl[i].held) = Ad.heldS (h.cl.take (i + 1)) := by rw [wrapI (by omega), held_succ hi]
    simp -implicitDefEqProofs only [↓aP, aQ, ↓reduceIte, Nat.reduceEqDiff, Nat.reduceAdd, Nat.reduceSub, Nat.reduceMul, Nat.reduceLT, Nat.reduceLeDiff, reduceCtorEq, Nat.reduceBEq, forall_const, implies_true, exists_const, ne_eq, Int.reduceAdd, Int.reduceSub, Int.reduceMul, Int.reduceBEq, Int.reduceEq, Int.reduceLT, Int.reduceLE, Int.reduceToNat, Int.reduceNeg, Int.reduceBNe, hlt, s1, g1, b1, s3, s4, encHa, askIdx_map, hi, encCl, List.length_map, w, wrapS (show i < 4611686018427387904 by omega)]
    refine nextR hi him ?_
    simp -implicitDefEqProofs only [↓aP, aQ, ↓reduceIte, Nat.reduceEqDiff, Nat.reduceAdd, Nat.reduceSub, Nat.reduceMul, Nat.reduceLT, Nat.reduceLeDiff, reduceCtorEq, Nat.reduceBEq, forall_const, implies_true, exists_const, ne_eq, Int.reduceAdd, Int.reduceSub, Int.reduceMul, Int.reduceBEq, Int.reduceEq, Int.reduceLT, Int.reduceLE, Int.reduceToNat, Int.reduceNeg, Int.reduceBNe, s1, g1, b1, s3, s4, encHa]
  · rintro m σ hlt ⟨s1, g1, b1, s3, s4⟩
    rw [List.take_length] at s3
    simp -implicitDefEqProofs only [↓aP, aQ, ↓reduceIte, Nat.reduceEqDiff, Nat.reduceAdd, Nat.reduceSub, Nat.reduceMul, Nat.reduceLT, Nat.reduceLeDiff, reduceCtorEq, Nat.reduceBEq, forall_const, implies_true, exists_const, ne_eq, Int.reduceAdd, Int.reduceSub, Int.reduceMul, Int.reduceBEq, Int.reduceEq, Int.reduceLT, Int.reduceLE, Int.reduceToNat, Int.reduceNeg, Int.reduceBNe, hlt, s1, g1, b1, s3, s4, encHa, List.length_map]

theorem rmay_spec (h : Ha) (hf : FineH h) : Spec Try.prog 65 [.agg (encHa h)] (.val (rB (Ad.may h))) := by
  refine spec_val mixed fn65 (by simp) ?_
  unfold ac65
  obtain ⟨fr, bu, cl, q⟩ := h
  obtain ⟨f1, f2, f3, f4, f5⟩ := hf
  simp only at f1 f2 f3 f4 f5
  cases q with
  | nil => simp -implicitDefEqProofs only [↓aP, aQ, ↓reduceIte, Nat.reduceEqDiff, Nat.reduceAdd, Nat.reduceSub, Nat.reduceMul, Nat.reduceLT, Nat.reduceLeDiff, reduceCtorEq, Nat.reduceBEq, forall_const, implies_true, exists_const, ne_eq, Int.reduceAdd, Int.reduceSub, Int.reduceMul, Int.reduceBEq, Int.reduceEq, Int.reduceLT, Int.reduceLE, Int.reduceToNat, Int.reduceNeg, Int.reduceBNe, encHa, List.length_map, List.map_nil, List.length_nil, Ad.may]
  | cons t q =>
    have ht := f5 t (by simp)
    have e0 : (((q.length + 1 : Nat) : Int) == 0) = false := by simp; omega
    by_cases h8 : 8 ≤ cl.length
    · have em : Ad.may ⟨fr, bu, cl, t :: q⟩ = false := by simp only [Ad.may, decide_eq_false_iff_not]; omega
      rw [em]
      simp -implicitDefEqProofs only [↓aP, aQ, ↓reduceIte, Nat.reduceEqDiff, Nat.reduceAdd, Nat.reduceSub, Nat.reduceMul, Nat.reduceLT, Nat.reduceLeDiff, reduceCtorEq, Nat.reduceBEq, forall_const, implies_true, exists_const, ne_eq, Int.reduceAdd, Int.reduceSub, Int.reduceMul, Int.reduceBEq, Int.reduceEq, Int.reduceLT, Int.reduceLE, Int.reduceToNat, Int.reduceNeg, Int.reduceBNe, encHa, List.length_map, List.map_cons, List.length_cons, e0, show decide ((7 : Int) < (cl.length : Int)) = true by simp; omega]
    simp -implicitDefEqProofs only [↓aP, aQ, ↓reduceIte, Nat.reduceEqDiff, Nat.reduceAdd, Nat.reduceSub, Nat.reduceMul, Nat.reduceLT, Nat.reduceLeDiff, reduceCtorEq, Nat.reduceBEq, forall_const, implies_true, exists_const, ne_eq, Int.reduceAdd, Int.reduceSub, Int.reduceMul, Int.reduceBEq, Int.reduceEq, Int.reduceLT, Int.reduceLE, Int.reduceToNat, Int.reduceNeg, Int.reduceBNe, encHa, encTk, List.length_map, List.map_cons, List.length_cons, e0, show decide ((7 : Int) < (cl.length : Int)) = false by simp; omega]
    refine rangeB cl.length (fun i σ => σ.slot 1 = .c (.ptr 1 1 0 0) ∧ σ.h.gen 1 = 1 ∧ σ.h.blk 1 = .box 29 4 [(encHa ⟨fr, bu, cl, t :: q⟩).map AC.s] ∧ σ.slot 3 = vI (t.claim + Ad.claimS (cl.take i)) ∧ σ.slot 4 = vI i) ?_ ?_ ?_
    · simp -implicitDefEqProofs only [↓aP, aQ, ↓reduceIte, Nat.reduceEqDiff, Nat.reduceAdd, Nat.reduceSub, Nat.reduceMul, Nat.reduceLT, Nat.reduceLeDiff, reduceCtorEq, Nat.reduceBEq, forall_const, implies_true, exists_const, ne_eq, Int.reduceAdd, Int.reduceSub, Int.reduceMul, Int.reduceBEq, Int.reduceEq, Int.reduceLT, Int.reduceLE, Int.reduceToNat, Int.reduceNeg, Int.reduceBNe, encHa, encTk, List.map_cons, List.length_map, List.take_zero, show Ad.claimS [] = 0 from rfl, Int.add_zero]
    · rintro i m σ him hi hlt ⟨s1, g1, b1, s3, s4⟩
      have hb := take_bd f4 i f3
      have hc := f4 cl[i] (List.getElem_mem hi)
      have w : IntKind.i64.wrap (t.claim + Ad.claimS (cl.take i) + cl[i].claim) = t.claim + Ad.claimS (cl.take (i + 1)) := by rw [wrapI (by omega), claim_succ hi]; omega
      simp -implicitDefEqProofs only [↓aP, aQ, ↓reduceIte, Nat.reduceEqDiff, Nat.reduceAdd, Nat.reduceSub, Nat.reduceMul, Nat.reduceLT, Nat.reduceLeDiff, reduceCtorEq, Nat.reduceBEq, forall_const, implies_true, exists_const, ne_eq, Int.reduceAdd, Int.reduceSub, Int.reduceMul, Int.reduceBEq, Int.reduceEq, Int.reduceLT, Int.reduceLE, Int.reduceToNat, Int.reduceNeg, Int.reduceBNe, hlt, s1, g1, b1, s3, s4, askIdx_map, hi, encHa, encCl, List.length_map, w, wrapS (show i < 4611686018427387904 by omega)]
      refine nextR hi him ?_
      simp -implicitDefEqProofs only [↓aP, aQ, ↓reduceIte, Nat.reduceEqDiff, Nat.reduceAdd, Nat.reduceSub, Nat.reduceMul, Nat.reduceLT, Nat.reduceLeDiff, reduceCtorEq, Nat.reduceBEq, forall_const, implies_true, exists_const, ne_eq, Int.reduceAdd, Int.reduceSub, Int.reduceMul, Int.reduceBEq, Int.reduceEq, Int.reduceLT, Int.reduceLE, Int.reduceToNat, Int.reduceNeg, Int.reduceBNe, s1, g1, b1, s3, s4, encHa]
    · rintro m σ hlt ⟨s1, g1, b1, s3, s4⟩
      rw [List.take_length] at s3
      have em : Ad.may ⟨fr, bu, cl, t :: q⟩ = decide (t.claim + Ad.claimS cl ≤ 2 * fr) := by simp only [Ad.may]; rw [decide_eq_decide]; omega
      simp -implicitDefEqProofs only [↓aP, aQ, ↓reduceIte, Nat.reduceEqDiff, Nat.reduceAdd, Nat.reduceSub, Nat.reduceMul, Nat.reduceLT, Nat.reduceLeDiff, reduceCtorEq, Nat.reduceBEq, forall_const, implies_true, exists_const, ne_eq, Int.reduceAdd, Int.reduceSub, Int.reduceMul, Int.reduceBEq, Int.reduceEq, Int.reduceLT, Int.reduceLE, Int.reduceToNat, Int.reduceNeg, Int.reduceBNe, hlt, s1, g1, b1, s3, s4, encHa, List.length_map, em, show IntKind.i64.wrap (2 * fr) = 2 * fr from wrapI (by omega)]
theorem rSafe_spec (h : Ha) (hf : FineH h) (hr : Bk.right h.cl = true) : Spec Try.prog 66 [.agg (encHa h)] (.val (rB (Bk.safe (h.fr - Ad.heldS h.cl) h.cl))) := by
  refine spec_val mixed fn66 (by simp) ?_
  unfold ac66
  obtain ⟨f1, f2, f3, f4, f5⟩ := hf
  have hb := held_bd f4
  have w : IntKind.i64.wrap (h.fr - Ad.heldS h.cl) = h.fr - Ad.heldS h.cl := wrapI (by omega)
  simp -implicitDefEqProofs only [↓aP, aQ, ↓reduceIte, Nat.reduceEqDiff, Nat.reduceAdd, Nat.reduceSub, Nat.reduceMul, Nat.reduceLT, Nat.reduceLeDiff, reduceCtorEq, Nat.reduceBEq, forall_const, implies_true, exists_const, ne_eq, Int.reduceAdd, Int.reduceSub, Int.reduceMul, Int.reduceBEq, Int.reduceEq, Int.reduceLT, Int.reduceLE, Int.reduceToNat, Int.reduceNeg, Int.reduceBNe, encHa]
  refine ask (held_spec h ⟨f1, f2, f3, f4, f5⟩) ?_
  simp -implicitDefEqProofs only [↓aP, aQ, ↓reduceIte, Nat.reduceEqDiff, Nat.reduceAdd, Nat.reduceSub, Nat.reduceMul, Nat.reduceLT, Nat.reduceLeDiff, reduceCtorEq, Nat.reduceBEq, forall_const, implies_true, exists_const, ne_eq, Int.reduceAdd, Int.reduceSub, Int.reduceMul, Int.reduceBEq, Int.reduceEq, Int.reduceLT, Int.reduceLE, Int.reduceToNat, Int.reduceNeg, Int.reduceBNe, encHa, w]
  by_cases h0 : 0 ≤ h.fr - Ad.heldS h.cl
  · simp -implicitDefEqProofs only [↓aP, aQ, ↓reduceIte, Nat.reduceEqDiff, Nat.reduceAdd, Nat.reduceSub, Nat.reduceMul, Nat.reduceLT, Nat.reduceLeDiff, reduceCtorEq, Nat.reduceBEq, forall_const, implies_true, exists_const, ne_eq, Int.reduceAdd, Int.reduceSub, Int.reduceMul, Int.reduceBEq, Int.reduceEq, Int.reduceLT, Int.reduceLE, Int.reduceToNat, Int.reduceNeg, Int.reduceBNe, decide_eq_true h0, encHa]
    refine ⟨by decide +kernel, ?_⟩
    refine ask (rOrder_spec (h.fr - Ad.heldS h.cl) h.cl f3 h0 (by omega) (Bk.good_of_right hr).1) ?_
    simp -implicitDefEqProofs only [↓aP, aQ, ↓reduceIte, Nat.reduceEqDiff, Nat.reduceAdd, Nat.reduceSub, Nat.reduceMul, Nat.reduceLT, Nat.reduceLeDiff, reduceCtorEq, Nat.reduceBEq, forall_const, implies_true, exists_const, ne_eq, Int.reduceAdd, Int.reduceSub, Int.reduceMul, Int.reduceBEq, Int.reduceEq, Int.reduceLT, Int.reduceLE, Int.reduceToNat, Int.reduceNeg, Int.reduceBNe, encHa, List.length_map]
    refine ⟨by decide +kernel, ?_⟩
    unfold Bk.safe Bk.inRange
    rw [hr, decide_eq_true h0, decide_eq_true (show h.fr - Ad.heldS h.cl ≤ 1000 by omega), Bool.true_and, Bool.true_and, Bool.true_and, Bool.eq_iff_iff, beq_iff_eq, decide_eq_true_iff]
    omega
  · have e : Bk.safe (h.fr - Ad.heldS h.cl) h.cl = false := by unfold Bk.safe Bk.inRange; rw [decide_eq_false h0]; simp
    simp -implicitDefEqProofs only [↓aP, aQ, ↓reduceIte, Nat.reduceEqDiff, Nat.reduceAdd, Nat.reduceSub, Nat.reduceMul, Nat.reduceLT, Nat.reduceLeDiff, reduceCtorEq, Nat.reduceBEq, forall_const, implies_true, exists_const, ne_eq, Int.reduceAdd, Int.reduceSub, Int.reduceMul, Int.reduceBEq, Int.reduceEq, Int.reduceLT, Int.reduceLE, Int.reduceToNat, Int.reduceNeg, Int.reduceBNe, decide_eq_false h0, e]
    decide +kernel


theorem rRight_spec (h : Ha) (hl : h.cl.length + h.q.length ≤ 1000000) : Spec Try.prog 21 [.agg (encHa h)] (.val (rB (Ad.right h))) := by
  refine spec_val mixed fn21 (by simp) ?_
  unfold ac21
  have w : IntKind.i64.wrap ((h.cl.length : Int) + (h.q.length : Int)) = ((h.cl.length + h.q.length : Nat) : Int) := by rw [wrapI (by omega)]; omega
  by_cases hz : Ad.size h = true
  case neg =>
    have e : Ad.right h = false := by unfold Ad.right; rw [Bool.eq_false_iff.2 hz]; rfl
    have hz2 : ¬ (1 ≤ h.fr ∧ h.fr ≤ 8 ∧ 1 ≤ h.bu ∧ h.bu ≤ 100) := fun hh => hz (Ad.size_iff.2 hh)
    by_cases x1 : h.fr < 1
    · simp -implicitDefEqProofs only [↓aP, aQ, ↓reduceIte, Nat.reduceEqDiff, Nat.reduceAdd, Nat.reduceSub, Nat.reduceMul, Nat.reduceLT, Nat.reduceLeDiff, reduceCtorEq, Nat.reduceBEq, forall_const, implies_true, exists_const, ne_eq, Int.reduceAdd, Int.reduceSub, Int.reduceMul, Int.reduceBEq, Int.reduceEq, Int.reduceLT, Int.reduceLE, Int.reduceToNat, Int.reduceNeg, Int.reduceBNe, encHa, decide_eq_true x1, e]
    by_cases x2 : (8 : Int) < h.fr
    · simp -implicitDefEqProofs only [↓aP, aQ, ↓reduceIte, Nat.reduceEqDiff, Nat.reduceAdd, Nat.reduceSub, Nat.reduceMul, Nat.reduceLT, Nat.reduceLeDiff, reduceCtorEq, Nat.reduceBEq, forall_const, implies_true, exists_const, ne_eq, Int.reduceAdd, Int.reduceSub, Int.reduceMul, Int.reduceBEq, Int.reduceEq, Int.reduceLT, Int.reduceLE, Int.reduceToNat, Int.reduceNeg, Int.reduceBNe, encHa, decide_eq_false x1, decide_eq_true x2, e]
    by_cases x3 : h.bu < 1
    · simp -implicitDefEqProofs only [↓aP, aQ, ↓reduceIte, Nat.reduceEqDiff, Nat.reduceAdd, Nat.reduceSub, Nat.reduceMul, Nat.reduceLT, Nat.reduceLeDiff, reduceCtorEq, Nat.reduceBEq, forall_const, implies_true, exists_const, ne_eq, Int.reduceAdd, Int.reduceSub, Int.reduceMul, Int.reduceBEq, Int.reduceEq, Int.reduceLT, Int.reduceLE, Int.reduceToNat, Int.reduceNeg, Int.reduceBNe, encHa, decide_eq_false x1, decide_eq_false x2, decide_eq_true x3, e]
    have x4 : (100 : Int) < h.bu := by omega
    simp -implicitDefEqProofs only [↓aP, aQ, ↓reduceIte, Nat.reduceEqDiff, Nat.reduceAdd, Nat.reduceSub, Nat.reduceMul, Nat.reduceLT, Nat.reduceLeDiff, reduceCtorEq, Nat.reduceBEq, forall_const, implies_true, exists_const, ne_eq, Int.reduceAdd, Int.reduceSub, Int.reduceMul, Int.reduceBEq, Int.reduceEq, Int.reduceLT, Int.reduceLE, Int.reduceToNat, Int.reduceNeg, Int.reduceBNe, encHa, decide_eq_false x1, decide_eq_false x2, decide_eq_false x3, decide_eq_true x4, e]
  have hz2 := Ad.size_iff.1 hz
  simp -implicitDefEqProofs only [↓aP, aQ, ↓reduceIte, Nat.reduceEqDiff, Nat.reduceAdd, Nat.reduceSub, Nat.reduceMul, Nat.reduceLT, Nat.reduceLeDiff, reduceCtorEq, Nat.reduceBEq, forall_const, implies_true, exists_const, ne_eq, Int.reduceAdd, Int.reduceSub, Int.reduceMul, Int.reduceBEq, Int.reduceEq, Int.reduceLT, Int.reduceLE, Int.reduceToNat, Int.reduceNeg, Int.reduceBNe, encHa, show decide (h.fr < 1) = false by simp; omega, show decide ((8 : Int) < h.fr) = false by simp; omega, show decide (h.bu < 1) = false by simp; omega, show decide ((100 : Int) < h.bu) = false by simp; omega, List.length_map, w]
  by_cases h40 : 40 < h.cl.length + h.q.length
  · have e : Ad.right h = false := by unfold Ad.right; rw [show decide (h.cl.length + h.q.length ≤ 40) = false by simp; omega, Bool.and_false]; rfl
    simp -implicitDefEqProofs only [↓aP, aQ, ↓reduceIte, Nat.reduceEqDiff, Nat.reduceAdd, Nat.reduceSub, Nat.reduceMul, Nat.reduceLT, Nat.reduceLeDiff, reduceCtorEq, Nat.reduceBEq, forall_const, implies_true, exists_const, ne_eq, Int.reduceAdd, Int.reduceSub, Int.reduceMul, Int.reduceBEq, Int.reduceEq, Int.reduceLT, Int.reduceLE, Int.reduceToNat, Int.reduceNeg, Int.reduceBNe, show decide ((40 : Int) < ((h.cl.length + h.q.length : Nat) : Int)) = true by simp; omega, e]
  simp -implicitDefEqProofs only [↓aP, aQ, ↓reduceIte, Nat.reduceEqDiff, Nat.reduceAdd, Nat.reduceSub, Nat.reduceMul, Nat.reduceLT, Nat.reduceLeDiff, reduceCtorEq, Nat.reduceBEq, forall_const, implies_true, exists_const, ne_eq, Int.reduceAdd, Int.reduceSub, Int.reduceMul, Int.reduceBEq, Int.reduceEq, Int.reduceLT, Int.reduceLE, Int.reduceToNat, Int.reduceNeg, Int.reduceBNe, encHa, show decide ((40 : Int) < ((h.cl.length + h.q.length : Nat) : Int)) = false by simp; omega]
  refine ask (rRight10_spec h.cl (by omega)) ?_
  cases hb : Bk.right h.cl
  · have e : Ad.right h = false := by unfold Ad.right; rw [hb, Bool.and_false]; rfl
    simp -implicitDefEqProofs only [↓aP, aQ, ↓reduceIte, Nat.reduceEqDiff, Nat.reduceAdd, Nat.reduceSub, Nat.reduceMul, Nat.reduceLT, Nat.reduceLeDiff, reduceCtorEq, Nat.reduceBEq, forall_const, implies_true, exists_const, ne_eq, Int.reduceAdd, Int.reduceSub, Int.reduceMul, Int.reduceBEq, Int.reduceEq, Int.reduceLT, Int.reduceLE, Int.reduceToNat, Int.reduceNeg, Int.reduceBNe, e]
  have eR := Ad.right_ref (h := h)
  rw [hz, hb, show decide (h.cl.length + h.q.length ≤ 40) = true by simp; omega, Bool.true_and, Bool.true_and] at eR
  simp -implicitDefEqProofs only [↓aP, aQ, ↓reduceIte, Nat.reduceEqDiff, Nat.reduceAdd, Nat.reduceSub, Nat.reduceMul, Nat.reduceLT, Nat.reduceLeDiff, reduceCtorEq, Nat.reduceBEq, forall_const, implies_true, exists_const, ne_eq, Int.reduceAdd, Int.reduceSub, Int.reduceMul, Int.reduceBEq, Int.reduceEq, Int.reduceLT, Int.reduceLE, Int.reduceToNat, Int.reduceNeg, Int.reduceBNe]
  refine rangeB h.cl.length (fun i σ => (∀ c ∈ h.cl.take i, Ad.okClaim h.fr h.bu c.claim = true ∧ Ad.inN h c.who = 1) ∧ σ.slot 1 = .c (.ptr 1 1 0 0) ∧ σ.h.gen 1 = 1 ∧ σ.h.blk 1 = .box 29 4 [(encHa h).map AC.s] ∧ σ.slot 3 = vI i) ?_ ?_ ?_
  · simp -implicitDefEqProofs only [↓aP, aQ, ↓reduceIte, Nat.reduceEqDiff, Nat.reduceAdd, Nat.reduceSub, Nat.reduceMul, Nat.reduceLT, Nat.reduceLeDiff, reduceCtorEq, Nat.reduceBEq, forall_const, implies_true, exists_const, ne_eq, Int.reduceAdd, Int.reduceSub, Int.reduceMul, Int.reduceBEq, Int.reduceEq, Int.reduceLT, Int.reduceLE, Int.reduceToNat, Int.reduceNeg, Int.reduceBNe, encHa, List.take_zero]
    simp
  · rintro i m σ him hi hlt ⟨hok, s1, g1, b1, s3⟩
    have no : (Ad.okClaim h.fr h.bu h.cl[i].claim && decide (Ad.inN h h.cl[i].who = 1)) = false → Ad.right h = false := fun hh => by
      have : h.cl.all (fun c => Ad.okClaim h.fr h.bu c.claim && decide (Ad.inN h c.who = 1)) = false := by rw [List.all_eq_false]; exact ⟨_, List.getElem_mem hi, by simp only [hh]; simp⟩
      rw [eR, this]; rfl
    by_cases x1 : h.cl[i].claim < 1
    · have eno := no (by rw [show Ad.okClaim h.fr h.bu h.cl[i].claim = false by unfold Ad.okClaim; rw [decide_eq_false_iff_not]; omega]; rfl)
      simp -implicitDefEqProofs only [↓aP, aQ, ↓reduceIte, Nat.reduceEqDiff, Nat.reduceAdd, Nat.reduceSub, Nat.reduceMul, Nat.reduceLT, Nat.reduceLeDiff, reduceCtorEq, Nat.reduceBEq, forall_const, implies_true, exists_const, ne_eq, Int.reduceAdd, Int.reduceSub, Int.reduceMul, Int.reduceBEq, Int.reduceEq, Int.reduceLT, Int.reduceLE, Int.reduceToNat, Int.reduceNeg, Int.reduceBNe, hlt, s1, g1, b1, s3, encHa, askIdx_map, hi, encCl, List.length_map, decide_eq_true x1, eno]
      decide +kernel
    simp -implicitDefEqProofs only [↓aP, aQ, ↓reduceIte, Nat.reduceEqDiff, Nat.reduceAdd, Nat.reduceSub, Nat.reduceMul, Nat.reduceLT, Nat.reduceLeDiff, reduceCtorEq, Nat.reduceBEq, forall_const, implies_true, exists_const, ne_eq, Int.reduceAdd, Int.reduceSub, Int.reduceMul, Int.reduceBEq, Int.reduceEq, Int.reduceLT, Int.reduceLE, Int.reduceToNat, Int.reduceNeg, Int.reduceBNe, hlt, s1, g1, b1, s3, encHa, askIdx_map, hi, encCl, List.length_map, decide_eq_false x1]
    refine ask (least_spec h) ?_
    by_cases x2 : min h.fr h.bu < h.cl[i].claim
    · have eno := no (by rw [show Ad.okClaim h.fr h.bu h.cl[i].claim = false by unfold Ad.okClaim; rw [decide_eq_false_iff_not]; omega]; rfl)
      simp -implicitDefEqProofs only [↓aP, aQ, ↓reduceIte, Nat.reduceEqDiff, Nat.reduceAdd, Nat.reduceSub, Nat.reduceMul, Nat.reduceLT, Nat.reduceLeDiff, reduceCtorEq, Nat.reduceBEq, forall_const, implies_true, exists_const, ne_eq, Int.reduceAdd, Int.reduceSub, Int.reduceMul, Int.reduceBEq, Int.reduceEq, Int.reduceLT, Int.reduceLE, Int.reduceToNat, Int.reduceNeg, Int.reduceBNe, decide_eq_true x2, eno]
      decide +kernel
    simp -implicitDefEqProofs only [↓aP, aQ, ↓reduceIte, Nat.reduceEqDiff, Nat.reduceAdd, Nat.reduceSub, Nat.reduceMul, Nat.reduceLT, Nat.reduceLeDiff, reduceCtorEq, Nat.reduceBEq, forall_const, implies_true, exists_const, ne_eq, Int.reduceAdd, Int.reduceSub, Int.reduceMul, Int.reduceBEq, Int.reduceEq, Int.reduceLT, Int.reduceLE, Int.reduceToNat, Int.reduceNeg, Int.reduceBNe, s1, g1, b1, s3, encHa, decide_eq_false x2]
    refine ask (in_spec h h.cl[i].who hl) ?_
    have hcl : Ad.okClaim h.fr h.bu h.cl[i].claim = true := by unfold Ad.okClaim; rw [decide_eq_true_iff]; omega
    by_cases x3 : Ad.inN h h.cl[i].who = 1
    · simp -implicitDefEqProofs only [↓aP, aQ, ↓reduceIte, Nat.reduceEqDiff, Nat.reduceAdd, Nat.reduceSub, Nat.reduceMul, Nat.reduceLT, Nat.reduceLeDiff, reduceCtorEq, Nat.reduceBEq, forall_const, implies_true, exists_const, ne_eq, Int.reduceAdd, Int.reduceSub, Int.reduceMul, Int.reduceBEq, Int.reduceEq, Int.reduceLT, Int.reduceLE, Int.reduceToNat, Int.reduceNeg, Int.reduceBNe, s1, g1, b1, s3, show (((Ad.inN h h.cl[i].who : Nat) : Int) != 1) = false by rw [x3]; rfl, wrapS (show i < 4611686018427387904 by omega)]
      refine ⟨by decide +kernel, ?_⟩
      refine nextR hi him ⟨?_, ?_⟩
      · rw [take_snoc hi]
        intro x hx
        rcases List.mem_append.1 hx with hx | hx
        · exact hok x hx
        · rw [List.mem_singleton.1 hx]; exact ⟨hcl, x3⟩
      · simp -implicitDefEqProofs only [↓aP, aQ, ↓reduceIte, Nat.reduceEqDiff, Nat.reduceAdd, Nat.reduceSub, Nat.reduceMul, Nat.reduceLT, Nat.reduceLeDiff, reduceCtorEq, Nat.reduceBEq, forall_const, implies_true, exists_const, ne_eq, Int.reduceAdd, Int.reduceSub, Int.reduceMul, Int.reduceBEq, Int.reduceEq, Int.reduceLT, Int.reduceLE, Int.reduceToNat, Int.reduceNeg, Int.reduceBNe, s1, g1, b1, s3, encHa]
    · have eno := no (by rw [decide_eq_false x3, Bool.and_false])
      simp -implicitDefEqProofs only [↓aP, aQ, ↓reduceIte, Nat.reduceEqDiff, Nat.reduceAdd, Nat.reduceSub, Nat.reduceMul, Nat.reduceLT, Nat.reduceLeDiff, reduceCtorEq, Nat.reduceBEq, forall_const, implies_true, exists_const, ne_eq, Int.reduceAdd, Int.reduceSub, Int.reduceMul, Int.reduceBEq, Int.reduceEq, Int.reduceLT, Int.reduceLE, Int.reduceToNat, Int.reduceNeg, Int.reduceBNe, s1, g1, b1, s3, show (((Ad.inN h h.cl[i].who : Nat) : Int) != 1) = true by rw [bne_iff_ne]; omega, eno]
      decide +kernel
  · rintro m σ hlt ⟨hok, s1, g1, b1, s3⟩
    rw [List.take_length] at hok
    rw [show h.cl.all (fun c => Ad.okClaim h.fr h.bu c.claim && decide (Ad.inN h c.who = 1)) = true by
      rw [List.all_eq_true]; intro c hc; obtain ⟨a, b⟩ := hok c hc; rw [a, decide_eq_true b]; rfl, Bool.true_and] at eR
    simp -implicitDefEqProofs only [↓aP, aQ, ↓reduceIte, Nat.reduceEqDiff, Nat.reduceAdd, Nat.reduceSub, Nat.reduceMul, Nat.reduceLT, Nat.reduceLeDiff, reduceCtorEq, Nat.reduceBEq, forall_const, implies_true, exists_const, ne_eq, Int.reduceAdd, Int.reduceSub, Int.reduceMul, Int.reduceBEq, Int.reduceEq, Int.reduceLT, Int.reduceLE, Int.reduceToNat, Int.reduceNeg, Int.reduceBNe, hlt, s1, g1, b1, s3, encHa, List.length_map]
    refine rangeB h.q.length (fun i σ => (∀ t ∈ h.q.take i, (Ad.okWho t.who = true ∧ Ad.okClaim h.fr h.bu t.claim = true) ∧ Ad.inN h t.who = 1) ∧ σ.slot 1 = .c (.ptr 1 1 0 0) ∧ σ.h.gen 1 = 1 ∧ σ.h.blk 1 = .box 29 4 [(encHa h).map AC.s] ∧ σ.slot 5 = vI i) ?_ ?_ ?_
    · simp -implicitDefEqProofs only [↓aP, aQ, ↓reduceIte, Nat.reduceEqDiff, Nat.reduceAdd, Nat.reduceSub, Nat.reduceMul, Nat.reduceLT, Nat.reduceLeDiff, reduceCtorEq, Nat.reduceBEq, forall_const, implies_true, exists_const, ne_eq, Int.reduceAdd, Int.reduceSub, Int.reduceMul, Int.reduceBEq, Int.reduceEq, Int.reduceLT, Int.reduceLE, Int.reduceToNat, Int.reduceNeg, Int.reduceBNe, s1, g1, b1, s3, encHa, List.take_zero]
      simp
    · clear hlt s1 g1 b1 s3
      rintro i k σ him hi hlt ⟨hokq, s1, g1, b1, s5⟩
      have no : (Ad.okWho h.q[i].who && Ad.okClaim h.fr h.bu h.q[i].claim && decide (Ad.inN h h.q[i].who = 1)) = false → Ad.right h = false := fun hh => by
        have : h.q.all (fun t => Ad.okWho t.who && Ad.okClaim h.fr h.bu t.claim && decide (Ad.inN h t.who = 1)) = false := by rw [List.all_eq_false]; exact ⟨_, List.getElem_mem hi, by simp only [hh]; simp⟩
        rw [eR, this]; rfl
      by_cases y1 : h.q[i].who < 0
      · have eno := no (by rw [show Ad.okWho h.q[i].who = false by unfold Ad.okWho; rw [decide_eq_false_iff_not]; omega]; rfl)
        simp -implicitDefEqProofs only [↓aP, aQ, ↓reduceIte, Nat.reduceEqDiff, Nat.reduceAdd, Nat.reduceSub, Nat.reduceMul, Nat.reduceLT, Nat.reduceLeDiff, reduceCtorEq, Nat.reduceBEq, forall_const, implies_true, exists_const, ne_eq, Int.reduceAdd, Int.reduceSub, Int.reduceMul, Int.reduceBEq, Int.reduceEq, Int.reduceLT, Int.reduceLE, Int.reduceToNat, Int.reduceNeg, Int.reduceBNe, hlt, s1, g1, b1, s5, encHa, askIdx_map, hi, encTk, List.length_map, decide_eq_true y1, eno]
        decide +kernel
      by_cases y2 : (2147483647 : Int) < h.q[i].who
      · have eno := no (by rw [show Ad.okWho h.q[i].who = false by unfold Ad.okWho; rw [decide_eq_false_iff_not]; omega]; rfl)
        simp -implicitDefEqProofs only [↓aP, aQ, ↓reduceIte, Nat.reduceEqDiff, Nat.reduceAdd, Nat.reduceSub, Nat.reduceMul, Nat.reduceLT, Nat.reduceLeDiff, reduceCtorEq, Nat.reduceBEq, forall_const, implies_true, exists_const, ne_eq, Int.reduceAdd, Int.reduceSub, Int.reduceMul, Int.reduceBEq, Int.reduceEq, Int.reduceLT, Int.reduceLE, Int.reduceToNat, Int.reduceNeg, Int.reduceBNe, hlt, s1, g1, b1, s5, encHa, askIdx_map, hi, encTk, List.length_map, decide_eq_false y1, decide_eq_true y2, eno]
        decide +kernel
      have hwo : Ad.okWho h.q[i].who = true := by unfold Ad.okWho; rw [decide_eq_true_iff]; omega
      by_cases x1 : h.q[i].claim < 1
      · have eno := no (by rw [hwo, show Ad.okClaim h.fr h.bu h.q[i].claim = false by unfold Ad.okClaim; rw [decide_eq_false_iff_not]; omega]; rfl)
        simp -implicitDefEqProofs only [↓aP, aQ, ↓reduceIte, Nat.reduceEqDiff, Nat.reduceAdd, Nat.reduceSub, Nat.reduceMul, Nat.reduceLT, Nat.reduceLeDiff, reduceCtorEq, Nat.reduceBEq, forall_const, implies_true, exists_const, ne_eq, Int.reduceAdd, Int.reduceSub, Int.reduceMul, Int.reduceBEq, Int.reduceEq, Int.reduceLT, Int.reduceLE, Int.reduceToNat, Int.reduceNeg, Int.reduceBNe, hlt, s1, g1, b1, s5, encHa, askIdx_map, hi, encTk, List.length_map, decide_eq_false y1, decide_eq_false y2, decide_eq_true x1, eno]
        decide +kernel
      simp -implicitDefEqProofs only [↓aP, aQ, ↓reduceIte, Nat.reduceEqDiff, Nat.reduceAdd, Nat.reduceSub, Nat.reduceMul, Nat.reduceLT, Nat.reduceLeDiff, reduceCtorEq, Nat.reduceBEq, forall_const, implies_true, exists_const, ne_eq, Int.reduceAdd, Int.reduceSub, Int.reduceMul, Int.reduceBEq, Int.reduceEq, Int.reduceLT, Int.reduceLE, Int.reduceToNat, Int.reduceNeg, Int.reduceBNe, hlt, s1, g1, b1, s5, encHa, askIdx_map, hi, encTk, List.length_map, decide_eq_false y1, decide_eq_false y2, decide_eq_false x1]
      refine ask (least_spec h) ?_
      by_cases x2 : min h.fr h.bu < h.q[i].claim
      · have eno := no (by rw [hwo, show Ad.okClaim h.fr h.bu h.q[i].claim = false by unfold Ad.okClaim; rw [decide_eq_false_iff_not]; omega]; rfl)
        simp -implicitDefEqProofs only [↓aP, aQ, ↓reduceIte, Nat.reduceEqDiff, Nat.reduceAdd, Nat.reduceSub, Nat.reduceMul, Nat.reduceLT, Nat.reduceLeDiff, reduceCtorEq, Nat.reduceBEq, forall_const, implies_true, exists_const, ne_eq, Int.reduceAdd, Int.reduceSub, Int.reduceMul, Int.reduceBEq, Int.reduceEq, Int.reduceLT, Int.reduceLE, Int.reduceToNat, Int.reduceNeg, Int.reduceBNe, decide_eq_true x2, eno]
        decide +kernel
      simp -implicitDefEqProofs only [↓aP, aQ, ↓reduceIte, Nat.reduceEqDiff, Nat.reduceAdd, Nat.reduceSub, Nat.reduceMul, Nat.reduceLT, Nat.reduceLeDiff, reduceCtorEq, Nat.reduceBEq, forall_const, implies_true, exists_const, ne_eq, Int.reduceAdd, Int.reduceSub, Int.reduceMul, Int.reduceBEq, Int.reduceEq, Int.reduceLT, Int.reduceLE, Int.reduceToNat, Int.reduceNeg, Int.reduceBNe, s1, g1, b1, s5, encHa, decide_eq_false x2]
      refine ask (in_spec h h.q[i].who hl) ?_
      have hcl : Ad.okClaim h.fr h.bu h.q[i].claim = true := by unfold Ad.okClaim; rw [decide_eq_true_iff]; omega
      by_cases x3 : Ad.inN h h.q[i].who = 1
      · simp -implicitDefEqProofs only [↓aP, aQ, ↓reduceIte, Nat.reduceEqDiff, Nat.reduceAdd, Nat.reduceSub, Nat.reduceMul, Nat.reduceLT, Nat.reduceLeDiff, reduceCtorEq, Nat.reduceBEq, forall_const, implies_true, exists_const, ne_eq, Int.reduceAdd, Int.reduceSub, Int.reduceMul, Int.reduceBEq, Int.reduceEq, Int.reduceLT, Int.reduceLE, Int.reduceToNat, Int.reduceNeg, Int.reduceBNe, s1, g1, b1, s5, show (((Ad.inN h h.q[i].who : Nat) : Int) != 1) = false by rw [x3]; rfl, wrapS (show i < 4611686018427387904 by omega)]
        refine ⟨by decide +kernel, ?_⟩
        refine nextR hi him ⟨?_, ?_⟩
        · rw [take_snoc hi]
          intro x hx
          rcases List.mem_append.1 hx with hx | hx
          · exact hokq x hx
          · rw [List.mem_singleton.1 hx]; exact ⟨⟨hwo, hcl⟩, x3⟩
        · simp -implicitDefEqProofs only [↓aP, aQ, ↓reduceIte, Nat.reduceEqDiff, Nat.reduceAdd, Nat.reduceSub, Nat.reduceMul, Nat.reduceLT, Nat.reduceLeDiff, reduceCtorEq, Nat.reduceBEq, forall_const, implies_true, exists_const, ne_eq, Int.reduceAdd, Int.reduceSub, Int.reduceMul, Int.reduceBEq, Int.reduceEq, Int.reduceLT, Int.reduceLE, Int.reduceToNat, Int.reduceNeg, Int.reduceBNe, s1, g1, b1, s5, encHa]
      · have eno := no (by rw [decide_eq_false x3, Bool.and_false])
        simp -implicitDefEqProofs only [↓aP, aQ, ↓reduceIte, Nat.reduceEqDiff, Nat.reduceAdd, Nat.reduceSub, Nat.reduceMul, Nat.reduceLT, Nat.reduceLeDiff, reduceCtorEq, Nat.reduceBEq, forall_const, implies_true, exists_const, ne_eq, Int.reduceAdd, Int.reduceSub, Int.reduceMul, Int.reduceBEq, Int.reduceEq, Int.reduceLT, Int.reduceLE, Int.reduceToNat, Int.reduceNeg, Int.reduceBNe, s1, g1, b1, s5, show (((Ad.inN h h.q[i].who : Nat) : Int) != 1) = true by rw [bne_iff_ne]; omega, eno]
        decide +kernel
    · clear hlt s1 g1 b1 s3
      rintro k σ hlt ⟨hokq, s1, g1, b1, s5⟩
      rw [List.take_length] at hokq
      rw [show h.q.all (fun t => Ad.okWho t.who && Ad.okClaim h.fr h.bu t.claim && decide (Ad.inN h t.who = 1)) = true by
        rw [List.all_eq_true]; intro c hc; obtain ⟨⟨a, a2⟩, b⟩ := hokq c hc; rw [a, a2, decide_eq_true b]; rfl, Bool.true_and] at eR
      have hpeo : Ad.people h = true := (Ad.people_iff hb).2 ⟨fun c hc => (hok c hc).1, fun t ht => (hokq t ht).1, Ad.nodup_in.2 ⟨fun c hc => (hok c hc).2, fun t ht => (hokq t ht).2⟩⟩
      have hf := fine_of hz hb hpeo
      simp -implicitDefEqProofs only [↓aP, aQ, ↓reduceIte, Nat.reduceEqDiff, Nat.reduceAdd, Nat.reduceSub, Nat.reduceMul, Nat.reduceLT, Nat.reduceLeDiff, reduceCtorEq, Nat.reduceBEq, forall_const, implies_true, exists_const, ne_eq, Int.reduceAdd, Int.reduceSub, Int.reduceMul, Int.reduceBEq, Int.reduceEq, Int.reduceLT, Int.reduceLE, Int.reduceToNat, Int.reduceNeg, Int.reduceBNe, hlt, s1, g1, b1, s5, encHa, List.length_map]
      refine ask (rmay_spec h hf) ?_
      cases hm : Ad.may h
      · simp -implicitDefEqProofs only [↓aP, aQ, ↓reduceIte, Nat.reduceEqDiff, Nat.reduceAdd, Nat.reduceSub, Nat.reduceMul, Nat.reduceLT, Nat.reduceLeDiff, reduceCtorEq, Nat.reduceBEq, forall_const, implies_true, exists_const, ne_eq, Int.reduceAdd, Int.reduceSub, Int.reduceMul, Int.reduceBEq, Int.reduceEq, Int.reduceLT, Int.reduceLE, Int.reduceToNat, Int.reduceNeg, Int.reduceBNe, s1, g1, b1, s5, encHa]
        refine ask (rSafe_spec h hf hb) ?_
        simp -implicitDefEqProofs only [↓aP, aQ, ↓reduceIte, Nat.reduceEqDiff, Nat.reduceAdd, Nat.reduceSub, Nat.reduceMul, Nat.reduceLT, Nat.reduceLeDiff, reduceCtorEq, Nat.reduceBEq, forall_const, implies_true, exists_const, ne_eq, Int.reduceAdd, Int.reduceSub, Int.reduceMul, Int.reduceBEq, Int.reduceEq, Int.reduceLT, Int.reduceLE, Int.reduceToNat, Int.reduceNeg, Int.reduceBNe, eR, hm, Bool.not_false, Bool.true_and]
      · simp -implicitDefEqProofs only [↓aP, aQ, ↓reduceIte, Nat.reduceEqDiff, Nat.reduceAdd, Nat.reduceSub, Nat.reduceMul, Nat.reduceLT, Nat.reduceLeDiff, reduceCtorEq, Nat.reduceBEq, forall_const, implies_true, exists_const, ne_eq, Int.reduceAdd, Int.reduceSub, Int.reduceMul, Int.reduceBEq, Int.reduceEq, Int.reduceLT, Int.reduceLE, Int.reduceToNat, Int.reduceNeg, Int.reduceBNe, eR, hm, Bool.not_true, Bool.false_and]
end Go.Proofs.Yteghmlafodkfpaa
