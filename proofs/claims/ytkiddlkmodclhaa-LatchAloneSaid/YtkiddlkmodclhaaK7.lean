/- layer 8: the contracts: the law's ref, the document's may, In, Right, Same, Equal. -/
import Derived.Test.YtkiddlkmodclhaaK6
namespace Go.Proofs.Ytkiddlkmodclhaa
open Go.RowKit La
set_option linter.unusedVariables false
set_option linter.unusedSimpArgs false
def refM (l : Lt) : Lt × Bool := if 80 < l.h.length ∨ 80 < l.q.length then (⟨l.h, l.ex, []⟩, false) else (l, true)
def encRef (x : Lt × Bool) : TV SC := .tup [(true, encLt x.1), (false, [.pv (.bool x.2)])]

theorem lref_spec (l : Lt) (hl : l.h.length ≤ 9223372036854775807) (hl2 : l.q.length ≤ 9223372036854775807) : Spec Try.prog 24 [.agg (encLt l)] (.val (encRef (refM l))) := by
  refine spec_val mixed fn24 (by simp) ?_
  unfold ac24
  by_cases h1 : 80 < l.h.length
  · simp -implicitDefEqProofs only [↓aP, aQ, ↓reduceIte, Nat.reduceEqDiff, Nat.reduceAdd, Nat.reduceSub, Nat.reduceMul, Nat.reduceLT, Nat.reduceLeDiff, reduceCtorEq, Nat.reduceBEq, forall_const, implies_true, exists_const, ne_eq, Int.reduceAdd, Int.reduceSub, Int.reduceMul, Int.reduceBEq, Int.reduceEq, Int.reduceLT, Int.reduceLE, Int.reduceToNat, Int.reduceNeg, Int.reduceBNe, encLt, List.length_map, show decide ((80 : Int) < (l.h.length : Int)) = true by simp; omega]
    simp -implicitDefEqProofs only [↓aP, aQ, ↓reduceIte, Nat.reduceEqDiff, Nat.reduceAdd, Nat.reduceSub, Nat.reduceMul, Nat.reduceLT, Nat.reduceLeDiff, reduceCtorEq, Nat.reduceBEq, forall_const, implies_true, exists_const, ne_eq, Int.reduceAdd, Int.reduceSub, Int.reduceMul, Int.reduceBEq, Int.reduceEq, Int.reduceLT, Int.reduceLE, Int.reduceToNat, Int.reduceNeg, Int.reduceBNe, encRef, refM, h1, true_or, encLt, List.map_nil]
  have d1 : decide ((80 : Int) < (l.h.length : Int)) = false := by simp; omega
  by_cases h2 : 80 < l.q.length
  · simp -implicitDefEqProofs only [↓aP, aQ, ↓reduceIte, Nat.reduceEqDiff, Nat.reduceAdd, Nat.reduceSub, Nat.reduceMul, Nat.reduceLT, Nat.reduceLeDiff, reduceCtorEq, Nat.reduceBEq, forall_const, implies_true, exists_const, ne_eq, Int.reduceAdd, Int.reduceSub, Int.reduceMul, Int.reduceBEq, Int.reduceEq, Int.reduceLT, Int.reduceLE, Int.reduceToNat, Int.reduceNeg, Int.reduceBNe, encLt, List.length_map, d1, show decide ((80 : Int) < (l.q.length : Int)) = true by simp; omega]
    simp -implicitDefEqProofs only [↓aP, aQ, ↓reduceIte, Nat.reduceEqDiff, Nat.reduceAdd, Nat.reduceSub, Nat.reduceMul, Nat.reduceLT, Nat.reduceLeDiff, reduceCtorEq, Nat.reduceBEq, forall_const, implies_true, exists_const, ne_eq, Int.reduceAdd, Int.reduceSub, Int.reduceMul, Int.reduceBEq, Int.reduceEq, Int.reduceLT, Int.reduceLE, Int.reduceToNat, Int.reduceNeg, Int.reduceBNe, encRef, refM, h1, h2, or_true, encLt, List.map_nil]
  have d2 : decide ((80 : Int) < (l.q.length : Int)) = false := by simp; omega
  simp -implicitDefEqProofs only [↓aP, aQ, ↓reduceIte, Nat.reduceEqDiff, Nat.reduceAdd, Nat.reduceSub, Nat.reduceMul, Nat.reduceLT, Nat.reduceLeDiff, reduceCtorEq, Nat.reduceBEq, forall_const, implies_true, exists_const, ne_eq, Int.reduceAdd, Int.reduceSub, Int.reduceMul, Int.reduceBEq, Int.reduceEq, Int.reduceLT, Int.reduceLE, Int.reduceToNat, Int.reduceNeg, Int.reduceBNe, encLt, List.length_map, d1, d2]
  refine shift (sub_slot (s := 5) 34 89 2 rfl (by exact Nat.succ_pos _)) ?_
  refine rangeB l.q.length (fun i σ => ∃ g, σ.slot 1 = .c (.ptr 1 1 0 0) ∧ σ.h.gen 1 = 1 ∧ σ.h.blk 1 = .box 54 3 [(encLt l).map AC.s] ∧ σ.slot 2 = .c (.ptr 2 1 0 0) ∧ σ.h.gen 2 = 1 ∧ σ.h.blk 2 = .box 57 3 [[.zc, .s (.pv (.bool false)), .zc]] ∧ σ.slot 4 = .c (.ptr 4 1 0 0) ∧ σ.h.gen 4 = 1 ∧ σ.h.blk 4 = .box 57 3 [[.s (.sl 1 (l.h.map encI)), .s (.pv (.bool l.ex)), .zc]] ∧ σ.slot 5 = .c (.own 34 g) ∧ σ.h.gen 34 = g ∧ σ.h.blk 34 = .row 89 2 ((l.q.take i).map encWt) ∧ σ.slot 25 = vL 2 (l.q.map encWt) ∧ σ.slot 26 = vI l.q.length ∧ σ.slot 27 = vI i) ?_ ?_ ?_
  · simp -implicitDefEqProofs only [↓aP, aQ, ↓reduceIte, Nat.reduceEqDiff, Nat.reduceAdd, Nat.reduceSub, Nat.reduceMul, Nat.reduceLT, Nat.reduceLeDiff, reduceCtorEq, Nat.reduceBEq, forall_const, implies_true, exists_const, ne_eq, Int.reduceAdd, Int.reduceSub, Int.reduceMul, Int.reduceBEq, Int.reduceEq, Int.reduceLT, Int.reduceLE, Int.reduceToNat, Int.reduceNeg, Int.reduceBNe, encLt]
    exact ⟨1, by simp⟩
  · rintro i m σ him hi hlt ⟨g, s1, g1, b1, s2, g2, b2, s4, g4, b4, s5, g34, b34, s25, s26, s27⟩
    simp -implicitDefEqProofs only [↓aP, aQ, ↓reduceIte, Nat.reduceEqDiff, Nat.reduceAdd, Nat.reduceSub, Nat.reduceMul, Nat.reduceLT, Nat.reduceLeDiff, reduceCtorEq, Nat.reduceBEq, forall_const, implies_true, exists_const, ne_eq, Int.reduceAdd, Int.reduceSub, Int.reduceMul, Int.reduceBEq, Int.reduceEq, Int.reduceLT, Int.reduceLE, Int.reduceToNat, Int.reduceNeg, Int.reduceBNe, hlt, s1, g1, b1, s2, g2, b2, s4, g4, b4, s5, g34, b34, s25, s26, s27, askIdx_map, hi, encWt, List.length_map, List.length_take, wrapS (show i < 4611686018427387904 by omega)]
    refine ⟨by omega, by omega, ?_⟩
    refine nextR hi him ⟨g + 1, ?_⟩
    simp -implicitDefEqProofs only [↓aP, aQ, ↓reduceIte, Nat.reduceEqDiff, Nat.reduceAdd, Nat.reduceSub, Nat.reduceMul, Nat.reduceLT, Nat.reduceLeDiff, reduceCtorEq, Nat.reduceBEq, forall_const, implies_true, exists_const, ne_eq, Int.reduceAdd, Int.reduceSub, Int.reduceMul, Int.reduceBEq, Int.reduceEq, Int.reduceLT, Int.reduceLE, Int.reduceToNat, Int.reduceNeg, Int.reduceBNe, s1, g1, b1, s2, g2, b2, s4, g4, b4, s5, g34, b34, s25, s26, s27, encLt, take_snoc hi, List.map_append, List.map_cons, List.map_nil, encWt]
  · rintro m σ hlt ⟨g, s1, g1, b1, s2, g2, b2, s4, g4, b4, s5, g34, b34, s25, s26, s27⟩
    rw [List.take_length] at b34
    simp -implicitDefEqProofs only [↓aP, aQ, ↓reduceIte, Nat.reduceEqDiff, Nat.reduceAdd, Nat.reduceSub, Nat.reduceMul, Nat.reduceLT, Nat.reduceLeDiff, reduceCtorEq, Nat.reduceBEq, forall_const, implies_true, exists_const, ne_eq, Int.reduceAdd, Int.reduceSub, Int.reduceMul, Int.reduceBEq, Int.reduceEq, Int.reduceLT, Int.reduceLE, Int.reduceToNat, Int.reduceNeg, Int.reduceBNe, hlt, s1, g1, b1, s2, g2, b2, s4, g4, b4, s5, g34, b34, s25, s26, s27, encRef, refM, h1, h2, or_self, encLt]
theorem rmay_spec (l : Lt) : Spec Try.prog 45 [.agg (encLt l)] (.val (rB (may l))) := by
  refine spec_val mixed fn45 (by simp) ?_
  unfold ac45
  obtain ⟨h, ex, q⟩ := l
  cases q with
  | nil =>
    simp -implicitDefEqProofs only [↓aP, aQ, ↓reduceIte, Nat.reduceEqDiff, Nat.reduceAdd, Nat.reduceSub, Nat.reduceMul, Nat.reduceLT, Nat.reduceLeDiff, reduceCtorEq, Nat.reduceBEq, forall_const, implies_true, exists_const, ne_eq, Int.reduceAdd, Int.reduceSub, Int.reduceMul, Int.reduceBEq, Int.reduceEq, Int.reduceLT, Int.reduceLE, Int.reduceToNat, Int.reduceNeg, Int.reduceBNe, encLt, List.map_nil, List.length_nil, show may ⟨h, ex, []⟩ = false from rfl]
  | cons w q =>
    have e0 : (((q.length + 1 : Nat) : Int) == 0) = false := by rw [beq_eq_false_iff_ne]; omega
    by_cases h0 : h.length = 0
    · have e1 : ((h.length : Int) == 0) = true := by simp [h0]
      simp -implicitDefEqProofs only [↓aP, aQ, ↓reduceIte, Nat.reduceEqDiff, Nat.reduceAdd, Nat.reduceSub, Nat.reduceMul, Nat.reduceLT, Nat.reduceLeDiff, reduceCtorEq, Nat.reduceBEq, forall_const, implies_true, exists_const, ne_eq, Int.reduceAdd, Int.reduceSub, Int.reduceMul, Int.reduceBEq, Int.reduceEq, Int.reduceLT, Int.reduceLE, Int.reduceToNat, Int.reduceNeg, Int.reduceBNe, encLt, List.map_cons, List.length_map, e0, e1, show may ⟨h, ex, w :: q⟩ = true by simp [may, h0]]
    · have e1 : ((h.length : Int) == 0) = false := by rw [beq_eq_false_iff_ne]; omega
      simp -implicitDefEqProofs only [↓aP, aQ, ↓reduceIte, Nat.reduceEqDiff, Nat.reduceAdd, Nat.reduceSub, Nat.reduceMul, Nat.reduceLT, Nat.reduceLeDiff, reduceCtorEq, Nat.reduceBEq, forall_const, implies_true, exists_const, ne_eq, Int.reduceAdd, Int.reduceSub, Int.reduceMul, Int.reduceBEq, Int.reduceEq, Int.reduceLT, Int.reduceLE, Int.reduceToNat, Int.reduceNeg, Int.reduceBNe, encLt, List.map_cons, List.length_map, e0, e1]
      cases ex
      · simp -implicitDefEqProofs only [↓aP, aQ, ↓reduceIte, Nat.reduceEqDiff, Nat.reduceAdd, Nat.reduceSub, Nat.reduceMul, Nat.reduceLT, Nat.reduceLeDiff, reduceCtorEq, Nat.reduceBEq, forall_const, implies_true, exists_const, ne_eq, Int.reduceAdd, Int.reduceSub, Int.reduceMul, Int.reduceBEq, Int.reduceEq, Int.reduceLT, Int.reduceLE, Int.reduceToNat, Int.reduceNeg, Int.reduceBNe, encLt, encWt, List.map_cons, show may ⟨h, false, w :: q⟩ = !w.ex by simp [may, h0]]
      · simp -implicitDefEqProofs only [↓aP, aQ, ↓reduceIte, Nat.reduceEqDiff, Nat.reduceAdd, Nat.reduceSub, Nat.reduceMul, Nat.reduceLT, Nat.reduceLeDiff, reduceCtorEq, Nat.reduceBEq, forall_const, implies_true, exists_const, ne_eq, Int.reduceAdd, Int.reduceSub, Int.reduceMul, Int.reduceBEq, Int.reduceEq, Int.reduceLT, Int.reduceLE, Int.reduceToNat, Int.reduceNeg, Int.reduceBNe, encLt, show may ⟨h, true, w :: q⟩ = false by simp [may, h0]]
theorem count_snoc {l : List Int} {i : Nat} (hi : i < l.length) (x : Int) : ((l.take (i + 1)).count x) = (l.take i).count x + (if l[i] = x then 1 else 0) := by
  rw [take_snoc hi, List.count_append, List.count_singleton]
  simp only [beq_iff_eq]


theorem rIn_spec (l : Lt) (x : Int) (hl : l.h.length + l.q.length < 4611686018427387904) : Spec Try.prog 27 [.agg (encLt l), rI x] (.val (rI (((whos l).count x : Nat) : Int))) := by
  refine spec_val mixed fn27 (by simp) ?_
  unfold ac27
  simp -implicitDefEqProofs only [↓aP, aQ, ↓reduceIte, Nat.reduceEqDiff, Nat.reduceAdd, Nat.reduceSub, Nat.reduceMul, Nat.reduceLT, Nat.reduceLeDiff, reduceCtorEq, Nat.reduceBEq, forall_const, implies_true, exists_const, ne_eq, Int.reduceAdd, Int.reduceSub, Int.reduceMul, Int.reduceBEq, Int.reduceEq, Int.reduceLT, Int.reduceLE, Int.reduceToNat, Int.reduceNeg, Int.reduceBNe, encLt]
  refine rangeB l.h.length (fun i σ => σ.slot 1 = vI x ∧ σ.slot 2 = .c (.ptr 2 1 0 0) ∧ σ.h.gen 2 = 1 ∧ σ.h.blk 2 = .box 57 3 [(encLt l).map AC.s] ∧ σ.slot 5 = vI ((l.h.take i).count x) ∧ σ.slot 6 = vI i) ?_ ?_ ?_
  · simp -implicitDefEqProofs only [↓aP, aQ, ↓reduceIte, Nat.reduceEqDiff, Nat.reduceAdd, Nat.reduceSub, Nat.reduceMul, Nat.reduceLT, Nat.reduceLeDiff, reduceCtorEq, Nat.reduceBEq, forall_const, implies_true, exists_const, ne_eq, Int.reduceAdd, Int.reduceSub, Int.reduceMul, Int.reduceBEq, Int.reduceEq, Int.reduceLT, Int.reduceLE, Int.reduceToNat, Int.reduceNeg, Int.reduceBNe, encLt]
    rfl
  · rintro i m σ him hi hlt ⟨s1, s2, g2, b2, s5, s6⟩
    have hcl : (l.h.take i).count x ≤ (l.h.take i).length := List.count_le_length
    simp only [List.length_take] at hcl
    simp -implicitDefEqProofs only [↓aP, aQ, ↓reduceIte, Nat.reduceEqDiff, Nat.reduceAdd, Nat.reduceSub, Nat.reduceMul, Nat.reduceLT, Nat.reduceLeDiff, reduceCtorEq, Nat.reduceBEq, forall_const, implies_true, exists_const, ne_eq, Int.reduceAdd, Int.reduceSub, Int.reduceMul, Int.reduceBEq, Int.reduceEq, Int.reduceLT, Int.reduceLE, Int.reduceToNat, Int.reduceNeg, Int.reduceBNe, hlt, s1, s2, g2, b2, s5, s6, encLt, askIdx_map, hi, encI, List.length_map]
    by_cases e : l.h[i] = x
    · simp -implicitDefEqProofs only [↓aP, aQ, ↓reduceIte, Nat.reduceEqDiff, Nat.reduceAdd, Nat.reduceSub, Nat.reduceMul, Nat.reduceLT, Nat.reduceLeDiff, reduceCtorEq, Nat.reduceBEq, forall_const, implies_true, exists_const, ne_eq, Int.reduceAdd, Int.reduceSub, Int.reduceMul, Int.reduceBEq, Int.reduceEq, Int.reduceLT, Int.reduceLE, Int.reduceToNat, Int.reduceNeg, Int.reduceBNe, show (l.h[i] == x) = true by simpa using e, s1, s2, g2, b2, s5, s6, wrapS (show i < 4611686018427387904 by omega), wrapS (show (l.h.take i).count x < 4611686018427387904 by omega)]
      refine nextR hi him ?_
      simp -implicitDefEqProofs only [↓aP, aQ, ↓reduceIte, Nat.reduceEqDiff, Nat.reduceAdd, Nat.reduceSub, Nat.reduceMul, Nat.reduceLT, Nat.reduceLeDiff, reduceCtorEq, Nat.reduceBEq, forall_const, implies_true, exists_const, ne_eq, Int.reduceAdd, Int.reduceSub, Int.reduceMul, Int.reduceBEq, Int.reduceEq, Int.reduceLT, Int.reduceLE, Int.reduceToNat, Int.reduceNeg, Int.reduceBNe, s1, s2, g2, b2, s5, s6, encLt, count_snoc hi, e]
    · simp -implicitDefEqProofs only [↓aP, aQ, ↓reduceIte, Nat.reduceEqDiff, Nat.reduceAdd, Nat.reduceSub, Nat.reduceMul, Nat.reduceLT, Nat.reduceLeDiff, reduceCtorEq, Nat.reduceBEq, forall_const, implies_true, exists_const, ne_eq, Int.reduceAdd, Int.reduceSub, Int.reduceMul, Int.reduceBEq, Int.reduceEq, Int.reduceLT, Int.reduceLE, Int.reduceToNat, Int.reduceNeg, Int.reduceBNe, show (l.h[i] == x) = false by simpa using e, s1, s2, g2, b2, s5, s6, wrapS (show i < 4611686018427387904 by omega)]
      refine nextR hi him ?_
      simp -implicitDefEqProofs only [↓aP, aQ, ↓reduceIte, Nat.reduceEqDiff, Nat.reduceAdd, Nat.reduceSub, Nat.reduceMul, Nat.reduceLT, Nat.reduceLeDiff, reduceCtorEq, Nat.reduceBEq, forall_const, implies_true, exists_const, ne_eq, Int.reduceAdd, Int.reduceSub, Int.reduceMul, Int.reduceBEq, Int.reduceEq, Int.reduceLT, Int.reduceLE, Int.reduceToNat, Int.reduceNeg, Int.reduceBNe, s1, s2, g2, b2, s5, s6, encLt, count_snoc hi, e, Nat.add_zero]
  · rintro m σ hlt ⟨s1, s2, g2, b2, s5, s6⟩
    rw [List.take_length] at s5
    simp -implicitDefEqProofs only [↓aP, aQ, ↓reduceIte, Nat.reduceEqDiff, Nat.reduceAdd, Nat.reduceSub, Nat.reduceMul, Nat.reduceLT, Nat.reduceLeDiff, reduceCtorEq, Nat.reduceBEq, forall_const, implies_true, exists_const, ne_eq, Int.reduceAdd, Int.reduceSub, Int.reduceMul, Int.reduceBEq, Int.reduceEq, Int.reduceLT, Int.reduceLE, Int.reduceToNat, Int.reduceNeg, Int.reduceBNe, hlt, s1, s2, g2, b2, s5, s6, encLt, List.length_map]
    refine rangeB l.q.length (fun i σ => σ.slot 1 = vI x ∧ σ.slot 2 = .c (.ptr 2 1 0 0) ∧ σ.h.gen 2 = 1 ∧ σ.h.blk 2 = .box 57 3 [(encLt l).map AC.s] ∧ σ.slot 5 = vI (l.h.count x + ((l.q.map Wt.who).take i).count x : Nat) ∧ σ.slot 7 = vI i) ?_ ?_ ?_
    · simp -implicitDefEqProofs only [↓aP, aQ, ↓reduceIte, Nat.reduceEqDiff, Nat.reduceAdd, Nat.reduceSub, Nat.reduceMul, Nat.reduceLT, Nat.reduceLeDiff, reduceCtorEq, Nat.reduceBEq, forall_const, implies_true, exists_const, ne_eq, Int.reduceAdd, Int.reduceSub, Int.reduceMul, Int.reduceBEq, Int.reduceEq, Int.reduceLT, Int.reduceLE, Int.reduceToNat, Int.reduceNeg, Int.reduceBNe, s1, s2, g2, b2, s5, s6, encLt]
      rfl
    · clear hlt s1 s2 g2 b2 s5 s6
      rintro i m σ him hi hlt ⟨s1, s2, g2, b2, s5, s7⟩
      have hi2 : i < (l.q.map Wt.who).length := by simpa using hi
      have hg : (l.q.map Wt.who)[i] = l.q[i].who := by simp
      have hc0 : l.h.count x ≤ l.h.length := List.count_le_length
      have hcl : ((l.q.map Wt.who).take i).count x ≤ ((l.q.map Wt.who).take i).length := List.count_le_length
      simp only [List.length_take, List.length_map] at hcl
      have cs := count_snoc hi2 x
      rw [hg] at cs
      simp -implicitDefEqProofs only [↓aP, aQ, ↓reduceIte, Nat.reduceEqDiff, Nat.reduceAdd, Nat.reduceSub, Nat.reduceMul, Nat.reduceLT, Nat.reduceLeDiff, reduceCtorEq, Nat.reduceBEq, forall_const, implies_true, exists_const, ne_eq, Int.reduceAdd, Int.reduceSub, Int.reduceMul, Int.reduceBEq, Int.reduceEq, Int.reduceLT, Int.reduceLE, Int.reduceToNat, Int.reduceNeg, Int.reduceBNe, hlt, s1, s2, g2, b2, s5, s7, encLt, askIdx_map, hi, encWt, List.length_map]
      by_cases e : l.q[i].who = x
      · rw [if_pos e] at cs
        simp -implicitDefEqProofs only [↓aP, aQ, ↓reduceIte, Nat.reduceEqDiff, Nat.reduceAdd, Nat.reduceSub, Nat.reduceMul, Nat.reduceLT, Nat.reduceLeDiff, reduceCtorEq, Nat.reduceBEq, forall_const, implies_true, exists_const, ne_eq, Int.reduceAdd, Int.reduceSub, Int.reduceMul, Int.reduceBEq, Int.reduceEq, Int.reduceLT, Int.reduceLE, Int.reduceToNat, Int.reduceNeg, Int.reduceBNe, show (l.q[i].who == x) = true by simpa using e, s1, s2, g2, b2, s5, s7, wrapS (show i < 4611686018427387904 by omega), wrapS (show l.h.count x + ((l.q.map Wt.who).take i).count x < 4611686018427387904 by omega)]
        refine nextR hi him ?_
        simp -implicitDefEqProofs only [↓aP, aQ, ↓reduceIte, Nat.reduceEqDiff, Nat.reduceAdd, Nat.reduceSub, Nat.reduceMul, Nat.reduceLT, Nat.reduceLeDiff, reduceCtorEq, Nat.reduceBEq, forall_const, implies_true, exists_const, ne_eq, Int.reduceAdd, Int.reduceSub, Int.reduceMul, Int.reduceBEq, Int.reduceEq, Int.reduceLT, Int.reduceLE, Int.reduceToNat, Int.reduceNeg, Int.reduceBNe, s1, s2, g2, b2, s5, s7, encLt, cs, Nat.add_assoc]
      · rw [if_neg e] at cs
        simp -implicitDefEqProofs only [↓aP, aQ, ↓reduceIte, Nat.reduceEqDiff, Nat.reduceAdd, Nat.reduceSub, Nat.reduceMul, Nat.reduceLT, Nat.reduceLeDiff, reduceCtorEq, Nat.reduceBEq, forall_const, implies_true, exists_const, ne_eq, Int.reduceAdd, Int.reduceSub, Int.reduceMul, Int.reduceBEq, Int.reduceEq, Int.reduceLT, Int.reduceLE, Int.reduceToNat, Int.reduceNeg, Int.reduceBNe, show (l.q[i].who == x) = false by simpa using e, s1, s2, g2, b2, s5, s7, wrapS (show i < 4611686018427387904 by omega)]
        refine nextR hi him ?_
        simp -implicitDefEqProofs only [↓aP, aQ, ↓reduceIte, Nat.reduceEqDiff, Nat.reduceAdd, Nat.reduceSub, Nat.reduceMul, Nat.reduceLT, Nat.reduceLeDiff, reduceCtorEq, Nat.reduceBEq, forall_const, implies_true, exists_const, ne_eq, Int.reduceAdd, Int.reduceSub, Int.reduceMul, Int.reduceBEq, Int.reduceEq, Int.reduceLT, Int.reduceLE, Int.reduceToNat, Int.reduceNeg, Int.reduceBNe, s1, s2, g2, b2, s5, s7, encLt, cs, Nat.add_zero]
    · clear hlt s1 s2 g2 b2 s5 s6
      rintro m σ hlt ⟨s1, s2, g2, b2, s5, s7⟩
      rw [List.take_of_length_le (by simp)] at s5
      simp -implicitDefEqProofs only [↓aP, aQ, ↓reduceIte, Nat.reduceEqDiff, Nat.reduceAdd, Nat.reduceSub, Nat.reduceMul, Nat.reduceLT, Nat.reduceLeDiff, reduceCtorEq, Nat.reduceBEq, forall_const, implies_true, exists_const, ne_eq, Int.reduceAdd, Int.reduceSub, Int.reduceMul, Int.reduceBEq, Int.reduceEq, Int.reduceLT, Int.reduceLE, Int.reduceToNat, Int.reduceNeg, Int.reduceBNe, hlt, s1, s2, g2, b2, s5, s7, encLt, whos, List.count_append]
theorem fields_wt : Try.prog.underlying 89 = some (.struct (Try.prog.fieldsOf 89)) := by kernel_rfl
theorem held_wt : Try.prog.stoodInHeld 89 = false := by kernel_rfl
theorem fieldsL_wt : ((Try.prog.fieldsOf 89).toList.map fun f => (f.type, f.offset)) = [(3, 0), (4, 1)] := by kernel_rfl
set_option maxRecDepth 100000 in
theorem eq_wt (x : Wt) : EqRun Try.prog 89 [.int .i64 x.who, .bool x.ex] [.int .i64 x.who, .bool x.ex] true := by
  intro w
  rw [run_eql_struct, run_equalIn_agg w 9999 _ _ _ fields_wt held_wt]
  go_simp

theorem rSame_spec (l : Lt) (hl : l.h.length + l.q.length < 4611686018427387904) : Spec Try.prog 31 [.agg (encLt l), .agg (encLt l)] (.val (rB true)) := by
  refine spec_val mixed fn31 (by simp) ?_
  unfold ac31
  simp -implicitDefEqProofs only [↓aP, aQ, ↓reduceIte, Nat.reduceEqDiff, Nat.reduceAdd, Nat.reduceSub, Nat.reduceMul, Nat.reduceLT, Nat.reduceLeDiff, reduceCtorEq, Nat.reduceBEq, forall_const, implies_true, exists_const, ne_eq, Int.reduceAdd, Int.reduceSub, Int.reduceMul, Int.reduceBEq, Int.reduceEq, Int.reduceLT, Int.reduceLE, Int.reduceToNat, Int.reduceNeg, Int.reduceBNe, encLt, bne_self_eq_false]
  refine rangeB l.h.length (fun i σ => σ.slot 2 = .c (.ptr 2 1 0 0) ∧ σ.h.gen 2 = 1 ∧ σ.h.blk 2 = .box 57 3 [(encLt l).map AC.s] ∧ σ.slot 3 = .c (.ptr 3 1 0 0) ∧ σ.h.gen 3 = 1 ∧ σ.h.blk 3 = .box 57 3 [(encLt l).map AC.s] ∧ σ.slot 5 = vI i) ?_ ?_ ?_
  · simp -implicitDefEqProofs only [↓aP, aQ, ↓reduceIte, Nat.reduceEqDiff, Nat.reduceAdd, Nat.reduceSub, Nat.reduceMul, Nat.reduceLT, Nat.reduceLeDiff, reduceCtorEq, Nat.reduceBEq, forall_const, implies_true, exists_const, ne_eq, Int.reduceAdd, Int.reduceSub, Int.reduceMul, Int.reduceBEq, Int.reduceEq, Int.reduceLT, Int.reduceLE, Int.reduceToNat, Int.reduceNeg, Int.reduceBNe, encLt]
  · rintro i m σ him hi hlt ⟨s2, g2, b2, s3, g3, b3, s5⟩
    simp -implicitDefEqProofs only [↓aP, aQ, ↓reduceIte, Nat.reduceEqDiff, Nat.reduceAdd, Nat.reduceSub, Nat.reduceMul, Nat.reduceLT, Nat.reduceLeDiff, reduceCtorEq, Nat.reduceBEq, forall_const, implies_true, exists_const, ne_eq, Int.reduceAdd, Int.reduceSub, Int.reduceMul, Int.reduceBEq, Int.reduceEq, Int.reduceLT, Int.reduceLE, Int.reduceToNat, Int.reduceNeg, Int.reduceBNe, hlt, s2, g2, b2, s3, g3, b3, s5, encLt, askIdx_map, hi, encI, List.length_map, bne_self_eq_false]
    refine ⟨by decide +kernel, ?_⟩
    simp -implicitDefEqProofs only [↓aP, aQ, ↓reduceIte, Nat.reduceEqDiff, Nat.reduceAdd, Nat.reduceSub, Nat.reduceMul, Nat.reduceLT, Nat.reduceLeDiff, reduceCtorEq, Nat.reduceBEq, forall_const, implies_true, exists_const, ne_eq, Int.reduceAdd, Int.reduceSub, Int.reduceMul, Int.reduceBEq, Int.reduceEq, Int.reduceLT, Int.reduceLE, Int.reduceToNat, Int.reduceNeg, Int.reduceBNe, s2, g2, b2, s3, g3, b3, s5, encLt, wrapS (show i < 4611686018427387904 by omega)]
    refine nextR hi him ?_
    simp -implicitDefEqProofs only [↓aP, aQ, ↓reduceIte, Nat.reduceEqDiff, Nat.reduceAdd, Nat.reduceSub, Nat.reduceMul, Nat.reduceLT, Nat.reduceLeDiff, reduceCtorEq, Nat.reduceBEq, forall_const, implies_true, exists_const, ne_eq, Int.reduceAdd, Int.reduceSub, Int.reduceMul, Int.reduceBEq, Int.reduceEq, Int.reduceLT, Int.reduceLE, Int.reduceToNat, Int.reduceNeg, Int.reduceBNe, s2, g2, b2, s3, g3, b3, encLt]
  · rintro m σ hlt ⟨s2, g2, b2, s3, g3, b3, s5⟩
    simp -implicitDefEqProofs only [↓aP, aQ, ↓reduceIte, Nat.reduceEqDiff, Nat.reduceAdd, Nat.reduceSub, Nat.reduceMul, Nat.reduceLT, Nat.reduceLeDiff, reduceCtorEq, Nat.reduceBEq, forall_const, implies_true, exists_const, ne_eq, Int.reduceAdd, Int.reduceSub, Int.reduceMul, Int.reduceBEq, Int.reduceEq, Int.reduceLT, Int.reduceLE, Int.reduceToNat, Int.reduceNeg, Int.reduceBNe, hlt, s2, g2, b2, s3, g3, b3, s5, encLt, List.length_map]
    refine rangeB l.q.length (fun i σ => σ.slot 2 = .c (.ptr 2 1 0 0) ∧ σ.h.gen 2 = 1 ∧ σ.h.blk 2 = .box 57 3 [(encLt l).map AC.s] ∧ σ.slot 3 = .c (.ptr 3 1 0 0) ∧ σ.h.gen 3 = 1 ∧ σ.h.blk 3 = .box 57 3 [(encLt l).map AC.s] ∧ σ.slot 6 = vI i) ?_ ?_ ?_
    · simp -implicitDefEqProofs only [↓aP, aQ, ↓reduceIte, Nat.reduceEqDiff, Nat.reduceAdd, Nat.reduceSub, Nat.reduceMul, Nat.reduceLT, Nat.reduceLeDiff, reduceCtorEq, Nat.reduceBEq, forall_const, implies_true, exists_const, ne_eq, Int.reduceAdd, Int.reduceSub, Int.reduceMul, Int.reduceBEq, Int.reduceEq, Int.reduceLT, Int.reduceLE, Int.reduceToNat, Int.reduceNeg, Int.reduceBNe, s2, g2, b2, s3, g3, b3, encLt]
    · clear hlt s5 s2 g2 b2 s3 g3 b3
      rintro i m σ him hi hlt ⟨s2, g2, b2, s3, g3, b3, s6⟩
      simp -implicitDefEqProofs only [↓aP, aQ, ↓reduceIte, Nat.reduceEqDiff, Nat.reduceAdd, Nat.reduceSub, Nat.reduceMul, Nat.reduceLT, Nat.reduceLeDiff, reduceCtorEq, Nat.reduceBEq, forall_const, implies_true, exists_const, ne_eq, Int.reduceAdd, Int.reduceSub, Int.reduceMul, Int.reduceBEq, Int.reduceEq, Int.reduceLT, Int.reduceLE, Int.reduceToNat, Int.reduceNeg, Int.reduceBNe, hlt, s2, g2, b2, s3, g3, b3, s6, encLt, askIdx_map, hi, encWt, List.length_map]
      refine askEq (eq_wt l.q[i]) ?_
      simp -implicitDefEqProofs only [↓aP, aQ, ↓reduceIte, Nat.reduceEqDiff, Nat.reduceAdd, Nat.reduceSub, Nat.reduceMul, Nat.reduceLT, Nat.reduceLeDiff, reduceCtorEq, Nat.reduceBEq, forall_const, implies_true, exists_const, ne_eq, Int.reduceAdd, Int.reduceSub, Int.reduceMul, Int.reduceBEq, Int.reduceEq, Int.reduceLT, Int.reduceLE, Int.reduceToNat, Int.reduceNeg, Int.reduceBNe, s2, g2, b2, s3, g3, b3, s6, encLt, wrapS (show i < 4611686018427387904 by omega)]
      refine ⟨by decide +kernel, ?_⟩
      refine nextR hi him ?_
      simp -implicitDefEqProofs only [↓aP, aQ, ↓reduceIte, Nat.reduceEqDiff, Nat.reduceAdd, Nat.reduceSub, Nat.reduceMul, Nat.reduceLT, Nat.reduceLeDiff, reduceCtorEq, Nat.reduceBEq, forall_const, implies_true, exists_const, ne_eq, Int.reduceAdd, Int.reduceSub, Int.reduceMul, Int.reduceBEq, Int.reduceEq, Int.reduceLT, Int.reduceLE, Int.reduceToNat, Int.reduceNeg, Int.reduceBNe, s2, g2, b2, s3, g3, b3, encLt]
    · clear hlt s5 s2 g2 b2 s3 g3 b3
      rintro m σ hlt ⟨s2, g2, b2, s3, g3, b3, s6⟩
      simp -implicitDefEqProofs only [↓aP, aQ, ↓reduceIte, Nat.reduceEqDiff, Nat.reduceAdd, Nat.reduceSub, Nat.reduceMul, Nat.reduceLT, Nat.reduceLeDiff, reduceCtorEq, Nat.reduceBEq, forall_const, implies_true, exists_const, ne_eq, Int.reduceAdd, Int.reduceSub, Int.reduceMul, Int.reduceBEq, Int.reduceEq, Int.reduceLT, Int.reduceLE, Int.reduceToNat, Int.reduceNeg, Int.reduceBNe, hlt, s2, g2, b2, s3, g3, b3, s6, encLt, List.length_map]
theorem rEqual_spec (l : List Int) (hl : l.length < 4611686018427387904) : Spec Try.prog 34 [rL 1 (l.map encI), rL 1 (l.map encI)] (.val (rB true)) := by
  refine spec_val mixed fn34 (by simp) ?_
  unfold ac34
  simp -implicitDefEqProofs only [↓aP, aQ, ↓reduceIte, Nat.reduceEqDiff, Nat.reduceAdd, Nat.reduceSub, Nat.reduceMul, Nat.reduceLT, Nat.reduceLeDiff, reduceCtorEq, Nat.reduceBEq, forall_const, implies_true, exists_const, ne_eq, Int.reduceAdd, Int.reduceSub, Int.reduceMul, Int.reduceBEq, Int.reduceEq, Int.reduceLT, Int.reduceLE, Int.reduceToNat, Int.reduceNeg, Int.reduceBNe, bne_self_eq_false]
  refine rangeB l.length (fun i σ => σ.slot 0 = vL 1 (l.map encI) ∧ σ.slot 1 = vL 1 (l.map encI) ∧ σ.slot 5 = vI i) ?_ ?_ ?_
  · simp -implicitDefEqProofs only [↓aP, aQ, ↓reduceIte, Nat.reduceEqDiff, Nat.reduceAdd, Nat.reduceSub, Nat.reduceMul, Nat.reduceLT, Nat.reduceLeDiff, reduceCtorEq, Nat.reduceBEq, forall_const, implies_true, exists_const, ne_eq, Int.reduceAdd, Int.reduceSub, Int.reduceMul, Int.reduceBEq, Int.reduceEq, Int.reduceLT, Int.reduceLE, Int.reduceToNat, Int.reduceNeg, Int.reduceBNe]
  · rintro i m σ him hi hlt ⟨s0, s1, s5⟩
    simp -implicitDefEqProofs only [↓aP, aQ, ↓reduceIte, Nat.reduceEqDiff, Nat.reduceAdd, Nat.reduceSub, Nat.reduceMul, Nat.reduceLT, Nat.reduceLeDiff, reduceCtorEq, Nat.reduceBEq, forall_const, implies_true, exists_const, ne_eq, Int.reduceAdd, Int.reduceSub, Int.reduceMul, Int.reduceBEq, Int.reduceEq, Int.reduceLT, Int.reduceLE, Int.reduceToNat, Int.reduceNeg, Int.reduceBNe, hlt, s0, s1, s5, askIdx_map, hi, encI, List.length_map, bne_self_eq_false]
    refine ⟨by decide +kernel, ?_⟩
    simp -implicitDefEqProofs only [↓aP, aQ, ↓reduceIte, Nat.reduceEqDiff, Nat.reduceAdd, Nat.reduceSub, Nat.reduceMul, Nat.reduceLT, Nat.reduceLeDiff, reduceCtorEq, Nat.reduceBEq, forall_const, implies_true, exists_const, ne_eq, Int.reduceAdd, Int.reduceSub, Int.reduceMul, Int.reduceBEq, Int.reduceEq, Int.reduceLT, Int.reduceLE, Int.reduceToNat, Int.reduceNeg, Int.reduceBNe, s0, s1, s5, wrapS (show i < 4611686018427387904 by omega)]
    refine nextR hi him ?_
    simp -implicitDefEqProofs only [↓aP, aQ, ↓reduceIte, Nat.reduceEqDiff, Nat.reduceAdd, Nat.reduceSub, Nat.reduceMul, Nat.reduceLT, Nat.reduceLeDiff, reduceCtorEq, Nat.reduceBEq, forall_const, implies_true, exists_const, ne_eq, Int.reduceAdd, Int.reduceSub, Int.reduceMul, Int.reduceBEq, Int.reduceEq, Int.reduceLT, Int.reduceLE, Int.reduceToNat, Int.reduceNeg, Int.reduceBNe, s0, s1]
  · rintro m σ hlt ⟨s0, s1, s5⟩
    simp -implicitDefEqProofs only [↓aP, aQ, ↓reduceIte, Nat.reduceEqDiff, Nat.reduceAdd, Nat.reduceSub, Nat.reduceMul, Nat.reduceLT, Nat.reduceLeDiff, reduceCtorEq, Nat.reduceBEq, forall_const, implies_true, exists_const, ne_eq, Int.reduceAdd, Int.reduceSub, Int.reduceMul, Int.reduceBEq, Int.reduceEq, Int.reduceLT, Int.reduceLE, Int.reduceToNat, Int.reduceNeg, Int.reduceBNe, hlt, s0, s1, s5, List.length_map]
end Go.Proofs.Ytkiddlkmodclhaa
