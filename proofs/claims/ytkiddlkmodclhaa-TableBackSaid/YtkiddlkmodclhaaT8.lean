/- layer 7: the law TableBack: its walk. -/
import Derived.Test.YtkiddlkmodclhaaT7
namespace Go.Proofs.Ytkiddlkmodclhaa
open Go.RowKit
set_option linter.unusedVariables false
set_option linter.unusedSimpArgs false
theorem law_back (t : List Sl) (p f : Int) (hl : t.length ≤ 9223372036854775807) : Spec Try.prog 5 [.agg (encTa t), rI p, rI f] (.val (rB true)) := by
  refine spec_val mixed fn5 (by simp) ?_
  unfold ac5
  simp -implicitDefEqProofs only [↓aP, aQ, ↓reduceIte, Nat.reduceEqDiff, Nat.reduceAdd, Nat.reduceSub, Nat.reduceMul, Nat.reduceLT, Nat.reduceLeDiff, reduceCtorEq, Nat.reduceBEq, forall_const, implies_true, exists_const, ne_eq, Int.reduceAdd, Int.reduceSub, Int.reduceMul, Int.reduceBEq, Int.reduceEq, Int.reduceLT, Int.reduceLE, Int.reduceToNat, Int.reduceNeg, Int.reduceBNe, encTa]
  refine ask (tref_spec t hl) ?_
  by_cases h40 : 40 < t.length
  · have e : Ta.refM t = ([], false) := by unfold Ta.refM; rw [if_pos h40]
    simp -implicitDefEqProofs only [↓aP, aQ, ↓reduceIte, Nat.reduceEqDiff, Nat.reduceAdd, Nat.reduceSub, Nat.reduceMul, Nat.reduceLT, Nat.reduceLeDiff, reduceCtorEq, Nat.reduceBEq, forall_const, implies_true, exists_const, ne_eq, Int.reduceAdd, Int.reduceSub, Int.reduceMul, Int.reduceBEq, Int.reduceEq, Int.reduceLT, Int.reduceLE, Int.reduceToNat, Int.reduceNeg, Int.reduceBNe, encTR, e, encTa]
    refine ask tawake_spec ?_
    simp -implicitDefEqProofs only [↓aP, aQ, ↓reduceIte, Nat.reduceEqDiff, Nat.reduceAdd, Nat.reduceSub, Nat.reduceMul, Nat.reduceLT, Nat.reduceLeDiff, reduceCtorEq, Nat.reduceBEq, forall_const, implies_true, exists_const, ne_eq, Int.reduceAdd, Int.reduceSub, Int.reduceMul, Int.reduceBEq, Int.reduceEq, Int.reduceLT, Int.reduceLE, Int.reduceToNat, Int.reduceNeg, Int.reduceBNe]
  have e : Ta.refM t = (t, true) := by unfold Ta.refM; rw [if_neg h40]
  simp -implicitDefEqProofs only [↓aP, aQ, ↓reduceIte, Nat.reduceEqDiff, Nat.reduceAdd, Nat.reduceSub, Nat.reduceMul, Nat.reduceLT, Nat.reduceLeDiff, reduceCtorEq, Nat.reduceBEq, forall_const, implies_true, exists_const, ne_eq, Int.reduceAdd, Int.reduceSub, Int.reduceMul, Int.reduceBEq, Int.reduceEq, Int.reduceLT, Int.reduceLE, Int.reduceToNat, Int.reduceNeg, Int.reduceBNe, encTR, e, encTa]
  refine ask (tPut_spec t p f) ?_
  by_cases he : (Ta.put t p f).2 = 0
  case neg =>
    have e2 := Ta.put_err he
    simp -implicitDefEqProofs only [↓aP, aQ, ↓reduceIte, Nat.reduceEqDiff, Nat.reduceAdd, Nat.reduceSub, Nat.reduceMul, Nat.reduceLT, Nat.reduceLeDiff, reduceCtorEq, Nat.reduceBEq, forall_const, implies_true, exists_const, ne_eq, Int.reduceAdd, Int.reduceSub, Int.reduceMul, Int.reduceBEq, Int.reduceEq, Int.reduceLT, Int.reduceLE, Int.reduceToNat, Int.reduceNeg, Int.reduceBNe, encPut, encTa, e2, show ((Ta.put t p f).2 != 0) = true by simpa using he]
    refine ask (tref_spec t hl) ?_
    simp -implicitDefEqProofs only [↓aP, aQ, ↓reduceIte, Nat.reduceEqDiff, Nat.reduceAdd, Nat.reduceSub, Nat.reduceMul, Nat.reduceLT, Nat.reduceLeDiff, reduceCtorEq, Nat.reduceBEq, forall_const, implies_true, exists_const, ne_eq, Int.reduceAdd, Int.reduceSub, Int.reduceMul, Int.reduceBEq, Int.reduceEq, Int.reduceLT, Int.reduceLE, Int.reduceToNat, Int.reduceNeg, Int.reduceBNe, encTR, e, encTa]
    refine ask (rSame_specT t (by omega)) ?_
    simp -implicitDefEqProofs only [↓aP, aQ, ↓reduceIte, Nat.reduceEqDiff, Nat.reduceAdd, Nat.reduceSub, Nat.reduceMul, Nat.reduceLT, Nat.reduceLeDiff, reduceCtorEq, Nat.reduceBEq, forall_const, implies_true, exists_const, ne_eq, Int.reduceAdd, Int.reduceSub, Int.reduceMul, Int.reduceBEq, Int.reduceEq, Int.reduceLT, Int.reduceLE, Int.reduceToNat, Int.reduceNeg, Int.reduceBNe]
    refine ask tawake_spec ?_
    simp -implicitDefEqProofs only [↓aP, aQ, ↓reduceIte, Nat.reduceEqDiff, Nat.reduceAdd, Nat.reduceSub, Nat.reduceMul, Nat.reduceLT, Nat.reduceLeDiff, reduceCtorEq, Nat.reduceBEq, forall_const, implies_true, exists_const, ne_eq, Int.reduceAdd, Int.reduceSub, Int.reduceMul, Int.reduceBEq, Int.reduceEq, Int.reduceLT, Int.reduceLE, Int.reduceToNat, Int.reduceNeg, Int.reduceBNe]
  obtain ⟨b1, b2, b3, b4, b5⟩ := Ta.back he
  obtain ⟨u, hu⟩ : ∃ u, u = (Ta.put t p f).1 := ⟨_, rfl⟩
  rw [← hu] at b1 b3 b4 b5
  have hpu : Ta.put t p f = (u, 0) := Prod.ext hu.symm he
  have hsp1 := tFind_spec u p
  have hsp2 := tDel_spec u p
  rw [b3] at hsp1
  rw [b4] at hsp2
  have h16 := right_len b2
  have hpl := Ta.pages_len b2
  have hpl2 := Ta.pgs_len (t := t)
  simp -implicitDefEqProofs only [↓aP, aQ, ↓reduceIte, Nat.reduceEqDiff, Nat.reduceAdd, Nat.reduceSub, Nat.reduceMul, Nat.reduceLT, Nat.reduceLeDiff, reduceCtorEq, Nat.reduceBEq, forall_const, implies_true, exists_const, ne_eq, Int.reduceAdd, Int.reduceSub, Int.reduceMul, Int.reduceBEq, Int.reduceEq, Int.reduceLT, Int.reduceLE, Int.reduceToNat, Int.reduceNeg, Int.reduceBNe, encPut, encTa, hpu, bne_self_eq_false]
  refine ask hsp1 ?_
  simp -implicitDefEqProofs only [↓aP, aQ, ↓reduceIte, Nat.reduceEqDiff, Nat.reduceAdd, Nat.reduceSub, Nat.reduceMul, Nat.reduceLT, Nat.reduceLeDiff, reduceCtorEq, Nat.reduceBEq, forall_const, implies_true, exists_const, ne_eq, Int.reduceAdd, Int.reduceSub, Int.reduceMul, Int.reduceBEq, Int.reduceEq, Int.reduceLT, Int.reduceLE, Int.reduceToNat, Int.reduceNeg, Int.reduceBNe, encSlot, encTa]
  refine ask hsp2 ?_
  simp -implicitDefEqProofs only [↓aP, aQ, ↓reduceIte, Nat.reduceEqDiff, Nat.reduceAdd, Nat.reduceSub, Nat.reduceMul, Nat.reduceLT, Nat.reduceLeDiff, reduceCtorEq, Nat.reduceBEq, forall_const, implies_true, exists_const, ne_eq, Int.reduceAdd, Int.reduceSub, Int.reduceMul, Int.reduceBEq, Int.reduceEq, Int.reduceLT, Int.reduceLE, Int.reduceToNat, Int.reduceNeg, Int.reduceBNe, encPut, encTa]
  refine ask (tref_spec t hl) ?_
  simp -implicitDefEqProofs only [↓aP, aQ, ↓reduceIte, Nat.reduceEqDiff, Nat.reduceAdd, Nat.reduceSub, Nat.reduceMul, Nat.reduceLT, Nat.reduceLeDiff, reduceCtorEq, Nat.reduceBEq, forall_const, implies_true, exists_const, ne_eq, Int.reduceAdd, Int.reduceSub, Int.reduceMul, Int.reduceBEq, Int.reduceEq, Int.reduceLT, Int.reduceLE, Int.reduceToNat, Int.reduceNeg, Int.reduceBNe, encTR, e, encTa, beq_self_eq_true]
  refine ask (rSame_specT t (by omega)) ?_
  simp -implicitDefEqProofs only [↓aP, aQ, ↓reduceIte, Nat.reduceEqDiff, Nat.reduceAdd, Nat.reduceSub, Nat.reduceMul, Nat.reduceLT, Nat.reduceLeDiff, reduceCtorEq, Nat.reduceBEq, forall_const, implies_true, exists_const, ne_eq, Int.reduceAdd, Int.reduceSub, Int.reduceMul, Int.reduceBEq, Int.reduceEq, Int.reduceLT, Int.reduceLE, Int.reduceToNat, Int.reduceNeg, Int.reduceBNe, encTa, beq_self_eq_true]
  refine ask (tPages_spec u) ?_
  simp -implicitDefEqProofs only [↓aP, aQ, ↓reduceIte, Nat.reduceEqDiff, Nat.reduceAdd, Nat.reduceSub, Nat.reduceMul, Nat.reduceLT, Nat.reduceLeDiff, reduceCtorEq, Nat.reduceBEq, forall_const, implies_true, exists_const, ne_eq, Int.reduceAdd, Int.reduceSub, Int.reduceMul, Int.reduceBEq, Int.reduceEq, Int.reduceLT, Int.reduceLE, Int.reduceToNat, Int.reduceNeg, Int.reduceBNe, encTa, beq_self_eq_true]
  refine ask (tPages_spec t) ?_
  have w : IntKind.i64.wrap (((Ta.pages t).length : Int) + 1) = (((Ta.pages t).length + 1 : Nat) : Int) := by rw [wrapI (by omega)]; omega
  simp -implicitDefEqProofs only [↓aP, aQ, ↓reduceIte, Nat.reduceEqDiff, Nat.reduceAdd, Nat.reduceSub, Nat.reduceMul, Nat.reduceLT, Nat.reduceLeDiff, reduceCtorEq, Nat.reduceBEq, forall_const, implies_true, exists_const, ne_eq, Int.reduceAdd, Int.reduceSub, Int.reduceMul, Int.reduceBEq, Int.reduceEq, Int.reduceLT, Int.reduceLE, Int.reduceToNat, Int.reduceNeg, Int.reduceBNe, encTa, List.length_map, b5, w, beq_self_eq_true]
  refine ask tawake_spec ?_
  simp -implicitDefEqProofs only [↓aP, aQ, ↓reduceIte, Nat.reduceEqDiff, Nat.reduceAdd, Nat.reduceSub, Nat.reduceMul, Nat.reduceLT, Nat.reduceLeDiff, reduceCtorEq, Nat.reduceBEq, forall_const, implies_true, exists_const, ne_eq, Int.reduceAdd, Int.reduceSub, Int.reduceMul, Int.reduceBEq, Int.reduceEq, Int.reduceLT, Int.reduceLE, Int.reduceToNat, Int.reduceNeg, Int.reduceBNe]
  decide +kernel
theorem tableBack_walk {w : World} (v0 : Value) (a0 : ∃ l : List Sl, l.length ≤ maxLen ∧ RepT (RepS w fun _ => False) (.agg (encTa l)) v0) (a : Int) (ha : (Lit.int .i64 a).wf = true) (b : Int) (hb : (Lit.int .i64 b).wf = true) :
    Calls Try.prog 5 #[v0, .int .i64 a, .int .i64 b] w fun e w' => e = .returned (.bool true) ∧ Below w.heap.size w w' := by
  obtain ⟨m, hm, h0⟩ := a0
  unfold maxLen at hm
  exact (law_back m a b hm).plain (us := [v0, .int .i64 a, .int .i64 b]) (.cons h0 (.cons (.pv rfl) (.cons (.pv rfl) .nil)))
end Go.Proofs.Ytkiddlkmodclhaa
