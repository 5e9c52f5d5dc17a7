/- layer 5: the contracts: the statements' fixed answer; the document's Right and Same; how lanes are handed to it. -/
import Derived.Test.YtfmbfgoofiojcaaL5
namespace Go.Proofs.Ytfmbfgoofiojcaa
open Go.RowKit Lk
set_option linter.unusedVariables false
set_option linter.unusedSimpArgs false
set_option maxRecDepth 4000
namespace Lk
def A0 : Ls := ⟨[⟨1, 0, []⟩, ⟨2, 0, []⟩], 0, false⟩
def A1 : Ls := ⟨[⟨1, 0, [4]⟩, ⟨2, 0, []⟩], 0, false⟩
def A2 : Ls := ⟨[⟨1, 0, [4]⟩, ⟨2, 0, [8]⟩], 0, false⟩
def A3 : Ls := ⟨[⟨1, 0, []⟩, ⟨2, 0, [8]⟩], 0, true⟩
def A4 : Ls := ⟨[⟨1, 0, []⟩, ⟨2, 0, []⟩], 1, true⟩
theorem smallA {x : Ls} (h : x = A0 ∨ x = A1 ∨ x = A2 ∨ x = A3 ∨ x = A4) : Small x := by
  rcases h with rfl | rfl | rfl | rfl | rfl <;> exact ⟨by decide, by decide⟩
end Lk
theorem awake_new : Spec Try.prog 17 [rL 1 [encI 1, encI 2]] (.val (encR (A0, 0))) := by
  have h := lNew_spec [1, 2] (by decide)
  rwa [show newI [1, 2] = (A0, 0) by decide +kernel] at h
theorem awake_p1 : Spec Try.prog 20 [.agg (encLs A0), rI 0, rI 4] (.val (encR (A1, 0))) := by
  have h := lPush_spec A0 0 4 (smallA (.inl rfl))
  rwa [show pushI A0 0 4 = (A1, 0) by decide +kernel] at h
theorem awake_p2 : Spec Try.prog 20 [.agg (encLs A1), rI 1, rI 8] (.val (encR (A2, 0))) := by
  have h := lPush_spec A1 1 8 (smallA (.inr (.inl rfl)))
  rwa [show pushI A1 1 8 = (A2, 0) by decide +kernel] at h
theorem awake_n1 : Spec Try.prog 23 [.agg (encLs A2)] (.val (encN (A3, 0, 4, true))) := by
  have h := lNext_spec A2 (smallA (.inr (.inr (.inl rfl))))
  rwa [show nextI A2 = (A3, 0, 4, true) by decide +kernel] at h
theorem awake_n2 : Spec Try.prog 23 [.agg (encLs A3)] (.val (encN (A4, 1, 8, true))) := by
  have h := lNext_spec A3 (smallA (.inr (.inr (.inr (.inl rfl)))))
  rwa [show nextI A3 = (A4, 1, 8, true) by decide +kernel] at h
theorem awake_n3 : Spec Try.prog 23 [.agg (encLs A4)] (.val (encN (A4, 0, 0, false))) := by
  have h := lNext_spec A4 (smallA (.inr (.inr (.inr (.inr rfl)))))
  rwa [show nextI A4 = (A4, 0, 0, false) by decide +kernel] at h
theorem awake_r : Spec Try.prog 21 [.agg (encLs A4)] (.val (rB true)) := by
  have h := lRight_spec A4 (smallA (.inr (.inr (.inr (.inr rfl)))))
  rwa [show right A4 = true by decide +kernel] at h
theorem awake_spec : Spec Try.prog 16 [] (.val (rB true)) := by
  refine spec_val mixed fn16 (by simp) ?_
  unfold ac16
  simp -implicitDefEqProofs only [↓aP, aQ, ↓reduceIte, Nat.reduceEqDiff, Nat.reduceAdd, Nat.reduceSub, Nat.reduceMul, Nat.reduceLT, Nat.reduceLeDiff, reduceCtorEq, Nat.reduceBEq, forall_const, implies_true, exists_const, ne_eq, Int.reduceAdd, Int.reduceSub, Int.reduceMul, Int.reduceBEq, Int.reduceEq, Int.reduceLT, Int.reduceLE, Int.reduceToNat, Int.reduceNeg, Int.reduceBNe]
  refine askS awake_new (by simp -implicitDefEqProofs only [↓aP, aQ, ↓reduceIte, Nat.reduceEqDiff, Nat.reduceAdd, Nat.reduceSub, Nat.reduceMul, Nat.reduceLT, Nat.reduceLeDiff, reduceCtorEq, Nat.reduceBEq, forall_const, implies_true, exists_const, ne_eq, Int.reduceAdd, Int.reduceSub, Int.reduceMul, Int.reduceBEq, Int.reduceEq, Int.reduceLT, Int.reduceLE, Int.reduceToNat, Int.reduceNeg, Int.reduceBNe, encI]) ?_
  simp -implicitDefEqProofs only [↓aP, aQ, ↓reduceIte, Nat.reduceEqDiff, Nat.reduceAdd, Nat.reduceSub, Nat.reduceMul, Nat.reduceLT, Nat.reduceLeDiff, reduceCtorEq, Nat.reduceBEq, forall_const, implies_true, exists_const, ne_eq, Int.reduceAdd, Int.reduceSub, Int.reduceMul, Int.reduceBEq, Int.reduceEq, Int.reduceLT, Int.reduceLE, Int.reduceToNat, Int.reduceNeg, Int.reduceBNe, encR, encLs]
  refine ask awake_p1 ?_
  simp -implicitDefEqProofs only [↓aP, aQ, ↓reduceIte, Nat.reduceEqDiff, Nat.reduceAdd, Nat.reduceSub, Nat.reduceMul, Nat.reduceLT, Nat.reduceLeDiff, reduceCtorEq, Nat.reduceBEq, forall_const, implies_true, exists_const, ne_eq, Int.reduceAdd, Int.reduceSub, Int.reduceMul, Int.reduceBEq, Int.reduceEq, Int.reduceLT, Int.reduceLE, Int.reduceToNat, Int.reduceNeg, Int.reduceBNe, encR, encLs]
  refine ask awake_p2 ?_
  simp -implicitDefEqProofs only [↓aP, aQ, ↓reduceIte, Nat.reduceEqDiff, Nat.reduceAdd, Nat.reduceSub, Nat.reduceMul, Nat.reduceLT, Nat.reduceLeDiff, reduceCtorEq, Nat.reduceBEq, forall_const, implies_true, exists_const, ne_eq, Int.reduceAdd, Int.reduceSub, Int.reduceMul, Int.reduceBEq, Int.reduceEq, Int.reduceLT, Int.reduceLE, Int.reduceToNat, Int.reduceNeg, Int.reduceBNe, encR, encLs]
  refine ask awake_n1 ?_
  simp -implicitDefEqProofs only [↓aP, aQ, ↓reduceIte, Nat.reduceEqDiff, Nat.reduceAdd, Nat.reduceSub, Nat.reduceMul, Nat.reduceLT, Nat.reduceLeDiff, reduceCtorEq, Nat.reduceBEq, forall_const, implies_true, exists_const, ne_eq, Int.reduceAdd, Int.reduceSub, Int.reduceMul, Int.reduceBEq, Int.reduceEq, Int.reduceLT, Int.reduceLE, Int.reduceToNat, Int.reduceNeg, Int.reduceBNe, encN, encLs]
  refine ask awake_n2 ?_
  simp -implicitDefEqProofs only [↓aP, aQ, ↓reduceIte, Nat.reduceEqDiff, Nat.reduceAdd, Nat.reduceSub, Nat.reduceMul, Nat.reduceLT, Nat.reduceLeDiff, reduceCtorEq, Nat.reduceBEq, forall_const, implies_true, exists_const, ne_eq, Int.reduceAdd, Int.reduceSub, Int.reduceMul, Int.reduceBEq, Int.reduceEq, Int.reduceLT, Int.reduceLE, Int.reduceToNat, Int.reduceNeg, Int.reduceBNe, encN, encLs]
  refine ask awake_n3 ?_
  simp -implicitDefEqProofs only [↓aP, aQ, ↓reduceIte, Nat.reduceEqDiff, Nat.reduceAdd, Nat.reduceSub, Nat.reduceMul, Nat.reduceLT, Nat.reduceLeDiff, reduceCtorEq, Nat.reduceBEq, forall_const, implies_true, exists_const, ne_eq, Int.reduceAdd, Int.reduceSub, Int.reduceMul, Int.reduceBEq, Int.reduceEq, Int.reduceLT, Int.reduceLE, Int.reduceToNat, Int.reduceNeg, Int.reduceBNe, encN, encLs]
  refine ask awake_r ?_
  simp -implicitDefEqProofs only [↓aP, aQ, ↓reduceIte, Nat.reduceEqDiff, Nat.reduceAdd, Nat.reduceSub, Nat.reduceMul, Nat.reduceLT, Nat.reduceLeDiff, reduceCtorEq, Nat.reduceBEq, forall_const, implies_true, exists_const, ne_eq, Int.reduceAdd, Int.reduceSub, Int.reduceMul, Int.reduceBEq, Int.reduceEq, Int.reduceLT, Int.reduceLE, Int.reduceToNat, Int.reduceNeg, Int.reduceBNe]
end Go.Proofs.Ytfmbfgoofiojcaa
