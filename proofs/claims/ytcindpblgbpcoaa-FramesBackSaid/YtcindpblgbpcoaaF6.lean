/- layer 15: what the runs come to, by the kernel. -/
import Derived.Test.YtcindpblgbpcoaaF5
namespace Go.Proofs.Ytcindpblgbpcoaa
open Go.RowKit
set_option linter.unusedVariables false
set_option linter.unusedSimpArgs false
def fillF (n : Nat) : Nat → Fs
  | 0 => (Fm.newF n).1
  | k + 1 => (Fm.load (fillF n k) ⟨k + 1, 1, ⟨#[]⟩⟩ 0 false).1
def smF (f : Fs) : Bool := decide (f.ck.fr.length ≤ 100 ∧ f.dt.length ≤ 100)
def okTail (f : Fs) (k : Nat) : Bool := (Fm.unpin f k).2 == 0 && smF (Fm.unpin f k).1 && smF (Fm.room (Fm.unpin f k).1).1 && (Fm.room (Fm.unpin f k).1).2.1.id == (k : Int) && !(Fm.room (Fm.unpin f k).1).2.2.1 && (Fm.room (Fm.unpin f k).1).2.2.2 == 0 && !(Fm.find (Fm.room (Fm.unpin f k).1).1 k).2 && Fm.right (Fm.room (Fm.unpin f k).1).1
def okFull (n : Nat) : Bool := (Fm.newF n).2 == 0 && smF (fillF n n) && (List.range n).all (fun k => smF (fillF n k) && (Fm.load (fillF n k) ⟨k + 1, 1, ⟨#[]⟩⟩ 0 false).2 == 0) && (Fm.load (fillF n n) ⟨n + 1, 1, ⟨#[]⟩⟩ 0 false).2 == 7 && (Fm.room (fillF n n)).2.2.2 == 6 && (List.range n).all fun k => okTail (fillF n n) (k + 1)
theorem full_all : ∀ n : Nat, n < 8 → okFull (n + 1) = true := by decide +kernel
def w0 : Fs := (Fm.newF 2).1
def w1 : Fs := (Fm.load w0 ⟨1, 1, ⟨#[]⟩⟩ 5 false).1
def w2 : Fs := (Fm.load w1 ⟨2, 1, ⟨#[]⟩⟩ 5 true).1
def w3 : Fs := (Fm.unpin w2 1).1
def okAw : Bool := (Fm.newF 2).2 == 0 && (Fm.load w0 ⟨1, 1, ⟨#[]⟩⟩ 5 false).2 == 0 && (Fm.load w1 ⟨2, 1, ⟨#[]⟩⟩ 5 true).2 == 0 && (Fm.unpin w2 1).2 == 0 && smF w0 && smF w1 && smF w2 && smF w3 && smF (Fm.room w3).1 && (Fm.room w3).2.1.id == 1 && !(Fm.room w3).2.2.1 && (Fm.room w3).2.2.2 == 0 && (Fm.find w3 2).1 == 1 && (Fm.find w3 2).2 && Fm.right (Fm.room w3).1
theorem aw_ok : okAw = true := by decide +kernel
theorem sm_sh {f : Fs} (h : smF f = true) : Sh f := by
  unfold smF at h
  rw [decide_eq_true_iff] at h
  unfold Sh; omega
set_option maxRecDepth 100000 in
theorem awake15_spec : Spec Try.prog 17 [] (.val (rB true)) := by
  refine spec_val mixed fn17 (by simp) ?_
  unfold ac17
  have h := aw_ok
  unfold okAw at h
  simp only [Bool.and_eq_true, beq_iff_eq, Bool.not_eq_true'] at h
  obtain ⟨⟨⟨⟨⟨⟨⟨⟨⟨⟨⟨⟨⟨⟨a1, a2⟩, a3⟩, a4⟩, s0⟩, s1⟩, s2⟩, s3⟩, s4⟩, b1⟩, b2⟩, b3⟩, b4⟩, b5⟩, b6⟩ := h
  have c0 := fNew_spec 2
  have c1 := fload_spec w0 ⟨1, 1, ⟨#[]⟩⟩ 5 false (sm_sh s0)
  have c2 := fload_spec w1 ⟨2, 1, ⟨#[]⟩⟩ 5 true (sm_sh s1)
  have c3 := funpin_spec w2 1 (sm_sh s2)
  have c4 := froom_spec w3 (sm_sh s3)
  have c5 := fFind_spec w3 2 (sm_sh s3)
  have c6 := fRight_spec (Fm.room w3).1 (sm_sh s4)
  rw [a1, show (Fm.newF 2).1 = w0 from rfl] at c0
  rw [a2, show (Fm.load w0 ⟨1, 1, ⟨#[]⟩⟩ 5 false).1 = w1 from rfl] at c1
  rw [a3, show (Fm.load w1 ⟨2, 1, ⟨#[]⟩⟩ 5 true).1 = w2 from rfl] at c2
  rw [a4, show (Fm.unpin w2 1).1 = w3 from rfl] at c3
  unfold encRoom at c4
  unfold encSlot at c5
  rw [b2, b3] at c4
  rw [b4, b5] at c5
  rw [b6] at c6
  generalize (Fm.room w3).1 = r at c4 c6
  generalize (Fm.room w3).2.1 = p at c4 b1
  generalize w3 = f3 at c3 c4 c5
  generalize w2 = f2 at c2 c3
  generalize w1 = f1 at c1 c2
  generalize w0 = f0 at c0 c1
  rw [encFs] at c1 c2 c3 c4 c5 c6
  rw [encPg] at c1 c2
  simp -implicitDefEqProofs only [↓aP, aQ, ↓reduceIte, Nat.reduceEqDiff, Nat.reduceAdd, Nat.reduceSub, Nat.reduceMul, Nat.reduceLT, Nat.reduceLeDiff, reduceCtorEq, Nat.reduceBEq, forall_const, implies_true, exists_const, ne_eq, Int.reduceAdd, Int.reduceSub, Int.reduceMul, Int.reduceBEq, Int.reduceEq, Int.reduceLT, Int.reduceLE, Int.reduceToNat, Int.reduceNeg, Int.reduceBNe]
  refine ask c0 ?_
  simp -implicitDefEqProofs only [↓aP, aQ, ↓reduceIte, Nat.reduceEqDiff, Nat.reduceAdd, Nat.reduceSub, Nat.reduceMul, Nat.reduceLT, Nat.reduceLeDiff, reduceCtorEq, Nat.reduceBEq, forall_const, implies_true, exists_const, ne_eq, Int.reduceAdd, Int.reduceSub, Int.reduceMul, Int.reduceBEq, Int.reduceEq, Int.reduceLT, Int.reduceLE, Int.reduceToNat, Int.reduceNeg, Int.reduceBNe, encFs]
  refine ask c1 ?_
  simp -implicitDefEqProofs only [↓aP, aQ, ↓reduceIte, Nat.reduceEqDiff, Nat.reduceAdd, Nat.reduceSub, Nat.reduceMul, Nat.reduceLT, Nat.reduceLeDiff, reduceCtorEq, Nat.reduceBEq, forall_const, implies_true, exists_const, ne_eq, Int.reduceAdd, Int.reduceSub, Int.reduceMul, Int.reduceBEq, Int.reduceEq, Int.reduceLT, Int.reduceLE, Int.reduceToNat, Int.reduceNeg, Int.reduceBNe, encFs]
  refine ask c2 ?_
  simp -implicitDefEqProofs only [↓aP, aQ, ↓reduceIte, Nat.reduceEqDiff, Nat.reduceAdd, Nat.reduceSub, Nat.reduceMul, Nat.reduceLT, Nat.reduceLeDiff, reduceCtorEq, Nat.reduceBEq, forall_const, implies_true, exists_const, ne_eq, Int.reduceAdd, Int.reduceSub, Int.reduceMul, Int.reduceBEq, Int.reduceEq, Int.reduceLT, Int.reduceLE, Int.reduceToNat, Int.reduceNeg, Int.reduceBNe, encFs]
  refine ask c3 ?_
  simp -implicitDefEqProofs only [↓aP, aQ, ↓reduceIte, Nat.reduceEqDiff, Nat.reduceAdd, Nat.reduceSub, Nat.reduceMul, Nat.reduceLT, Nat.reduceLeDiff, reduceCtorEq, Nat.reduceBEq, forall_const, implies_true, exists_const, ne_eq, Int.reduceAdd, Int.reduceSub, Int.reduceMul, Int.reduceBEq, Int.reduceEq, Int.reduceLT, Int.reduceLE, Int.reduceToNat, Int.reduceNeg, Int.reduceBNe, encFs]
  refine ask c4 ?_
  simp -implicitDefEqProofs only [↓aP, aQ, ↓reduceIte, Nat.reduceEqDiff, Nat.reduceAdd, Nat.reduceSub, Nat.reduceMul, Nat.reduceLT, Nat.reduceLeDiff, reduceCtorEq, Nat.reduceBEq, forall_const, implies_true, exists_const, ne_eq, Int.reduceAdd, Int.reduceSub, Int.reduceMul, Int.reduceBEq, Int.reduceEq, Int.reduceLT, Int.reduceLE, Int.reduceToNat, Int.reduceNeg, Int.reduceBNe, encFs, encPg]
  refine ask c5 ?_
  simp -implicitDefEqProofs only [↓aP, aQ, ↓reduceIte, Nat.reduceEqDiff, Nat.reduceAdd, Nat.reduceSub, Nat.reduceMul, Nat.reduceLT, Nat.reduceLeDiff, reduceCtorEq, Nat.reduceBEq, forall_const, implies_true, exists_const, ne_eq, Int.reduceAdd, Int.reduceSub, Int.reduceMul, Int.reduceBEq, Int.reduceEq, Int.reduceLT, Int.reduceLE, Int.reduceToNat, Int.reduceNeg, Int.reduceBNe, encFs, encPg, b1]
  refine ask c6 ?_
  simp -implicitDefEqProofs only [↓aP, aQ, ↓reduceIte, Nat.reduceEqDiff, Nat.reduceAdd, Nat.reduceSub, Nat.reduceMul, Nat.reduceLT, Nat.reduceLeDiff, reduceCtorEq, Nat.reduceBEq, forall_const, implies_true, exists_const, ne_eq, Int.reduceAdd, Int.reduceSub, Int.reduceMul, Int.reduceBEq, Int.reduceEq, Int.reduceLT, Int.reduceLE, Int.reduceToNat, Int.reduceNeg, Int.reduceBNe]
  all_goals (trace_state; sorry)
end Go.Proofs.Ytcindpblgbpcoaa
