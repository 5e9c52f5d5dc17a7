/- layer 6: awake; the law SchedFull. -/
import Derived.Test.YtfmbfgoofiojcaaSA
import Derived.Test.YtfmbfgoofiojcaaSE
import Derived.Test.YtfmbfgoofiojcaaS7
import Derived.Test.YtfmbfgoofiojcaaS8
namespace Go.Proofs.Ytfmbfgoofiojcaa
open Go.RowKit Lk
set_option linter.unusedVariables false
set_option linter.unusedSimpArgs false
def w0 : Sd := (Sc.newS nV [1, 2]).1
def w1 : Sd := (Sc.askS w0 ⟨1, 1, 3, ⟨#[]⟩, 0⟩).1
def w2 : Sd := Sc.pumpS w1
def w3 : Sd := (Sc.doneS w2 0 true).1
def okAw : Bool := (Sc.newS nV [1, 2]).2 == 0 && (Sc.askS w0 ⟨1, 1, 3, ⟨#[]⟩, 0⟩).2 == 0 && w2.out.length == 1 && !(Sc.doneS w2 0 true).2.2.2 && w3.out.length == 1 && (Sc.doneS w3 0 false).2.1.who == 1 && (Sc.doneS w3 0 false).2.1.tries == 2 && (Sc.doneS w3 0 false).2.1.data.size == 32 && (Sc.doneS w3 0 false).2.2.1 == 0 && (Sc.doneS w3 0 false).2.2.2
theorem aw_ok : okAw = true := by decide +kernel
theorem rs_w0 : Sc.Rs w0 := (Sc.new_ok (ws := [1, 2]) Sc.nV_right rfl (by decide)).2
theorem rs_w1 : Sc.Rs w1 := Sc.rs_ask rs_w0 _
theorem rs_w2 : Sc.Rs w2 := Sc.rs_pump rs_w1
theorem rs_w3 : Sc.Rs w3 := Sc.rs_done rs_w2 _ _
set_option maxRecDepth 100000 in
theorem awake6_spec : Spec Try.prog 24 [] (.val (rB true)) := by
  refine spec_val mixed fn24 (by simp) ?_
  unfold ac24
  have h := aw_ok
  unfold okAw at h
  simp only [Bool.and_eq_true, beq_iff_eq, Bool.not_eq_true'] at h
  obtain ⟨⟨⟨⟨⟨⟨⟨⟨⟨a1, a2⟩, a3⟩, a4⟩, a5⟩, a6⟩, a7⟩, a8⟩, a9⟩, a10⟩ := h
  have c0 := snewS_spec nV [1, 2] (by decide)
  have c1 := sask_spec w0 ⟨1, 1, 3, ⟨#[]⟩, 0⟩ (rs_shs rs_w0)
  have c2 := spump_spec w1 (rs_shs rs_w1)
  have c3 := sdone_spec w2 0 true (rs_shs rs_w2)
  have c4 := sdone_spec w3 0 false (rs_shs rs_w3)
  have c5 := sright_spec w2 (rs_shs rs_w2)
  rw [Sc.rs_iff.2 rs_w2] at c5
  rw [encSi, a1, show (Sc.newS nV [1, 2]).1 = w0 from rfl] at c0
  rw [encSi, a2, show (Sc.askS w0 ⟨1, 1, 3, ⟨#[]⟩, 0⟩).1 = w1 from rfl] at c1
  rw [show Sc.pumpS w1 = w2 from rfl] at c2
  rw [encDn, a4, show (Sc.doneS w2 0 true).1 = w3 from rfl] at c3
  rw [encDn, a9, a10] at c4
  generalize (Sc.doneS w3 0 false).1 = w4 at c4
  generalize (Sc.doneS w3 0 false).2.1 = j4 at c4 a6 a7 a8
  generalize (Sc.doneS w2 0 true).2.1 = j3 at c3
  generalize (Sc.doneS w2 0 true).2.2.1 = e3 at c3
  generalize w3 = f3 at c3 c4 a5
  generalize w2 = f2 at c2 c3 c5 a3
  generalize w1 = f1 at c1 c2
  generalize w0 = f0 at c0 c1
  have cN : Spec Try.prog 26 [] (.val (.agg (encDv nV))) := newV_spec
  rw [encDv] at cN
  simp only [encDv, encI, List.map_cons, List.map_nil] at c0
  simp only [encSd, encJb] at c0 c1 c2 c3 c4 c5
  simp -implicitDefEqProofs only [↓aP, aQ, ↓reduceIte, Nat.reduceEqDiff, Nat.reduceAdd, Nat.reduceSub, Nat.reduceMul, Nat.reduceLT, Nat.reduceLeDiff, reduceCtorEq, Nat.reduceBEq, forall_const, implies_true, exists_const, ne_eq, Int.reduceAdd, Int.reduceSub, Int.reduceMul, Int.reduceBEq, Int.reduceEq, Int.reduceLT, Int.reduceLE, Int.reduceToNat, Int.reduceNeg, Int.reduceBNe]
  refine ask cN ?_
  simp -implicitDefEqProofs only [↓aP, aQ, ↓reduceIte, Nat.reduceEqDiff, Nat.reduceAdd, Nat.reduceSub, Nat.reduceMul, Nat.reduceLT, Nat.reduceLeDiff, reduceCtorEq, Nat.reduceBEq, forall_const, implies_true, exists_const, ne_eq, Int.reduceAdd, Int.reduceSub, Int.reduceMul, Int.reduceBEq, Int.reduceEq, Int.reduceLT, Int.reduceLE, Int.reduceToNat, Int.reduceNeg, Int.reduceBNe]
  refine ask c0 ?_
  simp -implicitDefEqProofs only [↓aP, aQ, ↓reduceIte, Nat.reduceEqDiff, Nat.reduceAdd, Nat.reduceSub, Nat.reduceMul, Nat.reduceLT, Nat.reduceLeDiff, reduceCtorEq, Nat.reduceBEq, forall_const, implies_true, exists_const, ne_eq, Int.reduceAdd, Int.reduceSub, Int.reduceMul, Int.reduceBEq, Int.reduceEq, Int.reduceLT, Int.reduceLE, Int.reduceToNat, Int.reduceNeg, Int.reduceBNe]
  refine ask c1 ?_
  simp -implicitDefEqProofs only [↓aP, aQ, ↓reduceIte, Nat.reduceEqDiff, Nat.reduceAdd, Nat.reduceSub, Nat.reduceMul, Nat.reduceLT, Nat.reduceLeDiff, reduceCtorEq, Nat.reduceBEq, forall_const, implies_true, exists_const, ne_eq, Int.reduceAdd, Int.reduceSub, Int.reduceMul, Int.reduceBEq, Int.reduceEq, Int.reduceLT, Int.reduceLE, Int.reduceToNat, Int.reduceNeg, Int.reduceBNe]
  refine ask c2 ?_
  simp -implicitDefEqProofs only [↓aP, aQ, ↓reduceIte, Nat.reduceEqDiff, Nat.reduceAdd, Nat.reduceSub, Nat.reduceMul, Nat.reduceLT, Nat.reduceLeDiff, reduceCtorEq, Nat.reduceBEq, forall_const, implies_true, exists_const, ne_eq, Int.reduceAdd, Int.reduceSub, Int.reduceMul, Int.reduceBEq, Int.reduceEq, Int.reduceLT, Int.reduceLE, Int.reduceToNat, Int.reduceNeg, Int.reduceBNe]
  refine ask c3 ?_
  simp -implicitDefEqProofs only [↓aP, aQ, ↓reduceIte, Nat.reduceEqDiff, Nat.reduceAdd, Nat.reduceSub, Nat.reduceMul, Nat.reduceLT, Nat.reduceLeDiff, reduceCtorEq, Nat.reduceBEq, forall_const, implies_true, exists_const, ne_eq, Int.reduceAdd, Int.reduceSub, Int.reduceMul, Int.reduceBEq, Int.reduceEq, Int.reduceLT, Int.reduceLE, Int.reduceToNat, Int.reduceNeg, Int.reduceBNe]
  refine ask c4 ?_
  simp -implicitDefEqProofs only [↓aP, aQ, ↓reduceIte, Nat.reduceEqDiff, Nat.reduceAdd, Nat.reduceSub, Nat.reduceMul, Nat.reduceLT, Nat.reduceLeDiff, reduceCtorEq, Nat.reduceBEq, forall_const, implies_true, exists_const, ne_eq, Int.reduceAdd, Int.reduceSub, Int.reduceMul, Int.reduceBEq, Int.reduceEq, Int.reduceLT, Int.reduceLE, Int.reduceToNat, Int.reduceNeg, Int.reduceBNe, beq_self_eq_true, List.length_map, a3, a5, a6, a7, a8]
  refine ask c5 ?_
  simp -implicitDefEqProofs only [↓aP, aQ, ↓reduceIte, Nat.reduceEqDiff, Nat.reduceAdd, Nat.reduceSub, Nat.reduceMul, Nat.reduceLT, Nat.reduceLeDiff, reduceCtorEq, Nat.reduceBEq, forall_const, implies_true, exists_const, ne_eq, Int.reduceAdd, Int.reduceSub, Int.reduceMul, Int.reduceBEq, Int.reduceEq, Int.reduceLT, Int.reduceLE, Int.reduceToNat, Int.reduceNeg, Int.reduceBNe]
end Go.Proofs.Ytfmbfgoofiojcaa
