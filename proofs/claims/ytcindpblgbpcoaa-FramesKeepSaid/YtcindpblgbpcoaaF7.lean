/- layer 15: the law FramesFull. -/
import Derived.Test.YtcindpblgbpcoaaF6
namespace Go.Proofs.Ytcindpblgbpcoaa
open Go.RowKit
set_option linter.unusedVariables false
set_option linter.unusedSimpArgs false
theorem fload_sp {f g : Fs} {p : Pg} {now e : Int} {fresh : Bool} (hl : smF f = true) (h1 : (Fm.load f p now fresh).1 = g) (h2 : (Fm.load f p now fresh).2 = e) : Spec Try.prog 26 [.agg (encFs f), .agg (encPg p), rI now, rB fresh] (.val (.tup [(true, encFs g), (false, [.pv (.int .i64 e)])])) := by
  have := fload_spec f p now fresh (sm_sh hl)
  rwa [h1, h2] at this

set_option maxRecDepth 100000 in
set_option maxHeartbeats 4000000 in
theorem law_full (many at' : Int) (hm : 0 ≤ many ∧ many ≤ 255) (ha : 0 ≤ at' ∧ at' ≤ 255) : Spec Try.prog 6 [.c (.pv (.int .u8 many)), .c (.pv (.int .u8 at'))] (.val (rB true)) := by
  refine spec_val mixed fn6 (by simp) ?_
  unfold ac6
  obtain ⟨m, hmm, hn⟩ : ∃ m : Nat, m < 8 ∧ IntKind.i64.wrap (1 + IntKind.i64.wrap (many.tmod 8)) = ((m + 1 : Nat) : Int) := by
    rw [Int.tmod_eq_emod_of_nonneg hm.1, wrapI (x := many % 8) (by omega), wrapI (by omega)]
    exact ⟨(many % 8).toNat, by omega, by omega⟩
  obtain ⟨n, hnm⟩ : ∃ n, n = m + 1 := ⟨_, rfl⟩
  have hok := full_all m hmm
  rw [← hnm] at hok hn
  obtain ⟨k, hk, hkk⟩ : ∃ k : Nat, k < n ∧ IntKind.i64.wrap (1 + (IntKind.i64.wrap at').tmod (n : Int)) = ((k + 1 : Nat) : Int) := by
    have h0 : (0 : Int) ≤ at' % (n : Int) := Int.emod_nonneg _ (by omega)
    have h1 : at' % (n : Int) < n := Int.emod_lt_of_pos _ (by omega)
    rw [wrapI (x := at') (by omega), Int.tmod_eq_emod_of_nonneg ha.1, wrapI (by omega)]
    exact ⟨(at' % (n : Int)).toNat, by omega, by omega⟩
  unfold okFull at hok
  simp only [Bool.and_eq_true, beq_iff_eq, List.all_eq_true, List.mem_range] at hok
  obtain ⟨⟨⟨⟨⟨o1, o2⟩, o3⟩, o4⟩, o5⟩, o6⟩ := hok
  have t1 := o6 k hk
  unfold okTail at t1
  simp only [Bool.and_eq_true, beq_iff_eq, Bool.not_eq_true'] at t1
  obtain ⟨⟨⟨⟨⟨⟨⟨u1, u2⟩, u3⟩, u4⟩, u5⟩, u6⟩, u7⟩, u8⟩ := t1
  have c0 := fNew_spec n
  rw [o1, show (Fm.newF n).1 = fillF n 0 from rfl] at c0
  have w8 : IntKind.i64.wrap (1 + IntKind.i64.wrap (many.tmod 8)) = (n : Int) := hn
  simp -implicitDefEqProofs only [↓aP, aQ, ↓reduceIte, Nat.reduceEqDiff, Nat.reduceAdd, Nat.reduceSub, Nat.reduceMul, Nat.reduceLT, Nat.reduceLeDiff, reduceCtorEq, Nat.reduceBEq, forall_const, implies_true, exists_const, ne_eq, Int.reduceAdd, Int.reduceSub, Int.reduceMul, Int.reduceBEq, Int.reduceEq, Int.reduceLT, Int.reduceLE, Int.reduceToNat, Int.reduceNeg, Int.reduceBNe, w8]
  refine ask c0 ?_
  simp -implicitDefEqProofs only [↓aP, aQ, ↓reduceIte, Nat.reduceEqDiff, Nat.reduceAdd, Nat.reduceSub, Nat.reduceMul, Nat.reduceLT, Nat.reduceLeDiff, reduceCtorEq, Nat.reduceBEq, forall_const, implies_true, exists_const, ne_eq, Int.reduceAdd, Int.reduceSub, Int.reduceMul, Int.reduceBEq, Int.reduceEq, Int.reduceLT, Int.reduceLE, Int.reduceToNat, Int.reduceNeg, Int.reduceBNe, encFs, bne_self_eq_false, w8]
  refine loopA (fun x σ => ∃ k : Nat, k + x = n ∧ σ.slot 1 = .c (.s (.pv (.int .u8 at'))) ∧ σ.slot 5 = vI n ∧ σ.slot 6 = .c (.ptr 6 1 0 0) ∧ σ.h.gen 6 = 1 ∧ σ.h.blk 6 = .box 32 5 [(encFs (fillF n k)).map AC.s] ∧ σ.slot 8 = vI (k + 1 : Nat)) n ⟨0, by omega, ?_⟩ ?_
  · simp -implicitDefEqProofs only [↓aP, aQ, ↓reduceIte, Nat.reduceEqDiff, Nat.reduceAdd, Nat.reduceSub, Nat.reduceMul, Nat.reduceLT, Nat.reduceLeDiff, reduceCtorEq, Nat.reduceBEq, forall_const, implies_true, exists_const, ne_eq, Int.reduceAdd, Int.reduceSub, Int.reduceMul, Int.reduceBEq, Int.reduceEq, Int.reduceLT, Int.reduceLE, Int.reduceToNat, Int.reduceNeg, Int.reduceBNe, encFs, w8]
  rintro x σ ⟨j, hj, s1, s5, s6, g6, b6, s8⟩
  by_cases hx : x = 0
  case neg =>
    obtain ⟨v1, v2⟩ := o3 j (by omega)
    have c1 := fload_sp (g := fillF n (j + 1)) v1 rfl v2
    rw [encFs, encPg] at c1
    have wj : IntKind.i64.wrap (((j + 1 : Nat) : Int) + 1) = ((j + 1 + 1 : Nat) : Int) := by rw [wrapI (by omega)]; omega
    simp -implicitDefEqProofs only [↓aP, aQ, ↓reduceIte, Nat.reduceEqDiff, Nat.reduceAdd, Nat.reduceSub, Nat.reduceMul, Nat.reduceLT, Nat.reduceLeDiff, reduceCtorEq, Nat.reduceBEq, forall_const, implies_true, exists_const, ne_eq, Int.reduceAdd, Int.reduceSub, Int.reduceMul, Int.reduceBEq, Int.reduceEq, Int.reduceLT, Int.reduceLE, Int.reduceToNat, Int.reduceNeg, Int.reduceBNe, s1, s5, s6, g6, b6, s8, show decide (((j + 1 : Nat) : Int) ≤ (n : Int)) = true by simp; omega, encFs]
    refine ask c1 ?_
    simp -implicitDefEqProofs only [↓aP, aQ, ↓reduceIte, Nat.reduceEqDiff, Nat.reduceAdd, Nat.reduceSub, Nat.reduceMul, Nat.reduceLT, Nat.reduceLeDiff, reduceCtorEq, Nat.reduceBEq, forall_const, implies_true, exists_const, ne_eq, Int.reduceAdd, Int.reduceSub, Int.reduceMul, Int.reduceBEq, Int.reduceEq, Int.reduceLT, Int.reduceLE, Int.reduceToNat, Int.reduceNeg, Int.reduceBNe, s1, s5, s6, g6, b6, s8, encFs, bne_self_eq_false, wj]
    refine ⟨x - 1, by omega, j + 1, by omega, ?_⟩
    simp -implicitDefEqProofs only [↓aP, aQ, ↓reduceIte, Nat.reduceEqDiff, Nat.reduceAdd, Nat.reduceSub, Nat.reduceMul, Nat.reduceLT, Nat.reduceLeDiff, reduceCtorEq, Nat.reduceBEq, forall_const, implies_true, exists_const, ne_eq, Int.reduceAdd, Int.reduceSub, Int.reduceMul, Int.reduceBEq, Int.reduceEq, Int.reduceLT, Int.reduceLE, Int.reduceToNat, Int.reduceNeg, Int.reduceBNe, s1, s5, s6, g6, b6, s8, encFs]
  obtain rfl : j = n := by omega
  have c1 := fload_spec (fillF j j) ⟨j + 1, 1, ⟨#[]⟩⟩ 0 false (sm_sh o2)
  have c2 := froom_spec (fillF j j) (sm_sh o2)
  have c3 := funpin_spec (fillF j j) ((k + 1 : Nat) : Int) (sm_sh o2)
  have c4 := froom_spec (Fm.unpin (fillF j j) ((k + 1 : Nat) : Int)).1 (sm_sh u2)
  have c5 := fFind_spec (Fm.room (Fm.unpin (fillF j j) ((k + 1 : Nat) : Int)).1).1 ((k + 1 : Nat) : Int) (sm_sh u3)
  have c6 := fRight_spec (Fm.room (Fm.unpin (fillF j j) ((k + 1 : Nat) : Int)).1).1 (sm_sh u3)
  unfold encRoom at c2 c4
  unfold encSlot at c5
  rw [o4] at c1
  rw [o5] at c2
  rw [u1] at c3
  rw [u5, u6] at c4
  rw [u7] at c5
  rw [u8] at c6
  have wj : IntKind.i64.wrap ((j : Int) + 1) = (j : Int) + 1 := wrapI (by omega)
  generalize (Fm.load (fillF j j) ⟨j + 1, 1, ⟨#[]⟩⟩ 0 false).1 = q1 at c1
  generalize (Fm.room (Fm.unpin (fillF j j) ((k + 1 : Nat) : Int)).1).1 = r at c4 c5 c6
  generalize (Fm.room (Fm.unpin (fillF j j) ((k + 1 : Nat) : Int)).1).2.1 = p at c4 u4
  generalize (Fm.unpin (fillF j j) ((k + 1 : Nat) : Int)).1 = u at c3 c4
  generalize (Fm.room (fillF j j)).1 = r2 at c2
  generalize (Fm.room (fillF j j)).2.1 = p2 at c2
  generalize (Fm.room (fillF j j)).2.2.1 = d2 at c2
  rw [encFs] at c1 c2 c3 c4 c5 c6
  rw [encPg] at c1
  simp -implicitDefEqProofs only [↓aP, aQ, ↓reduceIte, Nat.reduceEqDiff, Nat.reduceAdd, Nat.reduceSub, Nat.reduceMul, Nat.reduceLT, Nat.reduceLeDiff, reduceCtorEq, Nat.reduceBEq, forall_const, implies_true, exists_const, ne_eq, Int.reduceAdd, Int.reduceSub, Int.reduceMul, Int.reduceBEq, Int.reduceEq, Int.reduceLT, Int.reduceLE, Int.reduceToNat, Int.reduceNeg, Int.reduceBNe, s1, s5, s6, g6, b6, s8, show decide (((j + 1 : Nat) : Int) ≤ (j : Int)) = false by simp; omega, encFs, wj]
  refine ask c1 ?_
  simp -implicitDefEqProofs only [↓aP, aQ, ↓reduceIte, Nat.reduceEqDiff, Nat.reduceAdd, Nat.reduceSub, Nat.reduceMul, Nat.reduceLT, Nat.reduceLeDiff, reduceCtorEq, Nat.reduceBEq, forall_const, implies_true, exists_const, ne_eq, Int.reduceAdd, Int.reduceSub, Int.reduceMul, Int.reduceBEq, Int.reduceEq, Int.reduceLT, Int.reduceLE, Int.reduceToNat, Int.reduceNeg, Int.reduceBNe, s1, s5, s6, g6, b6, s8, encFs]
  refine ask c2 ?_
  simp -implicitDefEqProofs only [↓aP, aQ, ↓reduceIte, Nat.reduceEqDiff, Nat.reduceAdd, Nat.reduceSub, Nat.reduceMul, Nat.reduceLT, Nat.reduceLeDiff, reduceCtorEq, Nat.reduceBEq, forall_const, implies_true, exists_const, ne_eq, Int.reduceAdd, Int.reduceSub, Int.reduceMul, Int.reduceBEq, Int.reduceEq, Int.reduceLT, Int.reduceLE, Int.reduceToNat, Int.reduceNeg, Int.reduceBNe, s1, s5, s6, g6, b6, s8, encFs, encPg, hkk]
  refine ⟨by omega, ?_⟩
  refine ask c3 ?_
  simp -implicitDefEqProofs only [↓aP, aQ, ↓reduceIte, Nat.reduceEqDiff, Nat.reduceAdd, Nat.reduceSub, Nat.reduceMul, Nat.reduceLT, Nat.reduceLeDiff, reduceCtorEq, Nat.reduceBEq, forall_const, implies_true, exists_const, ne_eq, Int.reduceAdd, Int.reduceSub, Int.reduceMul, Int.reduceBEq, Int.reduceEq, Int.reduceLT, Int.reduceLE, Int.reduceToNat, Int.reduceNeg, Int.reduceBNe, s1, s5, s6, g6, b6, s8, encFs, encPg, hkk]
  refine ask c4 ?_
  simp -implicitDefEqProofs only [↓aP, aQ, ↓reduceIte, Nat.reduceEqDiff, Nat.reduceAdd, Nat.reduceSub, Nat.reduceMul, Nat.reduceLT, Nat.reduceLeDiff, reduceCtorEq, Nat.reduceBEq, forall_const, implies_true, exists_const, ne_eq, Int.reduceAdd, Int.reduceSub, Int.reduceMul, Int.reduceBEq, Int.reduceEq, Int.reduceLT, Int.reduceLE, Int.reduceToNat, Int.reduceNeg, Int.reduceBNe, s1, s5, s6, g6, b6, s8, encFs, encPg, hkk]
  refine ask c5 ?_
  simp -implicitDefEqProofs only [↓aP, aQ, ↓reduceIte, Nat.reduceEqDiff, Nat.reduceAdd, Nat.reduceSub, Nat.reduceMul, Nat.reduceLT, Nat.reduceLeDiff, reduceCtorEq, Nat.reduceBEq, forall_const, implies_true, exists_const, ne_eq, Int.reduceAdd, Int.reduceSub, Int.reduceMul, Int.reduceBEq, Int.reduceEq, Int.reduceLT, Int.reduceLE, Int.reduceToNat, Int.reduceNeg, Int.reduceBNe, s1, s5, s6, g6, b6, s8, encFs, encPg, hkk, u4, beq_self_eq_true]
  refine ask c6 ?_
  simp -implicitDefEqProofs only [↓aP, aQ, ↓reduceIte, Nat.reduceEqDiff, Nat.reduceAdd, Nat.reduceSub, Nat.reduceMul, Nat.reduceLT, Nat.reduceLeDiff, reduceCtorEq, Nat.reduceBEq, forall_const, implies_true, exists_const, ne_eq, Int.reduceAdd, Int.reduceSub, Int.reduceMul, Int.reduceBEq, Int.reduceEq, Int.reduceLT, Int.reduceLE, Int.reduceToNat, Int.reduceNeg, Int.reduceBNe]
  refine ask awake15_spec ?_
  simp -implicitDefEqProofs only [↓aP, aQ, ↓reduceIte, Nat.reduceEqDiff, Nat.reduceAdd, Nat.reduceSub, Nat.reduceMul, Nat.reduceLT, Nat.reduceLeDiff, reduceCtorEq, Nat.reduceBEq, forall_const, implies_true, exists_const, ne_eq, Int.reduceAdd, Int.reduceSub, Int.reduceMul, Int.reduceBEq, Int.reduceEq, Int.reduceLT, Int.reduceLE, Int.reduceToNat, Int.reduceNeg, Int.reduceBNe]
open Go.ChangeShapes Go.WideShapes in
theorem u8_of {k : Int} (h : (Lit.int .u8 k).wf = true) : 0 ≤ k ∧ k ≤ 255 := by
  simpa [Lit.wf, IntKind.min, IntKind.max, IntKind.signed, IntKind.bits] using h
open Go.ChangeShapes Go.WideShapes in
theorem framesFull_walk {w : World} (a : Int) (ha : (Lit.int .u8 a).wf = true) (b : Int) (hb : (Lit.int .u8 b).wf = true) :
    Calls Try.prog 6 #[.int .u8 a, .int .u8 b] w fun e w' => e = .returned (.bool true) ∧ Below w.heap.size w w' :=
  (law_full a b (u8_of ha) (u8_of hb)).plain (us := [.int .u8 a, .int .u8 b]) (.cons (.pv rfl) (.cons (.pv rfl) .nil))
end Go.Proofs.Ytcindpblgbpcoaa
