/- layer 15: the document's Find; the law FramesRoom. -/
import Derived.Test.YtcindpblgbpcoaaFQ
import Derived.Test.YtcindpblgbpcoaaE1
import Derived.Test.YtcindpblgbpcoaaAm19
namespace Go.Proofs.Ytcindpblgbpcoaa
open Go.RowKit
set_option linter.unusedVariables false
set_option linter.unusedSimpArgs false

theorem rrFind_spec (f : Fs) (id : Int) (k : Nat) (hk : k < f.pg.length) (hid : f.pg[k].id = id) (h0 : 0 < id) (hno : ∀ j (hj : j < f.pg.length), j < k → f.pg[j].id ≠ id) (hl : f.pg.length ≤ 1000000) : Spec Try.prog 21 [.agg (encFs f), rI id] (.val (rI (k : Int))) := by
  refine spec_val mixed fn21 (by simp) ?_
  unfold ac21
  simp -implicitDefEqProofs only [↓aP, aQ, ↓reduceIte, Nat.reduceEqDiff, Nat.reduceAdd, Nat.reduceSub, Nat.reduceMul, Nat.reduceLT, Nat.reduceLeDiff, reduceCtorEq, Nat.reduceBEq, forall_const, implies_true, exists_const, ne_eq, Int.reduceAdd, Int.reduceSub, Int.reduceMul, Int.reduceBEq, Int.reduceEq, Int.reduceLT, Int.reduceLE, Int.reduceToNat, Int.reduceNeg, Int.reduceBNe, encFs]
  refine loopA (fun m σ => ∃ i : Nat, i + m = k ∧ σ.slot 1 = vI id ∧ σ.slot 2 = .c (.ptr 2 1 0 0) ∧ σ.h.gen 2 = 1 ∧ σ.h.blk 2 = .box 57 5 [(encFs f).map AC.s] ∧ σ.slot 5 = vI i) k ⟨0, by omega, ?_⟩ ?_
  · simp -implicitDefEqProofs only [↓aP, aQ, ↓reduceIte, Nat.reduceEqDiff, Nat.reduceAdd, Nat.reduceSub, Nat.reduceMul, Nat.reduceLT, Nat.reduceLeDiff, reduceCtorEq, Nat.reduceBEq, forall_const, implies_true, exists_const, ne_eq, Int.reduceAdd, Int.reduceSub, Int.reduceMul, Int.reduceBEq, Int.reduceEq, Int.reduceLT, Int.reduceLE, Int.reduceToNat, Int.reduceNeg, Int.reduceBNe, encFs]
  rintro m σ ⟨i, him, s1, s2, g2, b2, s5⟩
  have hi : i < f.pg.length := by omega
  have wi : IntKind.i64.wrap ((i : Int) + 1) = ((i + 1 : Nat) : Int) := by rw [wrapI (by omega)]; omega
  by_cases hm : m = 0
  · obtain rfl : i = k := by omega
    simp -implicitDefEqProofs only [↓aP, aQ, ↓reduceIte, Nat.reduceEqDiff, Nat.reduceAdd, Nat.reduceSub, Nat.reduceMul, Nat.reduceLT, Nat.reduceLeDiff, reduceCtorEq, Nat.reduceBEq, forall_const, implies_true, exists_const, ne_eq, Int.reduceAdd, Int.reduceSub, Int.reduceMul, Int.reduceBEq, Int.reduceEq, Int.reduceLT, Int.reduceLE, Int.reduceToNat, Int.reduceNeg, Int.reduceBNe, s1, s2, g2, b2, s5, encFs, List.length_map, show decide ((i : Int) < (f.pg.length : Int)) = true by simp; omega, show decide ((0 : Int) < id) = true from decide_eq_true h0, askIdx_map, hi, encPg, hid, beq_self_eq_true]
  · simp -implicitDefEqProofs only [↓aP, aQ, ↓reduceIte, Nat.reduceEqDiff, Nat.reduceAdd, Nat.reduceSub, Nat.reduceMul, Nat.reduceLT, Nat.reduceLeDiff, reduceCtorEq, Nat.reduceBEq, forall_const, implies_true, exists_const, ne_eq, Int.reduceAdd, Int.reduceSub, Int.reduceMul, Int.reduceBEq, Int.reduceEq, Int.reduceLT, Int.reduceLE, Int.reduceToNat, Int.reduceNeg, Int.reduceBNe, s1, s2, g2, b2, s5, encFs, List.length_map, show decide ((i : Int) < (f.pg.length : Int)) = true by simp; omega, show decide ((0 : Int) < id) = true from decide_eq_true h0, askIdx_map, hi, encPg, show (f.pg[i].id == id) = false from beq_eq_false_iff_ne.2 (hno i hi (by omega)), wi]
    refine ⟨m - 1, by omega, i + 1, by omega, ?_⟩
    simp -implicitDefEqProofs only [↓aP, aQ, ↓reduceIte, Nat.reduceEqDiff, Nat.reduceAdd, Nat.reduceSub, Nat.reduceMul, Nat.reduceLT, Nat.reduceLeDiff, reduceCtorEq, Nat.reduceBEq, forall_const, implies_true, exists_const, ne_eq, Int.reduceAdd, Int.reduceSub, Int.reduceMul, Int.reduceBEq, Int.reduceEq, Int.reduceLT, Int.reduceLE, Int.reduceToNat, Int.reduceNeg, Int.reduceBNe, s1, s2, g2, b2, s5, encFs]
def freeL (l : List Pg) : Bool := l.any fun p => p.id == 0
def pinL (l : List Fr) : Bool := l.all fun c => decide (0 < c.pins)
theorem freeL_snoc {l : List Pg} {i : Nat} (h : i < l.length) : freeL (l.take (i + 1)) = (freeL (l.take i) || (l[i].id == 0)) := by
  unfold freeL; rw [take_snoc h, List.any_append]; simp
theorem pinL_snoc {l : List Fr} {i : Nat} (h : i < l.length) : pinL (l.take (i + 1)) = (pinL (l.take i) && decide (0 < l[i].pins)) := by
  unfold pinL; rw [take_snoc h, List.all_append]; simp

set_option maxRecDepth 100000 in
set_option maxHeartbeats 4000000 in
theorem law_room (f : Fs) : Spec Try.prog 4 [.agg (encFs f)] (.val (rB true)) := by
  refine spec_val mixed fn4 (by simp) ?_
  unfold ac4
  have c0 := ref_spec f
  simp -implicitDefEqProofs only [↓aP, aQ, ↓reduceIte, Nat.reduceEqDiff, Nat.reduceAdd, Nat.reduceSub, Nat.reduceMul, Nat.reduceLT, Nat.reduceLeDiff, reduceCtorEq, Nat.reduceBEq, forall_const, implies_true, exists_const, ne_eq, Int.reduceAdd, Int.reduceSub, Int.reduceMul, Int.reduceBEq, Int.reduceEq, Int.reduceLT, Int.reduceLE, Int.reduceToNat, Int.reduceNeg, Int.reduceBNe, encFs]
  refine ask (by have := c0; rw [encFs] at this; exact this) ?_
  cases hb : (refF f).2
  · simp -implicitDefEqProofs only [↓aP, aQ, ↓reduceIte, Nat.reduceEqDiff, Nat.reduceAdd, Nat.reduceSub, Nat.reduceMul, Nat.reduceLT, Nat.reduceLeDiff, reduceCtorEq, Nat.reduceBEq, forall_const, implies_true, exists_const, ne_eq, Int.reduceAdd, Int.reduceSub, Int.reduceMul, Int.reduceBEq, Int.reduceEq, Int.reduceLT, Int.reduceLE, Int.reduceToNat, Int.reduceNeg, Int.reduceBNe, encFs, hb]
    refine ask awake15_spec ?_
    simp -implicitDefEqProofs only [↓aP, aQ, ↓reduceIte, Nat.reduceEqDiff, Nat.reduceAdd, Nat.reduceSub, Nat.reduceMul, Nat.reduceLT, Nat.reduceLeDiff, reduceCtorEq, Nat.reduceBEq, forall_const, implies_true, exists_const, ne_eq, Int.reduceAdd, Int.reduceSub, Int.reduceMul, Int.reduceBEq, Int.reduceEq, Int.reduceLT, Int.reduceLE, Int.reduceToNat, Int.reduceNeg, Int.reduceBNe]
  have e1 : (refF f).1 = f := by
    unfold refF at hb ⊢
    split at hb
    · rename_i h; rw [if_pos h]
    · exact Bool.noConfusion hb
  have hfew : few f = true := by
    unfold refF at hb
    split at hb
    · rename_i h; exact h.1
    · exact Bool.noConfusion hb
  have hs : f.ck.fr.length < 4611686018427387904 ∧ f.tb.length < 4611686018427387904 ∧ f.pg.length < 4611686018427387904 ∧ f.dt.length < 4611686018427387904 := by
    unfold few at hfew
    rw [decide_eq_true_iff] at hfew
    omega
  simp -implicitDefEqProofs only [↓aP, aQ, ↓reduceIte, Nat.reduceEqDiff, Nat.reduceAdd, Nat.reduceSub, Nat.reduceMul, Nat.reduceLT, Nat.reduceLeDiff, reduceCtorEq, Nat.reduceBEq, forall_const, implies_true, exists_const, ne_eq, Int.reduceAdd, Int.reduceSub, Int.reduceMul, Int.reduceBEq, Int.reduceEq, Int.reduceLT, Int.reduceLE, Int.reduceToNat, Int.reduceNeg, Int.reduceBNe, encFs, hb, e1]
  refine ask (by have := rrRight_spec f ⟨hs.1, hs.2.2.2⟩; rw [encFs] at this; exact this) ?_
  cases hr : Fm.rightR f
  · simp -implicitDefEqProofs only [↓aP, aQ, ↓reduceIte, Nat.reduceEqDiff, Nat.reduceAdd, Nat.reduceSub, Nat.reduceMul, Nat.reduceLT, Nat.reduceLeDiff, reduceCtorEq, Nat.reduceBEq, forall_const, implies_true, exists_const, ne_eq, Int.reduceAdd, Int.reduceSub, Int.reduceMul, Int.reduceBEq, Int.reduceEq, Int.reduceLT, Int.reduceLE, Int.reduceToNat, Int.reduceNeg, Int.reduceBNe]
    refine ask awake15_spec ?_
    simp -implicitDefEqProofs only [↓aP, aQ, ↓reduceIte, Nat.reduceEqDiff, Nat.reduceAdd, Nat.reduceSub, Nat.reduceMul, Nat.reduceLT, Nat.reduceLeDiff, reduceCtorEq, Nat.reduceBEq, forall_const, implies_true, exists_const, ne_eq, Int.reduceAdd, Int.reduceSub, Int.reduceMul, Int.reduceBEq, Int.reduceEq, Int.reduceLT, Int.reduceLE, Int.reduceToNat, Int.reduceNeg, Int.reduceBNe]
  have h := rt_of_ref hr
  have h8 := (right_fr h.clock).1
  have hsm := h.same
  simp -implicitDefEqProofs only [↓aP, aQ, ↓reduceIte, Nat.reduceEqDiff, Nat.reduceAdd, Nat.reduceSub, Nat.reduceMul, Nat.reduceLT, Nat.reduceLeDiff, reduceCtorEq, Nat.reduceBEq, forall_const, implies_true, exists_const, ne_eq, Int.reduceAdd, Int.reduceSub, Int.reduceMul, Int.reduceBEq, Int.reduceEq, Int.reduceLT, Int.reduceLE, Int.reduceToNat, Int.reduceNeg, Int.reduceBNe, encFs, List.length_map]
  refine rangeB f.pg.length (fun i σ => σ.slot 1 = .c (.ptr 1 1 0 0) ∧ σ.h.gen 1 = 1 ∧ σ.h.blk 1 = .box 32 5 [(encFs f).map AC.s] ∧ σ.slot 3 = .c (.ptr 3 1 0 0) ∧ σ.h.gen 3 = 1 ∧ σ.h.blk 3 = .box 57 5 [(encFs f).map AC.s] ∧ σ.slot 5 = .c (.s (.pv (.bool (freeL (f.pg.take i))))) ∧ σ.slot 6 = .c (.s (.pv (.bool (pinL (f.ck.fr.take i))))) ∧ σ.slot 30 = vL 3 (f.pg.map encPg) ∧ σ.slot 31 = vI f.pg.length ∧ σ.slot 32 = vI i) ?_ ?_ ?_
  · simp -implicitDefEqProofs only [↓aP, aQ, ↓reduceIte, Nat.reduceEqDiff, Nat.reduceAdd, Nat.reduceSub, Nat.reduceMul, Nat.reduceLT, Nat.reduceLeDiff, reduceCtorEq, Nat.reduceBEq, forall_const, implies_true, exists_const, ne_eq, Int.reduceAdd, Int.reduceSub, Int.reduceMul, Int.reduceBEq, Int.reduceEq, Int.reduceLT, Int.reduceLE, Int.reduceToNat, Int.reduceNeg, Int.reduceBNe, encFs]
    exact ⟨rfl, rfl⟩
  · rintro i m σ him hi hlt ⟨s1, g1, b1, s3, g3, b3, s5, s6, s30, s31, s32⟩
    have hic : i < f.ck.fr.length := by omega
    have f1 := freeL_snoc hi
    have f2 := pinL_snoc hic
    cases x1 : freeL (f.pg.take i) <;> cases x2 : pinL (f.ck.fr.take i) <;> (rw [x1] at f1; rw [x2] at f2; simp -implicitDefEqProofs only [↓aP, aQ, ↓reduceIte, Nat.reduceEqDiff, Nat.reduceAdd, Nat.reduceSub, Nat.reduceMul, Nat.reduceLT, Nat.reduceLeDiff, reduceCtorEq, Nat.reduceBEq, forall_const, implies_true, exists_const, ne_eq, Int.reduceAdd, Int.reduceSub, Int.reduceMul, Int.reduceBEq, Int.reduceEq, Int.reduceLT, Int.reduceLE, Int.reduceToNat, Int.reduceNeg, Int.reduceBNe, hlt, s1, g1, b1, s3, g3, b3, s5, s6, s30, s31, s32, x1, x2, askIdx_map, hi, hic, encPg, encFr, encFs, List.length_map, wrapS (show i < 4611686018427387904 by omega)])
    all_goals try simp -implicitDefEqProofs only [↓aP, aQ, ↓reduceIte, Nat.reduceEqDiff, Nat.reduceAdd, Nat.reduceSub, Nat.reduceMul, Nat.reduceLT, Nat.reduceLeDiff, reduceCtorEq, Nat.reduceBEq, forall_const, implies_true, exists_const, ne_eq, Int.reduceAdd, Int.reduceSub, Int.reduceMul, Int.reduceBEq, Int.reduceEq, Int.reduceLT, Int.reduceLE, Int.reduceToNat, Int.reduceNeg, Int.reduceBNe, s1, g1, b1, s3, g3, b3, s5, s6, s30, s31, s32, encFs, askIdx_map, hic, encFr, wrapS (show i < 4611686018427387904 by omega)]
    all_goals (refine nextR hi him ?_; simp -implicitDefEqProofs only [↓aP, aQ, ↓reduceIte, Nat.reduceEqDiff, Nat.reduceAdd, Nat.reduceSub, Nat.reduceMul, Nat.reduceLT, Nat.reduceLeDiff, reduceCtorEq, Nat.reduceBEq, forall_const, implies_true, exists_const, ne_eq, Int.reduceAdd, Int.reduceSub, Int.reduceMul, Int.reduceBEq, Int.reduceEq, Int.reduceLT, Int.reduceLE, Int.reduceToNat, Int.reduceNeg, Int.reduceBNe, s1, g1, b1, s3, g3, b3, s5, s6, s30, s31, s32, f1, f2, encFs, Bool.true_or, Bool.false_or, Bool.true_and, Bool.false_and])
  · rintro m σ hlt ⟨s1, g1, b1, s3, g3, b3, s5, s6, s30, s31, s32⟩
    rw [List.take_length] at s5
    rw [show f.pg.length = f.ck.fr.length from hsm, List.take_length] at s6
    have c1 := froom_spec f ⟨hs.1, hs.2.2.2⟩
    unfold encRoom at c1
    simp -implicitDefEqProofs only [↓aP, aQ, ↓reduceIte, Nat.reduceEqDiff, Nat.reduceAdd, Nat.reduceSub, Nat.reduceMul, Nat.reduceLT, Nat.reduceLeDiff, reduceCtorEq, Nat.reduceBEq, forall_const, implies_true, exists_const, ne_eq, Int.reduceAdd, Int.reduceSub, Int.reduceMul, Int.reduceBEq, Int.reduceEq, Int.reduceLT, Int.reduceLE, Int.reduceToNat, Int.reduceNeg, Int.reduceBNe, hlt, s1, g1, b1, s3, g3, b3, s5, s6, s30, s31, s32, encFs]
    cases ha : freeL f.pg
    case true =>
      rw [room_free h ha, encFs] at c1
      refine ask c1 ?_
      simp -implicitDefEqProofs only [↓aP, aQ, ↓reduceIte, Nat.reduceEqDiff, Nat.reduceAdd, Nat.reduceSub, Nat.reduceMul, Nat.reduceLT, Nat.reduceLeDiff, reduceCtorEq, Nat.reduceBEq, forall_const, implies_true, exists_const, ne_eq, Int.reduceAdd, Int.reduceSub, Int.reduceMul, Int.reduceBEq, Int.reduceEq, Int.reduceLT, Int.reduceLE, Int.reduceToNat, Int.reduceNeg, Int.reduceBNe, encPg, zP, s5, ha]
      refine askEq (eqP (x := ⟨0, 0, ⟨#[]⟩⟩) (y := ⟨0, 0, ⟨#[]⟩⟩) rfl) ?_
      simp -implicitDefEqProofs only [↓aP, aQ, ↓reduceIte, Nat.reduceEqDiff, Nat.reduceAdd, Nat.reduceSub, Nat.reduceMul, Nat.reduceLT, Nat.reduceLeDiff, reduceCtorEq, Nat.reduceBEq, forall_const, implies_true, exists_const, ne_eq, Int.reduceAdd, Int.reduceSub, Int.reduceMul, Int.reduceBEq, Int.reduceEq, Int.reduceLT, Int.reduceLE, Int.reduceToNat, Int.reduceNeg, Int.reduceBNe]
      refine ask awake15_spec ?_
      simp -implicitDefEqProofs only [↓aP, aQ, ↓reduceIte, Nat.reduceEqDiff, Nat.reduceAdd, Nat.reduceSub, Nat.reduceMul, Nat.reduceLT, Nat.reduceLeDiff, reduceCtorEq, Nat.reduceBEq, forall_const, implies_true, exists_const, ne_eq, Int.reduceAdd, Int.reduceSub, Int.reduceMul, Int.reduceBEq, Int.reduceEq, Int.reduceLT, Int.reduceLE, Int.reduceToNat, Int.reduceNeg, Int.reduceBNe]
    cases hp : pinL f.ck.fr
    case true =>
      rw [room_busy h ha hp, encFs] at c1
      refine ask c1 ?_
      simp -implicitDefEqProofs only [↓aP, aQ, ↓reduceIte, Nat.reduceEqDiff, Nat.reduceAdd, Nat.reduceSub, Nat.reduceMul, Nat.reduceLT, Nat.reduceLeDiff, reduceCtorEq, Nat.reduceBEq, forall_const, implies_true, exists_const, ne_eq, Int.reduceAdd, Int.reduceSub, Int.reduceMul, Int.reduceBEq, Int.reduceEq, Int.reduceLT, Int.reduceLE, Int.reduceToNat, Int.reduceNeg, Int.reduceBNe, encPg, zP, s5, s6, ha, hp]
      refine askEq (eqP (x := ⟨0, 0, ⟨#[]⟩⟩) (y := ⟨0, 0, ⟨#[]⟩⟩) rfl) ?_
      simp -implicitDefEqProofs only [↓aP, aQ, ↓reduceIte, Nat.reduceEqDiff, Nat.reduceAdd, Nat.reduceSub, Nat.reduceMul, Nat.reduceLT, Nat.reduceLeDiff, reduceCtorEq, Nat.reduceBEq, forall_const, implies_true, exists_const, ne_eq, Int.reduceAdd, Int.reduceSub, Int.reduceMul, Int.reduceBEq, Int.reduceEq, Int.reduceLT, Int.reduceLE, Int.reduceToNat, Int.reduceNeg, Int.reduceBNe]
      refine ask awake15_spec ?_
      simp -implicitDefEqProofs only [↓aP, aQ, ↓reduceIte, Nat.reduceEqDiff, Nat.reduceAdd, Nat.reduceSub, Nat.reduceMul, Nat.reduceLT, Nat.reduceLeDiff, reduceCtorEq, Nat.reduceBEq, forall_const, implies_true, exists_const, ne_eq, Int.reduceAdd, Int.reduceSub, Int.reduceMul, Int.reduceBEq, Int.reduceEq, Int.reduceLT, Int.reduceLE, Int.reduceToNat, Int.reduceNeg, Int.reduceBNe]
    obtain ⟨k, hk, hc, j1, j2, j3, j4, j5, j6⟩ := room_goes h ha hp
    have hid := okPg_id (rt_at h hk j2).2.1
    have hfd := (rt_at h hk j2).2.2
    have huniq : ∀ j (hj : j < f.pg.length), j < k → f.pg[j].id ≠ f.pg[k].id := fun j hj hjk e => by
      have := (rt_at h hj (by rw [e]; exact j2)).2.2
      rw [e, hfd] at this
      have := congrArg Prod.fst this
      simp only at this
      omega
    have c2 := rrFind_spec f f.pg[k].id k hk rfl (by omega) huniq (by omega)
    have hr2 := rt_iff.2 j5
    have h82 := (right_fr j5.clock).1
    have hd2 := right_len j5.dirty
    have hsh : Sh (Fm.room f).1 := ⟨by omega, by omega⟩
    have c3 := fFind_spec (Fm.room f).1 f.pg[k].id hsh
    have c4 := fRight_spec (Fm.room f).1 hsh
    have e3 : Fm.find (Fm.room f).1 f.pg[k].id = Ta.find (Fm.room f).1.tb f.pg[k].id := by unfold Fm.find; rw [if_pos hr2]
    unfold encSlot at c3
    rw [e3, j6] at c3
    rw [hr2] at c4
    rw [j1, j4] at c1
    generalize (Fm.room f).1 = q at c1 c3 c4
    generalize (Fm.room f).2.2.1 = dd at c1 c3
    rw [encFs] at c1 c2 c3 c4
    refine ask c1 ?_
    simp -implicitDefEqProofs only [↓aP, aQ, ↓reduceIte, Nat.reduceEqDiff, Nat.reduceAdd, Nat.reduceSub, Nat.reduceMul, Nat.reduceLT, Nat.reduceLeDiff, reduceCtorEq, Nat.reduceBEq, forall_const, implies_true, exists_const, ne_eq, Int.reduceAdd, Int.reduceSub, Int.reduceMul, Int.reduceBEq, Int.reduceEq, Int.reduceLT, Int.reduceLE, Int.reduceToNat, Int.reduceNeg, Int.reduceBNe, encFs, encPg, s5, s6, ha, hp, s1, g1, b1, s3, g3, b3, s5, s6, s30, s31, s32]
    refine ask c2 ?_
    simp -implicitDefEqProofs only [↓aP, aQ, ↓reduceIte, Nat.reduceEqDiff, Nat.reduceAdd, Nat.reduceSub, Nat.reduceMul, Nat.reduceLT, Nat.reduceLeDiff, reduceCtorEq, Nat.reduceBEq, forall_const, implies_true, exists_const, ne_eq, Int.reduceAdd, Int.reduceSub, Int.reduceMul, Int.reduceBEq, Int.reduceEq, Int.reduceLT, Int.reduceLE, Int.reduceToNat, Int.reduceNeg, Int.reduceBNe, encFs, encPg, s1, g1, b1, s3, g3, b3, s5, s6, s30, s31, s32]
    refine ask c3 ?_
    simp -implicitDefEqProofs only [↓aP, aQ, ↓reduceIte, Nat.reduceEqDiff, Nat.reduceAdd, Nat.reduceSub, Nat.reduceMul, Nat.reduceLT, Nat.reduceLeDiff, reduceCtorEq, Nat.reduceBEq, forall_const, implies_true, exists_const, ne_eq, Int.reduceAdd, Int.reduceSub, Int.reduceMul, Int.reduceBEq, Int.reduceEq, Int.reduceLT, Int.reduceLE, Int.reduceToNat, Int.reduceNeg, Int.reduceBNe, encFs, encPg, s1, g1, b1, s3, g3, b3, s5, s6, s30, s31, s32, askIdx_map, hk, hc, encFr]
    refine askEq (eqP (x := f.pg[k]) (y := f.pg[k]) rfl) ?_
    simp -implicitDefEqProofs only [↓aP, aQ, ↓reduceIte, Nat.reduceEqDiff, Nat.reduceAdd, Nat.reduceSub, Nat.reduceMul, Nat.reduceLT, Nat.reduceLeDiff, reduceCtorEq, Nat.reduceBEq, forall_const, implies_true, exists_const, ne_eq, Int.reduceAdd, Int.reduceSub, Int.reduceMul, Int.reduceBEq, Int.reduceEq, Int.reduceLT, Int.reduceLE, Int.reduceToNat, Int.reduceNeg, Int.reduceBNe, encFs, encPg, s1, g1, b1, s3, g3, b3, s5, s6, s30, s31, s32, askIdx_map, hk, hc, encFr, j3, beq_self_eq_true]
    refine ask c4 ?_
    simp -implicitDefEqProofs only [↓aP, aQ, ↓reduceIte, Nat.reduceEqDiff, Nat.reduceAdd, Nat.reduceSub, Nat.reduceMul, Nat.reduceLT, Nat.reduceLeDiff, reduceCtorEq, Nat.reduceBEq, forall_const, implies_true, exists_const, ne_eq, Int.reduceAdd, Int.reduceSub, Int.reduceMul, Int.reduceBEq, Int.reduceEq, Int.reduceLT, Int.reduceLE, Int.reduceToNat, Int.reduceNeg, Int.reduceBNe]
    refine ask awake15_spec ?_
    simp -implicitDefEqProofs only [↓aP, aQ, ↓reduceIte, Nat.reduceEqDiff, Nat.reduceAdd, Nat.reduceSub, Nat.reduceMul, Nat.reduceLT, Nat.reduceLeDiff, reduceCtorEq, Nat.reduceBEq, forall_const, implies_true, exists_const, ne_eq, Int.reduceAdd, Int.reduceSub, Int.reduceMul, Int.reduceBEq, Int.reduceEq, Int.reduceLT, Int.reduceLE, Int.reduceToNat, Int.reduceNeg, Int.reduceBNe]
    all_goals decide +kernel
end Go.Proofs.Ytcindpblgbpcoaa
namespace Go.Proofs.Ytcindpblgbpcoaa
open Go.RowKit Go.ChangeShapes Go.WideShapes
set_option linter.unusedVariables false
theorem opens_fr {H : Type} {enc : TypeId × Value → H} {w : World} {spare : Nat → Bool} {held : Bool} : Opens Try.prog enc w spare held 46 3 (fun ys => ∃ x : Fr, ys = encFr x) := by
  have h := opens_struct (enc := enc) (w := w) (spare := spare) (held := held) Try.underlying46 (by kernel_rfl) (.cons rfl (opens_int Try.underlying3 (by kernel_rfl)) (.cons rfl (opens_int Try.underlying3 (by kernel_rfl)) (.cons rfl (opens_bool Try.underlying4 (by kernel_rfl)) (.nil _))))
  refine ⟨h.1, fun fuel cs x hx => ?_⟩
  obtain ⟨ys, ⟨a, b, rfl, ⟨n, rfl, hn⟩, c, e, rfl, ⟨n2, rfl, hn2⟩, c2, e2, rfl, ⟨s, rfl⟩, rfl⟩, h2, h3⟩ := h.2 _ _ _ hx
  exact ⟨_, ⟨⟨n, n2, s⟩, rfl⟩, h2, h3⟩
theorem opens_sl {H : Type} {enc : TypeId × Value → H} {w : World} {spare : Nat → Bool} {held : Bool} : Opens Try.prog enc w spare held 120 2 (fun ys => ∃ x : Sl, ys = encSl x) := by
  have h := opens_struct (enc := enc) (w := w) (spare := spare) (held := held) Try.underlying120 (by kernel_rfl) (.cons rfl (opens_int Try.underlying3 (by kernel_rfl)) (.cons rfl (opens_int Try.underlying3 (by kernel_rfl)) (.nil _)))
  refine ⟨h.1, fun fuel cs x hx => ?_⟩
  obtain ⟨ys, ⟨a, b, rfl, ⟨n, rfl, hn⟩, c, e, rfl, ⟨n2, rfl, hn2⟩, rfl⟩, h2, h3⟩ := h.2 _ _ _ hx
  exact ⟨_, ⟨⟨n, n2⟩, rfl⟩, h2, h3⟩
theorem opens_it {H : Type} {enc : TypeId × Value → H} {w : World} {spare : Nat → Bool} {held : Bool} : Opens Try.prog enc w spare held 117 2 (fun ys => ∃ x : It, ys = encIt x) := by
  have h := opens_struct (enc := enc) (w := w) (spare := spare) (held := held) Try.underlying117 (by kernel_rfl) (.cons rfl (opens_int Try.underlying3 (by kernel_rfl)) (.cons rfl (opens_int Try.underlying3 (by kernel_rfl)) (.nil _)))
  refine ⟨h.1, fun fuel cs x hx => ?_⟩
  obtain ⟨ys, ⟨a, b, rfl, ⟨n, rfl, hn⟩, c, e, rfl, ⟨n2, rfl, hn2⟩, rfl⟩, h2, h3⟩ := h.2 _ _ _ hx
  exact ⟨_, ⟨⟨n, n2⟩, rfl⟩, h2, h3⟩
theorem opens_pg {H : Type} {enc : TypeId × Value → H} {w : World} {spare : Nat → Bool} {held : Bool} : Opens Try.prog enc w spare held 38 3 (fun ys => ∃ x : Pg, ys = encPg x) := by
  have h := opens_struct (enc := enc) (w := w) (spare := spare) (held := held) Try.underlying38 (by kernel_rfl) (.cons rfl (opens_int Try.underlying3 (by kernel_rfl)) (.cons rfl (opens_int Try.underlying3 (by kernel_rfl)) (.cons rfl (opens_str Try.underlying9 (by kernel_rfl)) (.nil _))))
  refine ⟨h.1, fun fuel cs x hx => ?_⟩
  obtain ⟨ys, ⟨a, b, rfl, ⟨n, rfl, hn⟩, c, e, rfl, ⟨n2, rfl, hn2⟩, c2, e2, rfl, ⟨s, rfl, hs⟩, rfl⟩, h2, h3⟩ := h.2 _ _ _ hx
  exact ⟨_, ⟨⟨n, n2, s⟩, rfl⟩, h2, h3⟩
theorem opens_ck {H : Type} {enc : TypeId × Value → H} {w : World} {spare : Nat → Bool} {held : Bool} : Opens Try.prog enc w spare held 25 2 (fun ys => ∃ x : Clk, ys = encClk x ∧ x.fr.length ≤ maxLen) := by
  have h := opens_struct (enc := enc) (w := w) (spare := spare) (held := held) Try.underlying25 (by kernel_rfl) (.cons rfl (opens_slice Try.underlying23 (by kernel_rfl) (by decide) opens_fr) (.cons rfl (opens_int Try.underlying3 (by kernel_rfl)) (.nil _)))
  refine ⟨h.1, fun fuel cs x hx => ?_⟩
  obtain ⟨ys, ⟨a, b, rfl, ⟨els, rfl, he, hln⟩, c, e, rfl, ⟨n2, rfl, hn2⟩, rfl⟩, h2, h3⟩ := h.2 _ _ _ hx
  obtain ⟨ss, rfl⟩ := all_of_mem (f := encFr) (fun y hy => he y hy)
  exact ⟨_, ⟨⟨ss, n2⟩, rfl, by simpa using hln⟩, h2, h3⟩
theorem opens_tb {H : Type} {enc : TypeId × Value → H} {w : World} {spare : Nat → Bool} {held : Bool} : Opens Try.prog enc w spare held 28 1 (fun ys => ∃ t : List Sl, ys = encTa t ∧ t.length ≤ maxLen) := by
  have h := opens_struct (enc := enc) (w := w) (spare := spare) (held := held) Try.underlying28 (by kernel_rfl) (.cons rfl (opens_slice Try.underlying26 (by kernel_rfl) (by decide) opens_sl) (.nil _))
  refine ⟨h.1, fun fuel cs x hx => ?_⟩
  obtain ⟨ys, ⟨a, b, rfl, ⟨els, rfl, he, hln⟩, rfl⟩, h2, h3⟩ := h.2 _ _ _ hx
  obtain ⟨ss, rfl⟩ := all_of_mem (f := encSl) (fun y hy => he y hy)
  exact ⟨_, ⟨ss, rfl, by simpa using hln⟩, h2, h3⟩
theorem opens_fs {H : Type} {enc : TypeId × Value → H} {w : World} {spare : Nat → Bool} {held : Bool} : Opens Try.prog enc w spare held 32 5 (fun ys => ∃ x : Fs, ys = encFs x ∧ x.ck.fr.length ≤ maxLen ∧ x.tb.length ≤ maxLen ∧ x.pg.length ≤ maxLen ∧ x.dt.length ≤ maxLen) := by
  have h := opens_struct (enc := enc) (w := w) (spare := spare) (held := held) Try.underlying32 (by kernel_rfl) (.cons rfl opens_ck (.cons rfl opens_tb (.cons rfl (opens_slice Try.underlying29 (by kernel_rfl) (by decide) opens_pg) (.cons rfl (opens_slice Try.underlying30 (by kernel_rfl) (by decide) opens_it) (.nil _)))))
  refine ⟨h.1, fun fuel cs x hx => ?_⟩
  obtain ⟨ys, ⟨a, b, rfl, ⟨c, rfl, hc⟩, a2, b2, rfl, ⟨t, rfl, ht⟩, a3, b3, rfl, ⟨els, rfl, he, hln⟩, a4, b4, rfl, ⟨els2, rfl, he2, hln2⟩, rfl⟩, h2, h3⟩ := h.2 _ _ _ hx
  obtain ⟨ss, rfl⟩ := all_of_mem (f := encPg) (fun y hy => he y hy)
  obtain ⟨s2, rfl⟩ := all_of_mem (f := encIt) (fun y hy => he2 y hy)
  exact ⟨_, ⟨⟨c, t, ss, s2⟩, rfl, hc, ht, by simpa using hln, by simpa using hln2⟩, h2, h3⟩
set_option maxRecDepth 100000 in
theorem open_fs {H : Type} {enc : TypeId × Value → H} {w : World} {spare : Nat → Bool} {held : Bool} {r : Reach} {b0 : Nat} {v : Value} {d : DataW H} {p : List MemPlace} 
    (hv : Value.okWide Try.prog w r b0 32 v) (h : DataW.Trod enc Try.prog w 0 spare held 32 v d p) : ∃ x : Fs, (x.ck.fr.length ≤ maxLen ∧ x.tb.length ≤ maxLen ∧ x.pg.length ≤ maxLen ∧ x.dt.length ≤ maxLen) ∧ RepT (RepS w fun _ => False) (.agg (encFs x)) v := by
  obtain ⟨ys, ⟨x, rfl, hx⟩, h2⟩ := open_more opens_fs Try.underlying32 hv h
  exact ⟨x, hx, h2⟩
theorem framesRoom_walk {w : World} (v0 : Value) (a0 : ∃ x : Fs, (x.ck.fr.length ≤ maxLen ∧ x.tb.length ≤ maxLen ∧ x.pg.length ≤ maxLen ∧ x.dt.length ≤ maxLen) ∧ RepT (RepS w fun _ => False) (.agg (encFs x)) v0) :
    Calls Try.prog 4 #[v0] w fun e w' => e = .returned (.bool true) ∧ Below w.heap.size w w' := by
  obtain ⟨x, hx, h0⟩ := a0
  exact (law_room x).plain (us := [v0]) (.cons h0 .nil)
end Go.Proofs.Ytcindpblgbpcoaa
