/- layer 15: Pin, Drop, Clean, Write. -/
import Derived.Test.YtcindpblgbpcoaaF5
import Derived.Test.YtcindpblgbpcoaaFQ
namespace Go.Proofs.Ytcindpblgbpcoaa
open Go.RowKit
set_option linter.unusedVariables false
set_option linter.unusedSimpArgs false
namespace Fm
def fa (f : Fs) (id : Int) : Fr := f.ck.fr.getD (locate f id).1.toNat zF
def pa (f : Fs) (id : Int) : Pg := f.pg.getD (locate f id).1.toNat zP
def pin (f : Fs) (id : Int) : Fs × Int := if (locate f id).2 ≠ 0 then (f, (locate f id).2) else if (fa f id).pins = 2147483647 then (f, 7) else (lay f (locate f id).1.toNat ⟨(fa f id).page, (fa f id).pins + 1, true⟩ (pa f id), 0)
def drop (f : Fs) (id : Int) : Fs × Int := if (locate f id).2 ≠ 0 then (f, (locate f id).2) else if 0 < (fa f id).pins then (f, 6) else (empty f (locate f id).1.toNat, 0)
def clean (f : Fs) (id : Int) : Fs × Int := if (locate f id).2 ≠ 0 then (f, (locate f id).2) else if (cleanI f.dt id).2 ≠ 0 then (f, 12) else (⟨f.ck, f.tb, f.pg, (cleanI f.dt id).1⟩, 0)
def write (f : Fs) (id : Int) (s : ByteArray) (now : Int) : Fs × Int := if (locate f id).2 ≠ 0 then (f, (locate f id).2) else if (fa f id).pins = 0 then (f, 12) else if 16 < s.size then (f, 5) else if (pa f id).ver = 2147483647 then (f, 7) else
  if (mark f id now).2 ≠ 0 then (f, (mark f id now).2) else (lay (mark f id now).1 (locate f id).1.toNat (fa f id) ⟨id, (pa f id).ver + 1, s⟩, 0)
end Fm
def encF2 (x : Fs × Int) : TV SC := .tup [(true, encFs x.1), (false, [.pv (.int .i64 x.2)])]
set_option maxRecDepth 100000 in
theorem fpin_spec (f : Fs) (id : Int) (hl : Sh f) : Spec Try.prog 22 [.agg (encFs f), rI id] (.val (encF2 (Fm.pin f id))) := by
  refine spec_val mixed fn22 (by simp) ?_
  unfold ac22
  simp -implicitDefEqProofs only [↓aP, aQ, ↓reduceIte, Nat.reduceEqDiff, Nat.reduceAdd, Nat.reduceSub, Nat.reduceMul, Nat.reduceLT, Nat.reduceLeDiff, reduceCtorEq, Nat.reduceBEq, forall_const, implies_true, exists_const, ne_eq, Int.reduceAdd, Int.reduceSub, Int.reduceMul, Int.reduceBEq, Int.reduceEq, Int.reduceLT, Int.reduceLE, Int.reduceToNat, Int.reduceNeg, Int.reduceBNe, encFs, encF2]
  refine ask (by have := flocate_spec f id hl; rw [encFs] at this; exact this) ?_
  by_cases h0 : (Fm.locate f id).2 = 0
  case neg =>
    have e : Fm.pin f id = (f, (Fm.locate f id).2) := by unfold Fm.pin; rw [if_pos h0]
    simp -implicitDefEqProofs only [↓aP, aQ, ↓reduceIte, Nat.reduceEqDiff, Nat.reduceAdd, Nat.reduceSub, Nat.reduceMul, Nat.reduceLT, Nat.reduceLeDiff, reduceCtorEq, Nat.reduceBEq, forall_const, implies_true, exists_const, ne_eq, Int.reduceAdd, Int.reduceSub, Int.reduceMul, Int.reduceBEq, Int.reduceEq, Int.reduceLT, Int.reduceLE, Int.reduceToNat, Int.reduceNeg, Int.reduceBNe, show ((Fm.locate f id).2 != 0) = true from bne_iff_ne.2 h0, e, encFs]
  obtain ⟨k, e1, k1, k2, hr, _, _, _⟩ := at_found h0
  have ht := rt_iff.1 hr
  obtain ⟨c8, _, _, cg⟩ := right_fr ht.clock
  have hs := ht.same
  have g1 := fr_getD k1
  have g2 := pg_getD k2
  have cgk := cg _ (List.getElem_mem k1)
  unfold Ck.good at cgk
  rw [decide_eq_true_iff] at cgk
  have q1 : Fm.fa f id = f.ck.fr[k] := by unfold Fm.fa; rw [e1, Int.toNat_natCast, g1]
  have q2 : Fm.pa f id = f.pg[k] := by unfold Fm.pa; rw [e1, Int.toNat_natCast, g2]
  simp -implicitDefEqProofs only [↓aP, aQ, ↓reduceIte, Nat.reduceEqDiff, Nat.reduceAdd, Nat.reduceSub, Nat.reduceMul, Nat.reduceLT, Nat.reduceLeDiff, reduceCtorEq, Nat.reduceBEq, forall_const, implies_true, exists_const, ne_eq, Int.reduceAdd, Int.reduceSub, Int.reduceMul, Int.reduceBEq, Int.reduceEq, Int.reduceLT, Int.reduceLE, Int.reduceToNat, Int.reduceNeg, Int.reduceBNe, h0, bne_self_eq_false, e1, askIdx_map, k1, k2, encFr, encPg, encFs]
  by_cases hp : f.ck.fr[k].pins = 2147483647
  · have e : Fm.pin f id = (f, 7) := by unfold Fm.pin; rw [if_neg (by simp [h0]), q1, if_pos hp]
    simp -implicitDefEqProofs only [↓aP, aQ, ↓reduceIte, Nat.reduceEqDiff, Nat.reduceAdd, Nat.reduceSub, Nat.reduceMul, Nat.reduceLT, Nat.reduceLeDiff, reduceCtorEq, Nat.reduceBEq, forall_const, implies_true, exists_const, ne_eq, Int.reduceAdd, Int.reduceSub, Int.reduceMul, Int.reduceBEq, Int.reduceEq, Int.reduceLT, Int.reduceLE, Int.reduceToNat, Int.reduceNeg, Int.reduceBNe, hp, beq_self_eq_true, e, encFs]
  · have e : Fm.pin f id = (Fm.lay f k ⟨f.ck.fr[k].page, f.ck.fr[k].pins + 1, true⟩ f.pg[k], 0) := by unfold Fm.pin; rw [if_neg (by simp [h0]), q1, q2, e1, Int.toNat_natCast, if_neg hp]
    simp -implicitDefEqProofs only [↓aP, aQ, ↓reduceIte, Nat.reduceEqDiff, Nat.reduceAdd, Nat.reduceSub, Nat.reduceMul, Nat.reduceLT, Nat.reduceLeDiff, reduceCtorEq, Nat.reduceBEq, forall_const, implies_true, exists_const, ne_eq, Int.reduceAdd, Int.reduceSub, Int.reduceMul, Int.reduceBEq, Int.reduceEq, Int.reduceLT, Int.reduceLE, Int.reduceToNat, Int.reduceNeg, Int.reduceBNe, show (f.ck.fr[k].pins == 2147483647) = false from beq_eq_false_iff_ne.2 hp, e, encFs, askIdx_map, k1, k2, encPg, show IntKind.i64.wrap (f.ck.fr[k].pins + 1) = f.ck.fr[k].pins + 1 from wrapI (by omega)]
    refine ask (by have := lay_spec f k ⟨f.ck.fr[k].page, f.ck.fr[k].pins + 1, true⟩ f.pg[k] k1 k2 (by omega); rw [encFs, encFr, encPg] at this; exact this) ?_
    simp -implicitDefEqProofs only [↓aP, aQ, ↓reduceIte, Nat.reduceEqDiff, Nat.reduceAdd, Nat.reduceSub, Nat.reduceMul, Nat.reduceLT, Nat.reduceLeDiff, reduceCtorEq, Nat.reduceBEq, forall_const, implies_true, exists_const, ne_eq, Int.reduceAdd, Int.reduceSub, Int.reduceMul, Int.reduceBEq, Int.reduceEq, Int.reduceLT, Int.reduceLE, Int.reduceToNat, Int.reduceNeg, Int.reduceBNe, encFs]
    all_goals decide +kernel
set_option maxRecDepth 100000 in
theorem fdrop_spec (f : Fs) (id : Int) (hl : Sh f) : Spec Try.prog 27 [.agg (encFs f), rI id] (.val (encF2 (Fm.drop f id))) := by
  refine spec_val mixed fn27 (by simp) ?_
  unfold ac27
  simp -implicitDefEqProofs only [↓aP, aQ, ↓reduceIte, Nat.reduceEqDiff, Nat.reduceAdd, Nat.reduceSub, Nat.reduceMul, Nat.reduceLT, Nat.reduceLeDiff, reduceCtorEq, Nat.reduceBEq, forall_const, implies_true, exists_const, ne_eq, Int.reduceAdd, Int.reduceSub, Int.reduceMul, Int.reduceBEq, Int.reduceEq, Int.reduceLT, Int.reduceLE, Int.reduceToNat, Int.reduceNeg, Int.reduceBNe, encFs, encF2]
  refine ask (by have := flocate_spec f id hl; rw [encFs] at this; exact this) ?_
  by_cases h0 : (Fm.locate f id).2 = 0
  case neg =>
    have e : Fm.drop f id = (f, (Fm.locate f id).2) := by unfold Fm.drop; rw [if_pos h0]
    simp -implicitDefEqProofs only [↓aP, aQ, ↓reduceIte, Nat.reduceEqDiff, Nat.reduceAdd, Nat.reduceSub, Nat.reduceMul, Nat.reduceLT, Nat.reduceLeDiff, reduceCtorEq, Nat.reduceBEq, forall_const, implies_true, exists_const, ne_eq, Int.reduceAdd, Int.reduceSub, Int.reduceMul, Int.reduceBEq, Int.reduceEq, Int.reduceLT, Int.reduceLE, Int.reduceToNat, Int.reduceNeg, Int.reduceBNe, show ((Fm.locate f id).2 != 0) = true from bne_iff_ne.2 h0, e, encFs]
  obtain ⟨k, e1, k1, k2, hr, _, _, _⟩ := at_found h0
  have ht := rt_iff.1 hr
  obtain ⟨c8, _, _, cg⟩ := right_fr ht.clock
  have hs := ht.same
  have g1 := fr_getD k1
  have q1 : Fm.fa f id = f.ck.fr[k] := by unfold Fm.fa; rw [e1, Int.toNat_natCast, g1]
  simp -implicitDefEqProofs only [↓aP, aQ, ↓reduceIte, Nat.reduceEqDiff, Nat.reduceAdd, Nat.reduceSub, Nat.reduceMul, Nat.reduceLT, Nat.reduceLeDiff, reduceCtorEq, Nat.reduceBEq, forall_const, implies_true, exists_const, ne_eq, Int.reduceAdd, Int.reduceSub, Int.reduceMul, Int.reduceBEq, Int.reduceEq, Int.reduceLT, Int.reduceLE, Int.reduceToNat, Int.reduceNeg, Int.reduceBNe, h0, bne_self_eq_false, e1, askIdx_map, k1, k2, encFr, encFs]
  by_cases hp : 0 < f.ck.fr[k].pins
  · have e : Fm.drop f id = (f, 6) := by unfold Fm.drop; rw [if_neg (by simp [h0]), q1, if_pos hp]
    simp -implicitDefEqProofs only [↓aP, aQ, ↓reduceIte, Nat.reduceEqDiff, Nat.reduceAdd, Nat.reduceSub, Nat.reduceMul, Nat.reduceLT, Nat.reduceLeDiff, reduceCtorEq, Nat.reduceBEq, forall_const, implies_true, exists_const, ne_eq, Int.reduceAdd, Int.reduceSub, Int.reduceMul, Int.reduceBEq, Int.reduceEq, Int.reduceLT, Int.reduceLE, Int.reduceToNat, Int.reduceNeg, Int.reduceBNe, decide_eq_true hp, e, encFs]
  · have e : Fm.drop f id = (Fm.empty f k, 0) := by unfold Fm.drop; rw [if_neg (by simp [h0]), q1, if_neg hp, e1, Int.toNat_natCast]
    simp -implicitDefEqProofs only [↓aP, aQ, ↓reduceIte, Nat.reduceEqDiff, Nat.reduceAdd, Nat.reduceSub, Nat.reduceMul, Nat.reduceLT, Nat.reduceLeDiff, reduceCtorEq, Nat.reduceBEq, forall_const, implies_true, exists_const, ne_eq, Int.reduceAdd, Int.reduceSub, Int.reduceMul, Int.reduceBEq, Int.reduceEq, Int.reduceLT, Int.reduceLE, Int.reduceToNat, Int.reduceNeg, Int.reduceBNe, decide_eq_false hp, e, encFs]
    refine ask (by have := fempty_spec f k k1 k2 (by omega) hl; rw [encFs] at this; exact this) ?_
    simp -implicitDefEqProofs only [↓aP, aQ, ↓reduceIte, Nat.reduceEqDiff, Nat.reduceAdd, Nat.reduceSub, Nat.reduceMul, Nat.reduceLT, Nat.reduceLeDiff, reduceCtorEq, Nat.reduceBEq, forall_const, implies_true, exists_const, ne_eq, Int.reduceAdd, Int.reduceSub, Int.reduceMul, Int.reduceBEq, Int.reduceEq, Int.reduceLT, Int.reduceLE, Int.reduceToNat, Int.reduceNeg, Int.reduceBNe, encFs]
    all_goals decide +kernel
set_option maxRecDepth 100000 in
theorem fclean_spec (f : Fs) (id : Int) (hl : Sh f) : Spec Try.prog 45 [.agg (encFs f), rI id] (.val (encF2 (Fm.clean f id))) := by
  refine spec_val mixed fn45 (by simp) ?_
  unfold ac45
  simp -implicitDefEqProofs only [↓aP, aQ, ↓reduceIte, Nat.reduceEqDiff, Nat.reduceAdd, Nat.reduceSub, Nat.reduceMul, Nat.reduceLT, Nat.reduceLeDiff, reduceCtorEq, Nat.reduceBEq, forall_const, implies_true, exists_const, ne_eq, Int.reduceAdd, Int.reduceSub, Int.reduceMul, Int.reduceBEq, Int.reduceEq, Int.reduceLT, Int.reduceLE, Int.reduceToNat, Int.reduceNeg, Int.reduceBNe, encFs, encF2]
  refine ask (by have := flocate_spec f id hl; rw [encFs] at this; exact this) ?_
  by_cases h0 : (Fm.locate f id).2 = 0
  case neg =>
    have e : Fm.clean f id = (f, (Fm.locate f id).2) := by unfold Fm.clean; rw [if_pos h0]
    simp -implicitDefEqProofs only [↓aP, aQ, ↓reduceIte, Nat.reduceEqDiff, Nat.reduceAdd, Nat.reduceSub, Nat.reduceMul, Nat.reduceLT, Nat.reduceLeDiff, reduceCtorEq, Nat.reduceBEq, forall_const, implies_true, exists_const, ne_eq, Int.reduceAdd, Int.reduceSub, Int.reduceMul, Int.reduceBEq, Int.reduceEq, Int.reduceLT, Int.reduceLE, Int.reduceToNat, Int.reduceNeg, Int.reduceBNe, show ((Fm.locate f id).2 != 0) = true from bne_iff_ne.2 h0, e, encFs]
  simp -implicitDefEqProofs only [↓aP, aQ, ↓reduceIte, Nat.reduceEqDiff, Nat.reduceAdd, Nat.reduceSub, Nat.reduceMul, Nat.reduceLT, Nat.reduceLeDiff, reduceCtorEq, Nat.reduceBEq, forall_const, implies_true, exists_const, ne_eq, Int.reduceAdd, Int.reduceSub, Int.reduceMul, Int.reduceBEq, Int.reduceEq, Int.reduceLT, Int.reduceLE, Int.reduceToNat, Int.reduceNeg, Int.reduceBNe, h0, bne_self_eq_false, encFs]
  refine ask (dClean_spec f.dt id hl.2) ?_
  by_cases hc : (cleanI f.dt id).2 = 0
  · have e : Fm.clean f id = (⟨f.ck, f.tb, f.pg, (cleanI f.dt id).1⟩, 0) := by unfold Fm.clean; rw [if_neg (by simp [h0]), if_neg (by simp [hc])]
    simp -implicitDefEqProofs only [↓aP, aQ, ↓reduceIte, Nat.reduceEqDiff, Nat.reduceAdd, Nat.reduceSub, Nat.reduceMul, Nat.reduceLT, Nat.reduceLeDiff, reduceCtorEq, Nat.reduceBEq, forall_const, implies_true, exists_const, ne_eq, Int.reduceAdd, Int.reduceSub, Int.reduceMul, Int.reduceBEq, Int.reduceEq, Int.reduceLT, Int.reduceLE, Int.reduceToNat, Int.reduceNeg, Int.reduceBNe, encLs, hc, bne_self_eq_false, e, encFs]
  · have e : Fm.clean f id = (f, 12) := by unfold Fm.clean; rw [if_neg (by simp [h0]), if_pos hc]
    simp -implicitDefEqProofs only [↓aP, aQ, ↓reduceIte, Nat.reduceEqDiff, Nat.reduceAdd, Nat.reduceSub, Nat.reduceMul, Nat.reduceLT, Nat.reduceLeDiff, reduceCtorEq, Nat.reduceBEq, forall_const, implies_true, exists_const, ne_eq, Int.reduceAdd, Int.reduceSub, Int.reduceMul, Int.reduceBEq, Int.reduceEq, Int.reduceLT, Int.reduceLE, Int.reduceToNat, Int.reduceNeg, Int.reduceBNe, encLs, show ((cleanI f.dt id).2 != 0) = true from bne_iff_ne.2 hc, e, encFs]
set_option maxRecDepth 100000 in
theorem fwrite_spec (f : Fs) (id : Int) (s : ByteArray) (now : Int) (hl : Sh f) : Spec Try.prog 44 [.agg (encFs f), rI id, rS s, rI now] (.val (encF2 (Fm.write f id s now))) := by
  refine spec_val mixed fn44 (by simp) ?_
  unfold ac44
  simp -implicitDefEqProofs only [↓aP, aQ, ↓reduceIte, Nat.reduceEqDiff, Nat.reduceAdd, Nat.reduceSub, Nat.reduceMul, Nat.reduceLT, Nat.reduceLeDiff, reduceCtorEq, Nat.reduceBEq, forall_const, implies_true, exists_const, ne_eq, Int.reduceAdd, Int.reduceSub, Int.reduceMul, Int.reduceBEq, Int.reduceEq, Int.reduceLT, Int.reduceLE, Int.reduceToNat, Int.reduceNeg, Int.reduceBNe, encFs, encF2]
  refine ask (by have := flocate_spec f id hl; rw [encFs] at this; exact this) ?_
  by_cases h0 : (Fm.locate f id).2 = 0
  case neg =>
    have e : Fm.write f id s now = (f, (Fm.locate f id).2) := by unfold Fm.write; rw [if_pos h0]
    simp -implicitDefEqProofs only [↓aP, aQ, ↓reduceIte, Nat.reduceEqDiff, Nat.reduceAdd, Nat.reduceSub, Nat.reduceMul, Nat.reduceLT, Nat.reduceLeDiff, reduceCtorEq, Nat.reduceBEq, forall_const, implies_true, exists_const, ne_eq, Int.reduceAdd, Int.reduceSub, Int.reduceMul, Int.reduceBEq, Int.reduceEq, Int.reduceLT, Int.reduceLE, Int.reduceToNat, Int.reduceNeg, Int.reduceBNe, show ((Fm.locate f id).2 != 0) = true from bne_iff_ne.2 h0, e, encFs]
  obtain ⟨k, e1, k1, k2, hr, _, _, _⟩ := at_found h0
  have ht := rt_iff.1 hr
  obtain ⟨c8, _, _, cg⟩ := right_fr ht.clock
  have hs := ht.same
  have g1 := fr_getD k1
  have g2 := pg_getD k2
  have q1 : Fm.fa f id = f.ck.fr[k] := by unfold Fm.fa; rw [e1, Int.toNat_natCast, g1]
  have q2 : Fm.pa f id = f.pg[k] := by unfold Fm.pa; rw [e1, Int.toNat_natCast, g2]
  have v0 : f.ck.fr[k].pins = 0 → Fm.write f id s now = (f, 12) := fun h => by unfold Fm.write; rw [if_neg (by simp [h0]), q1, if_pos h]
  simp -implicitDefEqProofs only [↓aP, aQ, ↓reduceIte, Nat.reduceEqDiff, Nat.reduceAdd, Nat.reduceSub, Nat.reduceMul, Nat.reduceLT, Nat.reduceLeDiff, reduceCtorEq, Nat.reduceBEq, forall_const, implies_true, exists_const, ne_eq, Int.reduceAdd, Int.reduceSub, Int.reduceMul, Int.reduceBEq, Int.reduceEq, Int.reduceLT, Int.reduceLE, Int.reduceToNat, Int.reduceNeg, Int.reduceBNe, h0, bne_self_eq_false, e1, askIdx_map, k1, k2, encFr, encPg, encFs]
  refine ⟨by decide +kernel, ?_⟩
  by_cases p1 : f.ck.fr[k].pins = 0
  · simp -implicitDefEqProofs only [↓aP, aQ, ↓reduceIte, Nat.reduceEqDiff, Nat.reduceAdd, Nat.reduceSub, Nat.reduceMul, Nat.reduceLT, Nat.reduceLeDiff, reduceCtorEq, Nat.reduceBEq, forall_const, implies_true, exists_const, ne_eq, Int.reduceAdd, Int.reduceSub, Int.reduceMul, Int.reduceBEq, Int.reduceEq, Int.reduceLT, Int.reduceLE, Int.reduceToNat, Int.reduceNeg, Int.reduceBNe, p1, beq_self_eq_true, v0 p1, encFs]
  by_cases p2 : 16 < s.size
  · have e : Fm.write f id s now = (f, 5) := by unfold Fm.write; rw [if_neg (by simp [h0]), q1, if_neg p1, if_pos p2]
    simp -implicitDefEqProofs only [↓aP, aQ, ↓reduceIte, Nat.reduceEqDiff, Nat.reduceAdd, Nat.reduceSub, Nat.reduceMul, Nat.reduceLT, Nat.reduceLeDiff, reduceCtorEq, Nat.reduceBEq, forall_const, implies_true, exists_const, ne_eq, Int.reduceAdd, Int.reduceSub, Int.reduceMul, Int.reduceBEq, Int.reduceEq, Int.reduceLT, Int.reduceLE, Int.reduceToNat, Int.reduceNeg, Int.reduceBNe, show (f.ck.fr[k].pins == 0) = false from beq_eq_false_iff_ne.2 p1, show decide ((16 : Int) < (s.size : Int)) = true by simp; omega, e, encFs]
  by_cases p3 : f.pg[k].ver = 2147483647
  · have e : Fm.write f id s now = (f, 7) := by unfold Fm.write; rw [if_neg (by simp [h0]), q1, q2, if_neg p1, if_neg p2, if_pos p3]
    simp -implicitDefEqProofs only [↓aP, aQ, ↓reduceIte, Nat.reduceEqDiff, Nat.reduceAdd, Nat.reduceSub, Nat.reduceMul, Nat.reduceLT, Nat.reduceLeDiff, reduceCtorEq, Nat.reduceBEq, forall_const, implies_true, exists_const, ne_eq, Int.reduceAdd, Int.reduceSub, Int.reduceMul, Int.reduceBEq, Int.reduceEq, Int.reduceLT, Int.reduceLE, Int.reduceToNat, Int.reduceNeg, Int.reduceBNe, show (f.ck.fr[k].pins == 0) = false from beq_eq_false_iff_ne.2 p1, show decide ((16 : Int) < (s.size : Int)) = false by simp; omega, p3, beq_self_eq_true, e, encFs]
  have e0 : Fm.write f id s now = if (Fm.mark f id now).2 ≠ 0 then (f, (Fm.mark f id now).2) else (Fm.lay (Fm.mark f id now).1 k f.ck.fr[k] ⟨id, f.pg[k].ver + 1, s⟩, 0) := by unfold Fm.write; rw [if_neg (by simp [h0]), q1, q2, if_neg p1, if_neg p2, if_neg p3, e1, Int.toNat_natCast]
  have fm := fmark_spec f id now hl
  have hm1 : (Fm.mark f id now).1.ck = f.ck ∧ (Fm.mark f id now).1.pg = f.pg := ⟨rfl, rfl⟩
  generalize Fm.mark f id now = M at fm e0 hm1
  rw [encFs] at fm
  simp -implicitDefEqProofs only [↓aP, aQ, ↓reduceIte, Nat.reduceEqDiff, Nat.reduceAdd, Nat.reduceSub, Nat.reduceMul, Nat.reduceLT, Nat.reduceLeDiff, reduceCtorEq, Nat.reduceBEq, forall_const, implies_true, exists_const, ne_eq, Int.reduceAdd, Int.reduceSub, Int.reduceMul, Int.reduceBEq, Int.reduceEq, Int.reduceLT, Int.reduceLE, Int.reduceToNat, Int.reduceNeg, Int.reduceBNe, show (f.ck.fr[k].pins == 0) = false from beq_eq_false_iff_ne.2 p1, show decide ((16 : Int) < (s.size : Int)) = false by simp; omega, show (f.pg[k].ver == 2147483647) = false from beq_eq_false_iff_ne.2 p3, encFs]
  refine ask fm ?_
  by_cases hm : M.2 = 0
  · rw [if_neg (by simp [hm])] at e0
    have hok := (rt_at ht k2 (fun hz => by
      have := ht.all k k2
      unfold Fm.okAt at this
      rw [g1, g2] at this
      split at this
      · rw [Bool.and_eq_true, beq_iff_eq] at this; exact p1 this.2
      · simp only [Bool.and_eq_true, beq_iff_eq] at this
        rename_i hne
        exact hne (this.1.1.trans hz))).2.1
    unfold okPg at hok
    rw [decide_eq_true_iff] at hok
    simp -implicitDefEqProofs only [↓aP, aQ, ↓reduceIte, Nat.reduceEqDiff, Nat.reduceAdd, Nat.reduceSub, Nat.reduceMul, Nat.reduceLT, Nat.reduceLeDiff, reduceCtorEq, Nat.reduceBEq, forall_const, implies_true, exists_const, ne_eq, Int.reduceAdd, Int.reduceSub, Int.reduceMul, Int.reduceBEq, Int.reduceEq, Int.reduceLT, Int.reduceLE, Int.reduceToNat, Int.reduceNeg, Int.reduceBNe, encFs, hm, bne_self_eq_false, encPg, encFr, show IntKind.i64.wrap (f.pg[k].ver + 1) = f.pg[k].ver + 1 from wrapI (by omega)]
    refine ask (by have := lay_spec M.1 k f.ck.fr[k] ⟨id, f.pg[k].ver + 1, s⟩ (by rw [hm1.1]; exact k1) (by rw [hm1.2]; exact k2) (by rw [hm1.1, hm1.2]; omega); rw [encFs, encFr, encPg] at this; exact this) ?_
    simp -implicitDefEqProofs only [↓aP, aQ, ↓reduceIte, Nat.reduceEqDiff, Nat.reduceAdd, Nat.reduceSub, Nat.reduceMul, Nat.reduceLT, Nat.reduceLeDiff, reduceCtorEq, Nat.reduceBEq, forall_const, implies_true, exists_const, ne_eq, Int.reduceAdd, Int.reduceSub, Int.reduceMul, Int.reduceBEq, Int.reduceEq, Int.reduceLT, Int.reduceLE, Int.reduceToNat, Int.reduceNeg, Int.reduceBNe, encFs, e0]
    all_goals decide +kernel
  · rw [if_pos hm] at e0
    simp -implicitDefEqProofs only [↓aP, aQ, ↓reduceIte, Nat.reduceEqDiff, Nat.reduceAdd, Nat.reduceSub, Nat.reduceMul, Nat.reduceLT, Nat.reduceLeDiff, reduceCtorEq, Nat.reduceBEq, forall_const, implies_true, exists_const, ne_eq, Int.reduceAdd, Int.reduceSub, Int.reduceMul, Int.reduceBEq, Int.reduceEq, Int.reduceLT, Int.reduceLE, Int.reduceToNat, Int.reduceNeg, Int.reduceBNe, encFs, show (M.2 != 0) = true from bne_iff_ne.2 hm, e0]
end Go.Proofs.Ytcindpblgbpcoaa
namespace Go.Proofs.Ytcindpblgbpcoaa
open Go.RowKit
set_option linter.unusedVariables false
set_option linter.unusedSimpArgs false
theorem rt_lay {f : Fs} (h : Rt f) {k : Nat} (hk : k < f.pg.length) (hz : f.pg[k].id ≠ 0) {x : Fr} {p : Pg} (hx : Ck.good x = true) (h1 : x.page = f.pg[k].id) (h2 : p.id = f.pg[k].id) (h3 : okPg p = true) : Rt (Fm.lay f k x p) := by
  have hkc : k < f.ck.fr.length := by have := h.same; omega
  obtain ⟨a1, a2, a3⟩ := rt_at h hk hz
  refine ⟨right_set h.clock hx, h.table, h.dirty, by show (f.pg.set k p).length = (f.ck.fr.set k x).length; rw [List.length_set, List.length_set]; exact h.same, fun j hj => ?_, ?_, h.items⟩
  · have hj2 : j < f.pg.length := by have : j < (f.pg.set k p).length := hj; simpa using this
    unfold Fm.okAt Fm.lay
    simp only
    rw [set_getD_fr hkc, set_getD_pg hk]
    by_cases ek : k = j
    · rw [if_pos ek, if_pos ek, if_neg (by rw [h1]; exact hz), h1, h2, h3, a3]; simp [ek]
    · rw [if_neg ek, if_neg ek]
      have ho := h.all j hj2
      unfold Fm.okAt at ho
      exact ho
  · have t1 := taken_set (x := p) hk
    rw [if_neg hz, if_neg (by rw [h2]; exact hz)] at t1
    have := h.many
    show (Ta.pgs f.tb).length = Fm.taken (f.pg.set k p)
    omega
theorem rt_dirty {f : Fs} (h : Rt f) {d : List It} (hd : Dy.right d = true) (hi : ∀ i ∈ d, (Ta.find f.tb i.page).2 = true) : Rt ⟨f.ck, f.tb, f.pg, d⟩ :=
  ⟨h.clock, h.table, hd, h.same, h.all, h.many, hi⟩
theorem rt_clean {f : Fs} (h : Rt f) (id : Int) : Rt ⟨f.ck, f.tb, f.pg, (cleanI f.dt id).1⟩ := by
  obtain ⟨c1, c2⟩ := clean_ok (p := id) h.dirty
  exact rt_dirty h c1 fun i hi => h.items i (c2 i hi).1
theorem mark_ok {l : List It} {p now : Int} (h : Dy.right l = true) : Dy.right (markI l p now).1 = true ∧ ∀ i ∈ (markI l p now).1, i ∈ l ∨ i.page = p := by
  unfold markI
  split
  · exact ⟨h, fun i hi => .inl hi⟩
  rename_i hc
  split
  · exact ⟨h, fun i hi => .inl hi⟩
  rename_i ha
  refine ⟨?_, fun i hi => ?_⟩
  · have ho := (Dy.right_iff l).1 h
    have hnp : ∀ a ∈ l, a.page ≠ p := by
      rcases Dy.at_cases l p with ⟨_, hno⟩ | ⟨k, hk, e, _⟩
      · exact hno
      · omega
    refine (Dy.right_iff _).2 ⟨fun a hm => ?_, fun a hm => ?_, ?_, ?_⟩
    · rcases List.mem_append.1 hm with hm | hm
      · exact ho.page a hm
      · rw [List.mem_singleton.1 hm]; show 1 ≤ p ∧ p ≤ 16; omega
    · rcases List.mem_append.1 hm with hm | hm
      · exact ho.since a hm
      · rw [List.mem_singleton.1 hm]; show 0 ≤ now ∧ now ≤ 2147483647; omega
    · rw [List.map_append, List.nodup_append]
      refine ⟨ho.apart, by simp, fun a hm b hb e => ?_⟩
      obtain ⟨q, hq, e2⟩ := List.mem_map.1 hm
      simp at hb
      exact hnp q hq (by rw [e2, e, hb])
    · rw [List.pairwise_append]
      refine ⟨ho.rise, by simp, fun a hm b hb => ?_⟩
      rw [List.mem_singleton.1 hb]
      have := ho.last a hm
      show a.since ≤ now
      omega
  · rcases List.mem_append.1 hi with hi | hi
    · exact .inl hi
    · rw [List.mem_singleton.1 hi]; exact .inr rfl
theorem rt_mark {f : Fs} (h : Rt f) {id now : Int} (hf : (Ta.find f.tb id).2 = true) : Rt (Fm.mark f id now).1 := by
  obtain ⟨c1, c2⟩ := mark_ok (p := id) (now := now) h.dirty
  exact rt_dirty h c1 fun i hi => (c2 i hi).elim (h.items i) (fun e => by rw [e]; exact hf)
theorem rt_load {f : Fs} (h : Rt f) {k : Nat} (hk : k < f.pg.length) (hz : f.pg[k].id = 0) {p : Pg} (hp : okPg p = true) (hf : (Ta.find f.tb p.id).2 = false) :
    Rt ⟨⟨f.ck.fr.set k ⟨p.id, 1, true⟩, f.ck.hand⟩, (Ta.put f.tb p.id (k : Int)).1, f.pg.set k p, f.dt⟩ ∧ Ta.find (Ta.put f.tb p.id (k : Int)).1 p.id = ((k : Int), true) := by
  have hkc : k < f.ck.fr.length := by have := h.same; omega
  have hid := okPg_id hp
  have hn := rt_nf h
  have h8 := (right_fr h.clock).1
  have hsm := h.same
  have hl := (Ta.right_iff.1 h.table).1
  obtain ⟨r, kp⟩ := Ta.kp_some h.table (by omega)
  obtain ⟨u, r', d1, d2, d3⟩ := Ta.kp_put kp (p := p.id) (f := (k : Int)) (by unfold Ta.isP; rw [decide_eq_true_iff]; omega) (by unfold Ta.isF; rw [decide_eq_true_iff]; omega) (fun s hs e => by
    have := Ta.nf_find kp hs
    rw [e] at this
    rw [this] at hf; exact Bool.noConfusion hf) (by omega)
  rw [d1]
  have keep : ∀ q x : Int, Ta.find f.tb q = (x, true) → Ta.find u q = (x, true) := fun q x hf2 => by
    have hm := (d3.mem_iff (a := (⟨q, x⟩ : Sl))).2 (List.mem_cons_of_mem _ (Ta.find_nf hl hf2))
    exact Ta.nf_find d2 hm
  have own : Ta.find u p.id = ((k : Int), true) := Ta.nf_find d2 (s := ⟨p.id, k⟩) (d3.mem_iff.2 (List.mem_cons_self ..))
  refine ⟨⟨right_set h.clock (by unfold Ck.good; rw [decide_eq_true_iff]; show 0 ≤ p.id ∧ p.id ≤ 16 ∧ (0 : Int) ≤ 1 ∧ (1 : Int) ≤ 2147483647; omega), Ta.kp_right d2, h.dirty, by show (f.pg.set k p).length = (f.ck.fr.set k _).length; rw [List.length_set, List.length_set]; exact h.same, fun j hj => ?_, ?_, fun i hi => ?_⟩, own⟩
  · have hj2 : j < f.pg.length := by have : j < (f.pg.set k p).length := hj; simpa using this
    have hjc : j < f.ck.fr.length := by omega
    unfold Fm.okAt
    simp only
    rw [set_getD_fr hkc, set_getD_pg hk]
    by_cases ek : k = j
    · rw [if_pos ek, if_pos ek, if_neg (by show p.id ≠ 0; omega), hp]
      simp only [own, ek]; simp
    · rw [if_neg ek, if_neg ek]
      have ho := h.all j hj2
      unfold Fm.okAt at ho
      rw [fr_getD hjc, pg_getD hj2] at ho ⊢
      by_cases hp2 : f.ck.fr[j].page = 0
      · rw [if_pos hp2] at ho ⊢; exact ho
      · rw [if_neg hp2] at ho ⊢
        simp only [Bool.and_eq_true, beq_iff_eq] at ho ⊢
        obtain ⟨⟨o1, o2⟩, o3, o4⟩ := ho
        rw [keep _ _ (Prod.ext o4 o3)]
        exact ⟨⟨o1, o2⟩, rfl, rfl⟩
  · have t1 := taken_set (x := p) hk
    rw [if_pos hz, if_neg (by omega)] at t1
    have t2 := d3.length_eq
    rw [List.length_cons] at t2
    have t3 := h.many
    rw [Ta.nf_pgs] at t3 ⊢
    show (Ta.nf u).length = Fm.taken (f.pg.set k p)
    omega
  · have := h.items i hi
    rw [keep i.page (Ta.find f.tb i.page).1 (Prod.ext rfl this)]
end Go.Proofs.Ytcindpblgbpcoaa
namespace Go.Proofs.Ytcindpblgbpcoaa
open Go.RowKit
set_option linter.unusedVariables false
set_option linter.unusedSimpArgs false
structure Av where
  kind : Int
  id : Int
  now : Int
  body : ByteArray
  p : Pg
def encAv (a : Av) : List SC := [.pv (.int .i64 a.kind), .pv (.int .i64 a.id), .pv (.int .i64 a.now), .pv (.string a.body), .pv (.int .i64 a.p.id), .pv (.int .i64 a.p.ver), .pv (.string a.p.body)]
def doA (f : Fs) (a : Av) : Fs × Int := if a.kind = 1 then Fm.pin f a.id else if a.kind = 2 then Fm.unpin f a.id else if a.kind = 3 then Fm.write f a.id a.body a.now else if a.kind = 4 then Fm.clean f a.id else if a.kind = 5 then Fm.drop f a.id else if a.kind = 6 then Fm.load f a.p a.now (!decide (a.body = ⟨#[]⟩)) else ((Fm.room f).1, (Fm.room f).2.2.2)
theorem tl_beq2 (a b : ByteArray) : (a.toList == b.toList) = decide (a = b) := by
  by_cases h : a = b
  · rw [decide_eq_true h, h]; exact beq_self_eq_true _
  · rw [decide_eq_false h]; exact beq_eq_false_iff_ne.2 (fun e => h (tl_eq _ _ e))
set_option maxRecDepth 100000 in
theorem do_spec (f : Fs) (a : Av) (hl : Sh f) : Spec Try.prog 14 [.agg (encFs f), .agg (encAv a)] (.val (encF2 (doA f a))) := by
  refine spec_val mixed fn14 (by simp) ?_
  unfold ac14
  by_cases k1 : a.kind = 1
  · have e : doA f a = Fm.pin f a.id := by unfold doA; rw [if_pos k1]
    rw [e]
    simp -implicitDefEqProofs only [↓aP, aQ, ↓reduceIte, Nat.reduceEqDiff, Nat.reduceAdd, Nat.reduceSub, Nat.reduceMul, Nat.reduceLT, Nat.reduceLeDiff, reduceCtorEq, Nat.reduceBEq, forall_const, implies_true, exists_const, ne_eq, Int.reduceAdd, Int.reduceSub, Int.reduceMul, Int.reduceBEq, Int.reduceEq, Int.reduceLT, Int.reduceLE, Int.reduceToNat, Int.reduceNeg, Int.reduceBNe, encFs, encAv, encF2, k1, beq_self_eq_true]
    refine ask (by have := fpin_spec f a.id hl; rw [encFs] at this; exact this) ?_
    simp -implicitDefEqProofs only [↓aP, aQ, ↓reduceIte, Nat.reduceEqDiff, Nat.reduceAdd, Nat.reduceSub, Nat.reduceMul, Nat.reduceLT, Nat.reduceLeDiff, reduceCtorEq, Nat.reduceBEq, forall_const, implies_true, exists_const, ne_eq, Int.reduceAdd, Int.reduceSub, Int.reduceMul, Int.reduceBEq, Int.reduceEq, Int.reduceLT, Int.reduceLE, Int.reduceToNat, Int.reduceNeg, Int.reduceBNe, encF2, encFs]
  by_cases k2 : a.kind = 2
  · have e : doA f a = Fm.unpin f a.id := by unfold doA; rw [if_neg k1, if_pos k2]
    rw [e]
    simp -implicitDefEqProofs only [↓aP, aQ, ↓reduceIte, Nat.reduceEqDiff, Nat.reduceAdd, Nat.reduceSub, Nat.reduceMul, Nat.reduceLT, Nat.reduceLeDiff, reduceCtorEq, Nat.reduceBEq, forall_const, implies_true, exists_const, ne_eq, Int.reduceAdd, Int.reduceSub, Int.reduceMul, Int.reduceBEq, Int.reduceEq, Int.reduceLT, Int.reduceLE, Int.reduceToNat, Int.reduceNeg, Int.reduceBNe, encFs, encAv, encF2, k2, show ((2 : Int) == 1) = false by decide, beq_self_eq_true]
    refine ask (by have := funpin_spec f a.id hl; rw [encFs] at this; exact this) ?_
    simp -implicitDefEqProofs only [↓aP, aQ, ↓reduceIte, Nat.reduceEqDiff, Nat.reduceAdd, Nat.reduceSub, Nat.reduceMul, Nat.reduceLT, Nat.reduceLeDiff, reduceCtorEq, Nat.reduceBEq, forall_const, implies_true, exists_const, ne_eq, Int.reduceAdd, Int.reduceSub, Int.reduceMul, Int.reduceBEq, Int.reduceEq, Int.reduceLT, Int.reduceLE, Int.reduceToNat, Int.reduceNeg, Int.reduceBNe, encF2, encFs]
  by_cases k3 : a.kind = 3
  · have e : doA f a = Fm.write f a.id a.body a.now := by unfold doA; rw [if_neg k1, if_neg k2, if_pos k3]
    rw [e]
    simp -implicitDefEqProofs only [↓aP, aQ, ↓reduceIte, Nat.reduceEqDiff, Nat.reduceAdd, Nat.reduceSub, Nat.reduceMul, Nat.reduceLT, Nat.reduceLeDiff, reduceCtorEq, Nat.reduceBEq, forall_const, implies_true, exists_const, ne_eq, Int.reduceAdd, Int.reduceSub, Int.reduceMul, Int.reduceBEq, Int.reduceEq, Int.reduceLT, Int.reduceLE, Int.reduceToNat, Int.reduceNeg, Int.reduceBNe, encFs, encAv, encF2, k3, show ((3 : Int) == 1) = false by decide, show ((3 : Int) == 2) = false by decide, beq_self_eq_true]
    refine ask (by have := fwrite_spec f a.id a.body a.now hl; rw [encFs] at this; exact this) ?_
    simp -implicitDefEqProofs only [↓aP, aQ, ↓reduceIte, Nat.reduceEqDiff, Nat.reduceAdd, Nat.reduceSub, Nat.reduceMul, Nat.reduceLT, Nat.reduceLeDiff, reduceCtorEq, Nat.reduceBEq, forall_const, implies_true, exists_const, ne_eq, Int.reduceAdd, Int.reduceSub, Int.reduceMul, Int.reduceBEq, Int.reduceEq, Int.reduceLT, Int.reduceLE, Int.reduceToNat, Int.reduceNeg, Int.reduceBNe, encF2, encFs]
  by_cases k4 : a.kind = 4
  · have e : doA f a = Fm.clean f a.id := by unfold doA; rw [if_neg k1, if_neg k2, if_neg k3, if_pos k4]
    rw [e]
    simp -implicitDefEqProofs only [↓aP, aQ, ↓reduceIte, Nat.reduceEqDiff, Nat.reduceAdd, Nat.reduceSub, Nat.reduceMul, Nat.reduceLT, Nat.reduceLeDiff, reduceCtorEq, Nat.reduceBEq, forall_const, implies_true, exists_const, ne_eq, Int.reduceAdd, Int.reduceSub, Int.reduceMul, Int.reduceBEq, Int.reduceEq, Int.reduceLT, Int.reduceLE, Int.reduceToNat, Int.reduceNeg, Int.reduceBNe, encFs, encAv, encF2, k4, show ((4 : Int) == 1) = false by decide, show ((4 : Int) == 2) = false by decide, show ((4 : Int) == 3) = false by decide, beq_self_eq_true]
    refine ask (by have := fclean_spec f a.id hl; rw [encFs] at this; exact this) ?_
    simp -implicitDefEqProofs only [↓aP, aQ, ↓reduceIte, Nat.reduceEqDiff, Nat.reduceAdd, Nat.reduceSub, Nat.reduceMul, Nat.reduceLT, Nat.reduceLeDiff, reduceCtorEq, Nat.reduceBEq, forall_const, implies_true, exists_const, ne_eq, Int.reduceAdd, Int.reduceSub, Int.reduceMul, Int.reduceBEq, Int.reduceEq, Int.reduceLT, Int.reduceLE, Int.reduceToNat, Int.reduceNeg, Int.reduceBNe, encF2, encFs]
  by_cases k5 : a.kind = 5
  · have e : doA f a = Fm.drop f a.id := by unfold doA; rw [if_neg k1, if_neg k2, if_neg k3, if_neg k4, if_pos k5]
    rw [e]
    simp -implicitDefEqProofs only [↓aP, aQ, ↓reduceIte, Nat.reduceEqDiff, Nat.reduceAdd, Nat.reduceSub, Nat.reduceMul, Nat.reduceLT, Nat.reduceLeDiff, reduceCtorEq, Nat.reduceBEq, forall_const, implies_true, exists_const, ne_eq, Int.reduceAdd, Int.reduceSub, Int.reduceMul, Int.reduceBEq, Int.reduceEq, Int.reduceLT, Int.reduceLE, Int.reduceToNat, Int.reduceNeg, Int.reduceBNe, encFs, encAv, encF2, k5, show ((5 : Int) == 1) = false by decide, show ((5 : Int) == 2) = false by decide, show ((5 : Int) == 3) = false by decide, show ((5 : Int) == 4) = false by decide, beq_self_eq_true]
    refine ask (by have := fdrop_spec f a.id hl; rw [encFs] at this; exact this) ?_
    simp -implicitDefEqProofs only [↓aP, aQ, ↓reduceIte, Nat.reduceEqDiff, Nat.reduceAdd, Nat.reduceSub, Nat.reduceMul, Nat.reduceLT, Nat.reduceLeDiff, reduceCtorEq, Nat.reduceBEq, forall_const, implies_true, exists_const, ne_eq, Int.reduceAdd, Int.reduceSub, Int.reduceMul, Int.reduceBEq, Int.reduceEq, Int.reduceLT, Int.reduceLE, Int.reduceToNat, Int.reduceNeg, Int.reduceBNe, encF2, encFs]
  have n : ∀ x : Int, a.kind ≠ x → (a.kind == x) = false := fun x h => beq_eq_false_iff_ne.2 h
  by_cases k6 : a.kind = 6
  · have e : doA f a = Fm.load f a.p a.now (!decide (a.body = ⟨#[]⟩)) := by unfold doA; rw [if_neg k1, if_neg k2, if_neg k3, if_neg k4, if_neg k5, if_pos k6]
    rw [e]
    simp -implicitDefEqProofs only [↓aP, aQ, ↓reduceIte, Nat.reduceEqDiff, Nat.reduceAdd, Nat.reduceSub, Nat.reduceMul, Nat.reduceLT, Nat.reduceLeDiff, reduceCtorEq, Nat.reduceBEq, forall_const, implies_true, exists_const, ne_eq, Int.reduceAdd, Int.reduceSub, Int.reduceMul, Int.reduceBEq, Int.reduceEq, Int.reduceLT, Int.reduceLE, Int.reduceToNat, Int.reduceNeg, Int.reduceBNe, encFs, encAv, encF2, n 1 k1, n 2 k2, n 3 k3, n 4 k4, n 5 k5, show (a.kind == 6) = true from beq_iff_eq.2 k6, tl_beq2]
    refine ask (by have := fload_spec f a.p a.now (!decide (a.body = ⟨#[]⟩)) hl; rw [encFs, encPg] at this; exact this) ?_
    simp -implicitDefEqProofs only [↓aP, aQ, ↓reduceIte, Nat.reduceEqDiff, Nat.reduceAdd, Nat.reduceSub, Nat.reduceMul, Nat.reduceLT, Nat.reduceLeDiff, reduceCtorEq, Nat.reduceBEq, forall_const, implies_true, exists_const, ne_eq, Int.reduceAdd, Int.reduceSub, Int.reduceMul, Int.reduceBEq, Int.reduceEq, Int.reduceLT, Int.reduceLE, Int.reduceToNat, Int.reduceNeg, Int.reduceBNe, encF2, encFs]
    all_goals decide +kernel
  · have e : doA f a = ((Fm.room f).1, (Fm.room f).2.2.2) := by unfold doA; rw [if_neg k1, if_neg k2, if_neg k3, if_neg k4, if_neg k5, if_neg k6]
    rw [e]
    simp -implicitDefEqProofs only [↓aP, aQ, ↓reduceIte, Nat.reduceEqDiff, Nat.reduceAdd, Nat.reduceSub, Nat.reduceMul, Nat.reduceLT, Nat.reduceLeDiff, reduceCtorEq, Nat.reduceBEq, forall_const, implies_true, exists_const, ne_eq, Int.reduceAdd, Int.reduceSub, Int.reduceMul, Int.reduceBEq, Int.reduceEq, Int.reduceLT, Int.reduceLE, Int.reduceToNat, Int.reduceNeg, Int.reduceBNe, encFs, encAv, encF2, n 1 k1, n 2 k2, n 3 k3, n 4 k4, n 5 k5, n 6 k6]
    refine ask (by have := froom_spec f hl; unfold encRoom at this; rw [encFs] at this; exact this) ?_
    simp -implicitDefEqProofs only [↓aP, aQ, ↓reduceIte, Nat.reduceEqDiff, Nat.reduceAdd, Nat.reduceSub, Nat.reduceMul, Nat.reduceLT, Nat.reduceLeDiff, reduceCtorEq, Nat.reduceBEq, forall_const, implies_true, exists_const, ne_eq, Int.reduceAdd, Int.reduceSub, Int.reduceMul, Int.reduceBEq, Int.reduceEq, Int.reduceLT, Int.reduceLE, Int.reduceToNat, Int.reduceNeg, Int.reduceBNe, encF2, encFs, encPg]
end Go.Proofs.Ytcindpblgbpcoaa
namespace Go.Proofs.Ytcindpblgbpcoaa
open Go.RowKit
set_option linter.unusedVariables false
set_option linter.unusedSimpArgs false
/-- right frames, and the pins that each page has -/
structure Kf (f : Fs) (w : Int → Int) : Prop where
  rt : Rt f
  pins : ∀ k (hk : k < f.pg.length), f.pg[k].id ≠ 0 → (f.ck.fr[k]'(by have := rt.same; omega)).pins = w f.pg[k].id
  none : ∀ id, 1 ≤ id ∧ id ≤ 16 → (∀ p ∈ f.pg, p.id ≠ id) → w id = 0
def upW (w : Int → Int) (k v : Int) : Int → Int := fun n => if n = k then v else w n
theorem ids_apart {f : Fs} (h : Rt f) {i j : Nat} (hi : i < f.pg.length) (hj : j < f.pg.length) (hz : f.pg[i].id ≠ 0) (e : f.pg[i].id = f.pg[j].id) : i = j := by
  have h1 := (rt_at h hi hz).2.2
  have h2 := (rt_at h hj (by rw [← e]; exact hz)).2.2
  rw [e, h2] at h1
  have := congrArg Prod.fst h1
  simp only at this
  omega
/-- a frame is laid over by one of the same page -/
theorem kf_lay {f : Fs} {w : Int → Int} (h : Kf f w) {k : Nat} (hk : k < f.pg.length) (hz : f.pg[k].id ≠ 0) {x : Fr} {p : Pg} (hx : Ck.good x = true) (h1 : x.page = f.pg[k].id) (h2 : p.id = f.pg[k].id) (h3 : okPg p = true) : Kf (Fm.lay f k x p) (upW w f.pg[k].id x.pins) := by
  have hsm := h.rt.same
  have hrt := rt_lay h.rt hk hz hx h1 h2 h3
  refine ⟨hrt, fun j hj hjz => ?_, fun id hid hno => ?_⟩
  · have hj2 : j < f.pg.length := by have : j < (f.pg.set k p).length := hj; simpa using this
    show ((f.ck.fr.set k x)[j]'(by simp; omega)).pins = upW w f.pg[k].id x.pins ((f.pg.set k p)[j]'(by simpa using hj2)).id
    have hjz2 : ((f.pg.set k p)[j]'(by simpa using hj2)).id ≠ 0 := hjz
    rw [List.getElem_set] at hjz2 ⊢
    rw [List.getElem_set]
    by_cases e : k = j
    · rw [if_pos e, if_pos e, h2]
      unfold upW
      rw [if_pos rfl]
    · rw [if_neg e] at hjz2
      rw [if_neg e, if_neg e]
      unfold upW
      rw [if_neg (fun e2 => e (ids_apart h.rt hk hj2 hz e2.symm))]
      exact h.pins j hj2 hjz2
  · have hne : id ≠ f.pg[k].id := fun e => by
      have := hno p (by show p ∈ f.pg.set k p; exact List.mem_set hk p)
      exact this (by rw [h2, e])
    unfold upW
    rw [if_neg hne]
    refine h.none id hid fun q hq e => ?_
    obtain ⟨j, hj, rfl⟩ := List.getElem_of_mem hq
    have hjk : k ≠ j := fun e2 => hne (by subst e2; exact e.symm)
    have : f.pg[j] ∈ f.pg.set k p := by
      rw [List.mem_iff_getElem]
      exact ⟨j, by simpa using hj, by rw [List.getElem_set, if_neg hjk]⟩
    exact hno _ this e
theorem kf_dirty {f : Fs} {w : Int → Int} (h : Kf f w) {d : List It} (hr : Rt ⟨f.ck, f.tb, f.pg, d⟩) : Kf ⟨f.ck, f.tb, f.pg, d⟩ w := ⟨hr, h.pins, h.none⟩
end Go.Proofs.Ytcindpblgbpcoaa
namespace Go.Proofs.Ytcindpblgbpcoaa
open Go.RowKit
set_option linter.unusedVariables false
set_option linter.unusedSimpArgs false
/-- pages laid into a free frame -/
theorem kf_load {f : Fs} {w : Int → Int} (h : Kf f w) {k : Nat} (hk : k < f.pg.length) (hz : f.pg[k].id = 0) {p : Pg} (hp : okPg p = true) (hf : (Ta.find f.tb p.id).2 = false) :
    Kf ⟨⟨f.ck.fr.set k ⟨p.id, 1, true⟩, f.ck.hand⟩, (Ta.put f.tb p.id (k : Int)).1, f.pg.set k p, f.dt⟩ (upW w p.id 1) := by
  have hsm := h.rt.same
  have hid := okPg_id hp
  have hrt := (rt_load h.rt hk hz hp hf).1
  refine ⟨hrt, fun j hj hjz => ?_, fun id hid2 hno => ?_⟩
  · have hj2 : j < f.pg.length := by have : j < (f.pg.set k p).length := hj; simpa using this
    show ((f.ck.fr.set k ⟨p.id, 1, true⟩)[j]'(by simp; omega)).pins = upW w p.id 1 ((f.pg.set k p)[j]'(by simpa using hj2)).id
    have hjz2 : ((f.pg.set k p)[j]'(by simpa using hj2)).id ≠ 0 := hjz
    rw [List.getElem_set] at hjz2 ⊢
    rw [List.getElem_set]
    by_cases e : k = j
    · rw [if_pos e, if_pos e]
      unfold upW
      rw [if_pos rfl]
    · rw [if_neg e] at hjz2
      rw [if_neg e, if_neg e]
      unfold upW
      rw [if_neg (fun e2 => by
        have := (rt_at h.rt hj2 hjz2).2.2
        rw [e2] at this
        rw [this] at hf; exact Bool.noConfusion hf)]
      exact h.pins j hj2 hjz2
  · have hne : id ≠ p.id := fun e => hno p (List.mem_set hk p) e.symm
    unfold upW
    rw [if_neg hne]
    refine h.none id hid2 fun q hq e => ?_
    obtain ⟨j, hj, rfl⟩ := List.getElem_of_mem hq
    have hjk : k ≠ j := fun e2 => by subst e2; rw [hz] at e; omega
    have : f.pg[j] ∈ f.pg.set k p := by
      rw [List.mem_iff_getElem]
      exact ⟨j, by simpa using hj, by rw [List.getElem_set, if_neg hjk]⟩
    exact hno _ this e
/-- a page without pins goes -/
theorem kf_empty {f : Fs} {w : Int → Int} (h : Kf f w) {k : Nat} (hk : k < f.pg.length) (hz : f.pg[k].id ≠ 0) (hp : (f.ck.fr[k]'(by have := h.rt.same; omega)).pins = 0) : Kf (Fm.empty f k) w := by
  have hsm := h.rt.same
  have hrt := rt_empty h.rt hk hz
  have hw : w f.pg[k].id = 0 := by rw [← h.pins k hk hz, hp]
  refine ⟨hrt, fun j hj hjz => ?_, fun id hid2 hno => ?_⟩
  · have hj2 : j < f.pg.length := by have : j < (f.pg.set k zP).length := hj; simpa using this
    show ((f.ck.fr.set k zF)[j]'(by simp; omega)).pins = w ((f.pg.set k zP)[j]'(by simpa using hj2)).id
    have hjz2 : ((f.pg.set k zP)[j]'(by simpa using hj2)).id ≠ 0 := hjz
    rw [List.getElem_set] at hjz2 ⊢
    rw [List.getElem_set]
    by_cases e : k = j
    · rw [if_pos e] at hjz2
      exact absurd rfl hjz2
    · rw [if_neg e] at hjz2
      rw [if_neg e, if_neg e]
      exact h.pins j hj2 hjz2
  · by_cases hne : id = f.pg[k].id
    · rw [hne]; exact hw
    refine h.none id hid2 fun q hq e => ?_
    obtain ⟨j, hj, rfl⟩ := List.getElem_of_mem hq
    have hjk : k ≠ j := fun e2 => by subst e2; exact hne e.symm
    have : f.pg[j] ∈ f.pg.set k zP := by
      rw [List.mem_iff_getElem]
      exact ⟨j, by simpa using hj, by rw [List.getElem_set, if_neg hjk]⟩
    exact hno _ this e
end Go.Proofs.Ytcindpblgbpcoaa
namespace Go.Proofs.Ytcindpblgbpcoaa
open Go.RowKit
set_option linter.unusedVariables false
set_option linter.unusedSimpArgs false
theorem sweep_pins {c : Clk} (hw : (sweepC c).2.2 = true) {j : Nat} (hj : j < c.fr.length) (hj2 : j < (sweepC c).1.fr.length) : ((sweepC c).1.fr[j]).pins = c.fr[j].pins := by
  have hr : Ck.right c.fr c.hand = true := by
    unfold sweepC at hw
    split at hw
    · rename_i h; exact h
    · exact Bool.noConfusion hw
  cases e : Ck.stop c.fr c.hand.toNat with
  | none =>
    unfold sweepC at hw
    rw [if_pos hr, e] at hw
    exact Bool.noConfusion hw
  | some N =>
    have es : (sweepC c).1.fr = Ck.after c.fr c.hand.toNat N := by unfold sweepC; rw [if_pos hr, e]
    simp only [es]
    rw [Ck.after_get _ _ _ _ hj, Ck.clear_pins]
theorem kf_sweep {f : Fs} {w : Int → Int} (h : Kf f w) (hw : (sweepC f.ck).2.2 = true) : Kf ⟨(sweepC f.ck).1, f.tb, f.pg, f.dt⟩ w := by
  obtain ⟨k, e1, hc, e2, hrt⟩ := rt_sweep h.rt hw
  have hsm := h.rt.same
  refine ⟨hrt, fun j hj hz => ?_, h.none⟩
  have hjc : j < f.ck.fr.length := by have : j < f.pg.length := hj; omega
  show ((sweepC f.ck).1.fr[j]'_).pins = w f.pg[j].id
  rw [sweep_pins hw hjc]
  exact h.pins j hj hz
theorem kf_room {f : Fs} {w : Int → Int} (h : Kf f w) : Kf (Fm.room f).1 w := by
  unfold Fm.room
  split
  · exact h
  split
  · exact h
  split
  · exact h
  rename_i hw
  have hw2 : (sweepC f.ck).2.2 = true := by simpa using hw
  obtain ⟨k, e1, hc, e2, hrt⟩ := rt_sweep h.rt hw2
  have hs := kf_sweep h hw2
  split
  · exact hs
  · rename_i _ hff _
    have hsm := h.rt.same
    have hk : k < f.pg.length := by omega
    show Kf (Fm.empty ⟨(sweepC f.ck).1, f.tb, f.pg, f.dt⟩ (sweepC f.ck).2.1.toNat) w
    rw [e1, Int.toNat_natCast]
    have hz : f.pg[k].id ≠ 0 := fun e => hff (fst_neg.2 (by
      rw [any_same h.rt, List.any_eq_true]; exact ⟨_, List.getElem_mem hk, by rw [e]; rfl⟩))
    exact kf_empty hs (k := k) hk hz (by
      show ((sweepC f.ck).1.fr[k]'_).pins = 0
      rw [sweep_pins hw2 hc]; exact e2)
theorem fst_prop {α : Type} {p : α → Bool} {l : List α} {k : Nat} (h : fst? p l = (k : Int)) : ∃ hk : k < l.length, p l[k] = true := by
  unfold fst? at h
  cases e : l.findIdx? p with
  | none => rw [e] at h; simp only at h; omega
  | some j =>
    rw [e] at h
    simp only at h
    obtain ⟨hk, h1, _⟩ := List.findIdx?_eq_some_iff_getElem.1 e
    have : j = k := by omega
    subst this
    exact ⟨hk, h1⟩
/-- the pins that an act leaves -/
def newW (w : Int → Int) (a : Av) (e : Int) : Int → Int :=
  if e ≠ 0 then w else if a.kind = 1 ∧ 1 ≤ a.id ∧ a.id ≤ 16 then upW w a.id (w a.id + 1) else if a.kind = 2 ∧ 1 ≤ a.id ∧ a.id ≤ 16 then upW w a.id (w a.id - 1) else if a.kind = 6 ∧ 1 ≤ a.p.id ∧ a.p.id ≤ 16 then upW w a.p.id 1 else w
theorem kf_do {f : Fs} {w : Int → Int} (h : Kf f w) (a : Av) : Kf (doA f a).1 (newW w a (doA f a).2) := by
  have hsm := h.rt.same
  obtain ⟨h8, h0, h1, hg⟩ := right_fr h.rt.clock
  have loc : (Fm.locate f a.id).2 = 0 → ∃ (k : Nat) (hk : k < f.pg.length) (hc : k < f.ck.fr.length), (Fm.locate f a.id).1 = k ∧ f.pg[k].id = a.id ∧ a.id ≠ 0 ∧ 1 ≤ a.id ∧ a.id ≤ 16 ∧ Fm.fa f a.id = f.ck.fr[k] ∧ Fm.pa f a.id = f.pg[k] ∧ (f.ck.fr[k]).page = f.pg[k].id ∧ okPg f.pg[k] = true ∧ Ck.good f.ck.fr[k] = true := fun hl => by
    obtain ⟨k, e1, k1, k2, _, _, e2, e3⟩ := at_found hl
    rw [pg_getD k2] at e2
    have hz : f.pg[k].id ≠ 0 := by rw [e2]; exact e3
    obtain ⟨b1, b2, _⟩ := rt_at h.rt k2 hz
    have hid := okPg_id b2
    exact ⟨k, k2, k1, e1, e2, e3, by omega, by omega, by unfold Fm.fa; rw [e1, Int.toNat_natCast, fr_getD k1], by unfold Fm.pa; rw [e1, Int.toNat_natCast, pg_getD k2], b1, b2, hg _ (List.getElem_mem k1)⟩
  have no : ∀ {g : Fs} {e : Int}, e ≠ 0 → Kf g w → Kf g (newW w a e) := fun he hk => by unfold newW; rw [if_pos he]; exact hk
  unfold doA
  by_cases k1 : a.kind = 1
  · rw [if_pos k1]
    unfold Fm.pin
    split
    · rename_i hl; exact no hl h
    rename_i hl
    obtain ⟨k, hk, hc, e1, e2, e3, i1, i2, f1, f2, b1, b2, b3⟩ := loc (by simpa using hl)
    split
    · exact no (e := 7) (by decide) h
    rename_i hp
    have hz : f.pg[k].id ≠ 0 := by rw [e2]; exact e3
    have hw : newW w a 0 = upW w f.pg[k].id (f.ck.fr[k].pins + 1) := by
      unfold newW
      rw [if_neg (by decide), if_pos ⟨k1, i1, i2⟩, e2, h.pins k hk hz, e2]
    show Kf (Fm.lay f _ _ _) (newW w a 0)
    rw [hw, f1, f2, e1, Int.toNat_natCast]
    rw [f1] at hp
    unfold Ck.good at b3
    rw [decide_eq_true_iff] at b3
    exact kf_lay h hk hz (x := ⟨f.ck.fr[k].page, f.ck.fr[k].pins + 1, true⟩) (by unfold Ck.good; rw [decide_eq_true_iff]; show 0 ≤ f.ck.fr[k].page ∧ f.ck.fr[k].page ≤ 16 ∧ 0 ≤ f.ck.fr[k].pins + 1 ∧ f.ck.fr[k].pins + 1 ≤ 2147483647; omega) b1 rfl b2
  rw [if_neg k1]
  have same : ∀ (k : Nat) (hk : k < f.pg.length) (hc : k < f.ck.fr.length), f.pg[k].id ≠ 0 → upW w f.pg[k].id f.ck.fr[k].pins = w := fun k hk hc hz => by
    funext n
    unfold upW
    split
    · rename_i e; rw [e]; exact h.pins k hk hz
    · rfl
  by_cases k2 : a.kind = 2
  · rw [if_pos k2]
    unfold Fm.unpin
    split
    · rename_i hl; exact no hl h
    rename_i hl
    obtain ⟨k, hk, hc, e1, e2, e3, i1, i2, f1, f2, b1, b2, b3⟩ := loc (by simpa using hl)
    have f1' : f.ck.fr.getD (Fm.locate f a.id).1.toNat zF = f.ck.fr[k] := f1
    have f2' : f.pg.getD (Fm.locate f a.id).1.toNat zP = f.pg[k] := f2
    split
    · exact no (e := 12) (by decide) h
    rename_i hp
    have hz : f.pg[k].id ≠ 0 := by rw [e2]; exact e3
    have hw : newW w a 0 = upW w f.pg[k].id (f.ck.fr[k].pins - 1) := by
      unfold newW
      rw [if_neg (by decide), if_neg (fun x => k1 x.1), if_pos ⟨k2, i1, i2⟩, e2, h.pins k hk hz, e2]
    show Kf (Fm.lay f _ _ _) (newW w a 0)
    rw [hw, f1', f2', e1, Int.toNat_natCast]
    rw [f1'] at hp
    unfold Ck.good at b3
    rw [decide_eq_true_iff] at b3
    exact kf_lay h hk hz (x := ⟨f.ck.fr[k].page, f.ck.fr[k].pins - 1, f.ck.fr[k].used⟩) (by unfold Ck.good; rw [decide_eq_true_iff]; show 0 ≤ f.ck.fr[k].page ∧ f.ck.fr[k].page ≤ 16 ∧ 0 ≤ f.ck.fr[k].pins - 1 ∧ f.ck.fr[k].pins - 1 ≤ 2147483647; omega) b1 rfl b2
  rw [if_neg k2]
  by_cases k6 : a.kind = 6
  · rw [if_neg (by omega), if_neg (by omega), if_neg (by omega), if_pos k6]
    unfold Fm.load
    split
    · exact no (e := 1) (by decide) h
    rename_i hc
    have hp : okPg a.p = true := by
      cases x : okPg a.p
      · exact absurd (.inr (.inl x)) hc
      · rfl
    have hid := okPg_id hp
    split
    · exact no (e := 4) (by decide) h
    rename_i hf
    have hf2 : (Ta.find f.tb a.p.id).2 = false := by simpa using hf
    split
    · exact no (e := 7) (by decide) h
    rename_i hk0
    obtain ⟨k, e1, _⟩ := fst_at' hk0
    have e1' : Fm.ff f = k := e1
    obtain ⟨hkc, hpz⟩ := fst_prop e1
    have hk : k < f.pg.length := by omega
    have hz : f.pg[k].id = 0 := (page_id h.rt hk).1 (by simpa using hpz)
    have hw : newW w a 0 = upW w a.p.id 1 := by
      unfold newW
      rw [if_neg (by decide), if_neg (fun x => k1 x.1), if_neg (fun x => k2 x.1), if_pos ⟨k6, hid⟩]
    have hl := kf_load h hk hz hp hf2
    have hown := (rt_load h.rt hk hz hp hf2).2
    rw [e1', Int.toNat_natCast]
    split
    · split
      · rename_i hm; exact no hm h
      · show Kf (Fm.mark _ a.p.id a.now).1 (newW w a 0)
        rw [hw]
        exact kf_dirty hl (rt_mark hl.rt (by rw [hown]))
    · show Kf _ (newW w a 0)
      rw [hw]
      exact hl
  have hnw : ∀ e, newW w a e = w := fun e => by
    unfold newW
    split
    · rfl
    · rw [if_neg (fun x => k1 x.1), if_neg (fun x => k2 x.1), if_neg (fun x => k6 x.1)]
  rw [hnw]
  by_cases k3 : a.kind = 3
  · rw [if_pos k3]
    unfold Fm.write
    split
    · exact h
    rename_i hl
    obtain ⟨k, hk, hc, e1, e2, e3, i1, i2, f1, f2, b1, b2, b3⟩ := loc (by simpa using hl)
    have hz : f.pg[k].id ≠ 0 := by rw [e2]; exact e3
    split
    · exact h
    split
    · exact h
    rename_i hs
    split
    · exact h
    rename_i hv
    split
    · exact h
    have hfd := (rt_at h.rt hk hz).2.2
    have hm : Kf (Fm.mark f a.id a.now).1 w := kf_dirty h (rt_mark h.rt (by rw [← e2, hfd]))
    show Kf (Fm.lay (Fm.mark f a.id a.now).1 _ _ _) w
    rw [f2] at hv
    rw [f1, f2, e1, Int.toNat_natCast]
    have hok : okPg ⟨a.id, f.pg[k].ver + 1, a.body⟩ = true := by
      unfold okPg at b2 ⊢
      rw [decide_eq_true_iff] at b2 ⊢
      show 1 ≤ a.id ∧ a.id ≤ 16 ∧ 1 ≤ f.pg[k].ver + 1 ∧ f.pg[k].ver + 1 ≤ 2147483647 ∧ a.body.size ≤ 16
      omega
    have := kf_lay hm (k := k) hk hz b3 b1 (p := ⟨a.id, f.pg[k].ver + 1, a.body⟩) e2.symm hok
    rw [← same k hk hc hz]
    exact this
  rw [if_neg k3]
  by_cases k4 : a.kind = 4
  · rw [if_pos k4]
    unfold Fm.clean
    split
    · exact h
    split
    · exact h
    · exact kf_dirty h (rt_clean h.rt _)
  rw [if_neg k4]
  by_cases k5 : a.kind = 5
  · rw [if_pos k5]
    unfold Fm.drop
    split
    · exact h
    rename_i hl
    obtain ⟨k, hk, hc, e1, e2, e3, i1, i2, f1, f2, b1, b2, b3⟩ := loc (by simpa using hl)
    have hz : f.pg[k].id ≠ 0 := by rw [e2]; exact e3
    split
    · exact h
    rename_i hp
    rw [f1] at hp
    unfold Ck.good at b3
    rw [decide_eq_true_iff] at b3
    show Kf (Fm.empty f _) w
    rw [e1, Int.toNat_natCast]
    exact kf_empty h hk hz (by omega)
  rw [if_neg k5, if_neg k6]
  exact kf_room h
end Go.Proofs.Ytcindpblgbpcoaa
namespace Go.Proofs.Ytcindpblgbpcoaa
open Go.RowKit
set_option linter.unusedVariables false
set_option linter.unusedSimpArgs false
def wOf (W : List Int) (id : Int) : Int := if 1 ≤ id ∧ id ≤ 16 then W.getD id.toNat 0 else 0
theorem up_wOf {W : List Int} (hl : W.length = 17) {k v : Int} (hk : 1 ≤ k ∧ k ≤ 16) : upW (wOf W) k v = wOf (W.set k.toNat v) := by
  funext n
  unfold upW wOf
  by_cases e : n = k
  · subst e
    rw [if_pos rfl, if_pos hk, List.getD_eq_getElem?_getD, List.getElem?_set, if_pos rfl, if_pos (by omega)]; rfl
  · rw [if_neg e]
    by_cases h : 1 ≤ n ∧ n ≤ 16
    · rw [if_pos h, if_pos h, List.getD_eq_getElem?_getD, List.getD_eq_getElem?_getD, List.getElem?_set, if_neg (by omega)]
    · rw [if_neg h, if_neg h]
theorem new_right : ∀ n : Nat, n < 8 → Fm.right (Fm.newF ((n + 1 : Nat) : Int)).1 = true := by decide +kernel
theorem kf_new {n : Nat} (h : n < 8) : Kf (Fm.newF ((n + 1 : Nat) : Int)).1 (wOf (List.replicate 17 0)) := by
  have e : Fm.newF ((n + 1 : Nat) : Int) = (⟨⟨List.replicate (n + 1) zF, 0⟩, List.replicate 16 Ta.z, List.replicate (n + 1) zP, []⟩, 0) := by
    unfold Fm.newF
    rw [if_pos (by omega), Int.toNat_natCast]
  have hr := new_right n h
  rw [e] at hr ⊢
  refine ⟨rt_iff.1 hr, fun k hk hz => ?_, fun id hid _ => ?_⟩
  · exact absurd (by show ((List.replicate (n + 1) zP)[k]'hk).id = 0; rw [List.getElem_replicate]; rfl) hz
  · unfold wOf
    rw [if_pos hid, List.getD_eq_getElem?_getD, List.getElem?_replicate]
    split <;> rfl
theorem kf_range {f : Fs} {w : Int → Int} (h : Kf f w) {id : Int} (hid : 1 ≤ id ∧ id ≤ 16) : 0 ≤ w id ∧ w id ≤ 2147483647 := by
  by_cases hp : ∃ p ∈ f.pg, p.id = id
  · obtain ⟨p, hp, e⟩ := hp
    obtain ⟨k, hk, rfl⟩ := List.getElem_of_mem hp
    have h1 := h.pins k hk (by omega)
    rw [e] at h1
    obtain ⟨h8, h0, _, hg⟩ := right_fr h.rt.clock
    have h2 := hg _ (List.getElem_mem (show k < f.ck.fr.length by have := h.rt.same; omega))
    unfold Ck.good at h2
    rw [decide_eq_true_iff] at h2
    omega
  · rw [h.none id hid (fun p hp2 e => hp ⟨p, hp2, e⟩)]; omega
theorem kf_find {f : Fs} {w : Int → Int} (h : Kf f w) {id : Int} (hid : 1 ≤ id ∧ id ≤ 16) : (∃ x, Ta.find f.tb id = (x, false) ∧ w id = 0) ∨ ∃ (k : Nat) (hk : k < f.pg.length) (hc : k < f.ck.fr.length), Ta.find f.tb id = ((k : Int), true) ∧ f.pg[k].id = id ∧ f.ck.fr[k].pins = w id := by
  cases hf : (Ta.find f.tb id).2
  · refine .inl ⟨(Ta.find f.tb id).1, by rw [← hf], h.none id hid fun p hp e => ?_⟩
    obtain ⟨k, hk, rfl⟩ := List.getElem_of_mem hp
    have h1 := (rt_at h.rt hk (by omega)).2.2
    rw [e] at h1
    rw [h1] at hf
    exact Bool.noConfusion hf
  · obtain ⟨k, hk, e1, e2, e3⟩ := rt_found h.rt (x := (Ta.find f.tb id).1) (by rw [← hf])
    have hc : k < f.ck.fr.length := by have := h.rt.same; omega
    have h1 := h.pins k hk (by rw [e2]; exact e3)
    rw [e2] at h1
    exact .inr ⟨k, hk, hc, by rw [← e1, ← hf], e2, h1⟩
def aI (x : Int) : List AC := [.s (.pv (.int .i64 x))]
theorem rt_sh {f : Fs} (h : Rt f) : Sh f := by
  have h8 := (right_fr h.clock).1
  have hd := right_len h.dirty
  exact ⟨by omega, by omega⟩
theorem rt_find {f : Fs} (h : Rt f) (id : Int) : Fm.find f id = Ta.find f.tb id := by unfold Fm.find; rw [if_pos (rt_iff.2 h)]
end Go.Proofs.Ytcindpblgbpcoaa
