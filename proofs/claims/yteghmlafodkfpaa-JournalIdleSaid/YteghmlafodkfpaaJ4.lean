/- layer 12: awake; the law JournalMany. -/
import Derived.Test.YteghmlafodkfpaaJ3
import Derived.Test.YteghmlafodkfpaaJ2b
import Derived.Test.YteghmlafodkfpaaSub
namespace Go.Proofs.Yteghmlafodkfpaa
open Go.RowKit
set_option linter.unusedVariables false
set_option linter.unusedSimpArgs false
def wData : ByteArray := ⟨#[48, 49, 50, 51, 52, 53, 54, 55, 56, 57, 97, 98, 99, 100, 101, 102, 48, 49, 50, 51, 52, 53, 54, 55, 56, 57, 65, 66, 67, 68, 69, 70]⟩
theorem wData_32 : wData.size = 32 := rfl
namespace Jn
theorem h35 : (35 : Nat) ≤ 35 ∧ 35 ≤ 64 := by omega
theorem plan_new {s : List ByteArray} {p : Int} {x : ByteArray} (hs : Ok 35 s) (hp : 1 ≤ p ∧ p ≤ 16) (hx : x.size = 32) : planM ⟨s, []⟩ p x = (plan p x, 0) := by
  unfold planM
  rw [if_pos ⟨usable_ok h35 hs cok_nil, page_iff.2 hp, hx⟩]
theorem run_st {s : List ByteArray} {p : Int} {x : ByteArray} (hs : Ok 35 s) (hp : 1 ≤ p ∧ p ≤ 16) (hx : x.size = 32) (k : Nat) : runM ⟨s, []⟩ (plan p x) (k : Int) = stP s p x k := by
  unfold runM
  rw [Int.toNat_natCast]; exact run_plan h35 hs hp hx k
theorem sync_nil {s : List ByteArray} (hs : Ok 35 s) : syncD ⟨s, []⟩ = ⟨s, []⟩ := by
  unfold syncD
  rw [right_ok (by omega) hs cok_nil]; rfl
end Jn
open Jn in
theorem w_get1 : getM ⟨s4 new35 3 wData, []⟩ 3 = (wData, 0) := by
  have hf := s4_fin h35 ok_new (p := 3) (by omega) wData_32
  rw [fin_get h35 ok_new (by omega) wData_32 hf 3 (by omega), if_pos rfl]
open Jn in
theorem w_rec : ∃ t, recoverM ⟨s2 new35 3 wData, []⟩ = ⟨t, []⟩ ∧ getM ⟨t, []⟩ 3 = (wData, 0) := by
  have o2 := ok2 (p := 3) h35 ok_new wData_32
  obtain ⟨e, hc⟩ := recover_mend h35 o2 cok_nil (p := 3) (by omega) (by simp) (by rw [rdS2 h35 ok_new wData_32 (by omega)]; exact headed_b (by omega)) (by rw [rdS2 h35 ok_new wData_32 (by omega)]; exact head_nought)
  refine ⟨_, e, ?_⟩
  have o3 := ok_done o2 hc
  have c0 : Cok 35 [⟨0, noughts⟩] := cok1 (by omega) size_noughts
  rw [get_sec h35 (ok_done o3 c0) (by omega), rd_done o3 c0 (by omega), rd_done o3 c0 (by omega), rd1, rd1, if_neg (by omega), if_neg (by omega), rd_done o2 hc (by omega), rd_done o2 hc (by omega), rd_snoc, rd_snoc, rd_snoc, rd_snoc]
  simp only [show ¬ ((2 : Int) * 3 + 2 = 2 * 3 + 1) by omega, if_false, if_true]
  rw [rdS2 h35 ok_new wData_32 (by omega), rdS2 h35 ok_new wData_32 (by omega)]
  simp only [show ¬ ((0 : Int) = 1) by omega, show ¬ ((2 : Int) = 1) by omega, show ¬ ((0 : Int) = 2) by omega, if_false, if_true]
  rw [lo_hi wData_32]
theorem wData_eq : wData = ⟨#[48, 49, 50, 51, 52, 53, 54, 55, 56, 57, 97, 98, 99, 100, 101, 102, 48, 49, 50, 51, 52, 53, 54, 55, 56, 57, 65, 66, 67, 68, 69, 70]⟩ := rfl
set_option maxRecDepth 100000 in
theorem awake_spec : Spec Try.prog 34 [] (.val (rB true)) := by
  refine spec_val mixed fn34 (by simp) ?_
  unfold ac34
  have hp : (1 : Int) ≤ 3 ∧ (3 : Int) ≤ 16 := by omega
  have e1 := Jn.plan_new Jn.ok_new hp wData_32
  have e2 := Jn.commit_st Jn.h35 Jn.ok_new hp wData_32
  obtain ⟨t, e3, e4⟩ := w_rec
  simp -implicitDefEqProofs only [↓aP, aQ, ↓reduceIte, Nat.reduceEqDiff, Nat.reduceAdd, Nat.reduceSub, Nat.reduceMul, Nat.reduceLT, Nat.reduceLeDiff, reduceCtorEq, Nat.reduceBEq, forall_const, implies_true, exists_const, ne_eq, Int.reduceAdd, Int.reduceSub, Int.reduceMul, Int.reduceBEq, Int.reduceEq, Int.reduceLT, Int.reduceLE, Int.reduceToNat, Int.reduceNeg, Int.reduceBNe]
  refine ask (new_spec 35) ?_
  rw [Jn.new_eq]
  simp -implicitDefEqProofs only [↓aP, aQ, ↓reduceIte, Nat.reduceEqDiff, Nat.reduceAdd, Nat.reduceSub, Nat.reduceMul, Nat.reduceLT, Nat.reduceLeDiff, reduceCtorEq, Nat.reduceBEq, forall_const, implies_true, exists_const, ne_eq, Int.reduceAdd, Int.reduceSub, Int.reduceMul, Int.reduceBEq, Int.reduceEq, Int.reduceLT, Int.reduceLE, Int.reduceToNat, Int.reduceNeg, Int.reduceBNe, encDk, ← wData_eq]
  refine ask (by have := plan_spec ⟨Jn.new35, []⟩ 3 wData; rw [e1] at this; exact this) ?_
  simp -implicitDefEqProofs only [↓aP, aQ, ↓reduceIte, Nat.reduceEqDiff, Nat.reduceAdd, Nat.reduceSub, Nat.reduceMul, Nat.reduceLT, Nat.reduceLeDiff, reduceCtorEq, Nat.reduceBEq, forall_const, implies_true, exists_const, ne_eq, Int.reduceAdd, Int.reduceSub, Int.reduceMul, Int.reduceBEq, Int.reduceEq, Int.reduceLT, Int.reduceLE, Int.reduceToNat, Int.reduceNeg, Int.reduceBNe, encDk, List.length_map]
  refine ask (by have := commit_spec ⟨Jn.new35, []⟩ 3 wData; rw [e2] at this; exact this) ?_
  simp -implicitDefEqProofs only [↓aP, aQ, ↓reduceIte, Nat.reduceEqDiff, Nat.reduceAdd, Nat.reduceSub, Nat.reduceMul, Nat.reduceLT, Nat.reduceLeDiff, reduceCtorEq, Nat.reduceBEq, forall_const, implies_true, exists_const, ne_eq, Int.reduceAdd, Int.reduceSub, Int.reduceMul, Int.reduceBEq, Int.reduceEq, Int.reduceLT, Int.reduceLE, Int.reduceToNat, Int.reduceNeg, Int.reduceBNe, encDk]
  refine ask (by have := jget_spec ⟨Jn.s4 Jn.new35 3 wData, []⟩ 3; rw [w_get1] at this; exact this) ?_
  simp -implicitDefEqProofs only [↓aP, aQ, ↓reduceIte, Nat.reduceEqDiff, Nat.reduceAdd, Nat.reduceSub, Nat.reduceMul, Nat.reduceLT, Nat.reduceLeDiff, reduceCtorEq, Nat.reduceBEq, forall_const, implies_true, exists_const, ne_eq, Int.reduceAdd, Int.reduceSub, Int.reduceMul, Int.reduceBEq, Int.reduceEq, Int.reduceLT, Int.reduceLE, Int.reduceToNat, Int.reduceNeg, Int.reduceBNe, encDk]
  refine ask (by have := run_spec ⟨Jn.new35, []⟩ (Jn.plan 3 wData) 5 (by simp [Jn.plan]); rw [show (5 : Int) = ((5 : Nat) : Int) from rfl, Jn.run_st Jn.ok_new hp wData_32] at this; exact this) ?_
  simp -implicitDefEqProofs only [↓aP, aQ, ↓reduceIte, Nat.reduceEqDiff, Nat.reduceAdd, Nat.reduceSub, Nat.reduceMul, Nat.reduceLT, Nat.reduceLeDiff, reduceCtorEq, Nat.reduceBEq, forall_const, implies_true, exists_const, ne_eq, Int.reduceAdd, Int.reduceSub, Int.reduceMul, Int.reduceBEq, Int.reduceEq, Int.reduceLT, Int.reduceLE, Int.reduceToNat, Int.reduceNeg, Int.reduceBNe, Jn.stP, encDk]
  refine ask (by have := sync_spec ⟨Jn.s2 Jn.new35 3 wData, []⟩; rw [Jn.sync_nil (Jn.ok2 (p := 3) Jn.h35 Jn.ok_new wData_32)] at this; exact this) ?_
  simp -implicitDefEqProofs only [↓aP, aQ, ↓reduceIte, Nat.reduceEqDiff, Nat.reduceAdd, Nat.reduceSub, Nat.reduceMul, Nat.reduceLT, Nat.reduceLeDiff, reduceCtorEq, Nat.reduceBEq, forall_const, implies_true, exists_const, ne_eq, Int.reduceAdd, Int.reduceSub, Int.reduceMul, Int.reduceBEq, Int.reduceEq, Int.reduceLT, Int.reduceLE, Int.reduceToNat, Int.reduceNeg, Int.reduceBNe, encDk]
  refine ask (by have := recover_spec ⟨Jn.s2 Jn.new35 3 wData, []⟩; rw [e3] at this; exact this) ?_
  simp -implicitDefEqProofs only [↓aP, aQ, ↓reduceIte, Nat.reduceEqDiff, Nat.reduceAdd, Nat.reduceSub, Nat.reduceMul, Nat.reduceLT, Nat.reduceLeDiff, reduceCtorEq, Nat.reduceBEq, forall_const, implies_true, exists_const, ne_eq, Int.reduceAdd, Int.reduceSub, Int.reduceMul, Int.reduceBEq, Int.reduceEq, Int.reduceLT, Int.reduceLE, Int.reduceToNat, Int.reduceNeg, Int.reduceBNe, encDk]
  refine ask (by have := jget_spec ⟨t, []⟩ 3; rw [e4] at this; exact this) ?_
  simp -implicitDefEqProofs only [↓aP, aQ, ↓reduceIte, Nat.reduceEqDiff, Nat.reduceAdd, Nat.reduceSub, Nat.reduceMul, Nat.reduceLT, Nat.reduceLeDiff, reduceCtorEq, Nat.reduceBEq, forall_const, implies_true, exists_const, ne_eq, Int.reduceAdd, Int.reduceSub, Int.reduceMul, Int.reduceBEq, Int.reduceEq, Int.reduceLT, Int.reduceLE, Int.reduceToNat, Int.reduceNeg, Int.reduceBNe, tl_beq, decide_true, List.length_map, show (Jn.plan 3 wData).length = 10 from rfl, encDk]
  refine ask (by have := repair_spec ⟨Jn.new35, []⟩; rw [Jn.repair_idle Jn.h35 Jn.ok_new Jn.cok_nil (Jn.rd_new (by omega))] at this; exact this) ?_
  simp -implicitDefEqProofs only [↓aP, aQ, ↓reduceIte, Nat.reduceEqDiff, Nat.reduceAdd, Nat.reduceSub, Nat.reduceMul, Nat.reduceLT, Nat.reduceLeDiff, reduceCtorEq, Nat.reduceBEq, forall_const, implies_true, exists_const, ne_eq, Int.reduceAdd, Int.reduceSub, Int.reduceMul, Int.reduceBEq, Int.reduceEq, Int.reduceLT, Int.reduceLE, Int.reduceToNat, Int.reduceNeg, Int.reduceBNe, List.map_nil, List.length_nil]
end Go.Proofs.Yteghmlafodkfpaa
