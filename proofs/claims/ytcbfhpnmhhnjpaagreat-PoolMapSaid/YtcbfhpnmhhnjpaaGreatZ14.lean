import Derived.Test.YtcbfhpnmhhnjpaaGreatZ13
import Derived.Deep.Slices
import Derived.OpenShut
import Derived.RangeFuncNested
import Derived.RangeFuncBound
import Derived.RangeFuncCalls
import Derived.RangeFuncLeaves
import Derived.RangeFuncBox
import Derived.Shelf.Abstract
import Derived.Shelf.RegionOpen
import Derived.OwnWalkIn
import Derived.TacticsInMore
import Derived.LoopNIn
import Derived.LoopIn
set_option linter.unusedVariables false
set_option linter.unusedSimpArgs false
namespace Go.Proofs.YtcbfhpnmhhnjpaaGreat
open Go.RowKit
def encPut (x : List Sl × Int) : TV SC := .tup [(true, encTa x.1), (false, [.pv (.int .i64 x.2)])]
theorem tNew_spec : Spec Tryz.prog 101 [] (.val (.agg (encTa (List.replicate 16 Ta.z)))) := by
  refine spec_val mixed fn101 (by simp) ?_
  unfold ac101
  rw [show List.replicate 16 Ta.z = [Ta.z, Ta.z, Ta.z, Ta.z, Ta.z, Ta.z, Ta.z, Ta.z, Ta.z, Ta.z, Ta.z, Ta.z, Ta.z, Ta.z, Ta.z, Ta.z] from rfl]
  simp -implicitDefEqProofs only [↓aP, aQ, ↓reduceIte, Nat.reduceEqDiff, Nat.reduceAdd, Nat.reduceSub, Nat.reduceMul, Nat.reduceLT, Nat.reduceLeDiff, reduceCtorEq, Nat.reduceBEq, forall_const, implies_true, exists_const, ne_eq, Int.reduceAdd, Int.reduceSub, Int.reduceMul, Int.reduceBEq, Int.reduceEq, Int.reduceLT, Int.reduceLE, Int.reduceToNat, Int.reduceNeg, Int.reduceBNe, encTa, List.map_cons, List.map_nil, encSl, Ta.z]
theorem ta_len {t : List Sl} (h : Ta.right t = true) : t.length = 16 := (Ta.right_iff.1 h).1
theorem slot_nat {t : List Sl} {p : Int} (hs : (Ta.slot t p).2 = true) : ∃ k, k < 16 ∧ (Ta.slot t p).1 = ((k : Nat) : Int) := by
  unfold Ta.slot at hs ⊢
  split at hs
  · rename_i hp
    rw [if_pos hp]
    simp only [decide_eq_true_eq] at hs
    rcases Ta.seek_range (t := t) (p := p) with h | ⟨i, hi, h, _, _⟩
    · rw [h] at hs; omega
    · exact ⟨_, Ta.pl_lt, h⟩
  · cases hs
theorem set_enc {t : List Sl} {k : Nat} {x : Sl} : (t.map encSl).set k [.pv (.int .i64 x.p), .pv (.int .i64 x.f)] = (t.set k x).map encSl := by rw [List.map_set]; rfl
theorem tFind_spec (t : List Sl) (p : Int) : Spec Tryz.prog 48 [.agg (encTa t), rI p] (.val (encSlot (Ta.find t p))) := by
  refine spec_val mixed fn48 (by simp) ?_
  unfold ac48
  simp -implicitDefEqProofs only [↓aP, aQ, ↓reduceIte, Nat.reduceEqDiff, Nat.reduceAdd, Nat.reduceSub, Nat.reduceMul, Nat.reduceLT, Nat.reduceLeDiff, reduceCtorEq, Nat.reduceBEq, forall_const, implies_true, exists_const, ne_eq, Int.reduceAdd, Int.reduceSub, Int.reduceMul, Int.reduceBEq, Int.reduceEq, Int.reduceLT, Int.reduceLE, Int.reduceToNat, Int.reduceNeg, Int.reduceBNe, encTa]
  refine ask (tRight_spec t) ?_
  cases hr : Ta.right t
  · simp -implicitDefEqProofs only [↓aP, aQ, ↓reduceIte, Nat.reduceEqDiff, Nat.reduceAdd, Nat.reduceSub, Nat.reduceMul, Nat.reduceLT, Nat.reduceLeDiff, reduceCtorEq, Nat.reduceBEq, forall_const, implies_true, exists_const, ne_eq, Int.reduceAdd, Int.reduceSub, Int.reduceMul, Int.reduceBEq, Int.reduceEq, Int.reduceLT, Int.reduceLE, Int.reduceToNat, Int.reduceNeg, Int.reduceBNe, encSlot, Ta.find, hr, Bool.false_eq_true, false_and]
  simp -implicitDefEqProofs only [↓aP, aQ, ↓reduceIte, Nat.reduceEqDiff, Nat.reduceAdd, Nat.reduceSub, Nat.reduceMul, Nat.reduceLT, Nat.reduceLeDiff, reduceCtorEq, Nat.reduceBEq, forall_const, implies_true, exists_const, ne_eq, Int.reduceAdd, Int.reduceSub, Int.reduceMul, Int.reduceBEq, Int.reduceEq, Int.reduceLT, Int.reduceLE, Int.reduceToNat, Int.reduceNeg, Int.reduceBNe, hr, encTa]
  refine ask (tslot_spec t p (ta_len hr)) ?_
  cases hs : (Ta.slot t p).2
  · simp -implicitDefEqProofs only [↓aP, aQ, ↓reduceIte, Nat.reduceEqDiff, Nat.reduceAdd, Nat.reduceSub, Nat.reduceMul, Nat.reduceLT, Nat.reduceLeDiff, reduceCtorEq, Nat.reduceBEq, forall_const, implies_true, exists_const, ne_eq, Int.reduceAdd, Int.reduceSub, Int.reduceMul, Int.reduceBEq, Int.reduceEq, Int.reduceLT, Int.reduceLE, Int.reduceToNat, Int.reduceNeg, Int.reduceBNe, encSlot, hs, Ta.find, hr, Bool.false_eq_true, and_false]
  have hb := slot_nat hs
  obtain ⟨k, hk, e⟩ := hb
  have hkl : k < t.length := by rw [ta_len hr]; exact hk
  simp -implicitDefEqProofs only [↓aP, aQ, ↓reduceIte, Nat.reduceEqDiff, Nat.reduceAdd, Nat.reduceSub, Nat.reduceMul, Nat.reduceLT, Nat.reduceLeDiff, reduceCtorEq, Nat.reduceBEq, forall_const, implies_true, exists_const, ne_eq, Int.reduceAdd, Int.reduceSub, Int.reduceMul, Int.reduceBEq, Int.reduceEq, Int.reduceLT, Int.reduceLE, Int.reduceToNat, Int.reduceNeg, Int.reduceBNe, encSlot, hs, e, encTa, askIdx_map, hkl, encSl]
  simp -implicitDefEqProofs only [↓aP, aQ, ↓reduceIte, Nat.reduceEqDiff, Nat.reduceAdd, Nat.reduceSub, Nat.reduceMul, Nat.reduceLT, Nat.reduceLeDiff, reduceCtorEq, Nat.reduceBEq, forall_const, implies_true, exists_const, ne_eq, Int.reduceAdd, Int.reduceSub, Int.reduceMul, Int.reduceBEq, Int.reduceEq, Int.reduceLT, Int.reduceLE, Int.reduceToNat, Int.reduceNeg, Int.reduceBNe, Ta.find, hr, hs, and_self, e, Int.toNat_natCast, Ta.at_get hkl]
  skip
theorem tPut_spec (t : List Sl) (p f : Int) : Spec Tryz.prog 171 [.agg (encTa t), rI p, rI f] (.val (encPut (Ta.put t p f))) := by
  refine spec_val mixed fn171 (by simp) ?_
  unfold ac171
  simp -implicitDefEqProofs only [↓aP, aQ, ↓reduceIte, Nat.reduceEqDiff, Nat.reduceAdd, Nat.reduceSub, Nat.reduceMul, Nat.reduceLT, Nat.reduceLeDiff, reduceCtorEq, Nat.reduceBEq, forall_const, implies_true, exists_const, ne_eq, Int.reduceAdd, Int.reduceSub, Int.reduceMul, Int.reduceBEq, Int.reduceEq, Int.reduceLT, Int.reduceLE, Int.reduceToNat, Int.reduceNeg, Int.reduceBNe, encTa]
  refine ask (tRight_spec t) ?_
  cases hr : Ta.right t
  · simp -implicitDefEqProofs only [↓aP, aQ, ↓reduceIte, Nat.reduceEqDiff, Nat.reduceAdd, Nat.reduceSub, Nat.reduceMul, Nat.reduceLT, Nat.reduceLeDiff, reduceCtorEq, Nat.reduceBEq, forall_const, implies_true, exists_const, ne_eq, Int.reduceAdd, Int.reduceSub, Int.reduceMul, Int.reduceBEq, Int.reduceEq, Int.reduceLT, Int.reduceLE, Int.reduceToNat, Int.reduceNeg, Int.reduceBNe, encPut, Ta.put, hr, true_or, encTa]
  simp -implicitDefEqProofs only [↓aP, aQ, ↓reduceIte, Nat.reduceEqDiff, Nat.reduceAdd, Nat.reduceSub, Nat.reduceMul, Nat.reduceLT, Nat.reduceLeDiff, reduceCtorEq, Nat.reduceBEq, forall_const, implies_true, exists_const, ne_eq, Int.reduceAdd, Int.reduceSub, Int.reduceMul, Int.reduceBEq, Int.reduceEq, Int.reduceLT, Int.reduceLE, Int.reduceToNat, Int.reduceNeg, Int.reduceBNe, hr]
  refine ask (tisP_spec p) ?_
  cases hp : Ta.isP p
  · simp -implicitDefEqProofs only [↓aP, aQ, ↓reduceIte, Nat.reduceEqDiff, Nat.reduceAdd, Nat.reduceSub, Nat.reduceMul, Nat.reduceLT, Nat.reduceLeDiff, reduceCtorEq, Nat.reduceBEq, forall_const, implies_true, exists_const, ne_eq, Int.reduceAdd, Int.reduceSub, Int.reduceMul, Int.reduceBEq, Int.reduceEq, Int.reduceLT, Int.reduceLE, Int.reduceToNat, Int.reduceNeg, Int.reduceBNe, encPut, Ta.put, hr, hp, true_or, or_true, encTa]
  simp -implicitDefEqProofs only [↓aP, aQ, ↓reduceIte, Nat.reduceEqDiff, Nat.reduceAdd, Nat.reduceSub, Nat.reduceMul, Nat.reduceLT, Nat.reduceLeDiff, reduceCtorEq, Nat.reduceBEq, forall_const, implies_true, exists_const, ne_eq, Int.reduceAdd, Int.reduceSub, Int.reduceMul, Int.reduceBEq, Int.reduceEq, Int.reduceLT, Int.reduceLE, Int.reduceToNat, Int.reduceNeg, Int.reduceBNe, hp]
  refine ask (tisF_spec f) ?_
  cases hf : Ta.isF f
  · simp -implicitDefEqProofs only [↓aP, aQ, ↓reduceIte, Nat.reduceEqDiff, Nat.reduceAdd, Nat.reduceSub, Nat.reduceMul, Nat.reduceLT, Nat.reduceLeDiff, reduceCtorEq, Nat.reduceBEq, forall_const, implies_true, exists_const, ne_eq, Int.reduceAdd, Int.reduceSub, Int.reduceMul, Int.reduceBEq, Int.reduceEq, Int.reduceLT, Int.reduceLE, Int.reduceToNat, Int.reduceNeg, Int.reduceBNe, encPut, Ta.put, hr, hp, hf, or_true, encTa]
  simp -implicitDefEqProofs only [↓aP, aQ, ↓reduceIte, Nat.reduceEqDiff, Nat.reduceAdd, Nat.reduceSub, Nat.reduceMul, Nat.reduceLT, Nat.reduceLeDiff, reduceCtorEq, Nat.reduceBEq, forall_const, implies_true, exists_const, ne_eq, Int.reduceAdd, Int.reduceSub, Int.reduceMul, Int.reduceBEq, Int.reduceEq, Int.reduceLT, Int.reduceLE, Int.reduceToNat, Int.reduceNeg, Int.reduceBNe, hf, encTa]
  refine ask (tslot_spec t p (ta_len hr)) ?_
  cases hs : (Ta.slot t p).2
  case true => simp -implicitDefEqProofs only [↓aP, aQ, ↓reduceIte, Nat.reduceEqDiff, Nat.reduceAdd, Nat.reduceSub, Nat.reduceMul, Nat.reduceLT, Nat.reduceLeDiff, reduceCtorEq, Nat.reduceBEq, forall_const, implies_true, exists_const, ne_eq, Int.reduceAdd, Int.reduceSub, Int.reduceMul, Int.reduceBEq, Int.reduceEq, Int.reduceLT, Int.reduceLE, Int.reduceToNat, Int.reduceNeg, Int.reduceBNe, encSlot, hs, encPut, Ta.put, hr, hp, hf, or_self, Bool.true_eq_false, encTa]
  simp -implicitDefEqProofs only [↓aP, aQ, ↓reduceIte, Nat.reduceEqDiff, Nat.reduceAdd, Nat.reduceSub, Nat.reduceMul, Nat.reduceLT, Nat.reduceLeDiff, reduceCtorEq, Nat.reduceBEq, forall_const, implies_true, exists_const, ne_eq, Int.reduceAdd, Int.reduceSub, Int.reduceMul, Int.reduceBEq, Int.reduceEq, Int.reduceLT, Int.reduceLE, Int.reduceToNat, Int.reduceNeg, Int.reduceBNe, encSlot, hs, encTa]
  refine ask (tseek_spec t p (ta_len hr) (isP_iff.1 hp)) ?_
  rcases Ta.seek_range (t := t) (p := p) with h | ⟨i, hi, h, _, _⟩
  · simp -implicitDefEqProofs only [↓aP, aQ, ↓reduceIte, Nat.reduceEqDiff, Nat.reduceAdd, Nat.reduceSub, Nat.reduceMul, Nat.reduceLT, Nat.reduceLeDiff, reduceCtorEq, Nat.reduceBEq, forall_const, implies_true, exists_const, ne_eq, Int.reduceAdd, Int.reduceSub, Int.reduceMul, Int.reduceBEq, Int.reduceEq, Int.reduceLT, Int.reduceLE, Int.reduceToNat, Int.reduceNeg, Int.reduceBNe, h, encPut, Ta.put, hr, hp, hf, hs, or_self, Bool.true_eq_false, Bool.false_eq_true, encTa, show decide ((-1 : Int) < 0) = true by decide, show ((-1 : Int) < 0) = True by decide]
    skip
  · have hpl := Ta.pl_lt (p := p) (i := i)
    have hk : Ta.pl p i < t.length := by rw [ta_len hr]; exact hpl
    simp -implicitDefEqProofs only [↓aP, aQ, ↓reduceIte, Nat.reduceEqDiff, Nat.reduceAdd, Nat.reduceSub, Nat.reduceMul, Nat.reduceLT, Nat.reduceLeDiff, reduceCtorEq, Nat.reduceBEq, forall_const, implies_true, exists_const, ne_eq, Int.reduceAdd, Int.reduceSub, Int.reduceMul, Int.reduceBEq, Int.reduceEq, Int.reduceLT, Int.reduceLE, Int.reduceToNat, Int.reduceNeg, Int.reduceBNe, h, show decide (((Ta.pl p i : Nat) : Int) < 0) = false by simp, encTa]
    refine ask (cloneSl (t.map encSl) (by have := ta_len hr; simp; omega)) ?_
    simp -implicitDefEqProofs only [↓aP, aQ, ↓reduceIte, Nat.reduceEqDiff, Nat.reduceAdd, Nat.reduceSub, Nat.reduceMul, Nat.reduceLT, Nat.reduceLeDiff, reduceCtorEq, Nat.reduceBEq, forall_const, implies_true, exists_const, ne_eq, Int.reduceAdd, Int.reduceSub, Int.reduceMul, Int.reduceBEq, Int.reduceEq, Int.reduceLT, Int.reduceLE, Int.reduceToNat, Int.reduceNeg, Int.reduceBNe, encTa, List.length_map, hk, Int.toNat_natCast]
    have hset := set_enc (t := t) (k := Ta.pl p i) (x := ⟨p, f⟩)
    simp only at hset
    simp -implicitDefEqProofs only [↓aP, aQ, ↓reduceIte, Nat.reduceEqDiff, Nat.reduceAdd, Nat.reduceSub, Nat.reduceMul, Nat.reduceLT, Nat.reduceLeDiff, reduceCtorEq, Nat.reduceBEq, forall_const, implies_true, exists_const, ne_eq, Int.reduceAdd, Int.reduceSub, Int.reduceMul, Int.reduceBEq, Int.reduceEq, Int.reduceLT, Int.reduceLE, Int.reduceToNat, Int.reduceNeg, Int.reduceBNe, encPut, Ta.put, hr, hp, hf, hs, h, or_self, Bool.true_eq_false, Bool.false_eq_true, encSl, hset, encTa, Int.toNat_natCast, show ((((Ta.pl p i : Nat) : Int)) < 0) = False by simp]
theorem tDel_spec (t : List Sl) (p : Int) : Spec Tryz.prog 173 [.agg (encTa t), rI p] (.val (encPut (Ta.del t p))) := by
  refine spec_val mixed fn173 (by simp) ?_
  unfold ac173
  simp -implicitDefEqProofs only [↓aP, aQ, ↓reduceIte, Nat.reduceEqDiff, Nat.reduceAdd, Nat.reduceSub, Nat.reduceMul, Nat.reduceLT, Nat.reduceLeDiff, reduceCtorEq, Nat.reduceBEq, forall_const, implies_true, exists_const, ne_eq, Int.reduceAdd, Int.reduceSub, Int.reduceMul, Int.reduceBEq, Int.reduceEq, Int.reduceLT, Int.reduceLE, Int.reduceToNat, Int.reduceNeg, Int.reduceBNe, encTa]
  refine ask (tRight_spec t) ?_
  cases hr : Ta.right t
  · simp -implicitDefEqProofs only [↓aP, aQ, ↓reduceIte, Nat.reduceEqDiff, Nat.reduceAdd, Nat.reduceSub, Nat.reduceMul, Nat.reduceLT, Nat.reduceLeDiff, reduceCtorEq, Nat.reduceBEq, forall_const, implies_true, exists_const, ne_eq, Int.reduceAdd, Int.reduceSub, Int.reduceMul, Int.reduceBEq, Int.reduceEq, Int.reduceLT, Int.reduceLE, Int.reduceToNat, Int.reduceNeg, Int.reduceBNe, encPut, Ta.del, hr, encTa]
  simp -implicitDefEqProofs only [↓aP, aQ, ↓reduceIte, Nat.reduceEqDiff, Nat.reduceAdd, Nat.reduceSub, Nat.reduceMul, Nat.reduceLT, Nat.reduceLeDiff, reduceCtorEq, Nat.reduceBEq, forall_const, implies_true, exists_const, ne_eq, Int.reduceAdd, Int.reduceSub, Int.reduceMul, Int.reduceBEq, Int.reduceEq, Int.reduceLT, Int.reduceLE, Int.reduceToNat, Int.reduceNeg, Int.reduceBNe, hr, encTa]
  refine ask (tslot_spec t p (ta_len hr)) ?_
  cases hs : (Ta.slot t p).2
  · simp -implicitDefEqProofs only [↓aP, aQ, ↓reduceIte, Nat.reduceEqDiff, Nat.reduceAdd, Nat.reduceSub, Nat.reduceMul, Nat.reduceLT, Nat.reduceLeDiff, reduceCtorEq, Nat.reduceBEq, forall_const, implies_true, exists_const, ne_eq, Int.reduceAdd, Int.reduceSub, Int.reduceMul, Int.reduceBEq, Int.reduceEq, Int.reduceLT, Int.reduceLE, Int.reduceToNat, Int.reduceNeg, Int.reduceBNe, encSlot, hs, encPut, Ta.del, hr, Bool.true_eq_false, encTa]
  obtain ⟨k, hk, e⟩ := slot_nat hs
  have hl := ta_len hr
  have hkl : k < t.length := by omega
  simp -implicitDefEqProofs only [↓aP, aQ, ↓reduceIte, Nat.reduceEqDiff, Nat.reduceAdd, Nat.reduceSub, Nat.reduceMul, Nat.reduceLT, Nat.reduceLeDiff, reduceCtorEq, Nat.reduceBEq, forall_const, implies_true, exists_const, ne_eq, Int.reduceAdd, Int.reduceSub, Int.reduceMul, Int.reduceBEq, Int.reduceEq, Int.reduceLT, Int.reduceLE, Int.reduceToNat, Int.reduceNeg, Int.reduceBNe, encSlot, hs, e, encTa]
  refine ask (cloneSl (t.map encSl) (by simp; omega)) ?_
  simp -implicitDefEqProofs only [↓aP, aQ, ↓reduceIte, Nat.reduceEqDiff, Nat.reduceAdd, Nat.reduceSub, Nat.reduceMul, Nat.reduceLT, Nat.reduceLeDiff, reduceCtorEq, Nat.reduceBEq, forall_const, implies_true, exists_const, ne_eq, Int.reduceAdd, Int.reduceSub, Int.reduceMul, Int.reduceBEq, Int.reduceEq, Int.reduceLT, Int.reduceLE, Int.reduceToNat, Int.reduceNeg, Int.reduceBNe, encTa, List.length_map, hkl, Int.toNat_natCast]
  have hset := set_enc (t := t) (k := k) (x := Ta.z)
  simp only [Ta.z] at hset
  have hdel : Ta.del t p = (Ta.delL k 15 k (t.set k Ta.z), 0) := by
    unfold Ta.del
    rw [if_neg (by rw [hr]; simp), if_neg (by rw [hs]; simp), e, Int.toNat_natCast]
  have hpos : ∀ s ∈ t.set k Ta.z, Ta.free s = true ∨ Ta.isP s.p = true := by
    intro s hm
    rcases List.mem_or_eq_of_mem_set hm with hm | rfl
    · obtain ⟨j, hj, rfl⟩ := List.getElem_of_mem hm
      have := (Ta.right_iff.1 hr).2 j (by omega)
      unfold Ta.okS at this
      rw [Ta.at_get hj] at this
      cases hf : Ta.free t[j]
      · rw [hf, Bool.false_or] at this
        simp only [Bool.and_eq_true] at this
        exact .inr this.1.1
      · exact .inl rfl
    · exact .inl rfl
  rw [hdel]
  refine loopA (fun n σ => ∃ hole x g, hole < 16 ∧ n ≤ 15 ∧ x.length = 16 ∧ (∀ s ∈ x, Ta.free s = true ∨ Ta.isP s.p = true) ∧ Ta.delL k 15 k (t.set k Ta.z) = Ta.delL k n hole x ∧ σ.slot 4 = .c (.ptr 4 1 0 0) ∧ σ.h.gen 4 = 1 ∧ σ.h.blk 4 = .box 31 1 [[.zc]] ∧ σ.slot 8 = .c (.own 28 g) ∧ σ.h.gen 28 = g ∧ σ.h.blk 28 = .row 155 2 (x.map encSl) ∧ σ.slot 6 = vI hole ∧ σ.slot 9 = vI k ∧ σ.slot 10 = vI (16 - n : Nat)) 15 ?_ ?_
  · refine ⟨k, t.set k Ta.z, 1, hk, by omega, by simpa using hl, hpos, rfl, ?_⟩
    simp -implicitDefEqProofs only [↓aP, aQ, ↓reduceIte, Nat.reduceEqDiff, Nat.reduceAdd, Nat.reduceSub, Nat.reduceMul, Nat.reduceLT, Nat.reduceLeDiff, reduceCtorEq, Nat.reduceBEq, forall_const, implies_true, exists_const, ne_eq, Int.reduceAdd, Int.reduceSub, Int.reduceMul, Int.reduceBEq, Int.reduceEq, Int.reduceLT, Int.reduceLE, Int.reduceToNat, Int.reduceNeg, Int.reduceBNe, encTa, encSl, hset, Ta.z]
  · rintro n σ ⟨hole, x, g, hh, hn, hxl, hxp, hdl, s4, g4, b4, s8, g28, b28, s6, s9, s10⟩
    cases n with
    | zero =>
      simp -implicitDefEqProofs only [↓aP, aQ, ↓reduceIte, Nat.reduceEqDiff, Nat.reduceAdd, Nat.reduceSub, Nat.reduceMul, Nat.reduceLT, Nat.reduceLeDiff, reduceCtorEq, Nat.reduceBEq, forall_const, implies_true, exists_const, ne_eq, Int.reduceAdd, Int.reduceSub, Int.reduceMul, Int.reduceBEq, Int.reduceEq, Int.reduceLT, Int.reduceLE, Int.reduceToNat, Int.reduceNeg, Int.reduceBNe, s4, g4, b4, s8, g28, b28, s6, s9, s10, show decide (((16 - 0 : Nat) : Int) < 16) = false by decide]
      rw [show Ta.delL k 0 hole x = x from rfl] at hdl
      simp -implicitDefEqProofs only [↓aP, aQ, ↓reduceIte, Nat.reduceEqDiff, Nat.reduceAdd, Nat.reduceSub, Nat.reduceMul, Nat.reduceLT, Nat.reduceLeDiff, reduceCtorEq, Nat.reduceBEq, forall_const, implies_true, exists_const, ne_eq, Int.reduceAdd, Int.reduceSub, Int.reduceMul, Int.reduceBEq, Int.reduceEq, Int.reduceLT, Int.reduceLE, Int.reduceToNat, Int.reduceNeg, Int.reduceBNe, hdl, encPut, encTa]
    | succ n =>
      have c : decide (((16 - (n + 1) : Nat) : Int) < 16) = true := by simp; omega
      obtain ⟨nx, hnx⟩ : ∃ nx, nx = (k + (15 - n)) % 16 := ⟨_, rfl⟩
      have hnx16 : nx < 16 := by omega
      have hnxl : nx < x.length := by omega
      have e1 : (IntKind.i64.wrap ((k : Int) + ((16 - (n + 1) : Nat) : Int))).tmod 16 = ((nx : Nat) : Int) := by
        rw [wrapI (by omega), Int.tmod_eq_emod_of_nonneg (by omega)]
        omega
      have hat := Ta.at_get hnxl
      simp -implicitDefEqProofs only [↓aP, aQ, ↓reduceIte, Nat.reduceEqDiff, Nat.reduceAdd, Nat.reduceSub, Nat.reduceMul, Nat.reduceLT, Nat.reduceLeDiff, reduceCtorEq, Nat.reduceBEq, forall_const, implies_true, exists_const, ne_eq, Int.reduceAdd, Int.reduceSub, Int.reduceMul, Int.reduceBEq, Int.reduceEq, Int.reduceLT, Int.reduceLE, Int.reduceToNat, Int.reduceNeg, Int.reduceBNe, s4, g4, b4, s8, g28, b28, s6, s9, s10, c, e1, askIdx_map, hnxl, encSl, List.length_map, Int.toNat_natCast]
      have hD : Ta.delL k (n + 1) hole x = if Ta.free x[nx] = true then x else if Ta.ahead x[nx].p hole < Ta.ahead x[nx].p nx then Ta.delL k n nx ((x.set hole x[nx]).set nx Ta.z) else Ta.delL k n hole x := by
        rw [Ta.delL, ← hnx, hat]
      rw [hD] at hdl
      refine ask (tfree_spec x[nx]) ?_
      cases hf : Ta.free x[nx]
      · have hP : Ta.isP x[nx].p = true := by
          rcases hxp _ (List.getElem_mem hnxl) with h | h
          · rw [hf] at h; cases h
          · exact h
        have hP2 := isP_iff.1 hP
        rw [hf, if_neg (by simp)] at hdl
        simp -implicitDefEqProofs only [↓aP, aQ, ↓reduceIte, Nat.reduceEqDiff, Nat.reduceAdd, Nat.reduceSub, Nat.reduceMul, Nat.reduceLT, Nat.reduceLeDiff, reduceCtorEq, Nat.reduceBEq, forall_const, implies_true, exists_const, ne_eq, Int.reduceAdd, Int.reduceSub, Int.reduceMul, Int.reduceBEq, Int.reduceEq, Int.reduceLT, Int.reduceLE, Int.reduceToNat, Int.reduceNeg, Int.reduceBNe, s4, g4, b4, s8, g28, b28, s6, s9, s10, encSl]
        refine ask (tahead_spec x[nx].p hole (by omega) hh) ?_
        simp -implicitDefEqProofs only [↓aP, aQ, ↓reduceIte, Nat.reduceEqDiff, Nat.reduceAdd, Nat.reduceSub, Nat.reduceMul, Nat.reduceLT, Nat.reduceLeDiff, reduceCtorEq, Nat.reduceBEq, forall_const, implies_true, exists_const, ne_eq, Int.reduceAdd, Int.reduceSub, Int.reduceMul, Int.reduceBEq, Int.reduceEq, Int.reduceLT, Int.reduceLE, Int.reduceToNat, Int.reduceNeg, Int.reduceBNe, s4, g4, b4, s8, g28, b28, s6, s9, s10, encSl]
        refine ask (tahead_spec x[nx].p nx (by omega) hnx16) ?_
        have w : IntKind.i64.wrap (((16 - (n + 1) : Nat) : Int) + 1) = ((16 - n : Nat) : Int) := by rw [wrapI (by omega)]; omega
        by_cases hc : Ta.ahead x[nx].p hole < Ta.ahead x[nx].p nx
        · rw [if_pos hc] at hdl
          have hhl : hole < x.length := by omega
          have hs1 := set_enc (t := x) (k := hole) (x := x[nx])
          have hs2 := set_enc (t := x.set hole x[nx]) (k := nx) (x := Ta.z)
          simp only [Ta.z] at hs2
          simp -implicitDefEqProofs only [↓aP, aQ, ↓reduceIte, Nat.reduceEqDiff, Nat.reduceAdd, Nat.reduceSub, Nat.reduceMul, Nat.reduceLT, Nat.reduceLeDiff, reduceCtorEq, Nat.reduceBEq, forall_const, implies_true, exists_const, ne_eq, Int.reduceAdd, Int.reduceSub, Int.reduceMul, Int.reduceBEq, Int.reduceEq, Int.reduceLT, Int.reduceLE, Int.reduceToNat, Int.reduceNeg, Int.reduceBNe, s4, g4, b4, s8, g28, b28, s6, s9, s10, show decide (((Ta.ahead x[nx].p hole : Nat) : Int) < ((Ta.ahead x[nx].p nx : Nat) : Int)) = true by simp; omega, w, List.length_map, Int.toNat_natCast, askIdx_map, hhl, hnxl, encSl, List.length_set]
          refine ⟨by decide +kernel, ?_⟩
          rw [hs1]
          have hnx2 : nx < (x.set hole x[nx]).length := by rw [List.length_set]; exact hnxl
          simp -implicitDefEqProofs only [↓aP, aQ, ↓reduceIte, Nat.reduceEqDiff, Nat.reduceAdd, Nat.reduceSub, Nat.reduceMul, Nat.reduceLT, Nat.reduceLeDiff, reduceCtorEq, Nat.reduceBEq, forall_const, implies_true, exists_const, ne_eq, Int.reduceAdd, Int.reduceSub, Int.reduceMul, Int.reduceBEq, Int.reduceEq, Int.reduceLT, Int.reduceLE, Int.reduceToNat, Int.reduceNeg, Int.reduceBNe, s4, g4, b4, s8, g28, b28, s6, s9, s10, askIdx_map, hnx2, encSl, hs2, w]
          refine ⟨n, by omega, nx, (x.set hole x[nx]).set nx Ta.z, g, hnx16, by omega, by simpa using hxl, ?_, hdl, ?_⟩
          · intro s hm
            rcases List.mem_or_eq_of_mem_set hm with hm | rfl
            · rcases List.mem_or_eq_of_mem_set hm with hm | rfl
              · exact hxp s hm
              · exact .inr hP
            · exact .inl rfl
          · simp -implicitDefEqProofs only [↓aP, aQ, ↓reduceIte, Nat.reduceEqDiff, Nat.reduceAdd, Nat.reduceSub, Nat.reduceMul, Nat.reduceLT, Nat.reduceLeDiff, reduceCtorEq, Nat.reduceBEq, forall_const, implies_true, exists_const, ne_eq, Int.reduceAdd, Int.reduceSub, Int.reduceMul, Int.reduceBEq, Int.reduceEq, Int.reduceLT, Int.reduceLE, Int.reduceToNat, Int.reduceNeg, Int.reduceBNe, Ta.z]
        · rw [if_neg hc] at hdl
          simp -implicitDefEqProofs only [↓aP, aQ, ↓reduceIte, Nat.reduceEqDiff, Nat.reduceAdd, Nat.reduceSub, Nat.reduceMul, Nat.reduceLT, Nat.reduceLeDiff, reduceCtorEq, Nat.reduceBEq, forall_const, implies_true, exists_const, ne_eq, Int.reduceAdd, Int.reduceSub, Int.reduceMul, Int.reduceBEq, Int.reduceEq, Int.reduceLT, Int.reduceLE, Int.reduceToNat, Int.reduceNeg, Int.reduceBNe, s4, g4, b4, s8, g28, b28, s6, s9, s10, show decide (((Ta.ahead x[nx].p hole : Nat) : Int) < ((Ta.ahead x[nx].p nx : Nat) : Int)) = false by simp; omega, w]
          refine ⟨by decide +kernel, n, by omega, hole, x, g, hh, by omega, hxl, hxp, hdl, rfl, rfl, rfl, rfl, rfl⟩
      · rw [hf, if_pos rfl] at hdl
        simp -implicitDefEqProofs only [↓aP, aQ, ↓reduceIte, Nat.reduceEqDiff, Nat.reduceAdd, Nat.reduceSub, Nat.reduceMul, Nat.reduceLT, Nat.reduceLeDiff, reduceCtorEq, Nat.reduceBEq, forall_const, implies_true, exists_const, ne_eq, Int.reduceAdd, Int.reduceSub, Int.reduceMul, Int.reduceBEq, Int.reduceEq, Int.reduceLT, Int.reduceLE, Int.reduceToNat, Int.reduceNeg, Int.reduceBNe, s4, g4, b4, s8, g28, b28, s6, s9, s10, encSl]
        simp -implicitDefEqProofs only [↓aP, aQ, ↓reduceIte, Nat.reduceEqDiff, Nat.reduceAdd, Nat.reduceSub, Nat.reduceMul, Nat.reduceLT, Nat.reduceLeDiff, reduceCtorEq, Nat.reduceBEq, forall_const, implies_true, exists_const, ne_eq, Int.reduceAdd, Int.reduceSub, Int.reduceMul, Int.reduceBEq, Int.reduceEq, Int.reduceLT, Int.reduceLE, Int.reduceToNat, Int.reduceNeg, Int.reduceBNe, hdl, encPut, encTa]
theorem tPages_spec (t : List Sl) : Spec Tryz.prog 47 [.agg (encTa t)] (.val (rL 1 ((Ta.pages t).map encI))) := by
  refine spec_val mixed fn47 (by simp) ?_
  unfold ac47
  simp -implicitDefEqProofs only [↓aP, aQ, ↓reduceIte, Nat.reduceEqDiff, Nat.reduceAdd, Nat.reduceSub, Nat.reduceMul, Nat.reduceLT, Nat.reduceLeDiff, reduceCtorEq, Nat.reduceBEq, forall_const, implies_true, exists_const, ne_eq, Int.reduceAdd, Int.reduceSub, Int.reduceMul, Int.reduceBEq, Int.reduceEq, Int.reduceLT, Int.reduceLE, Int.reduceToNat, Int.reduceNeg, Int.reduceBNe, encTa]
  refine ask (tRight_spec t) ?_
  cases hr : Ta.right t
  · simp -implicitDefEqProofs only [↓aP, aQ, ↓reduceIte, Nat.reduceEqDiff, Nat.reduceAdd, Nat.reduceSub, Nat.reduceMul, Nat.reduceLT, Nat.reduceLeDiff, reduceCtorEq, Nat.reduceBEq, forall_const, implies_true, exists_const, ne_eq, Int.reduceAdd, Int.reduceSub, Int.reduceMul, Int.reduceBEq, Int.reduceEq, Int.reduceLT, Int.reduceLE, Int.reduceToNat, Int.reduceNeg, Int.reduceBNe, Ta.pages, hr, Bool.false_eq_true, List.map_nil]
    skip
  have ht := ta_len hr
  simp -implicitDefEqProofs only [↓aP, aQ, ↓reduceIte, Nat.reduceEqDiff, Nat.reduceAdd, Nat.reduceSub, Nat.reduceMul, Nat.reduceLT, Nat.reduceLeDiff, reduceCtorEq, Nat.reduceBEq, forall_const, implies_true, exists_const, ne_eq, Int.reduceAdd, Int.reduceSub, Int.reduceMul, Int.reduceBEq, Int.reduceEq, Int.reduceLT, Int.reduceLE, Int.reduceToNat, Int.reduceNeg, Int.reduceBNe, encTa]
  refine shift (sub_slot (s := 3) 23 3 1 rfl (by exact Nat.succ_pos _)) ?_
  refine rangeB t.length (fun i σ => (Ta.pgs (t.take i)).length ≤ i ∧ ∃ g, σ.slot 1 = .c (.ptr 1 1 0 0) ∧ σ.h.gen 1 = 1 ∧ σ.slot 3 = .c (.own 23 g) ∧ σ.h.gen 23 = g ∧ σ.h.blk 23 = .row 3 1 ((Ta.pgs (t.take i)).map encI) ∧ σ.slot 10 = vL 2 (t.map encSl) ∧ σ.slot 11 = vI t.length ∧ σ.slot 12 = vI i) ?_ ?_ ?_
  · simp -implicitDefEqProofs only [↓aP, aQ, ↓reduceIte, Nat.reduceEqDiff, Nat.reduceAdd, Nat.reduceSub, Nat.reduceMul, Nat.reduceLT, Nat.reduceLeDiff, reduceCtorEq, Nat.reduceBEq, forall_const, implies_true, exists_const, ne_eq, Int.reduceAdd, Int.reduceSub, Int.reduceMul, Int.reduceBEq, Int.reduceEq, Int.reduceLT, Int.reduceLE, Int.reduceToNat, Int.reduceNeg, Int.reduceBNe, encTa, List.length_map]
    exact ⟨by simp [Ta.pgs], 1, by simp [Ta.pgs]⟩
  · rintro i m σ him hi hlt ⟨hle, g, s1, g1, s3, g23, b23, s10, s11, s12⟩
    have hsn : Ta.pgs (t.take (i + 1)) = Ta.pgs (t.take i) ++ (if Ta.free t[i] = true then [] else [t[i].p]) := by
      unfold Ta.pgs
      rw [take_snoc hi, List.filter_append, List.map_append]
      congr 1
      cases h : Ta.free t[i] <;> simp [List.filter, h]
    simp -implicitDefEqProofs only [↓aP, aQ, ↓reduceIte, Nat.reduceEqDiff, Nat.reduceAdd, Nat.reduceSub, Nat.reduceMul, Nat.reduceLT, Nat.reduceLeDiff, reduceCtorEq, Nat.reduceBEq, forall_const, implies_true, exists_const, ne_eq, Int.reduceAdd, Int.reduceSub, Int.reduceMul, Int.reduceBEq, Int.reduceEq, Int.reduceLT, Int.reduceLE, Int.reduceToNat, Int.reduceNeg, Int.reduceBNe, hlt, s1, g1, s3, g23, b23, s10, s11, s12, askIdx_map, hi, encSl]
    refine ask (tfree_spec t[i]) ?_
    cases hf : Ta.free t[i]
    · rw [hf, if_neg (by simp)] at hsn
      simp -implicitDefEqProofs only [↓aP, aQ, ↓reduceIte, Nat.reduceEqDiff, Nat.reduceAdd, Nat.reduceSub, Nat.reduceMul, Nat.reduceLT, Nat.reduceLeDiff, reduceCtorEq, Nat.reduceBEq, forall_const, implies_true, exists_const, ne_eq, Int.reduceAdd, Int.reduceSub, Int.reduceMul, Int.reduceBEq, Int.reduceEq, Int.reduceLT, Int.reduceLE, Int.reduceToNat, Int.reduceNeg, Int.reduceBNe, s1, g1, s3, g23, b23, s10, s11, s12, encSl, List.length_map, wrapS (show i < 4611686018427387904 by omega)]
      refine ⟨by omega, by omega, ?_⟩
      refine nextR hi him ⟨by rw [hsn]; simp; omega, g + 1, ?_⟩
      simp -implicitDefEqProofs only [↓aP, aQ, ↓reduceIte, Nat.reduceEqDiff, Nat.reduceAdd, Nat.reduceSub, Nat.reduceMul, Nat.reduceLT, Nat.reduceLeDiff, reduceCtorEq, Nat.reduceBEq, forall_const, implies_true, exists_const, ne_eq, Int.reduceAdd, Int.reduceSub, Int.reduceMul, Int.reduceBEq, Int.reduceEq, Int.reduceLT, Int.reduceLE, Int.reduceToNat, Int.reduceNeg, Int.reduceBNe, s1, g1, s3, g23, b23, s10, s11, s12, hsn, List.map_append, List.map_cons, List.map_nil, encI]
    · rw [hf, if_pos rfl, List.append_nil] at hsn
      simp -implicitDefEqProofs only [↓aP, aQ, ↓reduceIte, Nat.reduceEqDiff, Nat.reduceAdd, Nat.reduceSub, Nat.reduceMul, Nat.reduceLT, Nat.reduceLeDiff, reduceCtorEq, Nat.reduceBEq, forall_const, implies_true, exists_const, ne_eq, Int.reduceAdd, Int.reduceSub, Int.reduceMul, Int.reduceBEq, Int.reduceEq, Int.reduceLT, Int.reduceLE, Int.reduceToNat, Int.reduceNeg, Int.reduceBNe, s1, g1, s3, g23, b23, s10, s11, s12, encSl, List.length_map, wrapS (show i < 4611686018427387904 by omega)]
      refine nextR hi him ⟨by rw [hsn]; omega, g, ?_⟩
      simp -implicitDefEqProofs only [↓aP, aQ, ↓reduceIte, Nat.reduceEqDiff, Nat.reduceAdd, Nat.reduceSub, Nat.reduceMul, Nat.reduceLT, Nat.reduceLeDiff, reduceCtorEq, Nat.reduceBEq, forall_const, implies_true, exists_const, ne_eq, Int.reduceAdd, Int.reduceSub, Int.reduceMul, Int.reduceBEq, Int.reduceEq, Int.reduceLT, Int.reduceLE, Int.reduceToNat, Int.reduceNeg, Int.reduceBNe, s1, g1, s3, g23, b23, s10, s11, s12, hsn]
  · rintro m σ hlt ⟨hle, g, s1, g1, s3, g23, b23, s10, s11, s12⟩
    rw [List.take_length] at b23 hle
    simp -implicitDefEqProofs only [↓aP, aQ, ↓reduceIte, Nat.reduceEqDiff, Nat.reduceAdd, Nat.reduceSub, Nat.reduceMul, Nat.reduceLT, Nat.reduceLeDiff, reduceCtorEq, Nat.reduceBEq, forall_const, implies_true, exists_const, ne_eq, Int.reduceAdd, Int.reduceSub, Int.reduceMul, Int.reduceBEq, Int.reduceEq, Int.reduceLT, Int.reduceLE, Int.reduceToNat, Int.reduceNeg, Int.reduceBNe, hlt, s1, g1, s3, g23, b23, s10, s11, s12]
    refine askX2 (sort_spec (Ta.pgs t) (by omega)) (by simp -implicitDefEqProofs only [↓aP, aQ, ↓reduceIte, Nat.reduceEqDiff, Nat.reduceAdd, Nat.reduceSub, Nat.reduceMul, Nat.reduceLT, Nat.reduceLeDiff, reduceCtorEq, Nat.reduceBEq, forall_const, implies_true, exists_const, ne_eq, Int.reduceAdd, Int.reduceSub, Int.reduceMul, Int.reduceBEq, Int.reduceEq, Int.reduceLT, Int.reduceLE, Int.reduceToNat, Int.reduceNeg, Int.reduceBNe]) ?_
    simp -implicitDefEqProofs only [↓aP, aQ, ↓reduceIte, Nat.reduceEqDiff, Nat.reduceAdd, Nat.reduceSub, Nat.reduceMul, Nat.reduceLT, Nat.reduceLeDiff, reduceCtorEq, Nat.reduceBEq, forall_const, implies_true, exists_const, ne_eq, Int.reduceAdd, Int.reduceSub, Int.reduceMul, Int.reduceBEq, Int.reduceEq, Int.reduceLT, Int.reduceLE, Int.reduceToNat, Int.reduceNeg, Int.reduceBNe, s1, g1, s3, g23, b23, s10, s11, s12, XR.lb, Ta.pages, hr]
    skip
end Go.Proofs.YtcbfhpnmhhnjpaaGreat

namespace Go.Proofs.YtcbfhpnmhhnjpaaGreat
structure Jo where
  sync : Bool
  w : Wr
namespace Jn
def usable (d : Dk) : Bool := rightB d && decide (35 ≤ d.sectors.length)
def isPage (p : Int) : Bool := decide (1 ≤ p ∧ p ≤ 16)
def wr (n : Int) (s : ByteArray) : Jo := ⟨false, ⟨n, s⟩⟩
def sy : Jo := ⟨true, ⟨0, ⟨#[]⟩⟩⟩
def headB (p : Int) : ByteArray := ⟨#[74, UInt8.ofNat p.toNat, 0, 0, 0, 0, 0, 0, 0, 0, 0, 0, 0, 0, 0, 0]⟩
def lo (s : ByteArray) : ByteArray := s.extract 0 16
def hi (s : ByteArray) : ByteArray := s.extract 16 32
def plan (p : Int) (s : ByteArray) : List Jo := [wr 1 (lo s), wr 2 (hi s), sy, wr 0 (headB p), sy, wr (2 * p + 1) (lo s), wr (2 * p + 2) (hi s), sy, wr 0 noughts, sy]
def planM (d : Dk) (p : Int) (s : ByteArray) : List Jo × Int := if usable d = true ∧ isPage p = true ∧ s.size = 32 then (plan p s, 0) else ([], 1)
def stepJ (d : Dk) (o : Jo) : Dk := if o.sync then syncD d else (putD d o.w).1
def runJ (d : Dk) (l : List Jo) : Dk := l.foldl stepJ d
def runM (d : Dk) (l : List Jo) (most : Int) : Dk := runJ d (l.take most.toNat)
def commitM (d : Dk) (p : Int) (s : ByteArray) : Dk × Int := (runJ d (planM d p s).1, (planM d p s).2)
def pageOf (s : ByteArray) : Int := (s[1]?.getD 0).toNat
def mend (d : Dk) (p : Int) : List Jo := [wr (2 * p + 1) (readD d 1).1, wr (2 * p + 2) (readD d 2).1, sy]
def clear : List Jo := [wr 0 noughts, sy]
def headed (s : ByteArray) : Option Int := if isPage (pageOf s) = true ∧ s = headB (pageOf s) then some (pageOf s) else none
def repairM (d : Dk) : List Jo := if usable d = false then [] else if (readD d 0).1 = noughts then [] else match headed (readD d 0).1 with
  | some p => mend d p ++ clear
  | none => clear
def recoverM (d : Dk) : Dk := runJ d (repairM d)
def getM (d : Dk) (p : Int) : ByteArray × Int := if usable d = true ∧ isPage p = true then ((readD d (2 * p + 1)).1 ++ (readD d (2 * p + 2)).1, 0) else (⟨#[]⟩, 1)
def Ok (n : Nat) (s : List ByteArray) : Prop := s.length = n ∧ ∀ x ∈ s, x.size = 16
def Cok (n : Nat) (c : List Wr) : Prop := c.length ≤ 100 ∧ ∀ w ∈ c, 0 ≤ w.at_ ∧ w.at_ < n ∧ w.data.size = 16
theorem right_ok {n : Nat} {s : List ByteArray} {c : List Wr} (hn : 1 ≤ n ∧ n ≤ 64) (hs : Ok n s) (hc : Cok n c) : rightB ⟨s, c⟩ = true := by
  unfold rightB
  simp only [Bool.and_eq_true, decide_eq_true_eq, List.all_eq_true]
  refine ⟨⟨⟨by rw [hs.1]; omega, by rw [hs.1]; omega, by have := hc.1; omega⟩, fun x hx => by simp [len16, hs.2 x hx]⟩, fun w hw => ?_⟩
  obtain ⟨h1, h2, h3⟩ := hc.2 w hw
  simp [fitsB, hasB, hs.1, h1, h2, h3]
theorem fits_ok {n : Nat} {s : List ByteArray} {c : List Wr} {w : Wr} (hs : Ok n s) (h1 : 0 ≤ w.at_) (h2 : w.at_ < n) (h3 : w.data.size = 16) : fitsB ⟨s, c⟩ w = true := by
  simp [fitsB, hasB, hs.1, h1, h2, h3]
theorem step_w {n : Nat} {s : List ByteArray} {c : List Wr} {i : Int} {x : ByteArray} (hn : 1 ≤ n ∧ n ≤ 64) (hs : Ok n s) (hc : Cok n c) (h1 : 0 ≤ i ∧ i < n) (h3 : x.size = 16) : stepJ ⟨s, c⟩ (wr i x) = ⟨s, c ++ [⟨i, x⟩]⟩ := by
  have hl := hc.1
  unfold stepJ wr
  simp only [Bool.false_eq_true, if_false]
  rw [put_ok (right_ok hn hs hc) (fits_ok hs h1.1 h1.2 h3) (by simp only; omega)]
theorem step_s {n : Nat} {s : List ByteArray} {c : List Wr} (hn : 1 ≤ n ∧ n ≤ 64) (hs : Ok n s) (hc : Cok n c) : stepJ ⟨s, c⟩ sy = ⟨doneS s c, []⟩ := by
  unfold stepJ sy syncD
  rw [right_ok hn hs hc]; rfl
theorem cok_nil {n : Nat} : Cok n [] := ⟨by simp, by simp⟩
theorem cok_snoc {n : Nat} {c : List Wr} {i : Int} {x : ByteArray} (hc : Cok n c) (hl : c.length < 100) (h1 : 0 ≤ i ∧ i < n) (h3 : x.size = 16) : Cok n (c ++ [⟨i, x⟩]) := by
  refine ⟨by simp; omega, fun w hw => ?_⟩
  rcases List.mem_append.1 hw with hw | hw
  · exact hc.2 w hw
  · rw [List.mem_singleton.1 hw]; exact ⟨h1.1, h1.2, h3⟩
theorem ok_set {n : Nat} {s : List ByteArray} {i : Nat} {x : ByteArray} (hs : Ok n s) (h3 : x.size = 16) : Ok n (s.set i x) := by
  refine ⟨by simp [hs.1], fun y hy => ?_⟩
  rcases List.mem_or_eq_of_mem_set hy with h | h
  · exact hs.2 y h
  · rw [h]; exact h3
theorem ok_done {n : Nat} {s : List ByteArray} {c : List Wr} (hs : Ok n s) (hc : Cok n c) : Ok n (doneS s c) := by
  obtain ⟨_, hc⟩ := hc
  induction c generalizing s with
  | nil => exact hs
  | cons w c ih =>
    have hw := hc w (by simp)
    exact ih (s := put1 s w) (ok_set hs hw.2.2) (by rename_i hl; simp at hl; omega) (fun v hv => hc v (by simp [hv]))
theorem usable_ok {n : Nat} {s : List ByteArray} {c : List Wr} (hn : 35 ≤ n ∧ n ≤ 64) (hs : Ok n s) (hc : Cok n c) : usable ⟨s, c⟩ = true := by
  unfold usable
  rw [right_ok ⟨by omega, hn.2⟩ hs hc]
  simp [hs.1]; omega
def rd (s : List ByteArray) (c : List Wr) (i : Int) : ByteArray := match lookB c i with
  | some w => w.data
  | none => s[i.toNat]?.getD ByteArray.empty
theorem read_rd {n : Nat} {s : List ByteArray} {c : List Wr} {i : Int} (hn : 1 ≤ n ∧ n ≤ 64) (hs : Ok n s) (hc : Cok n c) (h1 : 0 ≤ i ∧ i < n) : readD ⟨s, c⟩ i = (rd s c i, 0) := by
  rw [read_ok (right_ok hn hs hc) (by simp [hasB, hs.1, h1])]
  unfold rd
  simp only
  cases lookB c i <;> rfl
theorem get_rd {n : Nat} {s : List ByteArray} {c : List Wr} {p : Int} (hn : 35 ≤ n ∧ n ≤ 64) (hs : Ok n s) (hc : Cok n c) (hp : isPage p = true) : getM ⟨s, c⟩ p = (rd s c (2 * p + 1) ++ rd s c (2 * p + 2), 0) := by
  unfold isPage at hp
  rw [decide_eq_true_iff] at hp
  unfold getM
  rw [if_pos ⟨usable_ok hn hs hc, by unfold isPage; rw [decide_eq_true_iff]; exact hp⟩, read_rd ⟨by omega, hn.2⟩ hs hc (by omega), read_rd ⟨by omega, hn.2⟩ hs hc (by omega)]
theorem rd_nil {s : List ByteArray} {i : Int} : rd s [] i = s[i.toNat]?.getD ByteArray.empty := rfl
theorem rd_snoc {s : List ByteArray} {c : List Wr} {i k : Int} {x : ByteArray} : rd s (c ++ [⟨k, x⟩]) i = if k = i then x else rd s c i := by
  unfold rd
  rw [lookB_snoc]
  by_cases h : k = i
  · simp [h]
  · simp [h]
theorem rd_done {n : Nat} {s : List ByteArray} {c : List Wr} {i : Int} (hs : Ok n s) (hc : Cok n c) (h1 : 0 ≤ i ∧ i < n) : rd (doneS s c) [] i = rd s c i := by
  unfold rd
  rw [lookB_nil]
  simp only
  rw [doneS_at s i.toNat (by rw [hs.1]; omega) c.length c rfl (fun w hw => (hc.2 w hw).1), show ((i.toNat : Nat) : Int) = i by omega]
  cases lookB c i <;> rfl
theorem size_lo {s : ByteArray} (h : s.size = 32) : (lo s).size = 16 := by unfold lo; simp [h]
theorem size_hi {s : ByteArray} (h : s.size = 32) : (hi s).size = 16 := by unfold hi; simp [h]
theorem lo_hi {s : ByteArray} (h : s.size = 32) : lo s ++ hi s = s := by
  unfold lo hi
  have h2 := ByteArray.extract_zero_size (b := s)
  rw [h] at h2
  rw [ByteArray.extract_append_extract]
  simpa using h2
theorem size_head {p : Int} : (headB p).size = 16 := rfl
theorem size_noughts : noughts.size = 16 := rfl
theorem page_iff {p : Int} : isPage p = true ↔ 1 ≤ p ∧ p ≤ 16 := by unfold isPage; rw [decide_eq_true_iff]
end Jn
end Go.Proofs.YtcbfhpnmhhnjpaaGreat

namespace Go.Proofs.YtcbfhpnmhhnjpaaGreat
namespace Jn
theorem rd1 {s : List ByteArray} {k i : Int} {x : ByteArray} : rd s [⟨k, x⟩] i = if k = i then x else rd s [] i := rd_snoc (c := [])
theorem rd2 {s : List ByteArray} {k i k2 : Int} {x x2 : ByteArray} : rd s [⟨k, x⟩, ⟨k2, x2⟩] i = if k2 = i then x2 else if k = i then x else rd s [] i := by
  rw [show ([⟨k, x⟩, ⟨k2, x2⟩] : List Wr) = [⟨k, x⟩] ++ [⟨k2, x2⟩] from rfl, rd_snoc, rd1]
theorem runJ_app {d : Dk} {l m : List Jo} : runJ d (l ++ m) = runJ (runJ d l) m := by unfold runJ; rw [List.foldl_append]
theorem runJ_cons {d : Dk} {o : Jo} {l : List Jo} : runJ d (o :: l) = runJ (stepJ d o) l := rfl
theorem runJ_nil {d : Dk} : runJ d [] = d := rfl
theorem cok1 {n : Nat} {i : Int} {x : ByteArray} (h : 0 ≤ i ∧ i < n) (hx : x.size = 16) : Cok n [⟨i, x⟩] := cok_snoc cok_nil (by simp) h hx
theorem cok2 {n : Nat} {i k : Int} {x y : ByteArray} (h : 0 ≤ i ∧ i < n) (hx : x.size = 16) (h2 : 0 ≤ k ∧ k < n) (hy : y.size = 16) : Cok n [⟨i, x⟩, ⟨k, y⟩] := cok_snoc (cok1 h hx) (by simp) h2 hy
def s1 (s : List ByteArray) (x : ByteArray) : List ByteArray := doneS s [⟨1, lo x⟩, ⟨2, hi x⟩]
def s2 (s : List ByteArray) (p : Int) (x : ByteArray) : List ByteArray := doneS (s1 s x) [⟨0, headB p⟩]
def s3 (s : List ByteArray) (p : Int) (x : ByteArray) : List ByteArray := doneS (s2 s p x) [⟨2 * p + 1, lo x⟩, ⟨2 * p + 2, hi x⟩]
def s4 (s : List ByteArray) (p : Int) (x : ByteArray) : List ByteArray := doneS (s3 s p x) [⟨0, noughts⟩]
def stP (s : List ByteArray) (p : Int) (x : ByteArray) : Nat → Dk
  | 0 => ⟨s, []⟩
  | 1 => ⟨s, [⟨1, lo x⟩]⟩
  | 2 => ⟨s, [⟨1, lo x⟩, ⟨2, hi x⟩]⟩
  | 3 => ⟨s1 s x, []⟩
  | 4 => ⟨s1 s x, [⟨0, headB p⟩]⟩
  | 5 => ⟨s2 s p x, []⟩
  | 6 => ⟨s2 s p x, [⟨2 * p + 1, lo x⟩]⟩
  | 7 => ⟨s2 s p x, [⟨2 * p + 1, lo x⟩, ⟨2 * p + 2, hi x⟩]⟩
  | 8 => ⟨s3 s p x, []⟩
  | 9 => ⟨s3 s p x, [⟨0, noughts⟩]⟩
  | _ => ⟨s4 s p x, []⟩
section
variable {n : Nat} {s : List ByteArray} {p : Int} {x : ByteArray} (hn : 35 ≤ n ∧ n ≤ 64) (hs : Ok n s) (hp : 1 ≤ p ∧ p ≤ 16) (hx : x.size = 32)
include hs hx hn in
theorem ok1 : Ok n (s1 s x) := ok_done hs (cok2 (by omega) (size_lo hx) (by omega) (size_hi hx))
include hs hx hn in
theorem ok2 : Ok n (s2 s p x) := ok_done (ok1 hn hs hx) (cok1 (by omega) size_head)
include hs hx hn hp in
theorem ok3 : Ok n (s3 s p x) := ok_done (ok2 hn hs hx) (cok2 (by omega) (size_lo hx) (by omega) (size_hi hx))
include hs hx hn hp in
theorem ok4 : Ok n (s4 s p x) := ok_done (ok3 hn hs hp hx) (cok1 (by omega) size_noughts)
include hs hx hn in
theorem rdS1 {i : Int} (hi0 : 0 ≤ i ∧ i < n) : rd (s1 s x) [] i = if 2 = i then hi x else if 1 = i then lo x else rd s [] i := by
  unfold s1
  rw [rd_done hs (cok2 (by omega) (size_lo hx) (by omega) (size_hi hx)) hi0, rd2]
include hs hx hn in
theorem rdS2 {i : Int} (hi0 : 0 ≤ i ∧ i < n) : rd (s2 s p x) [] i = if 0 = i then headB p else if 2 = i then hi x else if 1 = i then lo x else rd s [] i := by
  unfold s2
  rw [rd_done (ok1 hn hs hx) (cok1 (by omega) size_head) hi0, rd1, rdS1 hn hs hx hi0]
include hs hx hn hp in
theorem rdS3 {i : Int} (hi0 : 0 ≤ i ∧ i < n) : rd (s3 s p x) [] i = if 2 * p + 2 = i then hi x else if 2 * p + 1 = i then lo x else if 0 = i then headB p else if 2 = i then hi x else if 1 = i then lo x else rd s [] i := by
  unfold s3
  rw [rd_done (ok2 hn hs hx) (cok2 (by omega) (size_lo hx) (by omega) (size_hi hx)) hi0, rd2, rdS2 hn hs hx hi0]
include hs hx hn hp in
theorem rdS4 {i : Int} (hi0 : 0 ≤ i ∧ i < n) : rd (s4 s p x) [] i = if 0 = i then noughts else if 2 * p + 2 = i then hi x else if 2 * p + 1 = i then lo x else if 2 = i then hi x else if 1 = i then lo x else rd s [] i := by
  unfold s4
  rw [rd_done (ok3 hn hs hp hx) (cok1 (by omega) size_noughts) hi0, rd1, rdS3 hn hs hp hx hi0]
  by_cases h0 : 0 = i
  · rw [if_pos h0, if_pos h0]
  · rw [if_neg h0, if_neg h0, if_neg h0]
include hs hx hn hp in
theorem run_plan (k : Nat) : runJ ⟨s, []⟩ ((plan p x).take k) = stP s p x k := by
  have hn1 : 1 ≤ n ∧ n ≤ 64 := by omega
  have e1 : stepJ ⟨s, []⟩ (wr 1 (lo x)) = ⟨s, [⟨1, lo x⟩]⟩ := step_w hn1 hs cok_nil (by omega) (size_lo hx)
  have e2 : stepJ ⟨s, [⟨1, lo x⟩]⟩ (wr 2 (hi x)) = ⟨s, [⟨1, lo x⟩, ⟨2, hi x⟩]⟩ := step_w hn1 hs (cok1 (by omega) (size_lo hx)) (by omega) (size_hi hx)
  have e3 : stepJ ⟨s, [⟨1, lo x⟩, ⟨2, hi x⟩]⟩ sy = ⟨s1 s x, []⟩ := step_s hn1 hs (cok2 (by omega) (size_lo hx) (by omega) (size_hi hx))
  have e4 : stepJ ⟨s1 s x, []⟩ (wr 0 (headB p)) = ⟨s1 s x, [⟨0, headB p⟩]⟩ := step_w hn1 (ok1 hn hs hx) cok_nil (by omega) size_head
  have e5 : stepJ ⟨s1 s x, [⟨0, headB p⟩]⟩ sy = ⟨s2 s p x, []⟩ := step_s hn1 (ok1 hn hs hx) (cok1 (by omega) size_head)
  have e6 : stepJ ⟨s2 s p x, []⟩ (wr (2 * p + 1) (lo x)) = ⟨s2 s p x, [⟨2 * p + 1, lo x⟩]⟩ := step_w hn1 (ok2 hn hs hx) cok_nil (by omega) (size_lo hx)
  have e7 : stepJ ⟨s2 s p x, [⟨2 * p + 1, lo x⟩]⟩ (wr (2 * p + 2) (hi x)) = ⟨s2 s p x, [⟨2 * p + 1, lo x⟩, ⟨2 * p + 2, hi x⟩]⟩ := step_w hn1 (ok2 hn hs hx) (cok1 (by omega) (size_lo hx)) (by omega) (size_hi hx)
  have e8 : stepJ ⟨s2 s p x, [⟨2 * p + 1, lo x⟩, ⟨2 * p + 2, hi x⟩]⟩ sy = ⟨s3 s p x, []⟩ := step_s hn1 (ok2 hn hs hx) (cok2 (by omega) (size_lo hx) (by omega) (size_hi hx))
  have e9 : stepJ ⟨s3 s p x, []⟩ (wr 0 noughts) = ⟨s3 s p x, [⟨0, noughts⟩]⟩ := step_w hn1 (ok3 hn hs hp hx) cok_nil (by omega) size_noughts
  have e10 : stepJ ⟨s3 s p x, [⟨0, noughts⟩]⟩ sy = ⟨s4 s p x, []⟩ := step_s hn1 (ok3 hn hs hp hx) (cok1 (by omega) size_noughts)
  match k with
  | 0 => rfl
  | 1 => simp only [plan, List.take_succ_cons, List.take_zero, runJ_cons, runJ_nil, e1]; rfl
  | 2 => simp only [plan, List.take_succ_cons, List.take_zero, runJ_cons, runJ_nil, e1, e2]; rfl
  | 3 => simp only [plan, List.take_succ_cons, List.take_zero, runJ_cons, runJ_nil, e1, e2, e3]; rfl
  | 4 => simp only [plan, List.take_succ_cons, List.take_zero, runJ_cons, runJ_nil, e1, e2, e3, e4]; rfl
  | 5 => simp only [plan, List.take_succ_cons, List.take_zero, runJ_cons, runJ_nil, e1, e2, e3, e4, e5]; rfl
  | 6 => simp only [plan, List.take_succ_cons, List.take_zero, runJ_cons, runJ_nil, e1, e2, e3, e4, e5, e6]; rfl
  | 7 => simp only [plan, List.take_succ_cons, List.take_zero, runJ_cons, runJ_nil, e1, e2, e3, e4, e5, e6, e7]; rfl
  | 8 => simp only [plan, List.take_succ_cons, List.take_zero, runJ_cons, runJ_nil, e1, e2, e3, e4, e5, e6, e7, e8]; rfl
  | 9 => simp only [plan, List.take_succ_cons, List.take_zero, runJ_cons, runJ_nil, e1, e2, e3, e4, e5, e6, e7, e8, e9]; rfl
  | k + 10 => simp only [plan, List.take_succ_cons, List.take_nil, runJ_cons, runJ_nil, e1, e2, e3, e4, e5, e6, e7, e8, e9, e10]; rfl
include hs hx hn hp in
theorem commit_st : commitM ⟨s, []⟩ p x = (⟨s4 s p x, []⟩, 0) := by
  have h := run_plan hn hs hp hx 10
  unfold commitM planM
  rw [if_pos ⟨usable_ok hn hs cok_nil, page_iff.2 hp, hx⟩]
  rw [show (plan p x).take 10 = plan p x from rfl] at h
  rw [h]; rfl
end
structure Fin (n : Nat) (s : List ByteArray) (p : Int) (x : ByteArray) (t : List ByteArray) : Prop where
  ok : Ok n t
  rest : ∀ i : Int, 3 ≤ i → i < n → i ≠ 2 * p + 1 → i ≠ 2 * p + 2 → rd t [] i = rd s [] i
  zero : rd t [] 0 = noughts
  page : rd t [] (2 * p + 1) = lo x ∧ rd t [] (2 * p + 2) = hi x
section
variable {n : Nat} {s : List ByteArray} {p : Int} {x : ByteArray} (hn : 35 ≤ n ∧ n ≤ 64) (hs : Ok n s) (hp : 1 ≤ p ∧ p ≤ 16) (hx : x.size = 32)
end
end Jn
end Go.Proofs.YtcbfhpnmhhnjpaaGreat

namespace Go.Proofs.YtcbfhpnmhhnjpaaGreat
open Go.RowKit Go.ChangeShapes Go.WideShapes
section
variable {P : Program} {H : Type} {enc : TypeId × Value → H} {w : World} {spare : Nat → Bool} {held : Bool}
def Opens (P : Program) {H : Type} (enc : TypeId × Value → H) (w : World) (spare : Nat → Bool) (held : Bool) (t : TypeId) (n : Nat) (S : List SC → Prop) : Prop :=
  P.cellsOf t = n ∧ ∀ (fuel : Nat) (cs : List Value) (x : DataW H × List MemPlace), DataW.trod enc P w 0 spare held fuel t cs = some x → ∃ ys, S ys ∧ ys.length = n ∧ RL (RepS w fun _ => False) ys cs
theorem opens_int {t : TypeId} {k : IntKind} (ht : P.underlying t = some (.int k)) (hc : P.cellsOf t = 1) : Opens P enc w spare held t 1 (fun ys => ∃ n, ys = [.pv (.int k n)] ∧ (Lit.int k n).wf = true) := by
  refine ⟨hc, fun fuel cs x h => ?_⟩
  obtain ⟨n, rfl, _, hw⟩ := DataW.trod_int ht h
  exact ⟨_, ⟨n, rfl, hw⟩, rfl, .one (.pv rfl)⟩
theorem opens_str {t : TypeId} (ht : P.underlying t = some .string) (hc : P.cellsOf t = 1) : Opens P enc w spare held t 1 (fun ys => ∃ s : ByteArray, ys = [.pv (.string s)] ∧ s.size ≤ maxLen) := by
  refine ⟨hc, fun fuel cs x h => ?_⟩
  obtain ⟨s, rfl, _, hw⟩ := DataW.trod_string ht h
  exact ⟨_, ⟨s, rfl, hw⟩, rfl, .one (.pv rfl)⟩
theorem opens_slice {t e : TypeId} {n : Nat} {S : List SC → Prop} (ht : P.underlying t = some (.slice e)) (hc : P.cellsOf t = 1) (hn : 0 < n) (ho : Opens P enc w spare held e n S) :
    Opens P enc w spare held t 1 (fun ys => ∃ els, ys = [.sl n els] ∧ (∀ x ∈ els, S x) ∧ els.length ≤ maxLen) := by
  refine ⟨hc, fun fuel cs x h => ?_⟩
  rcases Deep.open_slice ht h with ⟨rfl, _⟩ | ⟨a, len0, cap0, m, k, D, Pl, rfl, _, hl, hm, hmm, _, hi⟩
  · exact ⟨_, ⟨[], rfl, by intro x hx; simp at hx, by simp⟩, rfl, .one (.sl0 hn (by simp))⟩
  · have hlm : len0 ≤ m := by rw [hmm]; split <;> omega
    have each : ∀ i, i < len0 → ∃ p : List SC × List Value, S p.1 ∧ p.1.length = n ∧ p.2.length = n ∧ RL (RepS w fun _ => False) p.1 p.2 ∧ ∀ j, j < n → w.cell? ((a.add (i * n)).add j) = p.2[j]? := by
      intro i hil
      obtain ⟨cs', hcs, ht'⟩ := hi i (by omega)
      rw [ho.1] at hcs
      obtain ⟨ys, h1, h2, h3⟩ := ho.2 _ _ _ ht'
      obtain ⟨_, _, hat⟩ := World.cells?_some hcs
      refine ⟨(ys, cs'), h1, h2, by rw [← h3.1]; exact h2, h3, fun j hj => ?_⟩
      have hj2 : j < cs'.length := by rw [← h3.1, h2]; exact hj
      have := hat j (by omega)
      rw [this]
      try simp [List.getElem?_eq_getElem hj2]
    obtain ⟨F, hF⟩ := Deep.choose_lt each
    by_cases h0 : len0 = 0
    · subst h0
      exact ⟨_, ⟨[], rfl, by intro x hx; simp at hx, by simp⟩, rfl, .one (.sl0 hn hm)⟩
    · obtain ⟨b, off, spot⟩ := a
      obtain ⟨_, _, q0, _, q1⟩ := hF 0 (by omega)
      have hc0 := q1 0 hn
      have hlen0 : 0 < (F 0).2.length := by omega
      rw [List.getElem?_eq_getElem hlen0, Nat.zero_mul] at hc0
      have hspot : spot = none := by simpa [Addr.add] using World.cell?_spot hc0
      subst hspot
      have hlt : b < w.heap.size := by
        have := World.block_lt_of_cell? w _ hc0
        simpa [Addr.add] using this
      have hadd : ∀ k o : Nat, (⟨b, o, none⟩ : Addr).add k = ⟨b, o + k, none⟩ := by
        intro k o
        by_cases hk : k = 0
        · subst hk; simp [Addr.add]
        · simp [Addr.add, hk]
      have hall : ∀ k, k ≤ len0 → RL (RepS w fun _ => False) ((List.range k).map fun i => (F i).1).flatten ((List.range k).map fun i => (F i).2).flatten ∧ ((List.range k).map fun i => (F i).2).flatten.length = k * n := by
        intro k
        induction k with
        | zero => intro _; exact ⟨by simpa using RL.nil, by simp⟩
        | succ k ih =>
          intro hk
          obtain ⟨i1, i2⟩ := ih (by omega)
          obtain ⟨_, _, r2, r3, _⟩ := hF k (by omega)
          simp only [List.range_succ, List.map_append, List.flatten_append, List.map_cons, List.map_nil, List.flatten_cons, List.flatten_nil, List.append_nil]
          refine ⟨i1.append r3, ?_⟩
          rw [List.length_append, i2, r2, Nat.add_mul]
          omega
      obtain ⟨a1, a2⟩ := hall len0 (Nat.le_refl _)
      have e2 : ∀ x ∈ ((List.range len0).map fun i => (F i).2), x.length = n := by
        intro x hx
        obtain ⟨i, hi2, rfl⟩ := List.mem_map.1 hx
        exact (hF i (by simpa using hi2)).2.2.1
      have e1 : ∀ x ∈ ((List.range len0).map fun i => (F i).1), x.length = n ∧ S x := by
        intro x hx
        obtain ⟨i, hi2, rfl⟩ := List.mem_map.1 hx
        exact ⟨(hF i (by simpa using hi2)).2.1, (hF i (by simpa using hi2)).1⟩
      refine ⟨_, ⟨(List.range len0).map fun i => (F i).1, rfl, fun x hx => (e1 x hx).2, by rw [List.length_map, List.length_range]; omega⟩, rfl, .one ?_⟩
      have hln : ((List.range len0).map fun i => (F i).1).length = len0 := by simp
      have key := RepS.sl (w := w) (O := fun _ => False) (e := n) (els := (List.range len0).map fun i => (F i).1) (b := b) (off := off) (cap := cap0) (us := ((List.range len0).map fun i => (F i).2).flatten) hn (by rw [hln]; exact hl) hm hlt (fun h => h)
        (fun x hx => (e1 x hx).1) a1.1 a1.2 (fun i h' => ?_)
      · rw [hln] at key
        exact key
      · have hi3 : i / n < len0 := by
          rw [a2] at h'
          exact Nat.div_lt_of_lt_mul (by rw [Nat.mul_comm]; exact h')
        have hj3 : i % n < n := Nat.mod_lt _ hn
        have g1 := flatten_get _ e2 (i / n) (by simpa using hi3) (i % n) hj3
        have ei : i / n * n + i % n = i := by rw [Nat.mul_comm]; exact Nat.div_add_mod i n
        rw [ei, List.getElem?_eq_getElem h'] at g1
        have g2 := (hF (i / n) hi3).2.2.2.2 (i % n) hj3
        rw [hadd, hadd, Nat.add_assoc, ei] at g2
        rw [g2, g1]
        simp
inductive Flds (P : Program) {H : Type} (enc : TypeId × Value → H) (w : World) (spare : Nat → Bool) (held : Bool) : Nat → List Field → Nat → (List SC → Prop) → Prop
  | nil (off : Nat) : Flds P enc w spare held off [] off (fun ys => ys = [])
  | cons {off n fin : Nat} {f : Field} {fs : List Field} {S T : List SC → Prop} (hoff : f.offset = off) (ho : Opens P enc w spare held f.type n S) (hr : Flds P enc w spare held (off + n) fs fin T) : Flds P enc w spare held off (f :: fs) fin (fun ys => ∃ a b, ys = a ++ b ∧ S a ∧ T b)
theorem Flds.open {off fin : Nat} {fs : List Field} {T : List SC → Prop} (hf : Flds P enc w spare held off fs fin T) : ∀ {k : Nat} {cs : List Value}, cs.length = fin →
    (∀ f ∈ fs, ∃ x, DataW.trod enc P w 0 spare held k f.type ((cs.drop f.offset).take (P.cellsOf f.type)) = some x) → ∃ ys, T ys ∧ RL (RepS w fun _ => False) ys (cs.drop off) := by
  induction hf with
  | nil off =>
    intro k cs hl _
    exact ⟨[], rfl, by rw [List.drop_eq_nil_of_le (by omega)]; exact .nil⟩
  | @cons off n fin f fs S T hoff ho hr ih =>
    intro k cs hl h
    obtain ⟨x, hx⟩ := h f (by simp)
    rw [hoff, ho.1] at hx
    obtain ⟨a, a1, a2, a3⟩ := ho.2 _ _ _ hx
    obtain ⟨b, b1, b2⟩ := ih hl (fun g hg => h g (by simp [hg]))
    refine ⟨a ++ b, ⟨a, b, rfl, a1, b1⟩, ?_⟩
    have := a3.append b2
    rw [← List.drop_drop, List.take_append_drop] at this
    exact this
theorem opens_struct {t : TypeId} {fin : Nat} {fs : Array Field} {T : List SC → Prop} (ht : P.underlying t = some (.struct fs)) (hc : P.cellsOf t = fin) (hf : Flds P enc w spare held 0 fs.toList fin T) : Opens P enc w spare held t fin T := by
  refine ⟨hc, fun fuel cs x h => ?_⟩
  obtain ⟨xs, n, _, _, hl, hxs, hfs⟩ := DataW.trod_struct ht h
  rw [hc] at hl
  obtain ⟨ys, y1, y2⟩ := hf.open (k := n) hl (fun f hm => by
    obtain ⟨i, hi, rfl⟩ := List.getElem_of_mem hm
    have hi2 : i < fs.size := by simpa using hi
    refine ⟨xs[i]'(by omega), ?_⟩
    rw [hfs i fs.toList[i] (by simp [hi2])]
    simp)
  rw [List.drop_zero] at y2
  exact ⟨ys, y1, by rw [y2.1]; exact hl, y2⟩
theorem open_one {t : TypeId} {S : List SC → Prop} {v : Value} {d : DataW H} {p : List MemPlace} (ho : Opens P enc w spare held t 1 S) (hv : v.cells = #[v]) (h : DataW.Trod enc P w 0 spare held t v d p) : ∃ y, S [y] ∧ RepT (RepS w fun _ => False) (.c y) v := by
  obtain ⟨fuel, hf⟩ := h
  rw [hv] at hf
  obtain ⟨ys, h1, h2, h3⟩ := ho.2 _ _ _ hf
  obtain ⟨y, rfl⟩ := List.length_eq_one_iff.1 h2
  exact ⟨y, h1, h3.head⟩
theorem slice_cells {t e : TypeId} {r : Reach} {b0 : Nat} {v : Value} (ht : P.underlying t = some (.slice e)) (hv : Value.okWide P w r b0 t v) : v.cells = #[v] := by
  obtain ⟨a, l, c, rfl⟩ := okWide_slice ht hv
  rfl
theorem all_of_mem {α β : Type} {f : α → β} : ∀ {ys : List β}, (∀ y ∈ ys, ∃ x, y = f x) → ∃ xs : List α, ys = xs.map f
  | [], _ => ⟨[], rfl⟩
  | y :: ys, h => by
    obtain ⟨x, hx⟩ := h y (by simp)
    obtain ⟨xs, hxs⟩ := all_of_mem (ys := ys) (fun z hz => h z (by simp [hz]))
    exact ⟨x :: xs, by rw [hx, hxs]; rfl⟩
end
end Go.Proofs.YtcbfhpnmhhnjpaaGreat

namespace Go.Proofs.YtcbfhpnmhhnjpaaGreat
open Go.RowKit
theorem done_spec (d : Dk) (ws : List Wr) (hd : d.sectors.length ≤ 64) (hw : ws.length ≤ 200) (hf : ∀ w ∈ ws, hasB d w.at_ = true) :
    Spec Tryz.prog 93 [.agg (encDk d), rL 2 (ws.map encWr)] (.val (.agg (encDk (doneD d ws)))) := by
  refine spec_val mixed fn93 (by simp) ?_
  unfold ac93
  simp -implicitDefEqProofs only [↓aP, aR, ↓reduceIte, reduceCtorEq, seval, encDk]
  refine ask (cloneS _ (by simp; omega)) ?_
  simp -implicitDefEqProofs only [↓aP, aR, ↓reduceIte, reduceCtorEq, seval]
  refine loopA (fun m σ => ∃ i, i + m = ws.length ∧ σ.slot 13 = vI i ∧ σ.slot 11 = vL 2 (ws.map encWr) ∧ σ.slot 12 = vI ws.length ∧ σ.slot 5 = .c (.own 10 1) ∧ σ.h.gen 10 = 1 ∧ σ.h.blk 10 = .row 9 1 ((doneS d.sectors (ws.take i)).map encS) ∧ σ.slot 4 = .c (.ptr 4 1 0 0) ∧ σ.h.gen 4 = 1 ∧ σ.h.blk 4 = .box 38 2 [[.zc, .zc]]) ws.length ?_ ?_
  · simp -implicitDefEqProofs only [↓aP, aR, ↓reduceIte, reduceCtorEq, seval]
    refine ⟨0, ?_⟩
    simp -implicitDefEqProofs only [↓aP, aR, ↓reduceIte, reduceCtorEq, seval]
    simp [doneS]
  · rintro m σ ⟨i, him, s13, s11, s12, s5, g10, b10, s4, g4, b4⟩
    simp -implicitDefEqProofs only [↓aP, aR, ↓reduceIte, reduceCtorEq, seval, s13, s11, s12, s5, g10, b10, s4, g4, b4]
    refine fork ?_ ?_ <;> intro hc
    · have hi : i < ws.length := by simpa using hc
      simp -implicitDefEqProofs only [↓aP, aR, ↓reduceIte, reduceCtorEq, seval, s13, s11, s12, s5, g10, b10, s4, g4, b4, askIdx_map, hi, encWr]
      have hf' := hf _ (List.getElem_mem hi)
      simp only [hasB, Bool.and_eq_true, decide_eq_true_eq] at hf'
      refine ⟨hf'.1, by rw [doneS_len]; omega, ?_⟩
      simp -implicitDefEqProofs only [↓aP, aR, ↓reduceIte, reduceCtorEq, seval, s13, s11, s12, s5, g10, b10, s4, g4, b4, askIdx_map, (show ws[i].at_.toNat < (doneS d.sectors (ws.take i)).length by rw [doneS_len]; omega), encS, wrapS (show i < 4611686018427387904 by omega)]
      refine ⟨m - 1, by omega, i + 1, ?_⟩
      simp -implicitDefEqProofs only [↓aP, aR, ↓reduceIte, reduceCtorEq, seval]
      refine ⟨by omega, ?_⟩
      rw [take_snoc hi, doneS_snoc]
      simp [put1, encS, List.map_set]
    · simp -implicitDefEqProofs only [↓aP, aR, ↓reduceIte, reduceCtorEq, seval, s13, s11, s12, s5, g10, b10, s4, g4, b4]
      have hi : i = ws.length := by simp at hc; omega
      simp [doneD, hi]
theorem sync_spec (d : Dk) : Spec Tryz.prog 49 [.agg (encDk d)] (.val (.agg (encDk (syncD d)))) := by
  refine spec_val mixed fn49 (by simp) ?_
  unfold ac49
  simp -implicitDefEqProofs only [↓aP, aR, ↓reduceIte, reduceCtorEq, seval, encDk]
  refine ask (right_spec d) ?_
  cases hr : rightB d
  · simp -implicitDefEqProofs only [↓aP, aR, ↓reduceIte, reduceCtorEq, seval, encDk]
    simp [syncD, hr]
  · have hl := right_len hr
    simp -implicitDefEqProofs only [↓aP, aR, ↓reduceIte, reduceCtorEq, seval, encDk]
    refine ask (done_spec d d.cache (by omega) (by omega) (right_has hr)) ?_
    simp -implicitDefEqProofs only [↓aP, aR, ↓reduceIte, reduceCtorEq, seval, encDk]
    simp [syncD, hr]
theorem put_spec (d : Dk) (w : Wr) : Spec Tryz.prog 50 [.agg (encDk d), .agg (encWr w)] (.val (.tup [(true, encDk (putD d w).1), (false, [.pv (.int .i64 (putD d w).2)])])) := by
  refine spec_val mixed fn50 (by simp) ?_
  unfold ac50
  simp -implicitDefEqProofs only [↓aP, aR, ↓reduceIte, reduceCtorEq, seval, encDk, encWr]
  refine ask (right_spec d) ?_
  cases hr : rightB d
  · simp -implicitDefEqProofs only [↓aP, aR, ↓reduceIte, reduceCtorEq, seval, encDk, encWr]
    simp [putD, hr]
  · have hl := right_len hr
    simp -implicitDefEqProofs only [↓aP, aR, ↓reduceIte, reduceCtorEq, seval]
    refine ask (fits_spec d w) ?_
    cases hf : fitsB d w
    · simp -implicitDefEqProofs only [↓aP, aR, ↓reduceIte, reduceCtorEq, seval]
      simp [putD, hr, hf]
    · simp -implicitDefEqProofs only [↓aP, aR, ↓reduceIte, reduceCtorEq, seval]
      refine fork ?_ ?_ <;> intro hc
      · simp -implicitDefEqProofs only [↓aP, aR, ↓reduceIte, reduceCtorEq, seval]
        have hc' : d.cache.length = 200 := by have := hc; simp at this; omega
        simp [putD, hr, hf, hc']
      · simp -implicitDefEqProofs only [↓aP, aR, ↓reduceIte, reduceCtorEq, seval]
        refine ask (cloneW _ (by simp; omega)) ?_
        simp -implicitDefEqProofs only [↓aP, aR, ↓reduceIte, reduceCtorEq, seval]
        have hc' : d.cache.length ≠ 200 := by have := hc; simp at this; omega
        simp [putD, hr, hf, hc', encWr]
        refine ⟨by omega, by omega, by decide⟩
end Go.Proofs.YtcbfhpnmhhnjpaaGreat

