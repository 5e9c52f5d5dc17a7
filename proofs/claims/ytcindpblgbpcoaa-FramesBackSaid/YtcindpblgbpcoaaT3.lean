/- layer 7: the contracts: New, Find, Put, Del, Pages. -/
import Derived.Test.YtcindpblgbpcoaaT2
namespace Go.Proofs.Ytcindpblgbpcoaa
open Go.RowKit
set_option linter.unusedVariables false
set_option linter.unusedSimpArgs false
def encPut (x : List Sl × Int) : TV SC := .tup [(true, encTa x.1), (false, [.pv (.int .i64 x.2)])]
theorem encTa_eq (t : List Sl) : encTa t = [.sl 2 (t.map encSl)] := rfl
theorem tNew_spec : Spec Try.prog 43 [] (.val (.agg (encTa (List.replicate 16 Ta.z)))) := by
  refine spec_val mixed fn43 (by simp) ?_
  unfold ac43
  rw [show List.replicate 16 Ta.z = [Ta.z, Ta.z, Ta.z, Ta.z, Ta.z, Ta.z, Ta.z, Ta.z, Ta.z, Ta.z, Ta.z, Ta.z, Ta.z, Ta.z, Ta.z, Ta.z] from rfl]
  simp -implicitDefEqProofs only [↓aP, aQ, ↓reduceIte, Nat.reduceEqDiff, Nat.reduceAdd, Nat.reduceSub, Nat.reduceMul, Nat.reduceLT, Nat.reduceLeDiff, reduceCtorEq, Nat.reduceBEq, forall_const, implies_true, exists_const, ne_eq, Int.reduceAdd, Int.reduceSub, Int.reduceMul, Int.reduceBEq, Int.reduceEq, Int.reduceLT, Int.reduceLE, Int.reduceToNat, Int.reduceNeg, Int.reduceBNe, encTa, List.map_cons, List.map_nil, encSl, Ta.z]
theorem ta_len {t : List Sl} (h : Ta.right t = true) : t.length = 16 := (Ta.right_iff.1 h).1
theorem slot_nat {t : List Sl} {p : Int} (hs : (Ta.slot t p).2 = true) : ∃ k, k < 16 ∧ (Ta.slot t p).1 = ((k : Nat) : Int) := by
  unfold Ta.slot at hs ⊢
  split at hs
  · rename_i hp
    rw [if_pos hp]
    simp only [decide_eq_true_eq] at hs
    rcases Ta.seek_range (t := t) (p := p) with h | ⟨i, hi, h, _, _⟩
    · rw [h] at hs; omega
    · exact ⟨_, Ta.pl_lt, h⟩
  · cases hs
theorem set_enc {t : List Sl} {k : Nat} {x : Sl} : (t.map encSl).set k [.pv (.int .i64 x.p), .pv (.int .i64 x.f)] = (t.set k x).map encSl := by rw [List.map_set]; rfl
theorem tFind_spec (t : List Sl) (p : Int) : Spec Try.prog 51 [.agg (encTa t), rI p] (.val (encSlot (Ta.find t p))) := by
  refine spec_val mixed fn51 (by simp) ?_
  unfold ac51
  simp -implicitDefEqProofs only [↓aP, aQ, ↓reduceIte, Nat.reduceEqDiff, Nat.reduceAdd, Nat.reduceSub, Nat.reduceMul, Nat.reduceLT, Nat.reduceLeDiff, reduceCtorEq, Nat.reduceBEq, forall_const, implies_true, exists_const, ne_eq, Int.reduceAdd, Int.reduceSub, Int.reduceMul, Int.reduceBEq, Int.reduceEq, Int.reduceLT, Int.reduceLE, Int.reduceToNat, Int.reduceNeg, Int.reduceBNe, encTa]
  refine ask (tRight_spec t) ?_
  cases hr : Ta.right t
  · simp -implicitDefEqProofs only [↓aP, aQ, ↓reduceIte, Nat.reduceEqDiff, Nat.reduceAdd, Nat.reduceSub, Nat.reduceMul, Nat.reduceLT, Nat.reduceLeDiff, reduceCtorEq, Nat.reduceBEq, forall_const, implies_true, exists_const, ne_eq, Int.reduceAdd, Int.reduceSub, Int.reduceMul, Int.reduceBEq, Int.reduceEq, Int.reduceLT, Int.reduceLE, Int.reduceToNat, Int.reduceNeg, Int.reduceBNe, encSlot, Ta.find, hr, Bool.false_eq_true, false_and]
  simp -implicitDefEqProofs only [↓aP, aQ, ↓reduceIte, Nat.reduceEqDiff, Nat.reduceAdd, Nat.reduceSub, Nat.reduceMul, Nat.reduceLT, Nat.reduceLeDiff, reduceCtorEq, Nat.reduceBEq, forall_const, implies_true, exists_const, ne_eq, Int.reduceAdd, Int.reduceSub, Int.reduceMul, Int.reduceBEq, Int.reduceEq, Int.reduceLT, Int.reduceLE, Int.reduceToNat, Int.reduceNeg, Int.reduceBNe, hr, encTa]
  refine ask (tslot_spec t p (ta_len hr)) ?_
  cases hs : (Ta.slot t p).2
  · simp -implicitDefEqProofs only [↓aP, aQ, ↓reduceIte, Nat.reduceEqDiff, Nat.reduceAdd, Nat.reduceSub, Nat.reduceMul, Nat.reduceLT, Nat.reduceLeDiff, reduceCtorEq, Nat.reduceBEq, forall_const, implies_true, exists_const, ne_eq, Int.reduceAdd, Int.reduceSub, Int.reduceMul, Int.reduceBEq, Int.reduceEq, Int.reduceLT, Int.reduceLE, Int.reduceToNat, Int.reduceNeg, Int.reduceBNe, encSlot, hs, Ta.find, hr, Bool.false_eq_true, and_false]
  have hb := slot_nat hs
  obtain ⟨k, hk, e⟩ := hb
  have hkl : k < t.length := by rw [ta_len hr]; exact hk
  simp -implicitDefEqProofs only [↓aP, aQ, ↓reduceIte, Nat.reduceEqDiff, Nat.reduceAdd, Nat.reduceSub, Nat.reduceMul, Nat.reduceLT, Nat.reduceLeDiff, reduceCtorEq, Nat.reduceBEq, forall_const, implies_true, exists_const, ne_eq, Int.reduceAdd, Int.reduceSub, Int.reduceMul, Int.reduceBEq, Int.reduceEq, Int.reduceLT, Int.reduceLE, Int.reduceToNat, Int.reduceNeg, Int.reduceBNe, encSlot, hs, e, encTa, askIdx_map, hkl, encSl]
  simp -implicitDefEqProofs only [↓aP, aQ, ↓reduceIte, Nat.reduceEqDiff, Nat.reduceAdd, Nat.reduceSub, Nat.reduceMul, Nat.reduceLT, Nat.reduceLeDiff, reduceCtorEq, Nat.reduceBEq, forall_const, implies_true, exists_const, ne_eq, Int.reduceAdd, Int.reduceSub, Int.reduceMul, Int.reduceBEq, Int.reduceEq, Int.reduceLT, Int.reduceLE, Int.reduceToNat, Int.reduceNeg, Int.reduceBNe, Ta.find, hr, hs, and_self, e, Int.toNat_natCast, Ta.at_get hkl]
  try all_goals (trace_state; sorry)
theorem tPut_spec (t : List Sl) (p f : Int) : Spec Try.prog 70 [.agg (encTa t), rI p, rI f] (.val (encPut (Ta.put t p f))) := by
  refine spec_val mixed fn70 (by simp) ?_
  unfold ac70
  simp -implicitDefEqProofs only [↓aP, aQ, ↓reduceIte, Nat.reduceEqDiff, Nat.reduceAdd, Nat.reduceSub, Nat.reduceMul, Nat.reduceLT, Nat.reduceLeDiff, reduceCtorEq, Nat.reduceBEq, forall_const, implies_true, exists_const, ne_eq, Int.reduceAdd, Int.reduceSub, Int.reduceMul, Int.reduceBEq, Int.reduceEq, Int.reduceLT, Int.reduceLE, Int.reduceToNat, Int.reduceNeg, Int.reduceBNe, encTa]
  refine ask (tRight_spec t) ?_
  cases hr : Ta.right t
  · simp -implicitDefEqProofs only [↓aP, aQ, ↓reduceIte, Nat.reduceEqDiff, Nat.reduceAdd, Nat.reduceSub, Nat.reduceMul, Nat.reduceLT, Nat.reduceLeDiff, reduceCtorEq, Nat.reduceBEq, forall_const, implies_true, exists_const, ne_eq, Int.reduceAdd, Int.reduceSub, Int.reduceMul, Int.reduceBEq, Int.reduceEq, Int.reduceLT, Int.reduceLE, Int.reduceToNat, Int.reduceNeg, Int.reduceBNe, encPut, Ta.put, hr, true_or, encTa]
  simp -implicitDefEqProofs only [↓aP, aQ, ↓reduceIte, Nat.reduceEqDiff, Nat.reduceAdd, Nat.reduceSub, Nat.reduceMul, Nat.reduceLT, Nat.reduceLeDiff, reduceCtorEq, Nat.reduceBEq, forall_const, implies_true, exists_const, ne_eq, Int.reduceAdd, Int.reduceSub, Int.reduceMul, Int.reduceBEq, Int.reduceEq, Int.reduceLT, Int.reduceLE, Int.reduceToNat, Int.reduceNeg, Int.reduceBNe, hr]
  refine ask (tisP_spec p) ?_
  cases hp : Ta.isP p
  · simp -implicitDefEqProofs only [↓aP, aQ, ↓reduceIte, Nat.reduceEqDiff, Nat.reduceAdd, Nat.reduceSub, Nat.reduceMul, Nat.reduceLT, Nat.reduceLeDiff, reduceCtorEq, Nat.reduceBEq, forall_const, implies_true, exists_const, ne_eq, Int.reduceAdd, Int.reduceSub, Int.reduceMul, Int.reduceBEq, Int.reduceEq, Int.reduceLT, Int.reduceLE, Int.reduceToNat, Int.reduceNeg, Int.reduceBNe, encPut, Ta.put, hr, hp, true_or, or_true, encTa]
  simp -implicitDefEqProofs only [↓aP, aQ, ↓reduceIte, Nat.reduceEqDiff, Nat.reduceAdd, Nat.reduceSub, Nat.reduceMul, Nat.reduceLT, Nat.reduceLeDiff, reduceCtorEq, Nat.reduceBEq, forall_const, implies_true, exists_const, ne_eq, Int.reduceAdd, Int.reduceSub, Int.reduceMul, Int.reduceBEq, Int.reduceEq, Int.reduceLT, Int.reduceLE, Int.reduceToNat, Int.reduceNeg, Int.reduceBNe, hp]
  refine ask (tisF_spec f) ?_
  cases hf : Ta.isF f
  · simp -implicitDefEqProofs only [↓aP, aQ, ↓reduceIte, Nat.reduceEqDiff, Nat.reduceAdd, Nat.reduceSub, Nat.reduceMul, Nat.reduceLT, Nat.reduceLeDiff, reduceCtorEq, Nat.reduceBEq, forall_const, implies_true, exists_const, ne_eq, Int.reduceAdd, Int.reduceSub, Int.reduceMul, Int.reduceBEq, Int.reduceEq, Int.reduceLT, Int.reduceLE, Int.reduceToNat, Int.reduceNeg, Int.reduceBNe, encPut, Ta.put, hr, hp, hf, or_true, encTa]
  simp -implicitDefEqProofs only [↓aP, aQ, ↓reduceIte, Nat.reduceEqDiff, Nat.reduceAdd, Nat.reduceSub, Nat.reduceMul, Nat.reduceLT, Nat.reduceLeDiff, reduceCtorEq, Nat.reduceBEq, forall_const, implies_true, exists_const, ne_eq, Int.reduceAdd, Int.reduceSub, Int.reduceMul, Int.reduceBEq, Int.reduceEq, Int.reduceLT, Int.reduceLE, Int.reduceToNat, Int.reduceNeg, Int.reduceBNe, hf, encTa]
  refine ask (tslot_spec t p (ta_len hr)) ?_
  cases hs : (Ta.slot t p).2
  case true => simp -implicitDefEqProofs only [↓aP, aQ, ↓reduceIte, Nat.reduceEqDiff, Nat.reduceAdd, Nat.reduceSub, Nat.reduceMul, Nat.reduceLT, Nat.reduceLeDiff, reduceCtorEq, Nat.reduceBEq, forall_const, implies_true, exists_const, ne_eq, Int.reduceAdd, Int.reduceSub, Int.reduceMul, Int.reduceBEq, Int.reduceEq, Int.reduceLT, Int.reduceLE, Int.reduceToNat, Int.reduceNeg, Int.reduceBNe, encSlot, hs, encPut, Ta.put, hr, hp, hf, or_self, Bool.true_eq_false, encTa]
  simp -implicitDefEqProofs only [↓aP, aQ, ↓reduceIte, Nat.reduceEqDiff, Nat.reduceAdd, Nat.reduceSub, Nat.reduceMul, Nat.reduceLT, Nat.reduceLeDiff, reduceCtorEq, Nat.reduceBEq, forall_const, implies_true, exists_const, ne_eq, Int.reduceAdd, Int.reduceSub, Int.reduceMul, Int.reduceBEq, Int.reduceEq, Int.reduceLT, Int.reduceLE, Int.reduceToNat, Int.reduceNeg, Int.reduceBNe, encSlot, hs, encTa]
  refine ask (tseek_spec t p (ta_len hr) (isP_iff.1 hp)) ?_
  rcases Ta.seek_range (t := t) (p := p) with h | ⟨i, hi, h, _, _⟩
  · simp -implicitDefEqProofs only [↓aP, aQ, ↓reduceIte, Nat.reduceEqDiff, Nat.reduceAdd, Nat.reduceSub, Nat.reduceMul, Nat.reduceLT, Nat.reduceLeDiff, reduceCtorEq, Nat.reduceBEq, forall_const, implies_true, exists_const, ne_eq, Int.reduceAdd, Int.reduceSub, Int.reduceMul, Int.reduceBEq, Int.reduceEq, Int.reduceLT, Int.reduceLE, Int.reduceToNat, Int.reduceNeg, Int.reduceBNe, h, encPut, Ta.put, hr, hp, hf, hs, or_self, Bool.true_eq_false, Bool.false_eq_true, encTa, show decide ((-1 : Int) < 0) = true by decide, show ((-1 : Int) < 0) = True by decide]
    try all_goals (trace_state; sorry)
  · have hpl := Ta.pl_lt (p := p) (i := i)
    have hk : Ta.pl p i < t.length := by rw [ta_len hr]; exact hpl
    simp -implicitDefEqProofs only [↓aP, aQ, ↓reduceIte, Nat.reduceEqDiff, Nat.reduceAdd, Nat.reduceSub, Nat.reduceMul, Nat.reduceLT, Nat.reduceLeDiff, reduceCtorEq, Nat.reduceBEq, forall_const, implies_true, exists_const, ne_eq, Int.reduceAdd, Int.reduceSub, Int.reduceMul, Int.reduceBEq, Int.reduceEq, Int.reduceLT, Int.reduceLE, Int.reduceToNat, Int.reduceNeg, Int.reduceBNe, h, show decide (((Ta.pl p i : Nat) : Int) < 0) = false by simp, encTa]
    refine ask (cloneSl (t.map encSl) (by have := ta_len hr; simp; omega)) ?_
    simp -implicitDefEqProofs only [↓aP, aQ, ↓reduceIte, Nat.reduceEqDiff, Nat.reduceAdd, Nat.reduceSub, Nat.reduceMul, Nat.reduceLT, Nat.reduceLeDiff, reduceCtorEq, Nat.reduceBEq, forall_const, implies_true, exists_const, ne_eq, Int.reduceAdd, Int.reduceSub, Int.reduceMul, Int.reduceBEq, Int.reduceEq, Int.reduceLT, Int.reduceLE, Int.reduceToNat, Int.reduceNeg, Int.reduceBNe, encTa, List.length_map, hk, Int.toNat_natCast]
    have hset := set_enc (t := t) (k := Ta.pl p i) (x := ⟨p, f⟩)
    simp only at hset
    simp -implicitDefEqProofs only [↓aP, aQ, ↓reduceIte, Nat.reduceEqDiff, Nat.reduceAdd, Nat.reduceSub, Nat.reduceMul, Nat.reduceLT, Nat.reduceLeDiff, reduceCtorEq, Nat.reduceBEq, forall_const, implies_true, exists_const, ne_eq, Int.reduceAdd, Int.reduceSub, Int.reduceMul, Int.reduceBEq, Int.reduceEq, Int.reduceLT, Int.reduceLE, Int.reduceToNat, Int.reduceNeg, Int.reduceBNe, encPut, Ta.put, hr, hp, hf, hs, h, or_self, Bool.true_eq_false, Bool.false_eq_true, encSl, hset, encTa, Int.toNat_natCast, show ((((Ta.pl p i : Nat) : Int)) < 0) = False by simp]

theorem tDel_spec (t : List Sl) (p : Int) : Spec Try.prog 98 [.agg (encTa t), rI p] (.val (encPut (Ta.del t p))) := by
  refine spec_val mixed fn98 (by simp) ?_
  unfold ac98
  simp -implicitDefEqProofs only [↓aP, aQ, ↓reduceIte, Nat.reduceEqDiff, Nat.reduceAdd, Nat.reduceSub, Nat.reduceMul, Nat.reduceLT, Nat.reduceLeDiff, reduceCtorEq, Nat.reduceBEq, forall_const, implies_true, exists_const, ne_eq, Int.reduceAdd, Int.reduceSub, Int.reduceMul, Int.reduceBEq, Int.reduceEq, Int.reduceLT, Int.reduceLE, Int.reduceToNat, Int.reduceNeg, Int.reduceBNe, encTa]
  refine ask (tRight_spec t) ?_
  cases hr : Ta.right t
  · simp -implicitDefEqProofs only [↓aP, aQ, ↓reduceIte, Nat.reduceEqDiff, Nat.reduceAdd, Nat.reduceSub, Nat.reduceMul, Nat.reduceLT, Nat.reduceLeDiff, reduceCtorEq, Nat.reduceBEq, forall_const, implies_true, exists_const, ne_eq, Int.reduceAdd, Int.reduceSub, Int.reduceMul, Int.reduceBEq, Int.reduceEq, Int.reduceLT, Int.reduceLE, Int.reduceToNat, Int.reduceNeg, Int.reduceBNe, encPut, Ta.del, hr, encTa]
  simp -implicitDefEqProofs only [↓aP, aQ, ↓reduceIte, Nat.reduceEqDiff, Nat.reduceAdd, Nat.reduceSub, Nat.reduceMul, Nat.reduceLT, Nat.reduceLeDiff, reduceCtorEq, Nat.reduceBEq, forall_const, implies_true, exists_const, ne_eq, Int.reduceAdd, Int.reduceSub, Int.reduceMul, Int.reduceBEq, Int.reduceEq, Int.reduceLT, Int.reduceLE, Int.reduceToNat, Int.reduceNeg, Int.reduceBNe, hr, encTa]
  refine ask (tslot_spec t p (ta_len hr)) ?_
  cases hs : (Ta.slot t p).2
  · simp -implicitDefEqProofs only [↓aP, aQ, ↓reduceIte, Nat.reduceEqDiff, Nat.reduceAdd, Nat.reduceSub, Nat.reduceMul, Nat.reduceLT, Nat.reduceLeDiff, reduceCtorEq, Nat.reduceBEq, forall_const, implies_true, exists_const, ne_eq, Int.reduceAdd, Int.reduceSub, Int.reduceMul, Int.reduceBEq, Int.reduceEq, Int.reduceLT, Int.reduceLE, Int.reduceToNat, Int.reduceNeg, Int.reduceBNe, encSlot, hs, encPut, Ta.del, hr, Bool.true_eq_false, encTa]
  obtain ⟨k, hk, e⟩ := slot_nat hs
  have hl := ta_len hr
  have hkl : k < t.length := by omega
  simp -implicitDefEqProofs only [↓aP, aQ, ↓reduceIte, Nat.reduceEqDiff, Nat.reduceAdd, Nat.reduceSub, Nat.reduceMul, Nat.reduceLT, Nat.reduceLeDiff, reduceCtorEq, Nat.reduceBEq, forall_const, implies_true, exists_const, ne_eq, Int.reduceAdd, Int.reduceSub, Int.reduceMul, Int.reduceBEq, Int.reduceEq, Int.reduceLT, Int.reduceLE, Int.reduceToNat, Int.reduceNeg, Int.reduceBNe, encSlot, hs, e, encTa]
  refine ask (cloneSl (t.map encSl) (by simp; omega)) ?_
  simp -implicitDefEqProofs only [↓aP, aQ, ↓reduceIte, Nat.reduceEqDiff, Nat.reduceAdd, Nat.reduceSub, Nat.reduceMul, Nat.reduceLT, Nat.reduceLeDiff, reduceCtorEq, Nat.reduceBEq, forall_const, implies_true, exists_const, ne_eq, Int.reduceAdd, Int.reduceSub, Int.reduceMul, Int.reduceBEq, Int.reduceEq, Int.reduceLT, Int.reduceLE, Int.reduceToNat, Int.reduceNeg, Int.reduceBNe, encTa, List.length_map, hkl, Int.toNat_natCast]
  have hset := set_enc (t := t) (k := k) (x := Ta.z)
  simp only [Ta.z] at hset
  have hdel : Ta.del t p = (Ta.delL k 15 k (t.set k Ta.z), 0) := by
    unfold Ta.del
    rw [if_neg (by rw [hr]; simp), if_neg (by rw [hs]; simp), e, Int.toNat_natCast]
  have hpos : ∀ s ∈ t.set k Ta.z, Ta.free s = true ∨ Ta.isP s.p = true := by
    intro s hm
    rcases List.mem_or_eq_of_mem_set hm with hm | rfl
    · obtain ⟨j, hj, rfl⟩ := List.getElem_of_mem hm
      have := (Ta.right_iff.1 hr).2 j (by omega)
      unfold Ta.okS at this
      rw [Ta.at_get hj] at this
      cases hf : Ta.free t[j]
      · rw [hf, Bool.false_or] at this
        simp only [Bool.and_eq_true] at this
        exact .inr this.1.1
      · exact .inl rfl
    · exact .inl rfl
  rw [hdel]
  refine loopA (fun n σ => ∃ hole x g, hole < 16 ∧ n ≤ 15 ∧ x.length = 16 ∧ (∀ s ∈ x, Ta.free s = true ∨ Ta.isP s.p = true) ∧ Ta.delL k 15 k (t.set k Ta.z) = Ta.delL k n hole x ∧ σ.slot 4 = .c (.ptr 4 1 0 0) ∧ σ.h.gen 4 = 1 ∧ σ.h.blk 4 = .box 28 1 [[.zc]] ∧ σ.slot 8 = .c (.own 28 g) ∧ σ.h.gen 28 = g ∧ σ.h.blk 28 = .row 120 2 (x.map encSl) ∧ σ.slot 6 = vI hole ∧ σ.slot 9 = vI k ∧ σ.slot 10 = vI (16 - n : Nat)) 15 ?_ ?_
  · refine ⟨k, t.set k Ta.z, 1, hk, by omega, by simpa using hl, hpos, rfl, ?_⟩
    simp -implicitDefEqProofs only [↓aP, aQ, ↓reduceIte, Nat.reduceEqDiff, Nat.reduceAdd, Nat.reduceSub, Nat.reduceMul, Nat.reduceLT, Nat.reduceLeDiff, reduceCtorEq, Nat.reduceBEq, forall_const, implies_true, exists_const, ne_eq, Int.reduceAdd, Int.reduceSub, Int.reduceMul, Int.reduceBEq, Int.reduceEq, Int.reduceLT, Int.reduceLE, Int.reduceToNat, Int.reduceNeg, Int.reduceBNe, encTa, encSl, hset, Ta.z]
  · rintro n σ ⟨hole, x, g, hh, hn, hxl, hxp, hdl, s4, g4, b4, s8, g28, b28, s6, s9, s10⟩
    cases n with
    | zero =>
      simp -implicitDefEqProofs only [↓aP, aQ, ↓reduceIte, Nat.reduceEqDiff, Nat.reduceAdd, Nat.reduceSub, Nat.reduceMul, Nat.reduceLT, Nat.reduceLeDiff, reduceCtorEq, Nat.reduceBEq, forall_const, implies_true, exists_const, ne_eq, Int.reduceAdd, Int.reduceSub, Int.reduceMul, Int.reduceBEq, Int.reduceEq, Int.reduceLT, Int.reduceLE, Int.reduceToNat, Int.reduceNeg, Int.reduceBNe, s4, g4, b4, s8, g28, b28, s6, s9, s10, show decide (((16 - 0 : Nat) : Int) < 16) = false by decide]
      rw [show Ta.delL k 0 hole x = x from rfl] at hdl
      simp -implicitDefEqProofs only [↓aP, aQ, ↓reduceIte, Nat.reduceEqDiff, Nat.reduceAdd, Nat.reduceSub, Nat.reduceMul, Nat.reduceLT, Nat.reduceLeDiff, reduceCtorEq, Nat.reduceBEq, forall_const, implies_true, exists_const, ne_eq, Int.reduceAdd, Int.reduceSub, Int.reduceMul, Int.reduceBEq, Int.reduceEq, Int.reduceLT, Int.reduceLE, Int.reduceToNat, Int.reduceNeg, Int.reduceBNe, hdl, encPut, encTa]
    | succ n =>
      have c : decide (((16 - (n + 1) : Nat) : Int) < 16) = true := by simp; omega
      obtain ⟨nx, hnx⟩ : ∃ nx, nx = (k + (15 - n)) % 16 := ⟨_, rfl⟩
      have hnx16 : nx < 16 := by omega
      have hnxl : nx < x.length := by omega
      have e1 : (IntKind.i64.wrap ((k : Int) + ((16 - (n + 1) : Nat) : Int))).tmod 16 = ((nx : Nat) : Int) := by
        rw [wrapI (by omega), Int.tmod_eq_emod_of_nonneg (by omega)]
        omega
      have hat := Ta.at_get hnxl
      simp -implicitDefEqProofs only [↓aP, aQ, ↓reduceIte, Nat.reduceEqDiff, Nat.reduceAdd, Nat.reduceSub, Nat.reduceMul, Nat.reduceLT, Nat.reduceLeDiff, reduceCtorEq, Nat.reduceBEq, forall_const, implies_true, exists_const, ne_eq, Int.reduceAdd, Int.reduceSub, Int.reduceMul, Int.reduceBEq, Int.reduceEq, Int.reduceLT, Int.reduceLE, Int.reduceToNat, Int.reduceNeg, Int.reduceBNe, s4, g4, b4, s8, g28, b28, s6, s9, s10, c, e1, askIdx_map, hnxl, encSl, List.length_map, Int.toNat_natCast]
      have hD : Ta.delL k (n + 1) hole x = if Ta.free x[nx] = true then x else if Ta.ahead x[nx].p hole < Ta.ahead x[nx].p nx then Ta.delL k n nx ((x.set hole x[nx]).set nx Ta.z) else Ta.delL k n hole x := by
        rw [Ta.delL, ← hnx, hat]
      rw [hD] at hdl
      refine ask (tfree_spec x[nx]) ?_
      cases hf : Ta.free x[nx]
      · have hP : Ta.isP x[nx].p = true := by
          rcases hxp _ (List.getElem_mem hnxl) with h | h
          · rw [hf] at h; cases h
          · exact h
        have hP2 := isP_iff.1 hP
        rw [hf, if_neg (by simp)] at hdl
        simp -implicitDefEqProofs only [↓aP, aQ, ↓reduceIte, Nat.reduceEqDiff, Nat.reduceAdd, Nat.reduceSub, Nat.reduceMul, Nat.reduceLT, Nat.reduceLeDiff, reduceCtorEq, Nat.reduceBEq, forall_const, implies_true, exists_const, ne_eq, Int.reduceAdd, Int.reduceSub, Int.reduceMul, Int.reduceBEq, Int.reduceEq, Int.reduceLT, Int.reduceLE, Int.reduceToNat, Int.reduceNeg, Int.reduceBNe, s4, g4, b4, s8, g28, b28, s6, s9, s10, encSl]
        refine ask (tahead_spec x[nx].p hole (by omega) hh) ?_
        simp -implicitDefEqProofs only [↓aP, aQ, ↓reduceIte, Nat.reduceEqDiff, Nat.reduceAdd, Nat.reduceSub, Nat.reduceMul, Nat.reduceLT, Nat.reduceLeDiff, reduceCtorEq, Nat.reduceBEq, forall_const, implies_true, exists_const, ne_eq, Int.reduceAdd, Int.reduceSub, Int.reduceMul, Int.reduceBEq, Int.reduceEq, Int.reduceLT, Int.reduceLE, Int.reduceToNat, Int.reduceNeg, Int.reduceBNe, s4, g4, b4, s8, g28, b28, s6, s9, s10, encSl]
        refine ask (tahead_spec x[nx].p nx (by omega) hnx16) ?_
        have w : IntKind.i64.wrap (((16 - (n + 1) : Nat) : Int) + 1) = ((16 - n : Nat) : Int) := by rw [wrapI (by omega)]; omega
        by_cases hc : Ta.ahead x[nx].p hole < Ta.ahead x[nx].p nx
        · rw [if_pos hc] at hdl
          have hhl : hole < x.length := by omega
          have hs1 := set_enc (t := x) (k := hole) (x := x[nx])
          have hs2 := set_enc (t := x.set hole x[nx]) (k := nx) (x := Ta.z)
          simp only [Ta.z] at hs2
          simp -implicitDefEqProofs only [↓aP, aQ, ↓reduceIte, Nat.reduceEqDiff, Nat.reduceAdd, Nat.reduceSub, Nat.reduceMul, Nat.reduceLT, Nat.reduceLeDiff, reduceCtorEq, Nat.reduceBEq, forall_const, implies_true, exists_const, ne_eq, Int.reduceAdd, Int.reduceSub, Int.reduceMul, Int.reduceBEq, Int.reduceEq, Int.reduceLT, Int.reduceLE, Int.reduceToNat, Int.reduceNeg, Int.reduceBNe, s4, g4, b4, s8, g28, b28, s6, s9, s10, show decide (((Ta.ahead x[nx].p hole : Nat) : Int) < ((Ta.ahead x[nx].p nx : Nat) : Int)) = true by simp; omega, w, List.length_map, Int.toNat_natCast, askIdx_map, hhl, hnxl, encSl, List.length_set]
          refine ⟨by decide +kernel, ?_⟩
          rw [hs1]
          have hnx2 : nx < (x.set hole x[nx]).length := by rw [List.length_set]; exact hnxl
          simp -implicitDefEqProofs only [↓aP, aQ, ↓reduceIte, Nat.reduceEqDiff, Nat.reduceAdd, Nat.reduceSub, Nat.reduceMul, Nat.reduceLT, Nat.reduceLeDiff, reduceCtorEq, Nat.reduceBEq, forall_const, implies_true, exists_const, ne_eq, Int.reduceAdd, Int.reduceSub, Int.reduceMul, Int.reduceBEq, Int.reduceEq, Int.reduceLT, Int.reduceLE, Int.reduceToNat, Int.reduceNeg, Int.reduceBNe, s4, g4, b4, s8, g28, b28, s6, s9, s10, askIdx_map, hnx2, encSl, hs2, w]
          refine ⟨n, by omega, nx, (x.set hole x[nx]).set nx Ta.z, g, hnx16, by omega, by simpa using hxl, ?_, hdl, ?_⟩
          · intro s hm
            rcases List.mem_or_eq_of_mem_set hm with hm | rfl
            · rcases List.mem_or_eq_of_mem_set hm with hm | rfl
              · exact hxp s hm
              · exact .inr hP
            · exact .inl rfl
          · simp -implicitDefEqProofs only [↓aP, aQ, ↓reduceIte, Nat.reduceEqDiff, Nat.reduceAdd, Nat.reduceSub, Nat.reduceMul, Nat.reduceLT, Nat.reduceLeDiff, reduceCtorEq, Nat.reduceBEq, forall_const, implies_true, exists_const, ne_eq, Int.reduceAdd, Int.reduceSub, Int.reduceMul, Int.reduceBEq, Int.reduceEq, Int.reduceLT, Int.reduceLE, Int.reduceToNat, Int.reduceNeg, Int.reduceBNe, Ta.z]
        · rw [if_neg hc] at hdl
          simp -implicitDefEqProofs only [↓aP, aQ, ↓reduceIte, Nat.reduceEqDiff, Nat.reduceAdd, Nat.reduceSub, Nat.reduceMul, Nat.reduceLT, Nat.reduceLeDiff, reduceCtorEq, Nat.reduceBEq, forall_const, implies_true, exists_const, ne_eq, Int.reduceAdd, Int.reduceSub, Int.reduceMul, Int.reduceBEq, Int.reduceEq, Int.reduceLT, Int.reduceLE, Int.reduceToNat, Int.reduceNeg, Int.reduceBNe, s4, g4, b4, s8, g28, b28, s6, s9, s10, show decide (((Ta.ahead x[nx].p hole : Nat) : Int) < ((Ta.ahead x[nx].p nx : Nat) : Int)) = false by simp; omega, w]
          refine ⟨by decide +kernel, n, by omega, hole, x, g, hh, by omega, hxl, hxp, hdl, rfl, rfl, rfl, rfl, rfl⟩
      · rw [hf, if_pos rfl] at hdl
        simp -implicitDefEqProofs only [↓aP, aQ, ↓reduceIte, Nat.reduceEqDiff, Nat.reduceAdd, Nat.reduceSub, Nat.reduceMul, Nat.reduceLT, Nat.reduceLeDiff, reduceCtorEq, Nat.reduceBEq, forall_const, implies_true, exists_const, ne_eq, Int.reduceAdd, Int.reduceSub, Int.reduceMul, Int.reduceBEq, Int.reduceEq, Int.reduceLT, Int.reduceLE, Int.reduceToNat, Int.reduceNeg, Int.reduceBNe, s4, g4, b4, s8, g28, b28, s6, s9, s10, encSl]
        simp -implicitDefEqProofs only [↓aP, aQ, ↓reduceIte, Nat.reduceEqDiff, Nat.reduceAdd, Nat.reduceSub, Nat.reduceMul, Nat.reduceLT, Nat.reduceLeDiff, reduceCtorEq, Nat.reduceBEq, forall_const, implies_true, exists_const, ne_eq, Int.reduceAdd, Int.reduceSub, Int.reduceMul, Int.reduceBEq, Int.reduceEq, Int.reduceLT, Int.reduceLE, Int.reduceToNat, Int.reduceNeg, Int.reduceBNe, hdl, encPut, encTa]

theorem tPages_spec (t : List Sl) : Spec Try.prog 50 [.agg (encTa t)] (.val (rL 1 ((Ta.pages t).map encI))) := by
  refine spec_val mixed fn50 (by simp) ?_
  unfold ac50
  simp -implicitDefEqProofs only [↓aP, aQ, ↓reduceIte, Nat.reduceEqDiff, Nat.reduceAdd, Nat.reduceSub, Nat.reduceMul, Nat.reduceLT, Nat.reduceLeDiff, reduceCtorEq, Nat.reduceBEq, forall_const, implies_true, exists_const, ne_eq, Int.reduceAdd, Int.reduceSub, Int.reduceMul, Int.reduceBEq, Int.reduceEq, Int.reduceLT, Int.reduceLE, Int.reduceToNat, Int.reduceNeg, Int.reduceBNe, encTa]
  refine ask (tRight_spec t) ?_
  cases hr : Ta.right t
  · simp -implicitDefEqProofs only [↓aP, aQ, ↓reduceIte, Nat.reduceEqDiff, Nat.reduceAdd, Nat.reduceSub, Nat.reduceMul, Nat.reduceLT, Nat.reduceLeDiff, reduceCtorEq, Nat.reduceBEq, forall_const, implies_true, exists_const, ne_eq, Int.reduceAdd, Int.reduceSub, Int.reduceMul, Int.reduceBEq, Int.reduceEq, Int.reduceLT, Int.reduceLE, Int.reduceToNat, Int.reduceNeg, Int.reduceBNe, Ta.pages, hr, Bool.false_eq_true, List.map_nil]
    try all_goals (trace_state; sorry)
  have ht := ta_len hr
  simp -implicitDefEqProofs only [↓aP, aQ, ↓reduceIte, Nat.reduceEqDiff, Nat.reduceAdd, Nat.reduceSub, Nat.reduceMul, Nat.reduceLT, Nat.reduceLeDiff, reduceCtorEq, Nat.reduceBEq, forall_const, implies_true, exists_const, ne_eq, Int.reduceAdd, Int.reduceSub, Int.reduceMul, Int.reduceBEq, Int.reduceEq, Int.reduceLT, Int.reduceLE, Int.reduceToNat, Int.reduceNeg, Int.reduceBNe, encTa]
  refine shift (sub_slot (s := 3) 23 3 1 rfl (by exact Nat.succ_pos _)) ?_
  refine rangeB t.length (fun i σ => (Ta.pgs (t.take i)).length ≤ i ∧ ∃ g, σ.slot 1 = .c (.ptr 1 1 0 0) ∧ σ.h.gen 1 = 1 ∧ σ.slot 3 = .c (.own 23 g) ∧ σ.h.gen 23 = g ∧ σ.h.blk 23 = .row 3 1 ((Ta.pgs (t.take i)).map encI) ∧ σ.slot 10 = vL 2 (t.map encSl) ∧ σ.slot 11 = vI t.length ∧ σ.slot 12 = vI i) ?_ ?_ ?_
  · simp -implicitDefEqProofs only [↓aP, aQ, ↓reduceIte, Nat.reduceEqDiff, Nat.reduceAdd, Nat.reduceSub, Nat.reduceMul, Nat.reduceLT, Nat.reduceLeDiff, reduceCtorEq, Nat.reduceBEq, forall_const, implies_true, exists_const, ne_eq, Int.reduceAdd, Int.reduceSub, Int.reduceMul, Int.reduceBEq, Int.reduceEq, Int.reduceLT, Int.reduceLE, Int.reduceToNat, Int.reduceNeg, Int.reduceBNe, encTa, List.length_map]
    exact ⟨by simp [Ta.pgs], 1, by simp [Ta.pgs]⟩
  · rintro i m σ him hi hlt ⟨hle, g, s1, g1, s3, g23, b23, s10, s11, s12⟩
    have hsn : Ta.pgs (t.take (i + 1)) = Ta.pgs (t.take i) ++ (if Ta.free t[i] = true then [] else [t[i].p]) := by
      unfold Ta.pgs
      rw [take_snoc hi, List.filter_append, List.map_append]
      congr 1
      cases h : Ta.free t[i] <;> simp [List.filter, h]
    simp -implicitDefEqProofs only [↓aP, aQ, ↓reduceIte, Nat.reduceEqDiff, Nat.reduceAdd, Nat.reduceSub, Nat.reduceMul, Nat.reduceLT, Nat.reduceLeDiff, reduceCtorEq, Nat.reduceBEq, forall_const, implies_true, exists_const, ne_eq, Int.reduceAdd, Int.reduceSub, Int.reduceMul, Int.reduceBEq, Int.reduceEq, Int.reduceLT, Int.reduceLE, Int.reduceToNat, Int.reduceNeg, Int.reduceBNe, hlt, s1, g1, s3, g23, b23, s10, s11, s12, askIdx_map, hi, encSl]
    refine ask (tfree_spec t[i]) ?_
    cases hf : Ta.free t[i]
    · rw [hf, if_neg (by simp)] at hsn
      simp -implicitDefEqProofs only [↓aP, aQ, ↓reduceIte, Nat.reduceEqDiff, Nat.reduceAdd, Nat.reduceSub, Nat.reduceMul, Nat.reduceLT, Nat.reduceLeDiff, reduceCtorEq, Nat.reduceBEq, forall_const, implies_true, exists_const, ne_eq, Int.reduceAdd, Int.reduceSub, Int.reduceMul, Int.reduceBEq, Int.reduceEq, Int.reduceLT, Int.reduceLE, Int.reduceToNat, Int.reduceNeg, Int.reduceBNe, s1, g1, s3, g23, b23, s10, s11, s12, encSl, List.length_map, wrapS (show i < 4611686018427387904 by omega)]
      refine ⟨by omega, by omega, ?_⟩
      refine nextR hi him ⟨by rw [hsn]; simp; omega, g + 1, ?_⟩
      simp -implicitDefEqProofs only [↓aP, aQ, ↓reduceIte, Nat.reduceEqDiff, Nat.reduceAdd, Nat.reduceSub, Nat.reduceMul, Nat.reduceLT, Nat.reduceLeDiff, reduceCtorEq, Nat.reduceBEq, forall_const, implies_true, exists_const, ne_eq, Int.reduceAdd, Int.reduceSub, Int.reduceMul, Int.reduceBEq, Int.reduceEq, Int.reduceLT, Int.reduceLE, Int.reduceToNat, Int.reduceNeg, Int.reduceBNe, s1, g1, s3, g23, b23, s10, s11, s12, hsn, List.map_append, List.map_cons, List.map_nil, encI]
    · rw [hf, if_pos rfl, List.append_nil] at hsn
      simp -implicitDefEqProofs only [↓aP, aQ, ↓reduceIte, Nat.reduceEqDiff, Nat.reduceAdd, Nat.reduceSub, Nat.reduceMul, Nat.reduceLT, Nat.reduceLeDiff, reduceCtorEq, Nat.reduceBEq, forall_const, implies_true, exists_const, ne_eq, Int.reduceAdd, Int.reduceSub, Int.reduceMul, Int.reduceBEq, Int.reduceEq, Int.reduceLT, Int.reduceLE, Int.reduceToNat, Int.reduceNeg, Int.reduceBNe, s1, g1, s3, g23, b23, s10, s11, s12, encSl, List.length_map, wrapS (show i < 4611686018427387904 by omega)]
      refine nextR hi him ⟨by rw [hsn]; omega, g, ?_⟩
      simp -implicitDefEqProofs only [↓aP, aQ, ↓reduceIte, Nat.reduceEqDiff, Nat.reduceAdd, Nat.reduceSub, Nat.reduceMul, Nat.reduceLT, Nat.reduceLeDiff, reduceCtorEq, Nat.reduceBEq, forall_const, implies_true, exists_const, ne_eq, Int.reduceAdd, Int.reduceSub, Int.reduceMul, Int.reduceBEq, Int.reduceEq, Int.reduceLT, Int.reduceLE, Int.reduceToNat, Int.reduceNeg, Int.reduceBNe, s1, g1, s3, g23, b23, s10, s11, s12, hsn]
  · rintro m σ hlt ⟨hle, g, s1, g1, s3, g23, b23, s10, s11, s12⟩
    rw [List.take_length] at b23 hle
    simp -implicitDefEqProofs only [↓aP, aQ, ↓reduceIte, Nat.reduceEqDiff, Nat.reduceAdd, Nat.reduceSub, Nat.reduceMul, Nat.reduceLT, Nat.reduceLeDiff, reduceCtorEq, Nat.reduceBEq, forall_const, implies_true, exists_const, ne_eq, Int.reduceAdd, Int.reduceSub, Int.reduceMul, Int.reduceBEq, Int.reduceEq, Int.reduceLT, Int.reduceLE, Int.reduceToNat, Int.reduceNeg, Int.reduceBNe, hlt, s1, g1, s3, g23, b23, s10, s11, s12]
    refine askX2 (sort_spec (Ta.pgs t) (by omega)) (by simp -implicitDefEqProofs only [↓aP, aQ, ↓reduceIte, Nat.reduceEqDiff, Nat.reduceAdd, Nat.reduceSub, Nat.reduceMul, Nat.reduceLT, Nat.reduceLeDiff, reduceCtorEq, Nat.reduceBEq, forall_const, implies_true, exists_const, ne_eq, Int.reduceAdd, Int.reduceSub, Int.reduceMul, Int.reduceBEq, Int.reduceEq, Int.reduceLT, Int.reduceLE, Int.reduceToNat, Int.reduceNeg, Int.reduceBNe]) ?_
    simp -implicitDefEqProofs only [↓aP, aQ, ↓reduceIte, Nat.reduceEqDiff, Nat.reduceAdd, Nat.reduceSub, Nat.reduceMul, Nat.reduceLT, Nat.reduceLeDiff, reduceCtorEq, Nat.reduceBEq, forall_const, implies_true, exists_const, ne_eq, Int.reduceAdd, Int.reduceSub, Int.reduceMul, Int.reduceBEq, Int.reduceEq, Int.reduceLT, Int.reduceLE, Int.reduceToNat, Int.reduceNeg, Int.reduceBNe, s1, g1, s3, g23, b23, s10, s11, s12, XR.lb, Ta.pages, hr]
    try all_goals (trace_state; sorry)
end Go.Proofs.Ytcindpblgbpcoaa
