/- layer 15: Find, locate, New, mark, empty, Unpin. -/
import Derived.Test.YtcindpblgbpcoaaF3p
namespace Go.Proofs.Ytcindpblgbpcoaa
open Go.RowKit
set_option linter.unusedVariables false
set_option linter.unusedSimpArgs false
def Sh (f : Fs) : Prop := f.ck.fr.length < 4611686018427387904 ∧ f.dt.length < 4611686018427387904
theorem fFind_spec (f : Fs) (id : Int) (hl : Sh f) : Spec Try.prog 16 [.agg (encFs f), rI id] (.val (encSlot (Fm.find f id))) := by
  refine spec_val mixed fn16 (by simp) ?_
  unfold ac16
  simp -implicitDefEqProofs only [↓aP, aQ, ↓reduceIte, Nat.reduceEqDiff, Nat.reduceAdd, Nat.reduceSub, Nat.reduceMul, Nat.reduceLT, Nat.reduceLeDiff, reduceCtorEq, Nat.reduceBEq, forall_const, implies_true, exists_const, ne_eq, Int.reduceAdd, Int.reduceSub, Int.reduceMul, Int.reduceBEq, Int.reduceEq, Int.reduceLT, Int.reduceLE, Int.reduceToNat, Int.reduceNeg, Int.reduceBNe, encFs, encSlot]
  refine ask (by have := fRight_spec f hl; rw [encFs] at this; exact this) ?_
  cases hr : Fm.right f
  · have e : Fm.find f id = (0, false) := by unfold Fm.find; rw [if_neg (by simp [hr])]
    simp -implicitDefEqProofs only [↓aP, aQ, ↓reduceIte, Nat.reduceEqDiff, Nat.reduceAdd, Nat.reduceSub, Nat.reduceMul, Nat.reduceLT, Nat.reduceLeDiff, reduceCtorEq, Nat.reduceBEq, forall_const, implies_true, exists_const, ne_eq, Int.reduceAdd, Int.reduceSub, Int.reduceMul, Int.reduceBEq, Int.reduceEq, Int.reduceLT, Int.reduceLE, Int.reduceToNat, Int.reduceNeg, Int.reduceBNe, e]
  · have e : Fm.find f id = Ta.find f.tb id := by unfold Fm.find; rw [if_pos hr]
    simp -implicitDefEqProofs only [↓aP, aQ, ↓reduceIte, Nat.reduceEqDiff, Nat.reduceAdd, Nat.reduceSub, Nat.reduceMul, Nat.reduceLT, Nat.reduceLeDiff, reduceCtorEq, Nat.reduceBEq, forall_const, implies_true, exists_const, ne_eq, Int.reduceAdd, Int.reduceSub, Int.reduceMul, Int.reduceBEq, Int.reduceEq, Int.reduceLT, Int.reduceLE, Int.reduceToNat, Int.reduceNeg, Int.reduceBNe, encFs]
    refine ask (by have := tFind_spec f.tb id; rw [encTa] at this; exact this) ?_
    simp -implicitDefEqProofs only [↓aP, aQ, ↓reduceIte, Nat.reduceEqDiff, Nat.reduceAdd, Nat.reduceSub, Nat.reduceMul, Nat.reduceLT, Nat.reduceLeDiff, reduceCtorEq, Nat.reduceBEq, forall_const, implies_true, exists_const, ne_eq, Int.reduceAdd, Int.reduceSub, Int.reduceMul, Int.reduceBEq, Int.reduceEq, Int.reduceLT, Int.reduceLE, Int.reduceToNat, Int.reduceNeg, Int.reduceBNe, encSlot, e]
theorem flocate_spec (f : Fs) (id : Int) (hl : Sh f) : Spec Try.prog 61 [.agg (encFs f), rI id] (.val (.tup [(false, [.pv (.int .i64 (Fm.locate f id).1)]), (false, [.pv (.int .i64 (Fm.locate f id).2)])])) := by
  refine spec_val mixed fn61 (by simp) ?_
  unfold ac61
  simp -implicitDefEqProofs only [↓aP, aQ, ↓reduceIte, Nat.reduceEqDiff, Nat.reduceAdd, Nat.reduceSub, Nat.reduceMul, Nat.reduceLT, Nat.reduceLeDiff, reduceCtorEq, Nat.reduceBEq, forall_const, implies_true, exists_const, ne_eq, Int.reduceAdd, Int.reduceSub, Int.reduceMul, Int.reduceBEq, Int.reduceEq, Int.reduceLT, Int.reduceLE, Int.reduceToNat, Int.reduceNeg, Int.reduceBNe, encFs]
  refine ask (by have := fRight_spec f hl; rw [encFs] at this; exact this) ?_
  cases hr : Fm.right f
  · have e : Fm.locate f id = (0, 1) := by unfold Fm.locate; rw [if_pos hr]
    simp -implicitDefEqProofs only [↓aP, aQ, ↓reduceIte, Nat.reduceEqDiff, Nat.reduceAdd, Nat.reduceSub, Nat.reduceMul, Nat.reduceLT, Nat.reduceLeDiff, reduceCtorEq, Nat.reduceBEq, forall_const, implies_true, exists_const, ne_eq, Int.reduceAdd, Int.reduceSub, Int.reduceMul, Int.reduceBEq, Int.reduceEq, Int.reduceLT, Int.reduceLE, Int.reduceToNat, Int.reduceNeg, Int.reduceBNe, e]
  · simp -implicitDefEqProofs only [↓aP, aQ, ↓reduceIte, Nat.reduceEqDiff, Nat.reduceAdd, Nat.reduceSub, Nat.reduceMul, Nat.reduceLT, Nat.reduceLeDiff, reduceCtorEq, Nat.reduceBEq, forall_const, implies_true, exists_const, ne_eq, Int.reduceAdd, Int.reduceSub, Int.reduceMul, Int.reduceBEq, Int.reduceEq, Int.reduceLT, Int.reduceLE, Int.reduceToNat, Int.reduceNeg, Int.reduceBNe, encFs]
    refine ask (by have := tFind_spec f.tb id; rw [encTa] at this; exact this) ?_
    cases hf : (Ta.find f.tb id).2
    · have e : Fm.locate f id = (0, 3) := by unfold Fm.locate; rw [if_neg (by simp [hr]), if_pos hf]
      simp -implicitDefEqProofs only [↓aP, aQ, ↓reduceIte, Nat.reduceEqDiff, Nat.reduceAdd, Nat.reduceSub, Nat.reduceMul, Nat.reduceLT, Nat.reduceLeDiff, reduceCtorEq, Nat.reduceBEq, forall_const, implies_true, exists_const, ne_eq, Int.reduceAdd, Int.reduceSub, Int.reduceMul, Int.reduceBEq, Int.reduceEq, Int.reduceLT, Int.reduceLE, Int.reduceToNat, Int.reduceNeg, Int.reduceBNe, encSlot, hf, e]
    · have e : Fm.locate f id = ((Ta.find f.tb id).1, 0) := by unfold Fm.locate; rw [if_neg (by simp [hr]), if_neg (by simp [hf])]
      simp -implicitDefEqProofs only [↓aP, aQ, ↓reduceIte, Nat.reduceEqDiff, Nat.reduceAdd, Nat.reduceSub, Nat.reduceMul, Nat.reduceLT, Nat.reduceLeDiff, reduceCtorEq, Nat.reduceBEq, forall_const, implies_true, exists_const, ne_eq, Int.reduceAdd, Int.reduceSub, Int.reduceMul, Int.reduceBEq, Int.reduceEq, Int.reduceLT, Int.reduceLE, Int.reduceToNat, Int.reduceNeg, Int.reduceBNe, encSlot, hf, e]
/-- what a place that was found is -/
theorem at_found {f : Fs} {id : Int} (h : (Fm.locate f id).2 = 0) : ∃ k : Nat, (Fm.locate f id).1 = k ∧ k < f.ck.fr.length ∧ k < f.pg.length ∧ Fm.right f = true ∧ Ta.find f.tb id = ((k : Int), true) ∧ (f.pg.getD k zP).id = id ∧ id ≠ 0 := by
  unfold Fm.locate at h ⊢
  split at h
  · simp at h
  rename_i h1
  split at h
  · simp at h
  rename_i h2
  rw [if_neg h1, if_neg h2]
  have hr : Fm.right f = true := by simpa using h1
  have hf : Ta.find f.tb id = ((Ta.find f.tb id).1, true) := Prod.ext rfl (by simpa using h2)
  have ht := rt_iff.1 hr
  obtain ⟨k, hk, e1, e2, e3⟩ := rt_found ht hf
  exact ⟨k, e1, by have := ht.same; omega, hk, hr, by rw [hf, e1], by rw [pg_getD hk]; exact e2, e3⟩
set_option maxRecDepth 100000 in
theorem fNew_spec (n : Int) : Spec Try.prog 13 [rI n] (.val (.tup [(true, encFs (Fm.newF n).1), (false, [.pv (.int .i64 (Fm.newF n).2)])])) := by
  refine spec_val mixed fn13 (by simp) ?_
  unfold ac13
  by_cases h1 : n < 1
  · have e : Fm.newF n = (⟨⟨[], 0⟩, [], [], []⟩, 1) := by unfold Fm.newF; rw [if_neg (by omega)]
    simp -implicitDefEqProofs only [↓aP, aQ, ↓reduceIte, Nat.reduceEqDiff, Nat.reduceAdd, Nat.reduceSub, Nat.reduceMul, Nat.reduceLT, Nat.reduceLeDiff, reduceCtorEq, Nat.reduceBEq, forall_const, implies_true, exists_const, ne_eq, Int.reduceAdd, Int.reduceSub, Int.reduceMul, Int.reduceBEq, Int.reduceEq, Int.reduceLT, Int.reduceLE, Int.reduceToNat, Int.reduceNeg, Int.reduceBNe, decide_eq_true h1, e, encFs, List.map_nil]
  by_cases h2 : 8 < n
  · have e : Fm.newF n = (⟨⟨[], 0⟩, [], [], []⟩, 1) := by unfold Fm.newF; rw [if_neg (by omega)]
    simp -implicitDefEqProofs only [↓aP, aQ, ↓reduceIte, Nat.reduceEqDiff, Nat.reduceAdd, Nat.reduceSub, Nat.reduceMul, Nat.reduceLT, Nat.reduceLeDiff, reduceCtorEq, Nat.reduceBEq, forall_const, implies_true, exists_const, ne_eq, Int.reduceAdd, Int.reduceSub, Int.reduceMul, Int.reduceBEq, Int.reduceEq, Int.reduceLT, Int.reduceLE, Int.reduceToNat, Int.reduceNeg, Int.reduceBNe, decide_eq_false h1, decide_eq_true h2, e, encFs, List.map_nil]
  have e : Fm.newF n = (⟨⟨List.replicate n.toNat zF, 0⟩, List.replicate 16 Ta.z, List.replicate n.toNat zP, []⟩, 0) := by unfold Fm.newF; rw [if_pos (by omega)]
  simp -implicitDefEqProofs only [↓aP, aQ, ↓reduceIte, Nat.reduceEqDiff, Nat.reduceAdd, Nat.reduceSub, Nat.reduceMul, Nat.reduceLT, Nat.reduceLeDiff, reduceCtorEq, Nat.reduceBEq, forall_const, implies_true, exists_const, ne_eq, Int.reduceAdd, Int.reduceSub, Int.reduceMul, Int.reduceBEq, Int.reduceEq, Int.reduceLT, Int.reduceLE, Int.reduceToNat, Int.reduceNeg, Int.reduceBNe, decide_eq_false h1, decide_eq_false h2, e, encFs]
  refine ⟨by omega, by omega, by omega, ?_⟩
  refine ask tNew_spec ?_
  simp -implicitDefEqProofs only [↓aP, aQ, ↓reduceIte, Nat.reduceEqDiff, Nat.reduceAdd, Nat.reduceSub, Nat.reduceMul, Nat.reduceLT, Nat.reduceLeDiff, reduceCtorEq, Nat.reduceBEq, forall_const, implies_true, exists_const, ne_eq, Int.reduceAdd, Int.reduceSub, Int.reduceMul, Int.reduceBEq, Int.reduceEq, Int.reduceLT, Int.reduceLE, Int.reduceToNat, Int.reduceNeg, Int.reduceBNe, encTa, List.map_replicate]
  refine ⟨by omega, by omega, by omega, by decide +kernel, ?_, ?_⟩
  · exact Sim.refl _
  · exact Sim.refl _
theorem fmark_spec (f : Fs) (id now : Int) (hl : Sh f) : Spec Try.prog 71 [.agg (encFs f), rI id, rI now] (.val (.tup [(true, encFs (Fm.mark f id now).1), (false, [.pv (.int .i64 (Fm.mark f id now).2)])])) := by
  refine spec_val mixed fn71 (by simp) ?_
  unfold ac71
  simp -implicitDefEqProofs only [↓aP, aQ, ↓reduceIte, Nat.reduceEqDiff, Nat.reduceAdd, Nat.reduceSub, Nat.reduceMul, Nat.reduceLT, Nat.reduceLeDiff, reduceCtorEq, Nat.reduceBEq, forall_const, implies_true, exists_const, ne_eq, Int.reduceAdd, Int.reduceSub, Int.reduceMul, Int.reduceBEq, Int.reduceEq, Int.reduceLT, Int.reduceLE, Int.reduceToNat, Int.reduceNeg, Int.reduceBNe, encFs]
  refine ask (dMark_spec f.dt id now hl.2) ?_
  simp -implicitDefEqProofs only [↓aP, aQ, ↓reduceIte, Nat.reduceEqDiff, Nat.reduceAdd, Nat.reduceSub, Nat.reduceMul, Nat.reduceLT, Nat.reduceLeDiff, reduceCtorEq, Nat.reduceBEq, forall_const, implies_true, exists_const, ne_eq, Int.reduceAdd, Int.reduceSub, Int.reduceMul, Int.reduceBEq, Int.reduceEq, Int.reduceLT, Int.reduceLE, Int.reduceToNat, Int.reduceNeg, Int.reduceBNe, encLs, encFs, Fm.mark]
theorem fempty_spec (f : Fs) (k : Nat) (h1 : k < f.ck.fr.length) (h2 : k < f.pg.length) (hs : f.ck.fr.length ≤ 1000000 ∧ f.pg.length ≤ 1000000) (hl : Sh f) : Spec Try.prog 60 [.agg (encFs f), rI (k : Int)] (.val (.agg (encFs (Fm.empty f k)))) := by
  refine spec_val mixed fn60 (by simp) ?_
  unfold ac60
  have e := pg_getD h2
  simp -implicitDefEqProofs only [↓aP, aQ, ↓reduceIte, Nat.reduceEqDiff, Nat.reduceAdd, Nat.reduceSub, Nat.reduceMul, Nat.reduceLT, Nat.reduceLeDiff, reduceCtorEq, Nat.reduceBEq, forall_const, implies_true, exists_const, ne_eq, Int.reduceAdd, Int.reduceSub, Int.reduceMul, Int.reduceBEq, Int.reduceEq, Int.reduceLT, Int.reduceLE, Int.reduceToNat, Int.reduceNeg, Int.reduceBNe, encFs, askIdx_map, h2, encPg]
  refine ask (by have := lay_spec f k zF zP h1 h2 hs; rw [encFs] at this; exact this) ?_
  simp -implicitDefEqProofs only [↓aP, aQ, ↓reduceIte, Nat.reduceEqDiff, Nat.reduceAdd, Nat.reduceSub, Nat.reduceMul, Nat.reduceLT, Nat.reduceLeDiff, reduceCtorEq, Nat.reduceBEq, forall_const, implies_true, exists_const, ne_eq, Int.reduceAdd, Int.reduceSub, Int.reduceMul, Int.reduceBEq, Int.reduceEq, Int.reduceLT, Int.reduceLE, Int.reduceToNat, Int.reduceNeg, Int.reduceBNe, encFs, Fm.lay]
  refine ask (by have := tDel_spec f.tb f.pg[k].id; rw [encTa] at this; exact this) ?_
  simp -implicitDefEqProofs only [↓aP, aQ, ↓reduceIte, Nat.reduceEqDiff, Nat.reduceAdd, Nat.reduceSub, Nat.reduceMul, Nat.reduceLT, Nat.reduceLeDiff, reduceCtorEq, Nat.reduceBEq, forall_const, implies_true, exists_const, ne_eq, Int.reduceAdd, Int.reduceSub, Int.reduceMul, Int.reduceBEq, Int.reduceEq, Int.reduceLT, Int.reduceLE, Int.reduceToNat, Int.reduceNeg, Int.reduceBNe, encPut, encTa, encFs]
  refine ask (dClean_spec f.dt f.pg[k].id hl.2) ?_
  simp -implicitDefEqProofs only [↓aP, aQ, ↓reduceIte, Nat.reduceEqDiff, Nat.reduceAdd, Nat.reduceSub, Nat.reduceMul, Nat.reduceLT, Nat.reduceLeDiff, reduceCtorEq, Nat.reduceBEq, forall_const, implies_true, exists_const, ne_eq, Int.reduceAdd, Int.reduceSub, Int.reduceMul, Int.reduceBEq, Int.reduceEq, Int.reduceLT, Int.reduceLE, Int.reduceToNat, Int.reduceNeg, Int.reduceBNe, encLs, encFs, Fm.empty, e]
set_option maxRecDepth 100000 in
theorem funpin_spec (f : Fs) (id : Int) (hl : Sh f) : Spec Try.prog 23 [.agg (encFs f), rI id] (.val (.tup [(true, encFs (Fm.unpin f id).1), (false, [.pv (.int .i64 (Fm.unpin f id).2)])])) := by
  refine spec_val mixed fn23 (by simp) ?_
  unfold ac23
  simp -implicitDefEqProofs only [↓aP, aQ, ↓reduceIte, Nat.reduceEqDiff, Nat.reduceAdd, Nat.reduceSub, Nat.reduceMul, Nat.reduceLT, Nat.reduceLeDiff, reduceCtorEq, Nat.reduceBEq, forall_const, implies_true, exists_const, ne_eq, Int.reduceAdd, Int.reduceSub, Int.reduceMul, Int.reduceBEq, Int.reduceEq, Int.reduceLT, Int.reduceLE, Int.reduceToNat, Int.reduceNeg, Int.reduceBNe, encFs]
  refine ask (by have := flocate_spec f id hl; rw [encFs] at this; exact this) ?_
  by_cases h0 : (Fm.locate f id).2 = 0
  case neg =>
    have e : Fm.unpin f id = (f, (Fm.locate f id).2) := by unfold Fm.unpin; rw [if_pos h0]
    simp -implicitDefEqProofs only [↓aP, aQ, ↓reduceIte, Nat.reduceEqDiff, Nat.reduceAdd, Nat.reduceSub, Nat.reduceMul, Nat.reduceLT, Nat.reduceLeDiff, reduceCtorEq, Nat.reduceBEq, forall_const, implies_true, exists_const, ne_eq, Int.reduceAdd, Int.reduceSub, Int.reduceMul, Int.reduceBEq, Int.reduceEq, Int.reduceLT, Int.reduceLE, Int.reduceToNat, Int.reduceNeg, Int.reduceBNe, show ((Fm.locate f id).2 != 0) = true from bne_iff_ne.2 h0, e, encFs]
  obtain ⟨k, e1, k1, k2, hr, _, _, _⟩ := at_found h0
  have ht := rt_iff.1 hr
  obtain ⟨c8, _, _, cg⟩ := right_fr ht.clock
  have hs := ht.same
  have g1 := fr_getD k1
  have g2 := pg_getD k2
  have cgk := cg _ (List.getElem_mem k1)
  unfold Ck.good at cgk
  rw [decide_eq_true_iff] at cgk
  simp -implicitDefEqProofs only [↓aP, aQ, ↓reduceIte, Nat.reduceEqDiff, Nat.reduceAdd, Nat.reduceSub, Nat.reduceMul, Nat.reduceLT, Nat.reduceLeDiff, reduceCtorEq, Nat.reduceBEq, forall_const, implies_true, exists_const, ne_eq, Int.reduceAdd, Int.reduceSub, Int.reduceMul, Int.reduceBEq, Int.reduceEq, Int.reduceLT, Int.reduceLE, Int.reduceToNat, Int.reduceNeg, Int.reduceBNe, h0, bne_self_eq_false, e1, askIdx_map, k1, k2, encFr, encPg, encFs]
  by_cases hp : f.ck.fr[k].pins = 0
  · have e : Fm.unpin f id = (f, 12) := by unfold Fm.unpin; rw [if_neg (by simp [h0]), e1, if_pos (by rw [Int.toNat_natCast, g1]; exact hp)]
    simp -implicitDefEqProofs only [↓aP, aQ, ↓reduceIte, Nat.reduceEqDiff, Nat.reduceAdd, Nat.reduceSub, Nat.reduceMul, Nat.reduceLT, Nat.reduceLeDiff, reduceCtorEq, Nat.reduceBEq, forall_const, implies_true, exists_const, ne_eq, Int.reduceAdd, Int.reduceSub, Int.reduceMul, Int.reduceBEq, Int.reduceEq, Int.reduceLT, Int.reduceLE, Int.reduceToNat, Int.reduceNeg, Int.reduceBNe, hp, beq_self_eq_true, e, encFs]
  · have e : Fm.unpin f id = (Fm.lay f k ⟨f.ck.fr[k].page, f.ck.fr[k].pins - 1, f.ck.fr[k].used⟩ f.pg[k], 0) := by unfold Fm.unpin; rw [if_neg (by simp [h0]), e1, Int.toNat_natCast, g1, g2, if_neg hp]
    simp -implicitDefEqProofs only [↓aP, aQ, ↓reduceIte, Nat.reduceEqDiff, Nat.reduceAdd, Nat.reduceSub, Nat.reduceMul, Nat.reduceLT, Nat.reduceLeDiff, reduceCtorEq, Nat.reduceBEq, forall_const, implies_true, exists_const, ne_eq, Int.reduceAdd, Int.reduceSub, Int.reduceMul, Int.reduceBEq, Int.reduceEq, Int.reduceLT, Int.reduceLE, Int.reduceToNat, Int.reduceNeg, Int.reduceBNe, show (f.ck.fr[k].pins == 0) = false from beq_eq_false_iff_ne.2 hp, e, encFs, askIdx_map, k1, k2, encPg, show IntKind.i64.wrap (f.ck.fr[k].pins - 1) = f.ck.fr[k].pins - 1 from wrapI (by omega)]
    refine ask (by have := lay_spec f k ⟨f.ck.fr[k].page, f.ck.fr[k].pins - 1, f.ck.fr[k].used⟩ f.pg[k] k1 k2 (by omega); rw [encFs, encFr, encPg] at this; exact this) ?_
    simp -implicitDefEqProofs only [↓aP, aQ, ↓reduceIte, Nat.reduceEqDiff, Nat.reduceAdd, Nat.reduceSub, Nat.reduceMul, Nat.reduceLT, Nat.reduceLeDiff, reduceCtorEq, Nat.reduceBEq, forall_const, implies_true, exists_const, ne_eq, Int.reduceAdd, Int.reduceSub, Int.reduceMul, Int.reduceBEq, Int.reduceEq, Int.reduceLT, Int.reduceLE, Int.reduceToNat, Int.reduceNeg, Int.reduceBNe, encFs]
    decide +kernel
end Go.Proofs.Ytcindpblgbpcoaa
