/- layer 4: the law DeviceFinishes. -/
import Derived.Test.YtmknfchmnangbaaV6
namespace Go.Proofs.Ytmknfchmnangbaa
open Go.RowKit
set_option linter.unusedVariables false
set_option linter.unusedSimpArgs false
theorem right_small {d : Dk} (h : rightB d = true) : smallB d = true := by
  have h1 := right_len h
  have h2 := right_16 h
  have h3 := right_fits h
  simp only [smallB, Bool.and_eq_true, decide_eq_true_eq, List.all_eq_true]
  rw [List.all_eq_true] at h2
  refine ⟨⟨by omega, fun x hx => ?_⟩, fun x hx => ?_⟩
  · have := h2 x hx
    simp [len16] at this
    simp [le40]; omega
  · have := (fits_has (h3 x hx)).2
    simp [le40]; omega
theorem putD_right {d : Dk} {w : Wr} (h : rightB d = true) : rightB (putD d w).1 = true := by
  by_cases hf : fitsB d w = true ∧ d.cache.length ≠ 200
  · rw [put_ok h hf.1 hf.2]; exact right_put h hf.1 hf.2
  · rw [(put_no h hf).1]; exact h
theorem writeD_right {d : Dk} {p : Int} {s : ByteArray} (h : rightB d = true) : rightB (writeD d p s).1 = true := by
  unfold writeD
  split
  · exact putD_right (putD_right h)
  · exact putD_right h
theorem syncD_right {d : Dk} (h : rightB d = true) : rightB (syncD d) = true := by
  rw [show syncD d = doneD d d.cache by simp [syncD, h]]
  exact right_done h _ (right_fits h)
theorem crashD_right {d : Dk} {keep : List Int} (h : rightB d = true) : rightB (crashD d keep) = true := by
  rw [show crashD d keep = doneD d (keptW d.cache (marks d.cache.length keep)) by simp [crashD, h]]
  exact right_done h _ (fun w hw => right_fits h w (keptW_sub hw))
theorem doV_right {d : Dk} {r : Rq} (h : rightB d = true) : rightB (doV d r).1 = true := by
  unfold doV
  split
  · exact h
  split
  · exact writeD_right h
  · exact syncD_right h
theorem ok_finish {d : Dv} {i : Int} {f : Bool} (h : okV d = true) : okV (finishV d i f).1 = true := by
  unfold finishV
  split
  · rename_i hr
    have h2 := (rightV_len hr.1).1
    have h3 := okV_len h
    have hl : (d.flight.eraseIdx i.toNat).length ≤ 20 := Nat.le_trans (List.length_eraseIdx_le ..) h3.2.2.1
    have hs : ∀ r ∈ d.flight.eraseIdx i.toNat, shortB r = true := fun r hr => h3.2.2.2 r (List.mem_of_mem_eraseIdx hr)
    split
    · exact okV_mk h (okV_small h) hl hs
    · exact okV_mk h (right_small (doV_right h2)) hl hs
  · exact h
theorem ok_crash {d : Dv} {keep : List Int} (h : okV d = true) : okV (crashV d keep) = true := by
  unfold crashV
  split
  · rename_i hr
    exact okV_mk h (right_small (crashD_right (rightV_len hr).1)) (by simp) (by simp)
  · exact h
theorem deviceFinishes_spec (d : Dv) (i : Int) (f : Bool) (keep : List Int) : Spec Try.prog 11 [.agg (encDv d), rI i, rB f, rL 1 (keep.map encI)] (.val (rB true)) := by
  refine spec_val mixed fn11 (by simp) ?_
  unfold ac11
  simp -implicitDefEqProofs only [↓aP, aQ, ↓reduceIte, Nat.reduceEqDiff, Nat.reduceAdd, Nat.reduceSub, Nat.reduceMul, Nat.reduceLT, Nat.reduceLeDiff, reduceCtorEq, Nat.reduceBEq, forall_const, implies_true, exists_const, ne_eq, Int.reduceAdd, Int.reduceSub, Int.reduceMul, Int.reduceBEq, Int.reduceEq, Int.reduceLT, Int.reduceLE, Int.reduceToNat, Int.reduceNeg, Int.reduceBNe, encDv]
  refine ask (ref_spec d) ?_
  cases ho : okV d
  · simp -implicitDefEqProofs only [↓aP, aQ, ↓reduceIte, Nat.reduceEqDiff, Nat.reduceAdd, Nat.reduceSub, Nat.reduceMul, Nat.reduceLT, Nat.reduceLeDiff, reduceCtorEq, Nat.reduceBEq, forall_const, implies_true, exists_const, ne_eq, Int.reduceAdd, Int.reduceSub, Int.reduceMul, Int.reduceBEq, Int.reduceEq, Int.reduceLT, Int.reduceLE, Int.reduceToNat, Int.reduceNeg, Int.reduceBNe, encRef, encDv, refV_no ho]
    refine ask awakeV_spec ?_
    simp -implicitDefEqProofs only [↓aP, aQ, ↓reduceIte, Nat.reduceEqDiff, Nat.reduceAdd, Nat.reduceSub, Nat.reduceMul, Nat.reduceLT, Nat.reduceLeDiff, reduceCtorEq, Nat.reduceBEq, forall_const, implies_true, exists_const, ne_eq, Int.reduceAdd, Int.reduceSub, Int.reduceMul, Int.reduceBEq, Int.reduceEq, Int.reduceLT, Int.reduceLE, Int.reduceToNat, Int.reduceNeg, Int.reduceBNe]
  rw [refV_ok ho]
  simp -implicitDefEqProofs only [↓aP, aQ, ↓reduceIte, Nat.reduceEqDiff, Nat.reduceAdd, Nat.reduceSub, Nat.reduceMul, Nat.reduceLT, Nat.reduceLeDiff, reduceCtorEq, Nat.reduceBEq, forall_const, implies_true, exists_const, ne_eq, Int.reduceAdd, Int.reduceSub, Int.reduceMul, Int.reduceBEq, Int.reduceEq, Int.reduceLT, Int.reduceLE, Int.reduceToNat, Int.reduceNeg, Int.reduceBNe, encRef, encDv]
  refine fork ?_ ?_ <;> intro h220
  · simp -implicitDefEqProofs only [↓aP, aQ, ↓reduceIte, Nat.reduceEqDiff, Nat.reduceAdd, Nat.reduceSub, Nat.reduceMul, Nat.reduceLT, Nat.reduceLeDiff, reduceCtorEq, Nat.reduceBEq, forall_const, implies_true, exists_const, ne_eq, Int.reduceAdd, Int.reduceSub, Int.reduceMul, Int.reduceBEq, Int.reduceEq, Int.reduceLT, Int.reduceLE, Int.reduceToNat, Int.reduceNeg, Int.reduceBNe]
    refine ask awakeV_spec ?_
    simp -implicitDefEqProofs only [↓aP, aQ, ↓reduceIte, Nat.reduceEqDiff, Nat.reduceAdd, Nat.reduceSub, Nat.reduceMul, Nat.reduceLT, Nat.reduceLeDiff, reduceCtorEq, Nat.reduceBEq, forall_const, implies_true, exists_const, ne_eq, Int.reduceAdd, Int.reduceSub, Int.reduceMul, Int.reduceBEq, Int.reduceEq, Int.reduceLT, Int.reduceLE, Int.reduceToNat, Int.reduceNeg, Int.reduceBNe]
  have h220' := t_df h220
  obtain ⟨a, r, e, ha⟩ : ∃ a n e, finishV d i f = (a, n, e) := ⟨_, _, _, rfl⟩
  have hoa := ok_finish (i := i) (f := f) ho
  have hoc := ok_crash (keep := keep) ho
  have t1 := finish_spec d i f
  have t2 := refFinish_spec d i f
  rw [ha] at t1 t2 hoa
  have t3 := ref_spec a
  rw [refV_ok hoa] at t3
  have t4 := ref_spec (crashV d keep)
  rw [refV_ok hoc] at t4
  have t5 := okV_same hoc
  simp -implicitDefEqProofs only [↓aP, aQ, ↓reduceIte, Nat.reduceEqDiff, Nat.reduceAdd, Nat.reduceSub, Nat.reduceMul, Nat.reduceLT, Nat.reduceLeDiff, reduceCtorEq, Nat.reduceBEq, forall_const, implies_true, exists_const, ne_eq, Int.reduceAdd, Int.reduceSub, Int.reduceMul, Int.reduceBEq, Int.reduceEq, Int.reduceLT, Int.reduceLE, Int.reduceToNat, Int.reduceNeg, Int.reduceBNe, encRef, encDv]
  refine ask t1 ?_
  simp -implicitDefEqProofs only [↓aP, aQ, ↓reduceIte, Nat.reduceEqDiff, Nat.reduceAdd, Nat.reduceSub, Nat.reduceMul, Nat.reduceLT, Nat.reduceLeDiff, reduceCtorEq, Nat.reduceBEq, forall_const, implies_true, exists_const, ne_eq, Int.reduceAdd, Int.reduceSub, Int.reduceMul, Int.reduceBEq, Int.reduceEq, Int.reduceLT, Int.reduceLE, Int.reduceToNat, Int.reduceNeg, Int.reduceBNe, encFin, encDv, encRq]
  refine ask t2 ?_
  simp -implicitDefEqProofs only [↓aP, aQ, ↓reduceIte, Nat.reduceEqDiff, Nat.reduceAdd, Nat.reduceSub, Nat.reduceMul, Nat.reduceLT, Nat.reduceLeDiff, reduceCtorEq, Nat.reduceBEq, forall_const, implies_true, exists_const, ne_eq, Int.reduceAdd, Int.reduceSub, Int.reduceMul, Int.reduceBEq, Int.reduceEq, Int.reduceLT, Int.reduceLE, Int.reduceToNat, Int.reduceNeg, Int.reduceBNe, encFin, encDv, encRq]
  refine ask t3 ?_
  simp -implicitDefEqProofs only [↓aP, aQ, ↓reduceIte, Nat.reduceEqDiff, Nat.reduceAdd, Nat.reduceSub, Nat.reduceMul, Nat.reduceLT, Nat.reduceLeDiff, reduceCtorEq, Nat.reduceBEq, forall_const, implies_true, exists_const, ne_eq, Int.reduceAdd, Int.reduceSub, Int.reduceMul, Int.reduceBEq, Int.reduceEq, Int.reduceLT, Int.reduceLE, Int.reduceToNat, Int.reduceNeg, Int.reduceBNe, encRef, encDv]
  refine ask (okV_same hoa) ?_
  simp -implicitDefEqProofs only [↓aP, aQ, ↓reduceIte, Nat.reduceEqDiff, Nat.reduceAdd, Nat.reduceSub, Nat.reduceMul, Nat.reduceLT, Nat.reduceLeDiff, reduceCtorEq, Nat.reduceBEq, forall_const, implies_true, exists_const, ne_eq, Int.reduceAdd, Int.reduceSub, Int.reduceMul, Int.reduceBEq, Int.reduceEq, Int.reduceLT, Int.reduceLE, Int.reduceToNat, Int.reduceNeg, Int.reduceBNe, encDv]
  refine askEq (eq_rq r) ?_
  simp -implicitDefEqProofs only [↓aP, aQ, ↓reduceIte, Nat.reduceEqDiff, Nat.reduceAdd, Nat.reduceSub, Nat.reduceMul, Nat.reduceLT, Nat.reduceLeDiff, reduceCtorEq, Nat.reduceBEq, forall_const, implies_true, exists_const, ne_eq, Int.reduceAdd, Int.reduceSub, Int.reduceMul, Int.reduceBEq, Int.reduceEq, Int.reduceLT, Int.reduceLE, Int.reduceToNat, Int.reduceNeg, Int.reduceBNe]
  refine ask (dvcrash_spec d keep (by omega)) ?_
  simp -implicitDefEqProofs only [↓aP, aQ, ↓reduceIte, Nat.reduceEqDiff, Nat.reduceAdd, Nat.reduceSub, Nat.reduceMul, Nat.reduceLT, Nat.reduceLeDiff, reduceCtorEq, Nat.reduceBEq, forall_const, implies_true, exists_const, ne_eq, Int.reduceAdd, Int.reduceSub, Int.reduceMul, Int.reduceBEq, Int.reduceEq, Int.reduceLT, Int.reduceLE, Int.reduceToNat, Int.reduceNeg, Int.reduceBNe, encDv]
  refine ask t4 ?_
  simp -implicitDefEqProofs only [↓aP, aQ, ↓reduceIte, Nat.reduceEqDiff, Nat.reduceAdd, Nat.reduceSub, Nat.reduceMul, Nat.reduceLT, Nat.reduceLeDiff, reduceCtorEq, Nat.reduceBEq, forall_const, implies_true, exists_const, ne_eq, Int.reduceAdd, Int.reduceSub, Int.reduceMul, Int.reduceBEq, Int.reduceEq, Int.reduceLT, Int.reduceLE, Int.reduceToNat, Int.reduceNeg, Int.reduceBNe, encRef, encDv]
  refine ask (refRightV_spec d) ?_
  cases hr : rightV d
  · have hc : crashV d keep = d := by simp [crashV, hr]
    rw [hc] at t5 ⊢
    simp -implicitDefEqProofs only [↓aP, aQ, ↓reduceIte, Nat.reduceEqDiff, Nat.reduceAdd, Nat.reduceSub, Nat.reduceMul, Nat.reduceLT, Nat.reduceLeDiff, reduceCtorEq, Nat.reduceBEq, forall_const, implies_true, exists_const, ne_eq, Int.reduceAdd, Int.reduceSub, Int.reduceMul, Int.reduceBEq, Int.reduceEq, Int.reduceLT, Int.reduceLE, Int.reduceToNat, Int.reduceNeg, Int.reduceBNe, encDv]
    refine ask t5 ?_
    simp -implicitDefEqProofs only [↓aP, aQ, ↓reduceIte, Nat.reduceEqDiff, Nat.reduceAdd, Nat.reduceSub, Nat.reduceMul, Nat.reduceLT, Nat.reduceLeDiff, reduceCtorEq, Nat.reduceBEq, forall_const, implies_true, exists_const, ne_eq, Int.reduceAdd, Int.reduceSub, Int.reduceMul, Int.reduceBEq, Int.reduceEq, Int.reduceLT, Int.reduceLE, Int.reduceToNat, Int.reduceNeg, Int.reduceBNe]
    refine ask awakeV_spec ?_
    simp -implicitDefEqProofs only [↓aP, aQ, ↓reduceIte, Nat.reduceEqDiff, Nat.reduceAdd, Nat.reduceSub, Nat.reduceMul, Nat.reduceLT, Nat.reduceLeDiff, reduceCtorEq, Nat.reduceBEq, forall_const, implies_true, exists_const, ne_eq, Int.reduceAdd, Int.reduceSub, Int.reduceMul, Int.reduceBEq, Int.reduceEq, Int.reduceLT, Int.reduceLE, Int.reduceToNat, Int.reduceNeg, Int.reduceBNe]
  · have hc : crashV d keep = ⟨crashD d.disk keep, d.next, []⟩ := by simp [crashV, hr]
    rw [hc] at t5 ⊢
    simp -implicitDefEqProofs only [↓aP, aQ, ↓reduceIte, Nat.reduceEqDiff, Nat.reduceAdd, Nat.reduceSub, Nat.reduceMul, Nat.reduceLT, Nat.reduceLeDiff, reduceCtorEq, Nat.reduceBEq, forall_const, implies_true, exists_const, ne_eq, Int.reduceAdd, Int.reduceSub, Int.reduceMul, Int.reduceBEq, Int.reduceEq, Int.reduceLT, Int.reduceLE, Int.reduceToNat, Int.reduceNeg, Int.reduceBNe, encDv]
    refine ask (refCrash_spec d.disk keep (rightV_len hr).1 (by omega)) ?_
    simp -implicitDefEqProofs only [↓aP, aQ, ↓reduceIte, Nat.reduceEqDiff, Nat.reduceAdd, Nat.reduceSub, Nat.reduceMul, Nat.reduceLT, Nat.reduceLeDiff, reduceCtorEq, Nat.reduceBEq, forall_const, implies_true, exists_const, ne_eq, Int.reduceAdd, Int.reduceSub, Int.reduceMul, Int.reduceBEq, Int.reduceEq, Int.reduceLT, Int.reduceLE, Int.reduceToNat, Int.reduceNeg, Int.reduceBNe, encDk]
    refine ⟨by decide +kernel, ?_⟩
    refine askS t5 (by simp [asim, tsim, encDv, simL]) ?_
    simp -implicitDefEqProofs only [↓aP, aQ, ↓reduceIte, Nat.reduceEqDiff, Nat.reduceAdd, Nat.reduceSub, Nat.reduceMul, Nat.reduceLT, Nat.reduceLeDiff, reduceCtorEq, Nat.reduceBEq, forall_const, implies_true, exists_const, ne_eq, Int.reduceAdd, Int.reduceSub, Int.reduceMul, Int.reduceBEq, Int.reduceEq, Int.reduceLT, Int.reduceLE, Int.reduceToNat, Int.reduceNeg, Int.reduceBNe]
    refine ask awakeV_spec ?_
    simp -implicitDefEqProofs only [↓aP, aQ, ↓reduceIte, Nat.reduceEqDiff, Nat.reduceAdd, Nat.reduceSub, Nat.reduceMul, Nat.reduceLT, Nat.reduceLeDiff, reduceCtorEq, Nat.reduceBEq, forall_const, implies_true, exists_const, ne_eq, Int.reduceAdd, Int.reduceSub, Int.reduceMul, Int.reduceBEq, Int.reduceEq, Int.reduceLT, Int.reduceLE, Int.reduceToNat, Int.reduceNeg, Int.reduceBNe]
theorem deviceFinishes_walk {w : World} (v0 : Value) (a0 : ∃ x : Dv, RepT (RepS w fun _ => False) (.agg (encDv x)) v0) (a : Int) (ha : (Lit.int .i64 a).wf = true) (b : Bool) (v1 : Value) (a1 : ∃ l : List Int, RepT (RepS w fun _ => False) (rL 1 (l.map encI)) v1 ∧ ∀ a ∈ l, (Lit.int .i64 a).wf = true) :
    Calls Try.prog 11 #[v0, .int .i64 a, .bool b, v1] w fun e w' => e = .returned (.bool true) ∧ Below w.heap.size w w' := by
  obtain ⟨d, h0⟩ := a0
  obtain ⟨l, h1, _⟩ := a1
  exact (deviceFinishes_spec d a b l).plain (us := [v0, .int .i64 a, .bool b, v1]) (.cons h0 (.cons (.pv rfl) (.cons (.pv rfl) (.cons h1 .nil))))
end Go.Proofs.Ytmknfchmnangbaa
