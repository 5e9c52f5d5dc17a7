/- layer 4: the law DeviceOrder. -/
import Derived.Test.YtmknfchmnangbaaV8
namespace Go.Proofs.Ytmknfchmnangbaa
open Go.RowKit
set_option linter.unusedVariables false
set_option linter.unusedSimpArgs false
theorem putD_len {d : Dk} {w : Wr} : (putD d w).1.sectors.length = d.sectors.length := by
  unfold putD; split
  · rfl
  split <;> rfl
theorem doV_len {d : Dk} {r : Rq} : (doV d r).1.sectors.length = d.sectors.length := by
  unfold doV
  split
  · rfl
  split
  · show (writeD d r.page r.data).1.sectors.length = _
    unfold writeD
    split
    · rw [putD_len, putD_len]
    · rw [putD_len]
  · show (syncD d).sectors.length = _
    unfold syncD
    split
    · exact doneS_len _ _
    · rfl
theorem okF_low {next : Int} : ∀ {l : List Rq} {last last' : Int}, okF next last l = true → last' ≤ last → okF next last' l = true
  | [], _, _, _, _ => rfl
  | x :: xs, last, last', h, hl => by
    simp only [okF, Bool.and_eq_true, decide_eq_true_eq] at h ⊢
    exact ⟨⟨⟨by omega, h.1.1.2⟩, h.1.2⟩, h.2⟩
theorem putD_err {d : Dk} {w : Wr} (h : rightB d = true) (hf : fitsB d w = true) : (putD d w).2 = 0 ∨ (putD d w).2 = 7 := by
  unfold putD
  rw [h, hf]
  simp only [Bool.not_true, Bool.or_self, Bool.false_eq_true, if_false]
  split
  · exact .inr rfl
  · exact .inl rfl
theorem doV_err {d : Dk} {r : Rq} (h : rightB d = true) (h35 : 35 ≤ d.sectors.length) (hB : isB r.kind r.page r.data = true) : (doV d r).2.2 = 0 ∨ (doV d r).2.2 = 7 := by
  unfold doV
  rcases isB_cases hB with ⟨hk, q1, q2⟩ | ⟨hk, q1, q2, q3⟩ | ⟨hk, q1⟩
  · rw [if_pos hk]; exact .inl rfl
  · rw [if_neg (by omega), if_pos hk]
    show (writeD d r.page r.data).2 = 0 ∨ (writeD d r.page r.data).2 = 7
    have f1 : fitsB d ⟨2 * r.page + 1, r.data.extract 0 16⟩ = true := by simp [fitsB, hasB]; omega
    unfold writeD
    split
    · refine putD_err (putD_right h) ?_
      simp [fitsB, hasB, putD_len]; omega
    · exact putD_err h f1
  · rw [if_neg (by omega), if_neg (by omega)]; exact .inl rfl
theorem doV_same {d : Dk} {r : Rq} : (doV d r).2.1.ticket = r.ticket := by
  unfold doV
  split
  · rfl
  split <;> rfl
/-- the first one is finished -/
theorem finish_first {d : Dv} {r : Rq} {rs : List Rq} (f : Bool) (hr : rightV d = true) (hf : d.flight = r :: rs) :
    ∃ D R e, finishV d 0 f = (D, R, e) ∧ rightV D = true ∧ D.flight = rs ∧ D.next = d.next ∧ R.ticket = r.ticket ∧ (e = 8 ∨ e = 0 ∨ e = 7) := by
  obtain ⟨h1, h2, h3, h4, h5, h6⟩ := rightV_len hr
  rw [hf] at h5 h6
  simp only [okF, Bool.and_eq_true, decide_eq_true_eq] at h6
  have hok : okF d.next (-1) rs = true := okF_low h6.2 (by omega)
  have mk : ∀ k : Dk, rightB k = true → 35 ≤ k.sectors.length → rightV ⟨k, d.next, rs⟩ = true := fun k k1 k2 => by
    simp only [rightV, Bool.and_eq_true, decide_eq_true_eq]
    simp at h5
    exact ⟨⟨⟨⟨⟨k1, k2⟩, h3⟩, h4⟩, by omega⟩, hok⟩
  have hfin : finishV d 0 f = if f then (⟨d.disk, d.next, rs⟩, r, 8) else (⟨(doV d.disk r).1, d.next, rs⟩, (doV d.disk r).2.1, (doV d.disk r).2.2) := by
    unfold finishV
    rw [dif_pos ⟨hr, by omega, by rw [hf]; simp⟩]
    simp [hf]
  cases f
  · refine ⟨_, _, _, hfin.trans (if_neg (by simp)), mk _ (doV_right h1) (by rw [doV_len]; exact h2), rfl, rfl, doV_same, .inr (doV_err h1 h2 h6.1.2)⟩
  · exact ⟨_, _, _, hfin.trans (if_pos rfl), mk _ h1 h2, rfl, rfl, rfl, .inl rfl⟩

set_option maxRecDepth 100000 in
theorem deviceOrder_spec (d : Dv) (fs : Int) : Spec Try.prog 14 [.agg (encDv d), .c (.pv (.int .u8 fs))] (.val (rB true)) := by
  refine spec_val mixed fn14 (by simp) ?_
  unfold ac14
  simp -implicitDefEqProofs only [↓aP, aQ, ↓reduceIte, Nat.reduceEqDiff, Nat.reduceAdd, Nat.reduceSub, Nat.reduceMul, Nat.reduceLT, Nat.reduceLeDiff, reduceCtorEq, Nat.reduceBEq, forall_const, implies_true, exists_const, ne_eq, Int.reduceAdd, Int.reduceSub, Int.reduceMul, Int.reduceBEq, Int.reduceEq, Int.reduceLT, Int.reduceLE, Int.reduceToNat, Int.reduceNeg, Int.reduceBNe, encDv]
  refine ask (ref_spec d) ?_
  cases ho : okV d
  · simp -implicitDefEqProofs only [↓aP, aQ, ↓reduceIte, Nat.reduceEqDiff, Nat.reduceAdd, Nat.reduceSub, Nat.reduceMul, Nat.reduceLT, Nat.reduceLeDiff, reduceCtorEq, Nat.reduceBEq, forall_const, implies_true, exists_const, ne_eq, Int.reduceAdd, Int.reduceSub, Int.reduceMul, Int.reduceBEq, Int.reduceEq, Int.reduceLT, Int.reduceLE, Int.reduceToNat, Int.reduceNeg, Int.reduceBNe, encRef, encDv, refV_no ho]
    refine ask awakeV_spec ?_
    simp -implicitDefEqProofs only [↓aP, aQ, ↓reduceIte, Nat.reduceEqDiff, Nat.reduceAdd, Nat.reduceSub, Nat.reduceMul, Nat.reduceLT, Nat.reduceLeDiff, reduceCtorEq, Nat.reduceBEq, forall_const, implies_true, exists_const, ne_eq, Int.reduceAdd, Int.reduceSub, Int.reduceMul, Int.reduceBEq, Int.reduceEq, Int.reduceLT, Int.reduceLE, Int.reduceToNat, Int.reduceNeg, Int.reduceBNe]
  rw [refV_ok ho]
  simp -implicitDefEqProofs only [↓aP, aQ, ↓reduceIte, Nat.reduceEqDiff, Nat.reduceAdd, Nat.reduceSub, Nat.reduceMul, Nat.reduceLT, Nat.reduceLeDiff, reduceCtorEq, Nat.reduceBEq, forall_const, implies_true, exists_const, ne_eq, Int.reduceAdd, Int.reduceSub, Int.reduceMul, Int.reduceBEq, Int.reduceEq, Int.reduceLT, Int.reduceLE, Int.reduceToNat, Int.reduceNeg, Int.reduceBNe, encRef, encDv]
  refine ask (refRightV_spec d) ?_
  cases hr : rightV d
  · simp -implicitDefEqProofs only [↓aP, aQ, ↓reduceIte, Nat.reduceEqDiff, Nat.reduceAdd, Nat.reduceSub, Nat.reduceMul, Nat.reduceLT, Nat.reduceLeDiff, reduceCtorEq, Nat.reduceBEq, forall_const, implies_true, exists_const, ne_eq, Int.reduceAdd, Int.reduceSub, Int.reduceMul, Int.reduceBEq, Int.reduceEq, Int.reduceLT, Int.reduceLE, Int.reduceToNat, Int.reduceNeg, Int.reduceBNe]
    refine ask awakeV_spec ?_
    simp -implicitDefEqProofs only [↓aP, aQ, ↓reduceIte, Nat.reduceEqDiff, Nat.reduceAdd, Nat.reduceSub, Nat.reduceMul, Nat.reduceLT, Nat.reduceLeDiff, reduceCtorEq, Nat.reduceBEq, forall_const, implies_true, exists_const, ne_eq, Int.reduceAdd, Int.reduceSub, Int.reduceMul, Int.reduceBEq, Int.reduceEq, Int.reduceLT, Int.reduceLE, Int.reduceToNat, Int.reduceNeg, Int.reduceBNe]
  obtain ⟨h1, h2, h3, h4, h5, h6⟩ := rightV_len hr
  simp -implicitDefEqProofs only [↓aP, aQ, ↓reduceIte, Nat.reduceEqDiff, Nat.reduceAdd, Nat.reduceSub, Nat.reduceMul, Nat.reduceLT, Nat.reduceLeDiff, reduceCtorEq, Nat.reduceBEq, forall_const, implies_true, exists_const, ne_eq, Int.reduceAdd, Int.reduceSub, Int.reduceMul, Int.reduceBEq, Int.reduceEq, Int.reduceLT, Int.reduceLE, Int.reduceToNat, Int.reduceNeg, Int.reduceBNe, encDv]
  refine rangeB d.flight.length (fun i σ => ∃ (D : Dv) (last : Int), rightV D = true ∧ D.flight = d.flight.drop i ∧ okF D.next last D.flight = true ∧ σ.slot 1 = .c (.s (.pv (.int .u8 fs))) ∧ σ.slot 2 = .c (.ptr 2 1 0 0) ∧ σ.h.gen 2 = 1 ∧ σ.h.blk 2 = .box 50 4 [(encDv D).map AC.s] ∧ σ.slot 7 = vI last ∧ σ.slot 32 = vI d.flight.length ∧ σ.slot 33 = vI i) ?_ ?_ ?_
  · simp -implicitDefEqProofs only [↓aP, aQ, ↓reduceIte, Nat.reduceEqDiff, Nat.reduceAdd, Nat.reduceSub, Nat.reduceMul, Nat.reduceLT, Nat.reduceLeDiff, reduceCtorEq, Nat.reduceBEq, forall_const, implies_true, exists_const, ne_eq, Int.reduceAdd, Int.reduceSub, Int.reduceMul, Int.reduceBEq, Int.reduceEq, Int.reduceLT, Int.reduceLE, Int.reduceToNat, Int.reduceNeg, Int.reduceBNe]
    exact ⟨d, -1, hr, rfl, h6, rfl, rfl⟩
  · rintro i m σ him hi hlt ⟨D, last, hD, hfl, hok, s1, s2, g2, b2, s7, s32, s33⟩
    simp only [encDv] at b2
    rw [drop_cons hi] at hfl
    rw [hfl] at hok
    simp only [okF, Bool.and_eq_true, decide_eq_true_eq] at hok
    simp -implicitDefEqProofs only [↓aP, aQ, ↓reduceIte, Nat.reduceEqDiff, Nat.reduceAdd, Nat.reduceSub, Nat.reduceMul, Nat.reduceLT, Nat.reduceLeDiff, reduceCtorEq, Nat.reduceBEq, forall_const, implies_true, exists_const, ne_eq, Int.reduceAdd, Int.reduceSub, Int.reduceMul, Int.reduceBEq, Int.reduceEq, Int.reduceLT, Int.reduceLE, Int.reduceToNat, Int.reduceNeg, Int.reduceBNe, hlt, s1, s2, g2, b2, s7, s32, s33, encDv]
    generalize ((IntKind.u8.wrap _) == (1 : Int)) = f
    obtain ⟨D', R, e, hfin, q1, q2, q3, q4, q5⟩ := finish_first f hD hfl
    have t1 := finish_spec D 0 f
    rw [hfin] at t1
    have c1 : decide (R.ticket ≤ last) = false := by rw [decide_eq_false_iff_not, q4]; omega
    have c2 : (e == 1) = false := by rw [beq_eq_false_iff_ne]; omega
    refine ask t1 ?_
    simp -implicitDefEqProofs only [↓aP, aQ, ↓reduceIte, Nat.reduceEqDiff, Nat.reduceAdd, Nat.reduceSub, Nat.reduceMul, Nat.reduceLT, Nat.reduceLeDiff, reduceCtorEq, Nat.reduceBEq, forall_const, implies_true, exists_const, ne_eq, Int.reduceAdd, Int.reduceSub, Int.reduceMul, Int.reduceBEq, Int.reduceEq, Int.reduceLT, Int.reduceLE, Int.reduceToNat, Int.reduceNeg, Int.reduceBNe, encFin, encDv, encRq, c1, c2]
    refine ⟨by decide +kernel, ?_⟩
    simp -implicitDefEqProofs only [↓aP, aQ, ↓reduceIte, Nat.reduceEqDiff, Nat.reduceAdd, Nat.reduceSub, Nat.reduceMul, Nat.reduceLT, Nat.reduceLeDiff, reduceCtorEq, Nat.reduceBEq, forall_const, implies_true, exists_const, ne_eq, Int.reduceAdd, Int.reduceSub, Int.reduceMul, Int.reduceBEq, Int.reduceEq, Int.reduceLT, Int.reduceLE, Int.reduceToNat, Int.reduceNeg, Int.reduceBNe, encFin, encDv, encRq, c1, c2, wrapS (show i < 4611686018427387904 by omega), s1, s2, g2, b2, s7, s32, s33]
    refine ⟨by decide +kernel, nextR hi him ⟨D', R.ticket, q1, q2, by rw [q2, q3, q4]; exact hok.2, ?_⟩⟩
    simp -implicitDefEqProofs only [↓aP, aQ, ↓reduceIte, Nat.reduceEqDiff, Nat.reduceAdd, Nat.reduceSub, Nat.reduceMul, Nat.reduceLT, Nat.reduceLeDiff, reduceCtorEq, Nat.reduceBEq, forall_const, implies_true, exists_const, ne_eq, Int.reduceAdd, Int.reduceSub, Int.reduceMul, Int.reduceBEq, Int.reduceEq, Int.reduceLT, Int.reduceLE, Int.reduceToNat, Int.reduceNeg, Int.reduceBNe, s1, s2, g2, b2, s7, s32, s33, encDv]
  · rintro m σ hlt ⟨D, last, hD, hfl, hok, s1, s2, g2, b2, s7, s32, s33⟩
    rw [List.drop_length] at hfl
    simp only [encDv] at b2
    have t1 := finish_spec D 0 false
    rw [show finishV D 0 false = (D, noRq, 1) by unfold finishV; rw [dif_neg (by rw [hfl]; simp)]] at t1
    simp -implicitDefEqProofs only [↓aP, aQ, ↓reduceIte, Nat.reduceEqDiff, Nat.reduceAdd, Nat.reduceSub, Nat.reduceMul, Nat.reduceLT, Nat.reduceLeDiff, reduceCtorEq, Nat.reduceBEq, forall_const, implies_true, exists_const, ne_eq, Int.reduceAdd, Int.reduceSub, Int.reduceMul, Int.reduceBEq, Int.reduceEq, Int.reduceLT, Int.reduceLE, Int.reduceToNat, Int.reduceNeg, Int.reduceBNe, hlt, s1, s2, g2, b2, s7, s32, s33, encDv]
    refine ask t1 ?_
    simp -implicitDefEqProofs only [↓aP, aQ, ↓reduceIte, Nat.reduceEqDiff, Nat.reduceAdd, Nat.reduceSub, Nat.reduceMul, Nat.reduceLT, Nat.reduceLeDiff, reduceCtorEq, Nat.reduceBEq, forall_const, implies_true, exists_const, ne_eq, Int.reduceAdd, Int.reduceSub, Int.reduceMul, Int.reduceBEq, Int.reduceEq, Int.reduceLT, Int.reduceLE, Int.reduceToNat, Int.reduceNeg, Int.reduceBNe, encFin, encDv, encRq, noRq, hfl, s1, s2, g2, b2, s7, s32, s33]
    refine ask awakeV_spec ?_
    simp -implicitDefEqProofs only [↓aP, aQ, ↓reduceIte, Nat.reduceEqDiff, Nat.reduceAdd, Nat.reduceSub, Nat.reduceMul, Nat.reduceLT, Nat.reduceLeDiff, reduceCtorEq, Nat.reduceBEq, forall_const, implies_true, exists_const, ne_eq, Int.reduceAdd, Int.reduceSub, Int.reduceMul, Int.reduceBEq, Int.reduceEq, Int.reduceLT, Int.reduceLE, Int.reduceToNat, Int.reduceNeg, Int.reduceBNe]
theorem deviceOrder_walk {w : World} (v0 : Value) (a0 : ∃ x : Dv, RepT (RepS w fun _ => False) (.agg (encDv x)) v0) (a : Int) (ha : (Lit.int .u8 a).wf = true) :
    Calls Try.prog 14 #[v0, .int .u8 a] w fun e w' => e = .returned (.bool true) ∧ Below w.heap.size w w' := by
  obtain ⟨d, h0⟩ := a0
  exact (deviceOrder_spec d a).plain (us := [v0, .int .u8 a]) (.cons h0 (.cons (.pv rfl) .nil))
end Go.Proofs.Ytmknfchmnangbaa
