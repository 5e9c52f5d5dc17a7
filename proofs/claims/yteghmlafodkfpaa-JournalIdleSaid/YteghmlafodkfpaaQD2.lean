import Derived.Test.YteghmlafodkfpaaQD1
namespace Go.Proofs.Yteghmlafodkfpaa
open Go.RowKit
set_option linter.unusedVariables false
set_option linter.unusedSimpArgs false

theorem done_spec (d : Dk) (ws : List Wr) (hd : d.sectors.length ≤ 64) (hw : ws.length ≤ 200) (hf : ∀ w ∈ ws, hasB d w.at_ = true) :
    Spec Try.prog 89 [.agg (encDk d), rL 2 (ws.map encWr)] (.val (.agg (encDk (doneD d ws)))) := by
  refine spec_val mixed fn89 (by simp) ?_
  unfold ac89
  simp -implicitDefEqProofs only [↓aP, aQ, ↓reduceIte, Nat.reduceEqDiff, Nat.reduceAdd, Nat.reduceSub, Nat.reduceMul, Nat.reduceLT, Nat.reduceLeDiff, reduceCtorEq, Nat.reduceBEq, forall_const, implies_true, exists_const, ne_eq, Int.reduceAdd, Int.reduceSub, Int.reduceMul, Int.reduceBEq, Int.reduceEq, Int.reduceLT, Int.reduceLE, Int.reduceToNat, Int.reduceNeg, Int.reduceBNe, encDk]
  refine ask (cloneS _ (by simp; omega)) ?_
  simp -implicitDefEqProofs only [↓aP, aQ, ↓reduceIte, Nat.reduceEqDiff, Nat.reduceAdd, Nat.reduceSub, Nat.reduceMul, Nat.reduceLT, Nat.reduceLeDiff, reduceCtorEq, Nat.reduceBEq, forall_const, implies_true, exists_const, ne_eq, Int.reduceAdd, Int.reduceSub, Int.reduceMul, Int.reduceBEq, Int.reduceEq, Int.reduceLT, Int.reduceLE, Int.reduceToNat, Int.reduceNeg, Int.reduceBNe]
  refine loopA (fun m σ => ∃ i, i + m = ws.length ∧ σ.slot 13 = vI i ∧ σ.slot 11 = vL 2 (ws.map encWr) ∧ σ.slot 12 = vI ws.length ∧ σ.slot 5 = .c (.own 10 1) ∧ σ.h.gen 10 = 1 ∧ σ.h.blk 10 = .row 9 1 ((doneS d.sectors (ws.take i)).map encS) ∧ σ.slot 4 = .c (.ptr 4 1 0 0) ∧ σ.h.gen 4 = 1 ∧ σ.h.blk 4 = .box 68 2 [[.zc, .zc]]) ws.length ?_ ?_
  · simp -implicitDefEqProofs only [↓aP, aQ, ↓reduceIte, Nat.reduceEqDiff, Nat.reduceAdd, Nat.reduceSub, Nat.reduceMul, Nat.reduceLT, Nat.reduceLeDiff, reduceCtorEq, Nat.reduceBEq, forall_const, implies_true, exists_const, ne_eq, Int.reduceAdd, Int.reduceSub, Int.reduceMul, Int.reduceBEq, Int.reduceEq, Int.reduceLT, Int.reduceLE, Int.reduceToNat, Int.reduceNeg, Int.reduceBNe]
    refine ⟨0, ?_⟩
    simp -implicitDefEqProofs only [↓aP, aQ, ↓reduceIte, Nat.reduceEqDiff, Nat.reduceAdd, Nat.reduceSub, Nat.reduceMul, Nat.reduceLT, Nat.reduceLeDiff, reduceCtorEq, Nat.reduceBEq, forall_const, implies_true, exists_const, ne_eq, Int.reduceAdd, Int.reduceSub, Int.reduceMul, Int.reduceBEq, Int.reduceEq, Int.reduceLT, Int.reduceLE, Int.reduceToNat, Int.reduceNeg, Int.reduceBNe]
    simp [doneS]
  · rintro m σ ⟨i, him, s13, s11, s12, s5, g10, b10, s4, g4, b4⟩
    simp -implicitDefEqProofs only [↓aP, aQ, ↓reduceIte, Nat.reduceEqDiff, Nat.reduceAdd, Nat.reduceSub, Nat.reduceMul, Nat.reduceLT, Nat.reduceLeDiff, reduceCtorEq, Nat.reduceBEq, forall_const, implies_true, exists_const, ne_eq, Int.reduceAdd, Int.reduceSub, Int.reduceMul, Int.reduceBEq, Int.reduceEq, Int.reduceLT, Int.reduceLE, Int.reduceToNat, Int.reduceNeg, Int.reduceBNe, s13, s11, s12, s5, g10, b10, s4, g4, b4]
    refine fork ?_ ?_ <;> intro hc
    · have hi : i < ws.length := by simpa using hc
      simp -implicitDefEqProofs only [↓aP, aQ, ↓reduceIte, Nat.reduceEqDiff, Nat.reduceAdd, Nat.reduceSub, Nat.reduceMul, Nat.reduceLT, Nat.reduceLeDiff, reduceCtorEq, Nat.reduceBEq, forall_const, implies_true, exists_const, ne_eq, Int.reduceAdd, Int.reduceSub, Int.reduceMul, Int.reduceBEq, Int.reduceEq, Int.reduceLT, Int.reduceLE, Int.reduceToNat, Int.reduceNeg, Int.reduceBNe, s13, s11, s12, s5, g10, b10, s4, g4, b4, askIdx_map, hi, encWr]
      have hf' := hf _ (List.getElem_mem hi)
      simp only [hasB, Bool.and_eq_true, decide_eq_true_eq] at hf'
      refine ⟨hf'.1, by rw [doneS_len]; omega, ?_⟩
      simp -implicitDefEqProofs only [↓aP, aQ, ↓reduceIte, Nat.reduceEqDiff, Nat.reduceAdd, Nat.reduceSub, Nat.reduceMul, Nat.reduceLT, Nat.reduceLeDiff, reduceCtorEq, Nat.reduceBEq, forall_const, implies_true, exists_const, ne_eq, Int.reduceAdd, Int.reduceSub, Int.reduceMul, Int.reduceBEq, Int.reduceEq, Int.reduceLT, Int.reduceLE, Int.reduceToNat, Int.reduceNeg, Int.reduceBNe, s13, s11, s12, s5, g10, b10, s4, g4, b4, askIdx_map, (show ws[i].at_.toNat < (doneS d.sectors (ws.take i)).length by rw [doneS_len]; omega), encS, wrapS (show i < 4611686018427387904 by omega)]
      refine ⟨m - 1, by omega, i + 1, ?_⟩
      simp -implicitDefEqProofs only [↓aP, aQ, ↓reduceIte, Nat.reduceEqDiff, Nat.reduceAdd, Nat.reduceSub, Nat.reduceMul, Nat.reduceLT, Nat.reduceLeDiff, reduceCtorEq, Nat.reduceBEq, forall_const, implies_true, exists_const, ne_eq, Int.reduceAdd, Int.reduceSub, Int.reduceMul, Int.reduceBEq, Int.reduceEq, Int.reduceLT, Int.reduceLE, Int.reduceToNat, Int.reduceNeg, Int.reduceBNe]
      refine ⟨by omega, ?_⟩
      rw [take_snoc hi, doneS_snoc]
      simp [put1, encS, List.map_set]
    · simp -implicitDefEqProofs only [↓aP, aQ, ↓reduceIte, Nat.reduceEqDiff, Nat.reduceAdd, Nat.reduceSub, Nat.reduceMul, Nat.reduceLT, Nat.reduceLeDiff, reduceCtorEq, Nat.reduceBEq, forall_const, implies_true, exists_const, ne_eq, Int.reduceAdd, Int.reduceSub, Int.reduceMul, Int.reduceBEq, Int.reduceEq, Int.reduceLT, Int.reduceLE, Int.reduceToNat, Int.reduceNeg, Int.reduceBNe, s13, s11, s12, s5, g10, b10, s4, g4, b4]
      have hi : i = ws.length := by simp at hc; omega
      simp [doneD, hi]
theorem sync_spec (d : Dk) : Spec Try.prog 75 [.agg (encDk d)] (.val (.agg (encDk (syncD d)))) := by
  refine spec_val mixed fn75 (by simp) ?_
  unfold ac75
  simp -implicitDefEqProofs only [↓aP, aQ, ↓reduceIte, Nat.reduceEqDiff, Nat.reduceAdd, Nat.reduceSub, Nat.reduceMul, Nat.reduceLT, Nat.reduceLeDiff, reduceCtorEq, Nat.reduceBEq, forall_const, implies_true, exists_const, ne_eq, Int.reduceAdd, Int.reduceSub, Int.reduceMul, Int.reduceBEq, Int.reduceEq, Int.reduceLT, Int.reduceLE, Int.reduceToNat, Int.reduceNeg, Int.reduceBNe, encDk]
  refine ask (right_spec d) ?_
  cases hr : rightB d
  · simp -implicitDefEqProofs only [↓aP, aQ, ↓reduceIte, Nat.reduceEqDiff, Nat.reduceAdd, Nat.reduceSub, Nat.reduceMul, Nat.reduceLT, Nat.reduceLeDiff, reduceCtorEq, Nat.reduceBEq, forall_const, implies_true, exists_const, ne_eq, Int.reduceAdd, Int.reduceSub, Int.reduceMul, Int.reduceBEq, Int.reduceEq, Int.reduceLT, Int.reduceLE, Int.reduceToNat, Int.reduceNeg, Int.reduceBNe, encDk]
    simp [syncD, hr]
  · have hl := right_len hr
    simp -implicitDefEqProofs only [↓aP, aQ, ↓reduceIte, Nat.reduceEqDiff, Nat.reduceAdd, Nat.reduceSub, Nat.reduceMul, Nat.reduceLT, Nat.reduceLeDiff, reduceCtorEq, Nat.reduceBEq, forall_const, implies_true, exists_const, ne_eq, Int.reduceAdd, Int.reduceSub, Int.reduceMul, Int.reduceBEq, Int.reduceEq, Int.reduceLT, Int.reduceLE, Int.reduceToNat, Int.reduceNeg, Int.reduceBNe, encDk]
    refine ask (done_spec d d.cache (by omega) (by omega) (right_has hr)) ?_
    simp -implicitDefEqProofs only [↓aP, aQ, ↓reduceIte, Nat.reduceEqDiff, Nat.reduceAdd, Nat.reduceSub, Nat.reduceMul, Nat.reduceLT, Nat.reduceLeDiff, reduceCtorEq, Nat.reduceBEq, forall_const, implies_true, exists_const, ne_eq, Int.reduceAdd, Int.reduceSub, Int.reduceMul, Int.reduceBEq, Int.reduceEq, Int.reduceLT, Int.reduceLE, Int.reduceToNat, Int.reduceNeg, Int.reduceBNe, encDk]
    simp [syncD, hr]
theorem put_spec (d : Dk) (w : Wr) : Spec Try.prog 90 [.agg (encDk d), .agg (encWr w)] (.val (.tup [(true, encDk (putD d w).1), (false, [.pv (.int .i64 (putD d w).2)])])) := by
  refine spec_val mixed fn90 (by simp) ?_
  unfold ac90
  simp -implicitDefEqProofs only [↓aP, aQ, ↓reduceIte, Nat.reduceEqDiff, Nat.reduceAdd, Nat.reduceSub, Nat.reduceMul, Nat.reduceLT, Nat.reduceLeDiff, reduceCtorEq, Nat.reduceBEq, forall_const, implies_true, exists_const, ne_eq, Int.reduceAdd, Int.reduceSub, Int.reduceMul, Int.reduceBEq, Int.reduceEq, Int.reduceLT, Int.reduceLE, Int.reduceToNat, Int.reduceNeg, Int.reduceBNe, encDk, encWr]
  refine ask (right_spec d) ?_
  cases hr : rightB d
  · simp -implicitDefEqProofs only [↓aP, aQ, ↓reduceIte, Nat.reduceEqDiff, Nat.reduceAdd, Nat.reduceSub, Nat.reduceMul, Nat.reduceLT, Nat.reduceLeDiff, reduceCtorEq, Nat.reduceBEq, forall_const, implies_true, exists_const, ne_eq, Int.reduceAdd, Int.reduceSub, Int.reduceMul, Int.reduceBEq, Int.reduceEq, Int.reduceLT, Int.reduceLE, Int.reduceToNat, Int.reduceNeg, Int.reduceBNe, encDk, encWr]
    simp [putD, hr]
  · have hl := right_len hr
    simp -implicitDefEqProofs only [↓aP, aQ, ↓reduceIte, Nat.reduceEqDiff, Nat.reduceAdd, Nat.reduceSub, Nat.reduceMul, Nat.reduceLT, Nat.reduceLeDiff, reduceCtorEq, Nat.reduceBEq, forall_const, implies_true, exists_const, ne_eq, Int.reduceAdd, Int.reduceSub, Int.reduceMul, Int.reduceBEq, Int.reduceEq, Int.reduceLT, Int.reduceLE, Int.reduceToNat, Int.reduceNeg, Int.reduceBNe]
    refine ask (fits_spec d w) ?_
    cases hf : fitsB d w
    · simp -implicitDefEqProofs only [↓aP, aQ, ↓reduceIte, Nat.reduceEqDiff, Nat.reduceAdd, Nat.reduceSub, Nat.reduceMul, Nat.reduceLT, Nat.reduceLeDiff, reduceCtorEq, Nat.reduceBEq, forall_const, implies_true, exists_const, ne_eq, Int.reduceAdd, Int.reduceSub, Int.reduceMul, Int.reduceBEq, Int.reduceEq, Int.reduceLT, Int.reduceLE, Int.reduceToNat, Int.reduceNeg, Int.reduceBNe]
      simp [putD, hr, hf]
    · simp -implicitDefEqProofs only [↓aP, aQ, ↓reduceIte, Nat.reduceEqDiff, Nat.reduceAdd, Nat.reduceSub, Nat.reduceMul, Nat.reduceLT, Nat.reduceLeDiff, reduceCtorEq, Nat.reduceBEq, forall_const, implies_true, exists_const, ne_eq, Int.reduceAdd, Int.reduceSub, Int.reduceMul, Int.reduceBEq, Int.reduceEq, Int.reduceLT, Int.reduceLE, Int.reduceToNat, Int.reduceNeg, Int.reduceBNe]
      refine fork ?_ ?_ <;> intro hc
      · simp -implicitDefEqProofs only [↓aP, aQ, ↓reduceIte, Nat.reduceEqDiff, Nat.reduceAdd, Nat.reduceSub, Nat.reduceMul, Nat.reduceLT, Nat.reduceLeDiff, reduceCtorEq, Nat.reduceBEq, forall_const, implies_true, exists_const, ne_eq, Int.reduceAdd, Int.reduceSub, Int.reduceMul, Int.reduceBEq, Int.reduceEq, Int.reduceLT, Int.reduceLE, Int.reduceToNat, Int.reduceNeg, Int.reduceBNe]
        have hc' : d.cache.length = 200 := by have := hc; simp at this; omega
        simp [putD, hr, hf, hc']
      · simp -implicitDefEqProofs only [↓aP, aQ, ↓reduceIte, Nat.reduceEqDiff, Nat.reduceAdd, Nat.reduceSub, Nat.reduceMul, Nat.reduceLT, Nat.reduceLeDiff, reduceCtorEq, Nat.reduceBEq, forall_const, implies_true, exists_const, ne_eq, Int.reduceAdd, Int.reduceSub, Int.reduceMul, Int.reduceBEq, Int.reduceEq, Int.reduceLT, Int.reduceLE, Int.reduceToNat, Int.reduceNeg, Int.reduceBNe]
        refine ask (cloneW _ (by simp; omega)) ?_
        simp -implicitDefEqProofs only [↓aP, aQ, ↓reduceIte, Nat.reduceEqDiff, Nat.reduceAdd, Nat.reduceSub, Nat.reduceMul, Nat.reduceLT, Nat.reduceLeDiff, reduceCtorEq, Nat.reduceBEq, forall_const, implies_true, exists_const, ne_eq, Int.reduceAdd, Int.reduceSub, Int.reduceMul, Int.reduceBEq, Int.reduceEq, Int.reduceLT, Int.reduceLE, Int.reduceToNat, Int.reduceNeg, Int.reduceBNe]
        have hc' : d.cache.length ≠ 200 := by have := hc; simp at this; omega
        simp [putD, hr, hf, hc', encWr]
        refine ⟨by omega, by omega, by decide⟩
end Go.Proofs.Yteghmlafodkfpaa
