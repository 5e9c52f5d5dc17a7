import Derived.Test.YteghmlafodkfpaaQD2
namespace Go.Proofs.Yteghmlafodkfpaa
open Go.RowKit
set_option linter.unusedVariables false
set_option linter.unusedSimpArgs false
def encB (b : Bool) : List SC := [.pv (.bool b)]


theorem crash_spec (d : Dk) (keep : List Int) (hk : keep.length < 4611686018427387904) : Spec Try.prog 46 [.agg (encDk d), rL 1 (keep.map encI)] (.val (.agg (encDk (crashD d keep)))) := by
  refine spec_val mixed fn46 (by simp) ?_
  unfold ac46
  simp -implicitDefEqProofs only [↓aP, aQ, ↓reduceIte, Nat.reduceEqDiff, Nat.reduceAdd, Nat.reduceSub, Nat.reduceMul, Nat.reduceLT, Nat.reduceLeDiff, reduceCtorEq, Nat.reduceBEq, forall_const, implies_true, exists_const, ne_eq, Int.reduceAdd, Int.reduceSub, Int.reduceMul, Int.reduceBEq, Int.reduceEq, Int.reduceLT, Int.reduceLE, Int.reduceToNat, Int.reduceNeg, Int.reduceBNe, encDk]
  refine ask (right_spec d) ?_
  cases hr : rightB d
  · simp -implicitDefEqProofs only [↓aP, aQ, ↓reduceIte, Nat.reduceEqDiff, Nat.reduceAdd, Nat.reduceSub, Nat.reduceMul, Nat.reduceLT, Nat.reduceLeDiff, reduceCtorEq, Nat.reduceBEq, forall_const, implies_true, exists_const, ne_eq, Int.reduceAdd, Int.reduceSub, Int.reduceMul, Int.reduceBEq, Int.reduceEq, Int.reduceLT, Int.reduceLE, Int.reduceToNat, Int.reduceNeg, Int.reduceBNe, encDk]
    simp [crashD, hr]
  have hl := right_len hr
  simp -implicitDefEqProofs only [↓aP, aQ, ↓reduceIte, Nat.reduceEqDiff, Nat.reduceAdd, Nat.reduceSub, Nat.reduceMul, Nat.reduceLT, Nat.reduceLeDiff, reduceCtorEq, Nat.reduceBEq, forall_const, implies_true, exists_const, ne_eq, Int.reduceAdd, Int.reduceSub, Int.reduceMul, Int.reduceBEq, Int.reduceEq, Int.reduceLT, Int.reduceLE, Int.reduceToNat, Int.reduceNeg, Int.reduceBNe]
  refine ⟨by omega, by omega, ?_⟩
  refine loopA (fun m σ => ∃ i, i + m = keep.length ∧ σ.slot 21 = vI i ∧ σ.slot 19 = vL 1 (keep.map encI) ∧ σ.slot 20 = vI keep.length ∧ σ.slot 5 = .c (.own 18 1) ∧ σ.h.gen 18 = 1 ∧ σ.h.blk 18 = .row 4 1 ((marks d.cache.length (keep.take i)).map encB) ∧ σ.slot 2 = .c (.ptr 2 1 0 0) ∧ σ.h.gen 2 = 1 ∧ σ.h.blk 2 = .box 68 2 [[.s (.sl 1 (d.sectors.map encS)), .s (.sl 2 (d.cache.map encWr))]] ∧ σ.slot 4 = .c (.ptr 4 1 0 0) ∧ σ.h.gen 4 = 1 ∧ σ.h.blk 4 = .box 68 2 [[.zc, .zc]]) keep.length ?_ ?_
  · simp -implicitDefEqProofs only [↓aP, aQ, ↓reduceIte, Nat.reduceEqDiff, Nat.reduceAdd, Nat.reduceSub, Nat.reduceMul, Nat.reduceLT, Nat.reduceLeDiff, reduceCtorEq, Nat.reduceBEq, forall_const, implies_true, exists_const, ne_eq, Int.reduceAdd, Int.reduceSub, Int.reduceMul, Int.reduceBEq, Int.reduceEq, Int.reduceLT, Int.reduceLE, Int.reduceToNat, Int.reduceNeg, Int.reduceBNe]
    refine ⟨0, ?_⟩
    simp -implicitDefEqProofs only [↓aP, aQ, ↓reduceIte, Nat.reduceEqDiff, Nat.reduceAdd, Nat.reduceSub, Nat.reduceMul, Nat.reduceLT, Nat.reduceLeDiff, reduceCtorEq, Nat.reduceBEq, forall_const, implies_true, exists_const, ne_eq, Int.reduceAdd, Int.reduceSub, Int.reduceMul, Int.reduceBEq, Int.reduceEq, Int.reduceLT, Int.reduceLE, Int.reduceToNat, Int.reduceNeg, Int.reduceBNe]
    simp [marks, encB]
  · rintro m σ ⟨i, him, s21, s19, s20, s5, g18, b18, s2, g2, b2, s4, g4, b4⟩
    simp -implicitDefEqProofs only [↓aP, aQ, ↓reduceIte, Nat.reduceEqDiff, Nat.reduceAdd, Nat.reduceSub, Nat.reduceMul, Nat.reduceLT, Nat.reduceLeDiff, reduceCtorEq, Nat.reduceBEq, forall_const, implies_true, exists_const, ne_eq, Int.reduceAdd, Int.reduceSub, Int.reduceMul, Int.reduceBEq, Int.reduceEq, Int.reduceLT, Int.reduceLE, Int.reduceToNat, Int.reduceNeg, Int.reduceBNe, s21, s19, s20, s5, g18, b18, s2, g2, b2, s4, g4, b4]
    refine fork ?_ ?_ <;> intro hc
    · have hi : i < keep.length := by simpa using hc
      simp -implicitDefEqProofs only [↓aP, aQ, ↓reduceIte, Nat.reduceEqDiff, Nat.reduceAdd, Nat.reduceSub, Nat.reduceMul, Nat.reduceLT, Nat.reduceLeDiff, reduceCtorEq, Nat.reduceBEq, forall_const, implies_true, exists_const, ne_eq, Int.reduceAdd, Int.reduceSub, Int.reduceMul, Int.reduceBEq, Int.reduceEq, Int.reduceLT, Int.reduceLE, Int.reduceToNat, Int.reduceNeg, Int.reduceBNe, s21, s19, s20, s5, g18, b18, s2, g2, b2, s4, g4, b4, askIdx_map, hi, encI]
      cases h0 : decide (0 ≤ keep[i])
      · simp -implicitDefEqProofs only [↓aP, aQ, ↓reduceIte, Nat.reduceEqDiff, Nat.reduceAdd, Nat.reduceSub, Nat.reduceMul, Nat.reduceLT, Nat.reduceLeDiff, reduceCtorEq, Nat.reduceBEq, forall_const, implies_true, exists_const, ne_eq, Int.reduceAdd, Int.reduceSub, Int.reduceMul, Int.reduceBEq, Int.reduceEq, Int.reduceLT, Int.reduceLE, Int.reduceToNat, Int.reduceNeg, Int.reduceBNe, s21, s19, s20, s5, g18, b18, s2, g2, b2, s4, g4, b4, wrapS (show i < 4611686018427387904 by omega)]
        refine ⟨m - 1, by omega, i + 1, ?_⟩
        have : mark (marks d.cache.length (keep.take i)) keep[i] = marks d.cache.length (keep.take i) := by
          simp only [decide_eq_false_iff_not] at h0
          simp [mark, h0]
        simp -implicitDefEqProofs only [↓aP, aQ, ↓reduceIte, Nat.reduceEqDiff, Nat.reduceAdd, Nat.reduceSub, Nat.reduceMul, Nat.reduceLT, Nat.reduceLeDiff, reduceCtorEq, Nat.reduceBEq, forall_const, implies_true, exists_const, ne_eq, Int.reduceAdd, Int.reduceSub, Int.reduceMul, Int.reduceBEq, Int.reduceEq, Int.reduceLT, Int.reduceLE, Int.reduceToNat, Int.reduceNeg, Int.reduceBNe, take_snoc hi, marks_snoc, this]
        omega
      · simp -implicitDefEqProofs only [↓aP, aQ, ↓reduceIte, Nat.reduceEqDiff, Nat.reduceAdd, Nat.reduceSub, Nat.reduceMul, Nat.reduceLT, Nat.reduceLeDiff, reduceCtorEq, Nat.reduceBEq, forall_const, implies_true, exists_const, ne_eq, Int.reduceAdd, Int.reduceSub, Int.reduceMul, Int.reduceBEq, Int.reduceEq, Int.reduceLT, Int.reduceLE, Int.reduceToNat, Int.reduceNeg, Int.reduceBNe, s21, s19, s20, s5, g18, b18, s2, g2, b2, s4, g4, b4, marks_len]
        refine fork ?_ ?_ <;> intro h1
        · simp only [decide_eq_true_eq] at h0 h1
          have h2 : keep[i].toNat < (marks d.cache.length (keep.take i)).length := by rw [marks_len]; omega
          simp -implicitDefEqProofs only [↓aP, aQ, ↓reduceIte, Nat.reduceEqDiff, Nat.reduceAdd, Nat.reduceSub, Nat.reduceMul, Nat.reduceLT, Nat.reduceLeDiff, reduceCtorEq, Nat.reduceBEq, forall_const, implies_true, exists_const, ne_eq, Int.reduceAdd, Int.reduceSub, Int.reduceMul, Int.reduceBEq, Int.reduceEq, Int.reduceLT, Int.reduceLE, Int.reduceToNat, Int.reduceNeg, Int.reduceBNe, s21, s19, s20, s5, g18, b18, s2, g2, b2, s4, g4, b4, marks_len]
          refine ⟨h0, by omega, ?_⟩
          simp -implicitDefEqProofs only [↓aP, aQ, ↓reduceIte, Nat.reduceEqDiff, Nat.reduceAdd, Nat.reduceSub, Nat.reduceMul, Nat.reduceLT, Nat.reduceLeDiff, reduceCtorEq, Nat.reduceBEq, forall_const, implies_true, exists_const, ne_eq, Int.reduceAdd, Int.reduceSub, Int.reduceMul, Int.reduceBEq, Int.reduceEq, Int.reduceLT, Int.reduceLE, Int.reduceToNat, Int.reduceNeg, Int.reduceBNe, s21, s19, s20, s5, g18, b18, s2, g2, b2, s4, g4, b4, askIdx_map h2, encB, wrapS (show i < 4611686018427387904 by omega)]
          refine ⟨m - 1, by omega, i + 1, ?_⟩
          have : mark (marks d.cache.length (keep.take i)) keep[i] = (marks d.cache.length (keep.take i)).set keep[i].toNat true := by
            simp only [mark, marks_len]
            rw [if_pos ⟨h0, h1⟩]
          simp -implicitDefEqProofs only [↓aP, aQ, ↓reduceIte, Nat.reduceEqDiff, Nat.reduceAdd, Nat.reduceSub, Nat.reduceMul, Nat.reduceLT, Nat.reduceLeDiff, reduceCtorEq, Nat.reduceBEq, forall_const, implies_true, exists_const, ne_eq, Int.reduceAdd, Int.reduceSub, Int.reduceMul, Int.reduceBEq, Int.reduceEq, Int.reduceLT, Int.reduceLE, Int.reduceToNat, Int.reduceNeg, Int.reduceBNe, take_snoc hi, marks_snoc, this, List.map_set]
          simp [encB]
          omega
        · simp -implicitDefEqProofs only [↓aP, aQ, ↓reduceIte, Nat.reduceEqDiff, Nat.reduceAdd, Nat.reduceSub, Nat.reduceMul, Nat.reduceLT, Nat.reduceLeDiff, reduceCtorEq, Nat.reduceBEq, forall_const, implies_true, exists_const, ne_eq, Int.reduceAdd, Int.reduceSub, Int.reduceMul, Int.reduceBEq, Int.reduceEq, Int.reduceLT, Int.reduceLE, Int.reduceToNat, Int.reduceNeg, Int.reduceBNe, s21, s19, s20, s5, g18, b18, s2, g2, b2, s4, g4, b4, wrapS (show i < 4611686018427387904 by omega)]
          refine ⟨m - 1, by omega, i + 1, ?_⟩
          have : mark (marks d.cache.length (keep.take i)) keep[i] = marks d.cache.length (keep.take i) := by
            simp only [decide_eq_false_iff_not] at h1
            simp [mark, h1, marks_len]
          simp -implicitDefEqProofs only [↓aP, aQ, ↓reduceIte, Nat.reduceEqDiff, Nat.reduceAdd, Nat.reduceSub, Nat.reduceMul, Nat.reduceLT, Nat.reduceLeDiff, reduceCtorEq, Nat.reduceBEq, forall_const, implies_true, exists_const, ne_eq, Int.reduceAdd, Int.reduceSub, Int.reduceMul, Int.reduceBEq, Int.reduceEq, Int.reduceLT, Int.reduceLE, Int.reduceToNat, Int.reduceNeg, Int.reduceBNe, take_snoc hi, marks_snoc, this]
          omega
    · simp -implicitDefEqProofs only [↓aP, aQ, ↓reduceIte, Nat.reduceEqDiff, Nat.reduceAdd, Nat.reduceSub, Nat.reduceMul, Nat.reduceLT, Nat.reduceLeDiff, reduceCtorEq, Nat.reduceBEq, forall_const, implies_true, exists_const, ne_eq, Int.reduceAdd, Int.reduceSub, Int.reduceMul, Int.reduceBEq, Int.reduceEq, Int.reduceLT, Int.reduceLE, Int.reduceToNat, Int.reduceNeg, Int.reduceBNe, s21, s19, s20, s5, g18, b18, s2, g2, b2, s4, g4, b4]
      have hi : i = keep.length := by simp at hc; omega
      rw [hi, List.take_length] at b18
      refine loopA (fun m σ => ∃ i, i + m = d.cache.length ∧ σ.slot 40 = vI i ∧ σ.slot 38 = vL 2 (d.cache.map encWr) ∧ σ.slot 39 = vI d.cache.length ∧ σ.slot 5 = .c (.own 18 1) ∧ σ.h.gen 18 = 1 ∧ σ.h.blk 18 = .row 4 1 ((marks d.cache.length keep).map encB) ∧ σ.slot 2 = .c (.ptr 2 1 0 0) ∧ σ.h.gen 2 = 1 ∧ σ.h.blk 2 = .box 68 2 [[.s (.sl 1 (d.sectors.map encS)), .s (.sl 2 (d.cache.map encWr))]] ∧ σ.slot 4 = .c (.ptr 4 1 0 0) ∧ σ.h.gen 4 = 1 ∧ σ.h.blk 4 = .box 68 2 [[.zc, .zc]] ∧ ∃ x, σ.slot 8 = x ∧ (x = .c .zc ∧ keptW (d.cache.take i) ((marks d.cache.length keep).take i) = [] ∨ ∃ g, x = .c (.own 52 g) ∧ σ.h.gen 52 = g ∧ σ.h.blk 52 = .row 122 2 ((keptW (d.cache.take i) ((marks d.cache.length keep).take i)).map encWr))) d.cache.length ?_ ?_
      · simp -implicitDefEqProofs only [↓aP, aQ, ↓reduceIte, Nat.reduceEqDiff, Nat.reduceAdd, Nat.reduceSub, Nat.reduceMul, Nat.reduceLT, Nat.reduceLeDiff, reduceCtorEq, Nat.reduceBEq, forall_const, implies_true, exists_const, ne_eq, Int.reduceAdd, Int.reduceSub, Int.reduceMul, Int.reduceBEq, Int.reduceEq, Int.reduceLT, Int.reduceLE, Int.reduceToNat, Int.reduceNeg, Int.reduceBNe, s21, s19, s20, s5, g18, b18, s2, g2, b2, s4, g4, b4]
        refine ⟨0, ?_⟩
        simp -implicitDefEqProofs only [↓aP, aQ, ↓reduceIte, Nat.reduceEqDiff, Nat.reduceAdd, Nat.reduceSub, Nat.reduceMul, Nat.reduceLT, Nat.reduceLeDiff, reduceCtorEq, Nat.reduceBEq, forall_const, implies_true, exists_const, ne_eq, Int.reduceAdd, Int.reduceSub, Int.reduceMul, Int.reduceBEq, Int.reduceEq, Int.reduceLT, Int.reduceLE, Int.reduceToNat, Int.reduceNeg, Int.reduceBNe, b18]
        simp [keptW]
      · clear him hc s21 s19 s20 s5 g18 b18 s2 g2 b2 s4 g4 b4 hi
        rintro m σ ⟨i, him, s40, s38, s39, s5, g18, b18, s2, g2, b2, s4, g4, b4, x, s8, hx⟩
        simp -implicitDefEqProofs only [↓aP, aQ, ↓reduceIte, Nat.reduceEqDiff, Nat.reduceAdd, Nat.reduceSub, Nat.reduceMul, Nat.reduceLT, Nat.reduceLeDiff, reduceCtorEq, Nat.reduceBEq, forall_const, implies_true, exists_const, ne_eq, Int.reduceAdd, Int.reduceSub, Int.reduceMul, Int.reduceBEq, Int.reduceEq, Int.reduceLT, Int.reduceLE, Int.reduceToNat, Int.reduceNeg, Int.reduceBNe, s40, s38, s39, s5, g18, b18, s2, g2, b2, s4, g4, b4]
        refine fork ?_ ?_ <;> intro hc
        · have hi : i < d.cache.length := by simpa using hc
          have hi2 : i < (marks d.cache.length keep).length := by rw [marks_len]; exact hi
          simp -implicitDefEqProofs only [↓aP, aQ, ↓reduceIte, Nat.reduceEqDiff, Nat.reduceAdd, Nat.reduceSub, Nat.reduceMul, Nat.reduceLT, Nat.reduceLeDiff, reduceCtorEq, Nat.reduceBEq, forall_const, implies_true, exists_const, ne_eq, Int.reduceAdd, Int.reduceSub, Int.reduceMul, Int.reduceBEq, Int.reduceEq, Int.reduceLT, Int.reduceLE, Int.reduceToNat, Int.reduceNeg, Int.reduceBNe, s40, s38, s39, s5, g18, b18, s2, g2, b2, s4, g4, b4, askIdx_map, hi, encWr, hi2, encB, marks_len]
          have e1 := take_snoc hi
          have e2 := take_snoc hi2
          have e3 := keptW_snoc (ws := d.cache.take i) (ms := (marks d.cache.length keep).take i) (w := d.cache[i]) (m := (marks d.cache.length keep)[i]) (by simp [marks_len])
          rw [← e1, ← e2] at e3
          have hb : ((keptW (d.cache.take i) ((marks d.cache.length keep).take i)).length : Int) ≤ 200 := by
            have := keptW_len (ws := d.cache.take i) (ms := (marks d.cache.length keep).take i)
            have : (d.cache.take i).length ≤ 200 := by rw [List.length_take]; omega
            omega
          refine fork ?_ ?_ <;> intro hm <;> rw [hm] at e3
          · simp only [if_true] at e3
            rcases hx with ⟨rfl, hx⟩ | ⟨g, rfl, g52, b52⟩
            · simp -implicitDefEqProofs only [↓aP, aQ, ↓reduceIte, Nat.reduceEqDiff, Nat.reduceAdd, Nat.reduceSub, Nat.reduceMul, Nat.reduceLT, Nat.reduceLeDiff, reduceCtorEq, Nat.reduceBEq, forall_const, implies_true, exists_const, ne_eq, Int.reduceAdd, Int.reduceSub, Int.reduceMul, Int.reduceBEq, Int.reduceEq, Int.reduceLT, Int.reduceLE, Int.reduceToNat, Int.reduceNeg, Int.reduceBNe, s40, s38, s39, s5, g18, b18, s2, g2, b2, s4, g4, b4, s8, wrapS (show i < 4611686018427387904 by omega)]
              refine ⟨m - 1, by omega, i + 1, ?_⟩
              rw [hx] at e3
              simp -implicitDefEqProofs only [↓aP, aQ, ↓reduceIte, Nat.reduceEqDiff, Nat.reduceAdd, Nat.reduceSub, Nat.reduceMul, Nat.reduceLT, Nat.reduceLeDiff, reduceCtorEq, Nat.reduceBEq, forall_const, implies_true, exists_const, ne_eq, Int.reduceAdd, Int.reduceSub, Int.reduceMul, Int.reduceBEq, Int.reduceEq, Int.reduceLT, Int.reduceLE, Int.reduceToNat, Int.reduceNeg, Int.reduceBNe, e3, encWr]
              simp [encWr]
              omega
            · simp -implicitDefEqProofs only [↓aP, aQ, ↓reduceIte, Nat.reduceEqDiff, Nat.reduceAdd, Nat.reduceSub, Nat.reduceMul, Nat.reduceLT, Nat.reduceLeDiff, reduceCtorEq, Nat.reduceBEq, forall_const, implies_true, exists_const, ne_eq, Int.reduceAdd, Int.reduceSub, Int.reduceMul, Int.reduceBEq, Int.reduceEq, Int.reduceLT, Int.reduceLE, Int.reduceToNat, Int.reduceNeg, Int.reduceBNe, s40, s38, s39, s5, g18, b18, s2, g2, b2, s4, g4, b4, s8, g52, b52, wrapS (show i < 4611686018427387904 by omega)]
              refine ⟨by omega, by omega, m - 1, by omega, i + 1, ?_⟩
              simp -implicitDefEqProofs only [↓aP, aQ, ↓reduceIte, Nat.reduceEqDiff, Nat.reduceAdd, Nat.reduceSub, Nat.reduceMul, Nat.reduceLT, Nat.reduceLeDiff, reduceCtorEq, Nat.reduceBEq, forall_const, implies_true, exists_const, ne_eq, Int.reduceAdd, Int.reduceSub, Int.reduceMul, Int.reduceBEq, Int.reduceEq, Int.reduceLT, Int.reduceLE, Int.reduceToNat, Int.reduceNeg, Int.reduceBNe, e3, encWr]
              simp [encWr]
              omega
          · simp only [Bool.false_eq_true, if_false, List.append_nil] at e3
            simp -implicitDefEqProofs only [↓aP, aQ, ↓reduceIte, Nat.reduceEqDiff, Nat.reduceAdd, Nat.reduceSub, Nat.reduceMul, Nat.reduceLT, Nat.reduceLeDiff, reduceCtorEq, Nat.reduceBEq, forall_const, implies_true, exists_const, ne_eq, Int.reduceAdd, Int.reduceSub, Int.reduceMul, Int.reduceBEq, Int.reduceEq, Int.reduceLT, Int.reduceLE, Int.reduceToNat, Int.reduceNeg, Int.reduceBNe, s40, s38, s39, s5, g18, b18, s2, g2, b2, s4, g4, b4, wrapS (show i < 4611686018427387904 by omega)]
            refine ⟨m - 1, by omega, i + 1, ?_⟩
            simp -implicitDefEqProofs only [↓aP, aQ, ↓reduceIte, Nat.reduceEqDiff, Nat.reduceAdd, Nat.reduceSub, Nat.reduceMul, Nat.reduceLT, Nat.reduceLeDiff, reduceCtorEq, Nat.reduceBEq, forall_const, implies_true, exists_const, ne_eq, Int.reduceAdd, Int.reduceSub, Int.reduceMul, Int.reduceBEq, Int.reduceEq, Int.reduceLT, Int.reduceLE, Int.reduceToNat, Int.reduceNeg, Int.reduceBNe, e3, s8]
            refine ⟨by omega, ?_⟩
            exact ⟨_, rfl, hx⟩
        · simp -implicitDefEqProofs only [↓aP, aQ, ↓reduceIte, Nat.reduceEqDiff, Nat.reduceAdd, Nat.reduceSub, Nat.reduceMul, Nat.reduceLT, Nat.reduceLeDiff, reduceCtorEq, Nat.reduceBEq, forall_const, implies_true, exists_const, ne_eq, Int.reduceAdd, Int.reduceSub, Int.reduceMul, Int.reduceBEq, Int.reduceEq, Int.reduceLT, Int.reduceLE, Int.reduceToNat, Int.reduceNeg, Int.reduceBNe, s40, s38, s39, s5, g18, b18, s2, g2, b2, s4, g4, b4]
          have hi : i = d.cache.length := by simp at hc; omega
          have hmm : keptW (d.cache.take i) ((marks d.cache.length keep).take i) = keptW d.cache (marks d.cache.length keep) := by
            have h1 : d.cache.take i = d.cache := by rw [hi, List.take_length]
            have h2 : (marks d.cache.length keep).take i = marks d.cache.length keep := List.take_of_length_le (by rw [marks_len]; omega)
            rw [h1, h2]
          have hd := done_spec d (keptW d.cache (marks d.cache.length keep)) (by omega) (by have := keptW_len (ws := d.cache) (ms := marks d.cache.length keep); omega) (fun w hw => right_has hr w (keptW_sub hw))
          have hcr : crashD d keep = doneD d (keptW d.cache (marks d.cache.length keep)) := by simp [crashD, hr]
          rw [hmm] at hx
          rcases hx with ⟨rfl, hx⟩ | ⟨g, rfl, g52, b52⟩
          · rw [hx] at hd hcr
            simp -implicitDefEqProofs only [↓aP, aQ, ↓reduceIte, Nat.reduceEqDiff, Nat.reduceAdd, Nat.reduceSub, Nat.reduceMul, Nat.reduceLT, Nat.reduceLeDiff, reduceCtorEq, Nat.reduceBEq, forall_const, implies_true, exists_const, ne_eq, Int.reduceAdd, Int.reduceSub, Int.reduceMul, Int.reduceBEq, Int.reduceEq, Int.reduceLT, Int.reduceLE, Int.reduceToNat, Int.reduceNeg, Int.reduceBNe, s8, s40, s38, s39, s5, g18, b18, s2, g2, b2, s4, g4, b4]
            refine askS hd (by simp [asim, tsim, encDk, simL, rL]) ?_
            simp -implicitDefEqProofs only [↓aP, aQ, ↓reduceIte, Nat.reduceEqDiff, Nat.reduceAdd, Nat.reduceSub, Nat.reduceMul, Nat.reduceLT, Nat.reduceLeDiff, reduceCtorEq, Nat.reduceBEq, forall_const, implies_true, exists_const, ne_eq, Int.reduceAdd, Int.reduceSub, Int.reduceMul, Int.reduceBEq, Int.reduceEq, Int.reduceLT, Int.reduceLE, Int.reduceToNat, Int.reduceNeg, Int.reduceBNe, s40, s38, s39, s5, g18, b18, s2, g2, b2, s4, g4, b4, encDk, hcr]
          · simp -implicitDefEqProofs only [↓aP, aQ, ↓reduceIte, Nat.reduceEqDiff, Nat.reduceAdd, Nat.reduceSub, Nat.reduceMul, Nat.reduceLT, Nat.reduceLeDiff, reduceCtorEq, Nat.reduceBEq, forall_const, implies_true, exists_const, ne_eq, Int.reduceAdd, Int.reduceSub, Int.reduceMul, Int.reduceBEq, Int.reduceEq, Int.reduceLT, Int.reduceLE, Int.reduceToNat, Int.reduceNeg, Int.reduceBNe, s8, s40, s38, s39, s5, g18, b18, s2, g2, b2, s4, g4, b4, g52, b52]
            refine ask hd ?_
            simp -implicitDefEqProofs only [↓aP, aQ, ↓reduceIte, Nat.reduceEqDiff, Nat.reduceAdd, Nat.reduceSub, Nat.reduceMul, Nat.reduceLT, Nat.reduceLeDiff, reduceCtorEq, Nat.reduceBEq, forall_const, implies_true, exists_const, ne_eq, Int.reduceAdd, Int.reduceSub, Int.reduceMul, Int.reduceBEq, Int.reduceEq, Int.reduceLT, Int.reduceLE, Int.reduceToNat, Int.reduceNeg, Int.reduceBNe, s40, s38, s39, s5, g18, b18, s2, g2, b2, s4, g4, b4, g52, b52, encDk, hcr]
end Go.Proofs.Yteghmlafodkfpaa
