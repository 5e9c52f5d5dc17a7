/- layer 3's reference: in, Read, Sync, Crash. -/
import Derived.Test.YteghmlafodkfpaaQSame
namespace Go.Proofs.Yteghmlafodkfpaa
open Go.RowKit
set_option linter.unusedVariables false
set_option linter.unusedSimpArgs false
theorem lookB_take_succ {ws : List Wr} {r : Nat} (hr : r < ws.length) (a : Int) : lookB (ws.take (r + 1)) a = if ws[r].at_ = a then some ws[r] else lookB (ws.take r) a := by
  rw [take_snoc hr, lookB_snoc]

theorem refRead_spec (d : Dk) (a : Int) (hr : rightB d = true) (hh : hasB d a = true) : Spec Try.prog 84 [.agg (encDk d), rI a] (.val (rS (readD d a).1)) := by
  refine spec_val mixed fn84 (by simp) ?_
  unfold ac84
  have hl := right_len hr
  obtain ⟨k, rfl, hk⟩ := has_nat hh
  have hw0 : IntKind.i64.wrap ((d.cache.length : Int) - 1) = (d.cache.length : Int) - 1 := wrapI (by omega)
  simp -implicitDefEqProofs only [↓aP, aQ, ↓reduceIte, Nat.reduceEqDiff, Nat.reduceAdd, Nat.reduceSub, Nat.reduceMul, Nat.reduceLT, Nat.reduceLeDiff, reduceCtorEq, Nat.reduceBEq, forall_const, implies_true, exists_const, ne_eq, Int.reduceAdd, Int.reduceSub, Int.reduceMul, Int.reduceBEq, Int.reduceEq, Int.reduceLT, Int.reduceLE, Int.reduceToNat, Int.reduceNeg, Int.reduceBNe, encDk, hw0]
  refine loopA (fun m σ => m ≤ d.cache.length ∧ lookB d.cache k = lookB (d.cache.take m) k ∧ σ.slot 5 = vI ((m : Int) - 1) ∧ σ.slot 2 = .c (.ptr 2 1 0 0) ∧ σ.h.gen 2 = 1 ∧ σ.h.blk 2 = .box 68 2 [[.s (.sl 1 (d.sectors.map encS)), .s (.sl 2 (d.cache.map encWr))]] ∧ σ.slot 1 = vI k) d.cache.length ?_ ?_
  · simp -implicitDefEqProofs only [↓aP, aQ, ↓reduceIte, Nat.reduceEqDiff, Nat.reduceAdd, Nat.reduceSub, Nat.reduceMul, Nat.reduceLT, Nat.reduceLeDiff, reduceCtorEq, Nat.reduceBEq, forall_const, implies_true, exists_const, ne_eq, Int.reduceAdd, Int.reduceSub, Int.reduceMul, Int.reduceBEq, Int.reduceEq, Int.reduceLT, Int.reduceLE, Int.reduceToNat, Int.reduceNeg, Int.reduceBNe]
    rw [List.take_length]
  · rintro m σ ⟨hm, hlk, s5, s2, g2, b2, s1⟩
    cases m with
    | zero =>
      have hneg : decide ((0 : Int) ≤ -1) = false := by decide
      simp -implicitDefEqProofs only [↓aP, aQ, ↓reduceIte, Nat.reduceEqDiff, Nat.reduceAdd, Nat.reduceSub, Nat.reduceMul, Nat.reduceLT, Nat.reduceLeDiff, reduceCtorEq, Nat.reduceBEq, forall_const, implies_true, exists_const, ne_eq, Int.reduceAdd, Int.reduceSub, Int.reduceMul, Int.reduceBEq, Int.reduceEq, Int.reduceLT, Int.reduceLE, Int.reduceToNat, Int.reduceNeg, Int.reduceBNe, s5, s2, g2, b2, s1, hneg, askIdx_map, hk, encS]
      have e : readD d k = (d.sectors[k], 0) := by
        rw [read_ok hr hh, hlk]
        simp [lookB, hk]
      rw [e]
    | succ r =>
      have e1 : ((r + 1 : Nat) : Int) - 1 = (r : Int) := by omega
      rw [e1] at s5
      have hr2 : r < d.cache.length := by omega
      rw [lookB_take_succ hr2] at hlk
      have hge : decide ((0 : Int) ≤ (r : Int)) = true := by simp
      have hw : IntKind.i64.wrap ((r : Int) - 1) = (r : Int) - 1 := wrapI (by omega)
      simp -implicitDefEqProofs only [↓aP, aQ, ↓reduceIte, Nat.reduceEqDiff, Nat.reduceAdd, Nat.reduceSub, Nat.reduceMul, Nat.reduceLT, Nat.reduceLeDiff, reduceCtorEq, Nat.reduceBEq, forall_const, implies_true, exists_const, ne_eq, Int.reduceAdd, Int.reduceSub, Int.reduceMul, Int.reduceBEq, Int.reduceEq, Int.reduceLT, Int.reduceLE, Int.reduceToNat, Int.reduceNeg, Int.reduceBNe, s5, s2, g2, b2, s1, hge, askIdx_map, hr2, encWr]
      refine fork ?_ ?_ <;> intro hf
      · have e : d.cache[r].at_ = (k : Int) := by simpa using hf
        rw [if_pos e] at hlk
        simp -implicitDefEqProofs only [↓aP, aQ, ↓reduceIte, Nat.reduceEqDiff, Nat.reduceAdd, Nat.reduceSub, Nat.reduceMul, Nat.reduceLT, Nat.reduceLeDiff, reduceCtorEq, Nat.reduceBEq, forall_const, implies_true, exists_const, ne_eq, Int.reduceAdd, Int.reduceSub, Int.reduceMul, Int.reduceBEq, Int.reduceEq, Int.reduceLT, Int.reduceLE, Int.reduceToNat, Int.reduceNeg, Int.reduceBNe, s5, s2, g2, b2, s1, hge, askIdx_map, hr2, encWr]
        have e : readD d k = (d.cache[r].data, 0) := by
          rw [read_ok hr hh, hlk]
        rw [e]
      · have e : d.cache[r].at_ ≠ (k : Int) := by simpa using hf
        rw [if_neg e] at hlk
        simp -implicitDefEqProofs only [↓aP, aQ, ↓reduceIte, Nat.reduceEqDiff, Nat.reduceAdd, Nat.reduceSub, Nat.reduceMul, Nat.reduceLT, Nat.reduceLeDiff, reduceCtorEq, Nat.reduceBEq, forall_const, implies_true, exists_const, ne_eq, Int.reduceAdd, Int.reduceSub, Int.reduceMul, Int.reduceBEq, Int.reduceEq, Int.reduceLT, Int.reduceLE, Int.reduceToNat, Int.reduceNeg, Int.reduceBNe, s5, s2, g2, b2, s1, hw]
        exact ⟨r, by omega, by omega, hlk, rfl⟩
theorem sync_at {d : Dk} (h : rightB d = true) {i : Nat} (hi : i < d.sectors.length) (hi2 : i < (syncD d).sectors.length) : (readD d i).1 = (syncD d).sectors[i] := by
  have hh : hasB d i = true := by simp [hasB, hi]
  have e : syncD d = doneD d d.cache := by simp [syncD, h]
  have rs : rightB (syncD d) = true := by rw [e]; exact right_done h _ (right_fits h)
  have hs : hasB (syncD d) i = true := by rw [e, has_done]; exact hh
  have hc : (syncD d).cache = [] := by rw [e]; rfl
  rw [← read_sync h hh, read_ok rs hs, hc]
  have : lookB [] (i : Int) = none := rfl
  rw [this]
  simp [hi2]

/-- a row that grows: nothing yet; a row of its own -/
def Grown (σ : St) (x : AC) (l ty e : Nat) (els : List (List SC)) : Prop := (x = .zc ∧ els = []) ∨ ∃ g, x = .own l g ∧ σ.h.gen l = g ∧ σ.h.blk l = .row ty e els
theorem refSync_spec (d : Dk) (hr : rightB d = true) : Spec Try.prog 87 [.agg (encDk d)] (.val (.agg (encDk (syncD d)))) := by
  refine spec_val mixed fn87 (by simp) ?_
  unfold ac87
  have hl := right_len hr
  have e : syncD d = doneD d d.cache := by simp [syncD, hr]
  have hsl : (syncD d).sectors.length = d.sectors.length := by rw [e]; exact doneS_len _ _
  have hsc : (syncD d).cache = [] := by rw [e]; rfl
  have hat : ∀ i, i < d.sectors.length → ∀ hi2 : i < (syncD d).sectors.length, (readD d i).1 = (syncD d).sectors[i] := fun i hi hi2 => sync_at hr hi hi2
  obtain ⟨z, hz⟩ : ∃ z, z = syncD d := ⟨_, rfl⟩
  rw [← hz] at hsl hsc hat ⊢
  simp -implicitDefEqProofs only [↓aP, aQ, ↓reduceIte, Nat.reduceEqDiff, Nat.reduceAdd, Nat.reduceSub, Nat.reduceMul, Nat.reduceLT, Nat.reduceLeDiff, reduceCtorEq, Nat.reduceBEq, forall_const, implies_true, exists_const, ne_eq, Int.reduceAdd, Int.reduceSub, Int.reduceMul, Int.reduceBEq, Int.reduceEq, Int.reduceLT, Int.reduceLE, Int.reduceToNat, Int.reduceNeg, Int.reduceBNe, encDk, hsc]
  refine loopA (fun m σ => ∃ i, i + m = d.sectors.length ∧ ∃ x, Grown σ x 18 9 1 ((z.sectors.take i).map encS) ∧ σ.slot 4 = vI i ∧ σ.slot 1 = .c (.ptr 1 1 0 0) ∧ σ.h.gen 1 = 1 ∧ σ.h.blk 1 = .box 68 2 [[.s (.sl 1 (d.sectors.map encS)), .s (.sl 2 (d.cache.map encWr))]] ∧ σ.slot 2 = .c (.ptr 2 1 0 0) ∧ σ.h.gen 2 = 1 ∧ σ.h.blk 2 = .box 68 2 [[.zc, .zc]] ∧ σ.slot 3 = .c (.ptr 3 1 0 0) ∧ σ.h.gen 3 = 1 ∧ σ.h.blk 3 = .box 68 2 [[x, .zc]]) d.sectors.length ?_ ?_
  · simp -implicitDefEqProofs only [↓aP, aQ, ↓reduceIte, Nat.reduceEqDiff, Nat.reduceAdd, Nat.reduceSub, Nat.reduceMul, Nat.reduceLT, Nat.reduceLeDiff, reduceCtorEq, Nat.reduceBEq, forall_const, implies_true, exists_const, ne_eq, Int.reduceAdd, Int.reduceSub, Int.reduceMul, Int.reduceBEq, Int.reduceEq, Int.reduceLT, Int.reduceLE, Int.reduceToNat, Int.reduceNeg, Int.reduceBNe]
    refine ⟨0, by omega, .zc, .inl ⟨rfl, rfl⟩, ?_⟩
    simp -implicitDefEqProofs only [↓aP, aQ, ↓reduceIte, Nat.reduceEqDiff, Nat.reduceAdd, Nat.reduceSub, Nat.reduceMul, Nat.reduceLT, Nat.reduceLeDiff, reduceCtorEq, Nat.reduceBEq, forall_const, implies_true, exists_const, ne_eq, Int.reduceAdd, Int.reduceSub, Int.reduceMul, Int.reduceBEq, Int.reduceEq, Int.reduceLT, Int.reduceLE, Int.reduceToNat, Int.reduceNeg, Int.reduceBNe]
  · rintro m σ ⟨i, him, x, hx, s4, s1, g1, b1, s2, g2, b2, s3, g3, b3⟩
    simp -implicitDefEqProofs only [↓aP, aQ, ↓reduceIte, Nat.reduceEqDiff, Nat.reduceAdd, Nat.reduceSub, Nat.reduceMul, Nat.reduceLT, Nat.reduceLeDiff, reduceCtorEq, Nat.reduceBEq, forall_const, implies_true, exists_const, ne_eq, Int.reduceAdd, Int.reduceSub, Int.reduceMul, Int.reduceBEq, Int.reduceEq, Int.reduceLT, Int.reduceLE, Int.reduceToNat, Int.reduceNeg, Int.reduceBNe, s4, s1, g1, b1, s2, g2, b2, s3, g3, b3]
    refine fork ?_ ?_ <;> intro hf
    · have hi : i < d.sectors.length := by simpa using hf
      have hi2 : i < z.sectors.length := by omega
      have hh : hasB d i = true := by simp [hasB, hi]
      have t := refRead_spec d i hr hh
      rw [hat i hi hi2] at t
      have htl : (z.sectors.take i).length = i := by rw [List.length_take]; omega
      rcases hx with ⟨rfl, he⟩ | ⟨g, rfl, g18, b18⟩
      · have hi0 : i = 0 := by
          have := congrArg List.length he
          rw [List.length_map, htl] at this
          simpa using this
        simp -implicitDefEqProofs only [↓aP, aQ, ↓reduceIte, Nat.reduceEqDiff, Nat.reduceAdd, Nat.reduceSub, Nat.reduceMul, Nat.reduceLT, Nat.reduceLeDiff, reduceCtorEq, Nat.reduceBEq, forall_const, implies_true, exists_const, ne_eq, Int.reduceAdd, Int.reduceSub, Int.reduceMul, Int.reduceBEq, Int.reduceEq, Int.reduceLT, Int.reduceLE, Int.reduceToNat, Int.reduceNeg, Int.reduceBNe, s4, s1, g1, b1, s2, g2, b2, s3, g3, b3]
        refine ask t ?_
        simp -implicitDefEqProofs only [↓aP, aQ, ↓reduceIte, Nat.reduceEqDiff, Nat.reduceAdd, Nat.reduceSub, Nat.reduceMul, Nat.reduceLT, Nat.reduceLeDiff, reduceCtorEq, Nat.reduceBEq, forall_const, implies_true, exists_const, ne_eq, Int.reduceAdd, Int.reduceSub, Int.reduceMul, Int.reduceBEq, Int.reduceEq, Int.reduceLT, Int.reduceLE, Int.reduceToNat, Int.reduceNeg, Int.reduceBNe, s4, s1, g1, b1, s2, g2, b2, s3, g3, b3, wrapS (show i < 4611686018427387904 by omega)]
        refine ⟨by decide, m - 1, by omega, i + 1, by omega, .own 18 (σ.h.gen 18 + 1), .inr ⟨_, rfl, ?_, ?_⟩, ?_⟩
        · simp -implicitDefEqProofs only [↓aP, aQ, ↓reduceIte, Nat.reduceEqDiff, Nat.reduceAdd, Nat.reduceSub, Nat.reduceMul, Nat.reduceLT, Nat.reduceLeDiff, reduceCtorEq, Nat.reduceBEq, forall_const, implies_true, exists_const, ne_eq, Int.reduceAdd, Int.reduceSub, Int.reduceMul, Int.reduceBEq, Int.reduceEq, Int.reduceLT, Int.reduceLE, Int.reduceToNat, Int.reduceNeg, Int.reduceBNe]
        · simp -implicitDefEqProofs only [↓aP, aQ, ↓reduceIte, Nat.reduceEqDiff, Nat.reduceAdd, Nat.reduceSub, Nat.reduceMul, Nat.reduceLT, Nat.reduceLeDiff, reduceCtorEq, Nat.reduceBEq, forall_const, implies_true, exists_const, ne_eq, Int.reduceAdd, Int.reduceSub, Int.reduceMul, Int.reduceBEq, Int.reduceEq, Int.reduceLT, Int.reduceLE, Int.reduceToNat, Int.reduceNeg, Int.reduceBNe]
          rw [take_snoc hi2, List.map_append, he]
          rfl
        · simp -implicitDefEqProofs only [↓aP, aQ, ↓reduceIte, Nat.reduceEqDiff, Nat.reduceAdd, Nat.reduceSub, Nat.reduceMul, Nat.reduceLT, Nat.reduceLeDiff, reduceCtorEq, Nat.reduceBEq, forall_const, implies_true, exists_const, ne_eq, Int.reduceAdd, Int.reduceSub, Int.reduceMul, Int.reduceBEq, Int.reduceEq, Int.reduceLT, Int.reduceLE, Int.reduceToNat, Int.reduceNeg, Int.reduceBNe, s4, s1, g1, b1, s2, g2, b2, s3, g3, b3]
      · simp -implicitDefEqProofs only [↓aP, aQ, ↓reduceIte, Nat.reduceEqDiff, Nat.reduceAdd, Nat.reduceSub, Nat.reduceMul, Nat.reduceLT, Nat.reduceLeDiff, reduceCtorEq, Nat.reduceBEq, forall_const, implies_true, exists_const, ne_eq, Int.reduceAdd, Int.reduceSub, Int.reduceMul, Int.reduceBEq, Int.reduceEq, Int.reduceLT, Int.reduceLE, Int.reduceToNat, Int.reduceNeg, Int.reduceBNe, s4, s1, g1, b1, s2, g2, b2, s3, g3, b3]
        refine ask t ?_
        simp -implicitDefEqProofs only [↓aP, aQ, ↓reduceIte, Nat.reduceEqDiff, Nat.reduceAdd, Nat.reduceSub, Nat.reduceMul, Nat.reduceLT, Nat.reduceLeDiff, reduceCtorEq, Nat.reduceBEq, forall_const, implies_true, exists_const, ne_eq, Int.reduceAdd, Int.reduceSub, Int.reduceMul, Int.reduceBEq, Int.reduceEq, Int.reduceLT, Int.reduceLE, Int.reduceToNat, Int.reduceNeg, Int.reduceBNe, s4, s1, g1, b1, s2, g2, b2, s3, g3, b3, g18, b18, htl, wrapS (show i < 4611686018427387904 by omega)]
        refine ⟨by omega, by omega, by decide, m - 1, by omega, i + 1, by omega, .own 18 (g + 1), .inr ⟨_, rfl, ?_, ?_⟩, ?_⟩
        · simp -implicitDefEqProofs only [↓aP, aQ, ↓reduceIte, Nat.reduceEqDiff, Nat.reduceAdd, Nat.reduceSub, Nat.reduceMul, Nat.reduceLT, Nat.reduceLeDiff, reduceCtorEq, Nat.reduceBEq, forall_const, implies_true, exists_const, ne_eq, Int.reduceAdd, Int.reduceSub, Int.reduceMul, Int.reduceBEq, Int.reduceEq, Int.reduceLT, Int.reduceLE, Int.reduceToNat, Int.reduceNeg, Int.reduceBNe]
        · simp -implicitDefEqProofs only [↓aP, aQ, ↓reduceIte, Nat.reduceEqDiff, Nat.reduceAdd, Nat.reduceSub, Nat.reduceMul, Nat.reduceLT, Nat.reduceLeDiff, reduceCtorEq, Nat.reduceBEq, forall_const, implies_true, exists_const, ne_eq, Int.reduceAdd, Int.reduceSub, Int.reduceMul, Int.reduceBEq, Int.reduceEq, Int.reduceLT, Int.reduceLE, Int.reduceToNat, Int.reduceNeg, Int.reduceBNe]
          rw [take_snoc hi2, List.map_append]
          rfl
        · simp -implicitDefEqProofs only [↓aP, aQ, ↓reduceIte, Nat.reduceEqDiff, Nat.reduceAdd, Nat.reduceSub, Nat.reduceMul, Nat.reduceLT, Nat.reduceLeDiff, reduceCtorEq, Nat.reduceBEq, forall_const, implies_true, exists_const, ne_eq, Int.reduceAdd, Int.reduceSub, Int.reduceMul, Int.reduceBEq, Int.reduceEq, Int.reduceLT, Int.reduceLE, Int.reduceToNat, Int.reduceNeg, Int.reduceBNe, s4, s1, g1, b1, s2, g2, b2, s3, g3, b3]
    · have hi : i = z.sectors.length := by simp at hf; omega
      rw [hi, List.take_length] at hx
      rcases hx with ⟨rfl, he⟩ | ⟨g, rfl, g18, b18⟩
      · simp -implicitDefEqProofs only [↓aP, aQ, ↓reduceIte, Nat.reduceEqDiff, Nat.reduceAdd, Nat.reduceSub, Nat.reduceMul, Nat.reduceLT, Nat.reduceLeDiff, reduceCtorEq, Nat.reduceBEq, forall_const, implies_true, exists_const, ne_eq, Int.reduceAdd, Int.reduceSub, Int.reduceMul, Int.reduceBEq, Int.reduceEq, Int.reduceLT, Int.reduceLE, Int.reduceToNat, Int.reduceNeg, Int.reduceBNe, s4, s1, g1, b1, s2, g2, b2, s3, g3, b3]
        rw [he]
        exact .refl _
      · simp -implicitDefEqProofs only [↓aP, aQ, ↓reduceIte, Nat.reduceEqDiff, Nat.reduceAdd, Nat.reduceSub, Nat.reduceMul, Nat.reduceLT, Nat.reduceLeDiff, reduceCtorEq, Nat.reduceBEq, forall_const, implies_true, exists_const, ne_eq, Int.reduceAdd, Int.reduceSub, Int.reduceMul, Int.reduceBEq, Int.reduceEq, Int.reduceLT, Int.reduceLE, Int.reduceToNat, Int.reduceNeg, Int.reduceBNe, s4, s1, g1, b1, s2, g2, b2, s3, g3, b3, g18, b18]
end Go.Proofs.Yteghmlafodkfpaa
