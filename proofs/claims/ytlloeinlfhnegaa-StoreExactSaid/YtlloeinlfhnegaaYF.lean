/- layer 3's reference: Small, Right. -/
import Derived.Test.YtlloeinlfhnegaaYR
import Derived.Test.YtlloeinlfhnegaaAm19
import Derived.Laws.StructEq
namespace Go.Proofs.Ytlloeinlfhnegaa
open Go.RowKit
set_option linter.unusedVariables false
set_option linter.unusedSimpArgs false

def le40 (s : ByteArray) : Bool := !decide ((40 : Int) < s.size)
def smallB (d : Dk) : Bool := decide (d.sectors.length ≤ 80 ∧ d.cache.length ≤ 220) && d.sectors.all le40 && d.cache.all (fun w => le40 w.data)
theorem small_spec (d : Dk) : Spec Try.prog 9 [.agg (encDk d)] (.val (rB (smallB d))) := by
  refine spec_val mixed fn9 (by simp) ?_
  unfold ac9
  simp -implicitDefEqProofs only [↓aP, aQ, ↓reduceIte, Nat.reduceEqDiff, Nat.reduceAdd, Nat.reduceSub, Nat.reduceMul, Nat.reduceLT, Nat.reduceLeDiff, reduceCtorEq, Nat.reduceBEq, forall_const, implies_true, exists_const, ne_eq, Int.reduceAdd, Int.reduceSub, Int.reduceMul, Int.reduceBEq, Int.reduceEq, Int.reduceLT, Int.reduceLE, Int.reduceToNat, Int.reduceNeg, Int.reduceBNe, encDk]
  cases h1 : decide ((80 : Int) < d.sectors.length)
  case true =>
    simp -implicitDefEqProofs only [↓aP, aQ, ↓reduceIte, Nat.reduceEqDiff, Nat.reduceAdd, Nat.reduceSub, Nat.reduceMul, Nat.reduceLT, Nat.reduceLeDiff, reduceCtorEq, Nat.reduceBEq, forall_const, implies_true, exists_const, ne_eq, Int.reduceAdd, Int.reduceSub, Int.reduceMul, Int.reduceBEq, Int.reduceEq, Int.reduceLT, Int.reduceLE, Int.reduceToNat, Int.reduceNeg, Int.reduceBNe]
    have : ¬ d.sectors.length ≤ 80 := by simp at h1; omega
    simp [smallB, this]
  simp -implicitDefEqProofs only [↓aP, aQ, ↓reduceIte, Nat.reduceEqDiff, Nat.reduceAdd, Nat.reduceSub, Nat.reduceMul, Nat.reduceLT, Nat.reduceLeDiff, reduceCtorEq, Nat.reduceBEq, forall_const, implies_true, exists_const, ne_eq, Int.reduceAdd, Int.reduceSub, Int.reduceMul, Int.reduceBEq, Int.reduceEq, Int.reduceLT, Int.reduceLE, Int.reduceToNat, Int.reduceNeg, Int.reduceBNe]
  cases h2 : decide ((220 : Int) < d.cache.length)
  case true =>
    simp -implicitDefEqProofs only [↓aP, aQ, ↓reduceIte, Nat.reduceEqDiff, Nat.reduceAdd, Nat.reduceSub, Nat.reduceMul, Nat.reduceLT, Nat.reduceLeDiff, reduceCtorEq, Nat.reduceBEq, forall_const, implies_true, exists_const, ne_eq, Int.reduceAdd, Int.reduceSub, Int.reduceMul, Int.reduceBEq, Int.reduceEq, Int.reduceLT, Int.reduceLE, Int.reduceToNat, Int.reduceNeg, Int.reduceBNe]
    have : ¬ d.cache.length ≤ 220 := by simp at h2; omega
    simp [smallB, this]
  simp -implicitDefEqProofs only [↓aP, aQ, ↓reduceIte, Nat.reduceEqDiff, Nat.reduceAdd, Nat.reduceSub, Nat.reduceMul, Nat.reduceLT, Nat.reduceLeDiff, reduceCtorEq, Nat.reduceBEq, forall_const, implies_true, exists_const, ne_eq, Int.reduceAdd, Int.reduceSub, Int.reduceMul, Int.reduceBEq, Int.reduceEq, Int.reduceLT, Int.reduceLE, Int.reduceToNat, Int.reduceNeg, Int.reduceBNe]
  have hn : d.sectors.length ≤ 80 ∧ d.cache.length ≤ 220 := by simp at h1 h2; omega
  refine loopA (fun m σ => ∃ i, i + m = d.sectors.length ∧ (∀ s ∈ d.sectors.take i, le40 s = true) ∧ σ.slot 3 = vI i ∧ σ.slot 1 = .c (.ptr 1 1 0 0) ∧ σ.h.gen 1 = 1 ∧ σ.h.blk 1 = .box 25 2 [[.s (.sl 1 (d.sectors.map encS)), .s (.sl 2 (d.cache.map encWr))]]) d.sectors.length ?_ ?_
  · simp -implicitDefEqProofs only [↓aP, aQ, ↓reduceIte, Nat.reduceEqDiff, Nat.reduceAdd, Nat.reduceSub, Nat.reduceMul, Nat.reduceLT, Nat.reduceLeDiff, reduceCtorEq, Nat.reduceBEq, forall_const, implies_true, exists_const, ne_eq, Int.reduceAdd, Int.reduceSub, Int.reduceMul, Int.reduceBEq, Int.reduceEq, Int.reduceLT, Int.reduceLE, Int.reduceToNat, Int.reduceNeg, Int.reduceBNe]
    refine ⟨0, ?_⟩
    simp -implicitDefEqProofs only [↓aP, aQ, ↓reduceIte, Nat.reduceEqDiff, Nat.reduceAdd, Nat.reduceSub, Nat.reduceMul, Nat.reduceLT, Nat.reduceLeDiff, reduceCtorEq, Nat.reduceBEq, forall_const, implies_true, exists_const, ne_eq, Int.reduceAdd, Int.reduceSub, Int.reduceMul, Int.reduceBEq, Int.reduceEq, Int.reduceLT, Int.reduceLE, Int.reduceToNat, Int.reduceNeg, Int.reduceBNe]
    simp
  · rintro m σ ⟨i, him, hs, s3, s1, g1, b1⟩
    simp -implicitDefEqProofs only [↓aP, aQ, ↓reduceIte, Nat.reduceEqDiff, Nat.reduceAdd, Nat.reduceSub, Nat.reduceMul, Nat.reduceLT, Nat.reduceLeDiff, reduceCtorEq, Nat.reduceBEq, forall_const, implies_true, exists_const, ne_eq, Int.reduceAdd, Int.reduceSub, Int.reduceMul, Int.reduceBEq, Int.reduceEq, Int.reduceLT, Int.reduceLE, Int.reduceToNat, Int.reduceNeg, Int.reduceBNe, s3, s1, g1, b1]
    refine fork ?_ ?_ <;> intro hc
    · have hi : i < d.sectors.length := by simpa using hc
      simp -implicitDefEqProofs only [↓aP, aQ, ↓reduceIte, Nat.reduceEqDiff, Nat.reduceAdd, Nat.reduceSub, Nat.reduceMul, Nat.reduceLT, Nat.reduceLeDiff, reduceCtorEq, Nat.reduceBEq, forall_const, implies_true, exists_const, ne_eq, Int.reduceAdd, Int.reduceSub, Int.reduceMul, Int.reduceBEq, Int.reduceEq, Int.reduceLT, Int.reduceLE, Int.reduceToNat, Int.reduceNeg, Int.reduceBNe, s3, s1, g1, b1, askIdx_map, hi, encS]
      refine fork ?_ ?_ <;> intro hd
      · simp -implicitDefEqProofs only [↓aP, aQ, ↓reduceIte, Nat.reduceEqDiff, Nat.reduceAdd, Nat.reduceSub, Nat.reduceMul, Nat.reduceLT, Nat.reduceLeDiff, reduceCtorEq, Nat.reduceBEq, forall_const, implies_true, exists_const, ne_eq, Int.reduceAdd, Int.reduceSub, Int.reduceMul, Int.reduceBEq, Int.reduceEq, Int.reduceLT, Int.reduceLE, Int.reduceToNat, Int.reduceNeg, Int.reduceBNe]
        have : le40 d.sectors[i] = false := by simpa [le40] using hd
        have : d.sectors.all le40 = false := by simp only [List.all_eq_false]; exact ⟨_, List.getElem_mem hi, by simp [this]⟩
        simp [smallB, this]
      · simp -implicitDefEqProofs only [↓aP, aQ, ↓reduceIte, Nat.reduceEqDiff, Nat.reduceAdd, Nat.reduceSub, Nat.reduceMul, Nat.reduceLT, Nat.reduceLeDiff, reduceCtorEq, Nat.reduceBEq, forall_const, implies_true, exists_const, ne_eq, Int.reduceAdd, Int.reduceSub, Int.reduceMul, Int.reduceBEq, Int.reduceEq, Int.reduceLT, Int.reduceLE, Int.reduceToNat, Int.reduceNeg, Int.reduceBNe, s3, s1, g1, b1, wrapS (show i < 4611686018427387904 by omega)]
        refine ⟨m - 1, by omega, i + 1, ?_⟩
        simp -implicitDefEqProofs only [↓aP, aQ, ↓reduceIte, Nat.reduceEqDiff, Nat.reduceAdd, Nat.reduceSub, Nat.reduceMul, Nat.reduceLT, Nat.reduceLeDiff, reduceCtorEq, Nat.reduceBEq, forall_const, implies_true, exists_const, ne_eq, Int.reduceAdd, Int.reduceSub, Int.reduceMul, Int.reduceBEq, Int.reduceEq, Int.reduceLT, Int.reduceLE, Int.reduceToNat, Int.reduceNeg, Int.reduceBNe]
        refine ⟨by omega, ?_⟩
        rw [take_snoc hi]
        simp only [List.mem_append, List.mem_singleton]
        rintro s (h | rfl)
        · exact hs s h
        · simpa [le40] using hd
    · simp -implicitDefEqProofs only [↓aP, aQ, ↓reduceIte, Nat.reduceEqDiff, Nat.reduceAdd, Nat.reduceSub, Nat.reduceMul, Nat.reduceLT, Nat.reduceLeDiff, reduceCtorEq, Nat.reduceBEq, forall_const, implies_true, exists_const, ne_eq, Int.reduceAdd, Int.reduceSub, Int.reduceMul, Int.reduceBEq, Int.reduceEq, Int.reduceLT, Int.reduceLE, Int.reduceToNat, Int.reduceNeg, Int.reduceBNe, s3, s1, g1, b1]
      have hi : i = d.sectors.length := by simp at hc; omega
      have hall : d.sectors.all le40 = true := by rw [List.all_eq_true]; intro s h; exact hs s (by rw [hi, List.take_length]; exact h)
      refine loopA (fun m σ => ∃ i, i + m = d.cache.length ∧ (∀ s ∈ d.cache.take i, le40 s.data = true) ∧ σ.slot 4 = vI i ∧ σ.slot 1 = .c (.ptr 1 1 0 0) ∧ σ.h.gen 1 = 1 ∧ σ.h.blk 1 = .box 25 2 [[.s (.sl 1 (d.sectors.map encS)), .s (.sl 2 (d.cache.map encWr))]]) d.cache.length ?_ ?_
      · simp -implicitDefEqProofs only [↓aP, aQ, ↓reduceIte, Nat.reduceEqDiff, Nat.reduceAdd, Nat.reduceSub, Nat.reduceMul, Nat.reduceLT, Nat.reduceLeDiff, reduceCtorEq, Nat.reduceBEq, forall_const, implies_true, exists_const, ne_eq, Int.reduceAdd, Int.reduceSub, Int.reduceMul, Int.reduceBEq, Int.reduceEq, Int.reduceLT, Int.reduceLE, Int.reduceToNat, Int.reduceNeg, Int.reduceBNe, s1, g1, b1]
        refine ⟨0, ?_⟩
        simp -implicitDefEqProofs only [↓aP, aQ, ↓reduceIte, Nat.reduceEqDiff, Nat.reduceAdd, Nat.reduceSub, Nat.reduceMul, Nat.reduceLT, Nat.reduceLeDiff, reduceCtorEq, Nat.reduceBEq, forall_const, implies_true, exists_const, ne_eq, Int.reduceAdd, Int.reduceSub, Int.reduceMul, Int.reduceBEq, Int.reduceEq, Int.reduceLT, Int.reduceLE, Int.reduceToNat, Int.reduceNeg, Int.reduceBNe]
        simp
      · clear him hs s3 s1 g1 b1 hc hi
        rintro m σ ⟨i, him, hs, s4, s1, g1, b1⟩
        simp -implicitDefEqProofs only [↓aP, aQ, ↓reduceIte, Nat.reduceEqDiff, Nat.reduceAdd, Nat.reduceSub, Nat.reduceMul, Nat.reduceLT, Nat.reduceLeDiff, reduceCtorEq, Nat.reduceBEq, forall_const, implies_true, exists_const, ne_eq, Int.reduceAdd, Int.reduceSub, Int.reduceMul, Int.reduceBEq, Int.reduceEq, Int.reduceLT, Int.reduceLE, Int.reduceToNat, Int.reduceNeg, Int.reduceBNe, s4, s1, g1, b1]
        refine fork ?_ ?_ <;> intro hc
        · have hi : i < d.cache.length := by simpa using hc
          simp -implicitDefEqProofs only [↓aP, aQ, ↓reduceIte, Nat.reduceEqDiff, Nat.reduceAdd, Nat.reduceSub, Nat.reduceMul, Nat.reduceLT, Nat.reduceLeDiff, reduceCtorEq, Nat.reduceBEq, forall_const, implies_true, exists_const, ne_eq, Int.reduceAdd, Int.reduceSub, Int.reduceMul, Int.reduceBEq, Int.reduceEq, Int.reduceLT, Int.reduceLE, Int.reduceToNat, Int.reduceNeg, Int.reduceBNe, s4, s1, g1, b1, askIdx_map, hi, encWr]
          refine fork ?_ ?_ <;> intro hd
          · simp -implicitDefEqProofs only [↓aP, aQ, ↓reduceIte, Nat.reduceEqDiff, Nat.reduceAdd, Nat.reduceSub, Nat.reduceMul, Nat.reduceLT, Nat.reduceLeDiff, reduceCtorEq, Nat.reduceBEq, forall_const, implies_true, exists_const, ne_eq, Int.reduceAdd, Int.reduceSub, Int.reduceMul, Int.reduceBEq, Int.reduceEq, Int.reduceLT, Int.reduceLE, Int.reduceToNat, Int.reduceNeg, Int.reduceBNe]
            have : le40 d.cache[i].data = false := by simpa [le40] using hd
            have : d.cache.all (fun w => le40 w.data) = false := by simp only [List.all_eq_false]; exact ⟨_, List.getElem_mem hi, by simp [this]⟩
            simp [smallB, this]
          · simp -implicitDefEqProofs only [↓aP, aQ, ↓reduceIte, Nat.reduceEqDiff, Nat.reduceAdd, Nat.reduceSub, Nat.reduceMul, Nat.reduceLT, Nat.reduceLeDiff, reduceCtorEq, Nat.reduceBEq, forall_const, implies_true, exists_const, ne_eq, Int.reduceAdd, Int.reduceSub, Int.reduceMul, Int.reduceBEq, Int.reduceEq, Int.reduceLT, Int.reduceLE, Int.reduceToNat, Int.reduceNeg, Int.reduceBNe, s4, s1, g1, b1, wrapS (show i < 4611686018427387904 by omega)]
            refine ⟨m - 1, by omega, i + 1, ?_⟩
            simp -implicitDefEqProofs only [↓aP, aQ, ↓reduceIte, Nat.reduceEqDiff, Nat.reduceAdd, Nat.reduceSub, Nat.reduceMul, Nat.reduceLT, Nat.reduceLeDiff, reduceCtorEq, Nat.reduceBEq, forall_const, implies_true, exists_const, ne_eq, Int.reduceAdd, Int.reduceSub, Int.reduceMul, Int.reduceBEq, Int.reduceEq, Int.reduceLT, Int.reduceLE, Int.reduceToNat, Int.reduceNeg, Int.reduceBNe]
            refine ⟨by omega, ?_⟩
            rw [take_snoc hi]
            simp only [List.mem_append, List.mem_singleton]
            rintro s (h | rfl)
            · exact hs s h
            · simpa [le40] using hd
        · simp -implicitDefEqProofs only [↓aP, aQ, ↓reduceIte, Nat.reduceEqDiff, Nat.reduceAdd, Nat.reduceSub, Nat.reduceMul, Nat.reduceLT, Nat.reduceLeDiff, reduceCtorEq, Nat.reduceBEq, forall_const, implies_true, exists_const, ne_eq, Int.reduceAdd, Int.reduceSub, Int.reduceMul, Int.reduceBEq, Int.reduceEq, Int.reduceLT, Int.reduceLE, Int.reduceToNat, Int.reduceNeg, Int.reduceBNe, s4, s1, g1, b1]
          have hi : i = d.cache.length := by simp at hc; omega
          have hall2 : d.cache.all (fun w => le40 w.data) = true := by rw [List.all_eq_true]; intro s h; exact hs s (by rw [hi, List.take_length]; exact h)
          simp [smallB, hall, hall2, hn]
theorem refRight_spec (d : Dk) : Spec Try.prog 39 [.agg (encDk d)] (.val (rB (rightB d))) := by
  refine spec_val mixed fn39 (by simp) ?_
  unfold ac39
  simp -implicitDefEqProofs only [↓aP, aQ, ↓reduceIte, Nat.reduceEqDiff, Nat.reduceAdd, Nat.reduceSub, Nat.reduceMul, Nat.reduceLT, Nat.reduceLeDiff, reduceCtorEq, Nat.reduceBEq, forall_const, implies_true, exists_const, ne_eq, Int.reduceAdd, Int.reduceSub, Int.reduceMul, Int.reduceBEq, Int.reduceEq, Int.reduceLT, Int.reduceLE, Int.reduceToNat, Int.reduceNeg, Int.reduceBNe, encDk]
  cases h0 : decide ((d.sectors.length : Int) < 1)
  case true =>
    simp -implicitDefEqProofs only [↓aP, aQ, ↓reduceIte, Nat.reduceEqDiff, Nat.reduceAdd, Nat.reduceSub, Nat.reduceMul, Nat.reduceLT, Nat.reduceLeDiff, reduceCtorEq, Nat.reduceBEq, forall_const, implies_true, exists_const, ne_eq, Int.reduceAdd, Int.reduceSub, Int.reduceMul, Int.reduceBEq, Int.reduceEq, Int.reduceLT, Int.reduceLE, Int.reduceToNat, Int.reduceNeg, Int.reduceBNe]
    have : d.sectors = [] := by simp at h0; exact List.eq_nil_of_length_eq_zero (by omega)
    simp [rightB, this]
  simp -implicitDefEqProofs only [↓aP, aQ, ↓reduceIte, Nat.reduceEqDiff, Nat.reduceAdd, Nat.reduceSub, Nat.reduceMul, Nat.reduceLT, Nat.reduceLeDiff, reduceCtorEq, Nat.reduceBEq, forall_const, implies_true, exists_const, ne_eq, Int.reduceAdd, Int.reduceSub, Int.reduceMul, Int.reduceBEq, Int.reduceEq, Int.reduceLT, Int.reduceLE, Int.reduceToNat, Int.reduceNeg, Int.reduceBNe]
  cases h1 : decide ((64 : Int) < d.sectors.length)
  case true =>
    simp -implicitDefEqProofs only [↓aP, aQ, ↓reduceIte, Nat.reduceEqDiff, Nat.reduceAdd, Nat.reduceSub, Nat.reduceMul, Nat.reduceLT, Nat.reduceLeDiff, reduceCtorEq, Nat.reduceBEq, forall_const, implies_true, exists_const, ne_eq, Int.reduceAdd, Int.reduceSub, Int.reduceMul, Int.reduceBEq, Int.reduceEq, Int.reduceLT, Int.reduceLE, Int.reduceToNat, Int.reduceNeg, Int.reduceBNe]
    have : 64 < d.sectors.length := by simp at h1; omega
    simp [rightB]; omega
  simp -implicitDefEqProofs only [↓aP, aQ, ↓reduceIte, Nat.reduceEqDiff, Nat.reduceAdd, Nat.reduceSub, Nat.reduceMul, Nat.reduceLT, Nat.reduceLeDiff, reduceCtorEq, Nat.reduceBEq, forall_const, implies_true, exists_const, ne_eq, Int.reduceAdd, Int.reduceSub, Int.reduceMul, Int.reduceBEq, Int.reduceEq, Int.reduceLT, Int.reduceLE, Int.reduceToNat, Int.reduceNeg, Int.reduceBNe]
  cases h2 : decide ((200 : Int) < d.cache.length)
  case true =>
    simp -implicitDefEqProofs only [↓aP, aQ, ↓reduceIte, Nat.reduceEqDiff, Nat.reduceAdd, Nat.reduceSub, Nat.reduceMul, Nat.reduceLT, Nat.reduceLeDiff, reduceCtorEq, Nat.reduceBEq, forall_const, implies_true, exists_const, ne_eq, Int.reduceAdd, Int.reduceSub, Int.reduceMul, Int.reduceBEq, Int.reduceEq, Int.reduceLT, Int.reduceLE, Int.reduceToNat, Int.reduceNeg, Int.reduceBNe]
    have : 200 < d.cache.length := by simp at h2; omega
    simp [rightB]; omega
  simp -implicitDefEqProofs only [↓aP, aQ, ↓reduceIte, Nat.reduceEqDiff, Nat.reduceAdd, Nat.reduceSub, Nat.reduceMul, Nat.reduceLT, Nat.reduceLeDiff, reduceCtorEq, Nat.reduceBEq, forall_const, implies_true, exists_const, ne_eq, Int.reduceAdd, Int.reduceSub, Int.reduceMul, Int.reduceBEq, Int.reduceEq, Int.reduceLT, Int.reduceLE, Int.reduceToNat, Int.reduceNeg, Int.reduceBNe]
  have hn : 1 ≤ d.sectors.length ∧ d.sectors.length ≤ 64 ∧ d.cache.length ≤ 200 := by simp at h0 h1 h2; omega
  refine loopA (fun m σ => ∃ i, i + m = d.sectors.length ∧ (∀ s ∈ d.sectors.take i, len16 s = true) ∧ σ.slot 3 = vI i ∧ σ.slot 1 = .c (.ptr 1 1 0 0) ∧ σ.h.gen 1 = 1 ∧ σ.h.blk 1 = .box 25 2 [[.s (.sl 1 (d.sectors.map encS)), .s (.sl 2 (d.cache.map encWr))]]) d.sectors.length ?_ ?_
  · simp -implicitDefEqProofs only [↓aP, aQ, ↓reduceIte, Nat.reduceEqDiff, Nat.reduceAdd, Nat.reduceSub, Nat.reduceMul, Nat.reduceLT, Nat.reduceLeDiff, reduceCtorEq, Nat.reduceBEq, forall_const, implies_true, exists_const, ne_eq, Int.reduceAdd, Int.reduceSub, Int.reduceMul, Int.reduceBEq, Int.reduceEq, Int.reduceLT, Int.reduceLE, Int.reduceToNat, Int.reduceNeg, Int.reduceBNe]
    refine ⟨0, ?_⟩
    simp -implicitDefEqProofs only [↓aP, aQ, ↓reduceIte, Nat.reduceEqDiff, Nat.reduceAdd, Nat.reduceSub, Nat.reduceMul, Nat.reduceLT, Nat.reduceLeDiff, reduceCtorEq, Nat.reduceBEq, forall_const, implies_true, exists_const, ne_eq, Int.reduceAdd, Int.reduceSub, Int.reduceMul, Int.reduceBEq, Int.reduceEq, Int.reduceLT, Int.reduceLE, Int.reduceToNat, Int.reduceNeg, Int.reduceBNe]
    simp
  · rintro m σ ⟨i, him, hs, s3, s1, g1, b1⟩
    simp -implicitDefEqProofs only [↓aP, aQ, ↓reduceIte, Nat.reduceEqDiff, Nat.reduceAdd, Nat.reduceSub, Nat.reduceMul, Nat.reduceLT, Nat.reduceLeDiff, reduceCtorEq, Nat.reduceBEq, forall_const, implies_true, exists_const, ne_eq, Int.reduceAdd, Int.reduceSub, Int.reduceMul, Int.reduceBEq, Int.reduceEq, Int.reduceLT, Int.reduceLE, Int.reduceToNat, Int.reduceNeg, Int.reduceBNe, s3, s1, g1, b1]
    refine fork ?_ ?_ <;> intro hc
    · have hi : i < d.sectors.length := by simpa using hc
      simp -implicitDefEqProofs only [↓aP, aQ, ↓reduceIte, Nat.reduceEqDiff, Nat.reduceAdd, Nat.reduceSub, Nat.reduceMul, Nat.reduceLT, Nat.reduceLeDiff, reduceCtorEq, Nat.reduceBEq, forall_const, implies_true, exists_const, ne_eq, Int.reduceAdd, Int.reduceSub, Int.reduceMul, Int.reduceBEq, Int.reduceEq, Int.reduceLT, Int.reduceLE, Int.reduceToNat, Int.reduceNeg, Int.reduceBNe, s3, s1, g1, b1, askIdx_map, hi, encS]
      refine fork ?_ ?_ <;> intro hd
      · simp -implicitDefEqProofs only [↓aP, aQ, ↓reduceIte, Nat.reduceEqDiff, Nat.reduceAdd, Nat.reduceSub, Nat.reduceMul, Nat.reduceLT, Nat.reduceLeDiff, reduceCtorEq, Nat.reduceBEq, forall_const, implies_true, exists_const, ne_eq, Int.reduceAdd, Int.reduceSub, Int.reduceMul, Int.reduceBEq, Int.reduceEq, Int.reduceLT, Int.reduceLE, Int.reduceToNat, Int.reduceNeg, Int.reduceBNe]
        have : len16 d.sectors[i] = false := by simpa [len16] using hd
        have : d.sectors.all len16 = false := by simp only [List.all_eq_false]; exact ⟨_, List.getElem_mem hi, by simp [this]⟩
        simp [rightB, this]
      · simp -implicitDefEqProofs only [↓aP, aQ, ↓reduceIte, Nat.reduceEqDiff, Nat.reduceAdd, Nat.reduceSub, Nat.reduceMul, Nat.reduceLT, Nat.reduceLeDiff, reduceCtorEq, Nat.reduceBEq, forall_const, implies_true, exists_const, ne_eq, Int.reduceAdd, Int.reduceSub, Int.reduceMul, Int.reduceBEq, Int.reduceEq, Int.reduceLT, Int.reduceLE, Int.reduceToNat, Int.reduceNeg, Int.reduceBNe, s3, s1, g1, b1, wrapS (show i < 4611686018427387904 by omega)]
        refine ⟨m - 1, by omega, i + 1, ?_⟩
        simp -implicitDefEqProofs only [↓aP, aQ, ↓reduceIte, Nat.reduceEqDiff, Nat.reduceAdd, Nat.reduceSub, Nat.reduceMul, Nat.reduceLT, Nat.reduceLeDiff, reduceCtorEq, Nat.reduceBEq, forall_const, implies_true, exists_const, ne_eq, Int.reduceAdd, Int.reduceSub, Int.reduceMul, Int.reduceBEq, Int.reduceEq, Int.reduceLT, Int.reduceLE, Int.reduceToNat, Int.reduceNeg, Int.reduceBNe]
        refine ⟨by omega, ?_⟩
        rw [take_snoc hi]
        simp only [List.mem_append, List.mem_singleton]
        rintro s (h | rfl)
        · exact hs s h
        · simpa [len16] using hd
    · simp -implicitDefEqProofs only [↓aP, aQ, ↓reduceIte, Nat.reduceEqDiff, Nat.reduceAdd, Nat.reduceSub, Nat.reduceMul, Nat.reduceLT, Nat.reduceLeDiff, reduceCtorEq, Nat.reduceBEq, forall_const, implies_true, exists_const, ne_eq, Int.reduceAdd, Int.reduceSub, Int.reduceMul, Int.reduceBEq, Int.reduceEq, Int.reduceLT, Int.reduceLE, Int.reduceToNat, Int.reduceNeg, Int.reduceBNe, s3, s1, g1, b1]
      have hi : i = d.sectors.length := by simp at hc; omega
      have hall : d.sectors.all len16 = true := by rw [List.all_eq_true]; intro s h; exact hs s (by rw [hi, List.take_length]; exact h)
      refine loopA (fun m σ => ∃ i, i + m = d.cache.length ∧ (∀ s ∈ d.cache.take i, fitsB d s = true) ∧ σ.slot 4 = vI i ∧ σ.slot 1 = .c (.ptr 1 1 0 0) ∧ σ.h.gen 1 = 1 ∧ σ.h.blk 1 = .box 25 2 [[.s (.sl 1 (d.sectors.map encS)), .s (.sl 2 (d.cache.map encWr))]]) d.cache.length ?_ ?_
      · simp -implicitDefEqProofs only [↓aP, aQ, ↓reduceIte, Nat.reduceEqDiff, Nat.reduceAdd, Nat.reduceSub, Nat.reduceMul, Nat.reduceLT, Nat.reduceLeDiff, reduceCtorEq, Nat.reduceBEq, forall_const, implies_true, exists_const, ne_eq, Int.reduceAdd, Int.reduceSub, Int.reduceMul, Int.reduceBEq, Int.reduceEq, Int.reduceLT, Int.reduceLE, Int.reduceToNat, Int.reduceNeg, Int.reduceBNe, s1, g1, b1]
        refine ⟨0, ?_⟩
        simp -implicitDefEqProofs only [↓aP, aQ, ↓reduceIte, Nat.reduceEqDiff, Nat.reduceAdd, Nat.reduceSub, Nat.reduceMul, Nat.reduceLT, Nat.reduceLeDiff, reduceCtorEq, Nat.reduceBEq, forall_const, implies_true, exists_const, ne_eq, Int.reduceAdd, Int.reduceSub, Int.reduceMul, Int.reduceBEq, Int.reduceEq, Int.reduceLT, Int.reduceLE, Int.reduceToNat, Int.reduceNeg, Int.reduceBNe]
        simp
      · clear him hs s3 s1 g1 b1 hc hi
        rintro m σ ⟨i, him, hs, s4, s1, g1, b1⟩
        simp -implicitDefEqProofs only [↓aP, aQ, ↓reduceIte, Nat.reduceEqDiff, Nat.reduceAdd, Nat.reduceSub, Nat.reduceMul, Nat.reduceLT, Nat.reduceLeDiff, reduceCtorEq, Nat.reduceBEq, forall_const, implies_true, exists_const, ne_eq, Int.reduceAdd, Int.reduceSub, Int.reduceMul, Int.reduceBEq, Int.reduceEq, Int.reduceLT, Int.reduceLE, Int.reduceToNat, Int.reduceNeg, Int.reduceBNe, s4, s1, g1, b1]
        refine fork ?_ ?_ <;> intro hc
        · have hi : i < d.cache.length := by simpa using hc
          simp -implicitDefEqProofs only [↓aP, aQ, ↓reduceIte, Nat.reduceEqDiff, Nat.reduceAdd, Nat.reduceSub, Nat.reduceMul, Nat.reduceLT, Nat.reduceLeDiff, reduceCtorEq, Nat.reduceBEq, forall_const, implies_true, exists_const, ne_eq, Int.reduceAdd, Int.reduceSub, Int.reduceMul, Int.reduceBEq, Int.reduceEq, Int.reduceLT, Int.reduceLE, Int.reduceToNat, Int.reduceNeg, Int.reduceBNe, s4, s1, g1, b1, askIdx_map, hi, encWr]
          have bad : fitsB d d.cache[i] = false → rightB d = false := fun h => by
            have : d.cache.all (fitsB d) = false := by simp only [List.all_eq_false]; exact ⟨_, List.getElem_mem hi, by simp [h]⟩
            simp [rightB, this]
          cases q1 : decide (d.cache[i].at_ < 0)
          · simp -implicitDefEqProofs only [↓aP, aQ, ↓reduceIte, Nat.reduceEqDiff, Nat.reduceAdd, Nat.reduceSub, Nat.reduceMul, Nat.reduceLT, Nat.reduceLeDiff, reduceCtorEq, Nat.reduceBEq, forall_const, implies_true, exists_const, ne_eq, Int.reduceAdd, Int.reduceSub, Int.reduceMul, Int.reduceBEq, Int.reduceEq, Int.reduceLT, Int.reduceLE, Int.reduceToNat, Int.reduceNeg, Int.reduceBNe, s4, s1, g1, b1]
            cases q2 : decide ((d.sectors.length : Int) ≤ d.cache[i].at_)
            · simp -implicitDefEqProofs only [↓aP, aQ, ↓reduceIte, Nat.reduceEqDiff, Nat.reduceAdd, Nat.reduceSub, Nat.reduceMul, Nat.reduceLT, Nat.reduceLeDiff, reduceCtorEq, Nat.reduceBEq, forall_const, implies_true, exists_const, ne_eq, Int.reduceAdd, Int.reduceSub, Int.reduceMul, Int.reduceBEq, Int.reduceEq, Int.reduceLT, Int.reduceLE, Int.reduceToNat, Int.reduceNeg, Int.reduceBNe, s4, s1, g1, b1]
              refine fork ?_ ?_ <;> intro q3
              · simp -implicitDefEqProofs only [↓aP, aQ, ↓reduceIte, Nat.reduceEqDiff, Nat.reduceAdd, Nat.reduceSub, Nat.reduceMul, Nat.reduceLT, Nat.reduceLeDiff, reduceCtorEq, Nat.reduceBEq, forall_const, implies_true, exists_const, ne_eq, Int.reduceAdd, Int.reduceSub, Int.reduceMul, Int.reduceBEq, Int.reduceEq, Int.reduceLT, Int.reduceLE, Int.reduceToNat, Int.reduceNeg, Int.reduceBNe]
                exact (bad (by simp [fitsB]; intro _; simpa using q3)).symm
              · simp -implicitDefEqProofs only [↓aP, aQ, ↓reduceIte, Nat.reduceEqDiff, Nat.reduceAdd, Nat.reduceSub, Nat.reduceMul, Nat.reduceLT, Nat.reduceLeDiff, reduceCtorEq, Nat.reduceBEq, forall_const, implies_true, exists_const, ne_eq, Int.reduceAdd, Int.reduceSub, Int.reduceMul, Int.reduceBEq, Int.reduceEq, Int.reduceLT, Int.reduceLE, Int.reduceToNat, Int.reduceNeg, Int.reduceBNe, s4, s1, g1, b1, wrapS (show i < 4611686018427387904 by omega)]
                refine ⟨m - 1, by omega, i + 1, ?_⟩
                simp -implicitDefEqProofs only [↓aP, aQ, ↓reduceIte, Nat.reduceEqDiff, Nat.reduceAdd, Nat.reduceSub, Nat.reduceMul, Nat.reduceLT, Nat.reduceLeDiff, reduceCtorEq, Nat.reduceBEq, forall_const, implies_true, exists_const, ne_eq, Int.reduceAdd, Int.reduceSub, Int.reduceMul, Int.reduceBEq, Int.reduceEq, Int.reduceLT, Int.reduceLE, Int.reduceToNat, Int.reduceNeg, Int.reduceBNe]
                refine ⟨by omega, ?_⟩
                rw [take_snoc hi]
                simp only [List.mem_append, List.mem_singleton]
                rintro s (h | rfl)
                · exact hs s h
                · simp only [decide_eq_false_iff_not, Int.not_lt, Int.not_le, bne_eq_false_iff_eq] at q1 q2 q3
                  simp [fitsB, hasB, q1, q2, q3]
            · simp -implicitDefEqProofs only [↓aP, aQ, ↓reduceIte, Nat.reduceEqDiff, Nat.reduceAdd, Nat.reduceSub, Nat.reduceMul, Nat.reduceLT, Nat.reduceLeDiff, reduceCtorEq, Nat.reduceBEq, forall_const, implies_true, exists_const, ne_eq, Int.reduceAdd, Int.reduceSub, Int.reduceMul, Int.reduceBEq, Int.reduceEq, Int.reduceLT, Int.reduceLE, Int.reduceToNat, Int.reduceNeg, Int.reduceBNe]
              exact (bad (by simp only [decide_eq_true_eq] at q2; simp [fitsB, hasB, Int.not_lt.2 q2])).symm
          · simp -implicitDefEqProofs only [↓aP, aQ, ↓reduceIte, Nat.reduceEqDiff, Nat.reduceAdd, Nat.reduceSub, Nat.reduceMul, Nat.reduceLT, Nat.reduceLeDiff, reduceCtorEq, Nat.reduceBEq, forall_const, implies_true, exists_const, ne_eq, Int.reduceAdd, Int.reduceSub, Int.reduceMul, Int.reduceBEq, Int.reduceEq, Int.reduceLT, Int.reduceLE, Int.reduceToNat, Int.reduceNeg, Int.reduceBNe]
            exact (bad (by simp only [decide_eq_true_eq] at q1; simp [fitsB, hasB, Int.not_le.2 q1])).symm
        · simp -implicitDefEqProofs only [↓aP, aQ, ↓reduceIte, Nat.reduceEqDiff, Nat.reduceAdd, Nat.reduceSub, Nat.reduceMul, Nat.reduceLT, Nat.reduceLeDiff, reduceCtorEq, Nat.reduceBEq, forall_const, implies_true, exists_const, ne_eq, Int.reduceAdd, Int.reduceSub, Int.reduceMul, Int.reduceBEq, Int.reduceEq, Int.reduceLT, Int.reduceLE, Int.reduceToNat, Int.reduceNeg, Int.reduceBNe, s4, s1, g1, b1]
          have hi : i = d.cache.length := by simp at hc; omega
          have hall2 : d.cache.all (fitsB d) = true := by rw [List.all_eq_true]; intro s h; exact hs s (by rw [hi, List.take_length]; exact h)
          simp [rightB, hall, hall2, hn]
end Go.Proofs.Ytlloeinlfhnegaa
namespace Go.Proofs.Ytlloeinlfhnegaa
open Go.RowKit Go.ChangeShapes Go.WideShapes
set_option linter.unusedVariables false
theorem opens_wr {H : Type} {enc : TypeId × Value → H} {w : World} {spare : Nat → Bool} {held : Bool} : Opens Try.prog enc w spare held 60 2 (fun ys => ∃ x : Wr, ys = encWr x ∧ (Lit.int .i64 x.at_).wf = true) := by
  have h := opens_struct (enc := enc) (w := w) (spare := spare) (held := held) Try.underlying60 (by kernel_rfl) (.cons rfl (opens_int Try.underlying3 (by kernel_rfl)) (.cons rfl (opens_str Try.underlying9 (by kernel_rfl)) (.nil _)))
  refine ⟨h.1, fun fuel cs x hx => ?_⟩
  obtain ⟨ys, ⟨a, b, rfl, ⟨n, rfl, hn⟩, c, e, rfl, ⟨s, rfl, hs⟩, rfl⟩, h2, h3⟩ := h.2 _ _ _ hx
  exact ⟨_, ⟨⟨n, s⟩, rfl, hn⟩, h2, h3⟩
theorem opens_dk {H : Type} {enc : TypeId × Value → H} {w : World} {spare : Nat → Bool} {held : Bool} : Opens Try.prog enc w spare held 25 2 (fun ys => ∃ x : Dk, ys = encDk x) := by
  have h := opens_struct (enc := enc) (w := w) (spare := spare) (held := held) Try.underlying25 (by kernel_rfl) (.cons rfl (opens_slice Try.underlying22 (by kernel_rfl) (by decide) (opens_str Try.underlying9 (by kernel_rfl))) (.cons rfl (opens_slice Try.underlying23 (by kernel_rfl) (by decide) opens_wr) (.nil _)))
  refine ⟨h.1, fun fuel cs x hx => ?_⟩
  obtain ⟨ys, ⟨a, b, rfl, ⟨els, rfl, he, _⟩, c, e, rfl, ⟨els2, rfl, he2, _⟩, rfl⟩, h2, h3⟩ := h.2 _ _ _ hx
  obtain ⟨ss, rfl⟩ := all_of_mem (f := encS) (fun y hy => by obtain ⟨s, e1, _⟩ := he y hy; exact ⟨s, e1⟩)
  obtain ⟨wr, rfl⟩ := all_of_mem (f := encWr) (fun y hy => by obtain ⟨s, e1, _⟩ := he2 y hy; exact ⟨s, e1⟩)
  exact ⟨_, ⟨⟨ss, wr⟩, rfl⟩, h2, h3⟩
set_option maxRecDepth 100000 in
theorem open_disk {H : Type} {enc : TypeId × Value → H} {w : World} {spare : Nat → Bool} {held : Bool} {r : Reach} {b0 : Nat} {v : Value} {d : DataW H} {p : List MemPlace} 
    (hv : Value.okWide Try.prog w r b0 25 v) (h : DataW.Trod enc Try.prog w 0 spare held 25 v d p) : ∃ x : Dk, RepT (RepS w fun _ => False) (.agg (encDk x)) v := by
  obtain ⟨ys, ⟨x, rfl⟩, h2⟩ := open_more opens_dk Try.underlying25 hv h
  exact ⟨x, h2⟩
set_option maxRecDepth 100000 in
theorem open_wr {H : Type} {enc : TypeId × Value → H} {w : World} {spare : Nat → Bool} {held : Bool} {r : Reach} {b0 : Nat} {v : Value} {d : DataW H} {p : List MemPlace} 
    (hv : Value.okWide Try.prog w r b0 60 v) (h : DataW.Trod enc Try.prog w 0 spare held 60 v d p) : ∃ x : Wr, RepT (RepS w fun _ => False) (.agg (encWr x)) v := by
  obtain ⟨ys, ⟨x, rfl, _⟩, h2⟩ := open_more opens_wr Try.underlying60 hv h
  exact ⟨x, h2⟩
set_option maxRecDepth 100000 in
theorem open_ints {H : Type} {enc : TypeId × Value → H} {w : World} {spare : Nat → Bool} {held : Bool} {r : Reach} {b0 : Nat} {v : Value} {d : DataW H} {p : List MemPlace} 
    (hv : Value.okWide Try.prog w r b0 53 v) (h : DataW.Trod enc Try.prog w 0 spare held 53 v d p) : ∃ l : List Int, RepT (RepS w fun _ => False) (rL 1 (l.map encI)) v ∧ ∀ a ∈ l, (Lit.int .i64 a).wf = true := by
  obtain ⟨y, ⟨els, e1, e2, e3⟩, h2⟩ := open_one (opens_slice Try.underlying53 (by kernel_rfl) (by decide) (opens_int Try.underlying3 (by kernel_rfl))) (slice_cells Try.underlying53 hv) h
  simp only [List.cons.injEq, and_true] at e1
  subst e1
  have key : ∃ l : List Int, els = l.map encI ∧ ∀ a ∈ l, (Lit.int .i64 a).wf = true := by
    clear h2 e3
    induction els with
    | nil => exact ⟨[], rfl, by intro a ha; simp at ha⟩
    | cons x xs ih =>
      obtain ⟨n, rfl, hn⟩ := e2 x (by simp)
      obtain ⟨l, rfl, hl⟩ := ih (fun y hy => e2 y (by simp [hy]))
      refine ⟨n :: l, rfl, ?_⟩
      intro a ha
      rcases List.mem_cons.1 ha with rfl | ha
      · exact hn
      · exact hl a ha
  obtain ⟨l, rfl, hl⟩ := key
  exact ⟨l, h2, hl⟩
end Go.Proofs.Ytlloeinlfhnegaa
namespace Go.Proofs.Ytlloeinlfhnegaa
open Go.RowKit
set_option linter.unusedVariables false
set_option linter.unusedSimpArgs false
theorem fields_wr : Try.prog.underlying 60 = some (.struct (Try.prog.fieldsOf 60)) := by kernel_rfl
theorem held_wr : Try.prog.stoodInHeld 60 = false := by kernel_rfl
theorem fieldsL_wr : ((Try.prog.fieldsOf 60).toList.map fun f => (f.type, f.offset)) = [(3, 0), (9, 1)] := by kernel_rfl
set_option maxRecDepth 100000 in
theorem eq_wr (x : Wr) : EqRun Try.prog 60 [.int .i64 x.at_, .string x.data] [.int .i64 x.at_, .string x.data] true := by
  intro w
  rw [run_eql_struct, run_equalIn_agg w 9999 _ _ _ fields_wr held_wr]
  go_simp

theorem same_spec (d : Dk) (h1 : d.sectors.length < 4611686018427387904) (h2 : d.cache.length < 4611686018427387904) : Spec Try.prog 20 [.agg (encDk d), .agg (encDk d)] (.val (rB true)) := by
  refine spec_val mixed fn20 (by simp) ?_
  unfold ac20
  simp -implicitDefEqProofs only [↓aP, aQ, ↓reduceIte, Nat.reduceEqDiff, Nat.reduceAdd, Nat.reduceSub, Nat.reduceMul, Nat.reduceLT, Nat.reduceLeDiff, reduceCtorEq, Nat.reduceBEq, forall_const, implies_true, exists_const, ne_eq, Int.reduceAdd, Int.reduceSub, Int.reduceMul, Int.reduceBEq, Int.reduceEq, Int.reduceLT, Int.reduceLE, Int.reduceToNat, Int.reduceNeg, Int.reduceBNe, encDk]
  refine loopA (fun m σ => ∃ i, i + m = d.sectors.length ∧ σ.slot 5 = vI i ∧ σ.slot 2 = .c (.ptr 2 1 0 0) ∧ σ.h.gen 2 = 1 ∧ σ.h.blk 2 = .box 25 2 [[.s (.sl 1 (d.sectors.map encS)), .s (.sl 2 (d.cache.map encWr))]] ∧ σ.slot 3 = .c (.ptr 3 1 0 0) ∧ σ.h.gen 3 = 1 ∧ σ.h.blk 3 = .box 25 2 [[.s (.sl 1 (d.sectors.map encS)), .s (.sl 2 (d.cache.map encWr))]]) d.sectors.length ?_ ?_
  · simp -implicitDefEqProofs only [↓aP, aQ, ↓reduceIte, Nat.reduceEqDiff, Nat.reduceAdd, Nat.reduceSub, Nat.reduceMul, Nat.reduceLT, Nat.reduceLeDiff, reduceCtorEq, Nat.reduceBEq, forall_const, implies_true, exists_const, ne_eq, Int.reduceAdd, Int.reduceSub, Int.reduceMul, Int.reduceBEq, Int.reduceEq, Int.reduceLT, Int.reduceLE, Int.reduceToNat, Int.reduceNeg, Int.reduceBNe]
    refine ⟨0, ?_⟩
    simp -implicitDefEqProofs only [↓aP, aQ, ↓reduceIte, Nat.reduceEqDiff, Nat.reduceAdd, Nat.reduceSub, Nat.reduceMul, Nat.reduceLT, Nat.reduceLeDiff, reduceCtorEq, Nat.reduceBEq, forall_const, implies_true, exists_const, ne_eq, Int.reduceAdd, Int.reduceSub, Int.reduceMul, Int.reduceBEq, Int.reduceEq, Int.reduceLT, Int.reduceLE, Int.reduceToNat, Int.reduceNeg, Int.reduceBNe]
  · rintro m σ ⟨i, him, s5, s2, g2, b2, s3, g3, b3⟩
    simp -implicitDefEqProofs only [↓aP, aQ, ↓reduceIte, Nat.reduceEqDiff, Nat.reduceAdd, Nat.reduceSub, Nat.reduceMul, Nat.reduceLT, Nat.reduceLeDiff, reduceCtorEq, Nat.reduceBEq, forall_const, implies_true, exists_const, ne_eq, Int.reduceAdd, Int.reduceSub, Int.reduceMul, Int.reduceBEq, Int.reduceEq, Int.reduceLT, Int.reduceLE, Int.reduceToNat, Int.reduceNeg, Int.reduceBNe, s5, s2, g2, b2, s3, g3, b3]
    refine fork ?_ ?_ <;> intro hf
    · have hi : i < d.sectors.length := by simpa using hf
      simp -implicitDefEqProofs only [↓aP, aQ, ↓reduceIte, Nat.reduceEqDiff, Nat.reduceAdd, Nat.reduceSub, Nat.reduceMul, Nat.reduceLT, Nat.reduceLeDiff, reduceCtorEq, Nat.reduceBEq, forall_const, implies_true, exists_const, ne_eq, Int.reduceAdd, Int.reduceSub, Int.reduceMul, Int.reduceBEq, Int.reduceEq, Int.reduceLT, Int.reduceLE, Int.reduceToNat, Int.reduceNeg, Int.reduceBNe, s5, s2, g2, b2, s3, g3, b3, askIdx_map, hi, encS, wrapS (show i < 4611686018427387904 by omega)]
      refine ⟨by decide, ?_⟩
      refine ⟨m - 1, by omega, i + 1, ?_⟩
      simp -implicitDefEqProofs only [↓aP, aQ, ↓reduceIte, Nat.reduceEqDiff, Nat.reduceAdd, Nat.reduceSub, Nat.reduceMul, Nat.reduceLT, Nat.reduceLeDiff, reduceCtorEq, Nat.reduceBEq, forall_const, implies_true, exists_const, ne_eq, Int.reduceAdd, Int.reduceSub, Int.reduceMul, Int.reduceBEq, Int.reduceEq, Int.reduceLT, Int.reduceLE, Int.reduceToNat, Int.reduceNeg, Int.reduceBNe]
      omega
    · simp -implicitDefEqProofs only [↓aP, aQ, ↓reduceIte, Nat.reduceEqDiff, Nat.reduceAdd, Nat.reduceSub, Nat.reduceMul, Nat.reduceLT, Nat.reduceLeDiff, reduceCtorEq, Nat.reduceBEq, forall_const, implies_true, exists_const, ne_eq, Int.reduceAdd, Int.reduceSub, Int.reduceMul, Int.reduceBEq, Int.reduceEq, Int.reduceLT, Int.reduceLE, Int.reduceToNat, Int.reduceNeg, Int.reduceBNe, s5, s2, g2, b2, s3, g3, b3]
      refine loopA (fun m σ => ∃ i, i + m = d.cache.length ∧ σ.slot 6 = vI i ∧ σ.slot 2 = .c (.ptr 2 1 0 0) ∧ σ.h.gen 2 = 1 ∧ σ.h.blk 2 = .box 25 2 [[.s (.sl 1 (d.sectors.map encS)), .s (.sl 2 (d.cache.map encWr))]] ∧ σ.slot 3 = .c (.ptr 3 1 0 0) ∧ σ.h.gen 3 = 1 ∧ σ.h.blk 3 = .box 25 2 [[.s (.sl 1 (d.sectors.map encS)), .s (.sl 2 (d.cache.map encWr))]]) d.cache.length ?_ ?_
      · simp -implicitDefEqProofs only [↓aP, aQ, ↓reduceIte, Nat.reduceEqDiff, Nat.reduceAdd, Nat.reduceSub, Nat.reduceMul, Nat.reduceLT, Nat.reduceLeDiff, reduceCtorEq, Nat.reduceBEq, forall_const, implies_true, exists_const, ne_eq, Int.reduceAdd, Int.reduceSub, Int.reduceMul, Int.reduceBEq, Int.reduceEq, Int.reduceLT, Int.reduceLE, Int.reduceToNat, Int.reduceNeg, Int.reduceBNe, s2, g2, b2, s3, g3, b3]
        refine ⟨0, ?_⟩
        simp -implicitDefEqProofs only [↓aP, aQ, ↓reduceIte, Nat.reduceEqDiff, Nat.reduceAdd, Nat.reduceSub, Nat.reduceMul, Nat.reduceLT, Nat.reduceLeDiff, reduceCtorEq, Nat.reduceBEq, forall_const, implies_true, exists_const, ne_eq, Int.reduceAdd, Int.reduceSub, Int.reduceMul, Int.reduceBEq, Int.reduceEq, Int.reduceLT, Int.reduceLE, Int.reduceToNat, Int.reduceNeg, Int.reduceBNe]
      · clear him s5 s2 g2 b2 s3 g3 b3 hf
        rintro m σ ⟨i, him, s6, s2, g2, b2, s3, g3, b3⟩
        simp -implicitDefEqProofs only [↓aP, aQ, ↓reduceIte, Nat.reduceEqDiff, Nat.reduceAdd, Nat.reduceSub, Nat.reduceMul, Nat.reduceLT, Nat.reduceLeDiff, reduceCtorEq, Nat.reduceBEq, forall_const, implies_true, exists_const, ne_eq, Int.reduceAdd, Int.reduceSub, Int.reduceMul, Int.reduceBEq, Int.reduceEq, Int.reduceLT, Int.reduceLE, Int.reduceToNat, Int.reduceNeg, Int.reduceBNe, s6, s2, g2, b2, s3, g3, b3]
        refine fork ?_ ?_ <;> intro hf
        · have hi : i < d.cache.length := by simpa using hf
          simp -implicitDefEqProofs only [↓aP, aQ, ↓reduceIte, Nat.reduceEqDiff, Nat.reduceAdd, Nat.reduceSub, Nat.reduceMul, Nat.reduceLT, Nat.reduceLeDiff, reduceCtorEq, Nat.reduceBEq, forall_const, implies_true, exists_const, ne_eq, Int.reduceAdd, Int.reduceSub, Int.reduceMul, Int.reduceBEq, Int.reduceEq, Int.reduceLT, Int.reduceLE, Int.reduceToNat, Int.reduceNeg, Int.reduceBNe, s6, s2, g2, b2, s3, g3, b3, askIdx_map, hi, encWr]
          refine askEq (eq_wr d.cache[i]) ?_
          simp -implicitDefEqProofs only [↓aP, aQ, ↓reduceIte, Nat.reduceEqDiff, Nat.reduceAdd, Nat.reduceSub, Nat.reduceMul, Nat.reduceLT, Nat.reduceLeDiff, reduceCtorEq, Nat.reduceBEq, forall_const, implies_true, exists_const, ne_eq, Int.reduceAdd, Int.reduceSub, Int.reduceMul, Int.reduceBEq, Int.reduceEq, Int.reduceLT, Int.reduceLE, Int.reduceToNat, Int.reduceNeg, Int.reduceBNe, s6, s2, g2, b2, s3, g3, b3, wrapS (show i < 4611686018427387904 by omega)]
          refine ⟨by decide, ?_⟩
          refine ⟨m - 1, by omega, i + 1, ?_⟩
          simp -implicitDefEqProofs only [↓aP, aQ, ↓reduceIte, Nat.reduceEqDiff, Nat.reduceAdd, Nat.reduceSub, Nat.reduceMul, Nat.reduceLT, Nat.reduceLeDiff, reduceCtorEq, Nat.reduceBEq, forall_const, implies_true, exists_const, ne_eq, Int.reduceAdd, Int.reduceSub, Int.reduceMul, Int.reduceBEq, Int.reduceEq, Int.reduceLT, Int.reduceLE, Int.reduceToNat, Int.reduceNeg, Int.reduceBNe]
          omega
        · simp -implicitDefEqProofs only [↓aP, aQ, ↓reduceIte, Nat.reduceEqDiff, Nat.reduceAdd, Nat.reduceSub, Nat.reduceMul, Nat.reduceLT, Nat.reduceLeDiff, reduceCtorEq, Nat.reduceBEq, forall_const, implies_true, exists_const, ne_eq, Int.reduceAdd, Int.reduceSub, Int.reduceMul, Int.reduceBEq, Int.reduceEq, Int.reduceLT, Int.reduceLE, Int.reduceToNat, Int.reduceNeg, Int.reduceBNe, s6, s2, g2, b2, s3, g3, b3]
end Go.Proofs.Ytlloeinlfhnegaa
namespace Go.Proofs.Ytlloeinlfhnegaa
open Go.RowKit
set_option linter.unusedVariables false
set_option linter.unusedSimpArgs false
theorem lookB_take_succ {ws : List Wr} {r : Nat} (hr : r < ws.length) (a : Int) : lookB (ws.take (r + 1)) a = if ws[r].at_ = a then some ws[r] else lookB (ws.take r) a := by
  rw [take_snoc hr, lookB_snoc]

theorem refRead_spec (d : Dk) (a : Int) (hr : rightB d = true) (hh : hasB d a = true) : Spec Try.prog 54 [.agg (encDk d), rI a] (.val (rS (readD d a).1)) := by
  refine spec_val mixed fn54 (by simp) ?_
  unfold ac54
  have hl := right_len hr
  obtain ⟨k, rfl, hk⟩ := has_nat hh
  have hw0 : IntKind.i64.wrap ((d.cache.length : Int) - 1) = (d.cache.length : Int) - 1 := wrapI (by omega)
  simp -implicitDefEqProofs only [↓aP, aQ, ↓reduceIte, Nat.reduceEqDiff, Nat.reduceAdd, Nat.reduceSub, Nat.reduceMul, Nat.reduceLT, Nat.reduceLeDiff, reduceCtorEq, Nat.reduceBEq, forall_const, implies_true, exists_const, ne_eq, Int.reduceAdd, Int.reduceSub, Int.reduceMul, Int.reduceBEq, Int.reduceEq, Int.reduceLT, Int.reduceLE, Int.reduceToNat, Int.reduceNeg, Int.reduceBNe, encDk, hw0]
  refine loopA (fun m σ => m ≤ d.cache.length ∧ lookB d.cache k = lookB (d.cache.take m) k ∧ σ.slot 5 = vI ((m : Int) - 1) ∧ σ.slot 2 = .c (.ptr 2 1 0 0) ∧ σ.h.gen 2 = 1 ∧ σ.h.blk 2 = .box 25 2 [[.s (.sl 1 (d.sectors.map encS)), .s (.sl 2 (d.cache.map encWr))]] ∧ σ.slot 1 = vI k) d.cache.length ?_ ?_
  · simp -implicitDefEqProofs only [↓aP, aQ, ↓reduceIte, Nat.reduceEqDiff, Nat.reduceAdd, Nat.reduceSub, Nat.reduceMul, Nat.reduceLT, Nat.reduceLeDiff, reduceCtorEq, Nat.reduceBEq, forall_const, implies_true, exists_const, ne_eq, Int.reduceAdd, Int.reduceSub, Int.reduceMul, Int.reduceBEq, Int.reduceEq, Int.reduceLT, Int.reduceLE, Int.reduceToNat, Int.reduceNeg, Int.reduceBNe]
    rw [List.take_length]
  · rintro m σ ⟨hm, hlk, s5, s2, g2, b2, s1⟩
    cases m with
    | zero =>
      have hneg : decide ((0 : Int) ≤ -1) = false := by decide
      simp -implicitDefEqProofs only [↓aP, aQ, ↓reduceIte, Nat.reduceEqDiff, Nat.reduceAdd, Nat.reduceSub, Nat.reduceMul, Nat.reduceLT, Nat.reduceLeDiff, reduceCtorEq, Nat.reduceBEq, forall_const, implies_true, exists_const, ne_eq, Int.reduceAdd, Int.reduceSub, Int.reduceMul, Int.reduceBEq, Int.reduceEq, Int.reduceLT, Int.reduceLE, Int.reduceToNat, Int.reduceNeg, Int.reduceBNe, s5, s2, g2, b2, s1, hneg, askIdx_map, hk, encS]
      have e : readD d k = (d.sectors[k], 0) := by
        rw [read_ok hr hh, hlk]
        simp [lookB, hk]
      rw [e]
    | succ r =>
      have e1 : ((r + 1 : Nat) : Int) - 1 = (r : Int) := by omega
      rw [e1] at s5
      have hr2 : r < d.cache.length := by omega
      rw [lookB_take_succ hr2] at hlk
      have hge : decide ((0 : Int) ≤ (r : Int)) = true := by simp
      have hw : IntKind.i64.wrap ((r : Int) - 1) = (r : Int) - 1 := wrapI (by omega)
      simp -implicitDefEqProofs only [↓aP, aQ, ↓reduceIte, Nat.reduceEqDiff, Nat.reduceAdd, Nat.reduceSub, Nat.reduceMul, Nat.reduceLT, Nat.reduceLeDiff, reduceCtorEq, Nat.reduceBEq, forall_const, implies_true, exists_const, ne_eq, Int.reduceAdd, Int.reduceSub, Int.reduceMul, Int.reduceBEq, Int.reduceEq, Int.reduceLT, Int.reduceLE, Int.reduceToNat, Int.reduceNeg, Int.reduceBNe, s5, s2, g2, b2, s1, hge, askIdx_map, hr2, encWr]
      refine fork ?_ ?_ <;> intro hf
      · have e : d.cache[r].at_ = (k : Int) := by simpa using hf
        rw [if_pos e] at hlk
        simp -implicitDefEqProofs only [↓aP, aQ, ↓reduceIte, Nat.reduceEqDiff, Nat.reduceAdd, Nat.reduceSub, Nat.reduceMul, Nat.reduceLT, Nat.reduceLeDiff, reduceCtorEq, Nat.reduceBEq, forall_const, implies_true, exists_const, ne_eq, Int.reduceAdd, Int.reduceSub, Int.reduceMul, Int.reduceBEq, Int.reduceEq, Int.reduceLT, Int.reduceLE, Int.reduceToNat, Int.reduceNeg, Int.reduceBNe, s5, s2, g2, b2, s1, hge, askIdx_map, hr2, encWr]
        have e : readD d k = (d.cache[r].data, 0) := by
          rw [read_ok hr hh, hlk]
        rw [e]
      · have e : d.cache[r].at_ ≠ (k : Int) := by simpa using hf
        rw [if_neg e] at hlk
        simp -implicitDefEqProofs only [↓aP, aQ, ↓reduceIte, Nat.reduceEqDiff, Nat.reduceAdd, Nat.reduceSub, Nat.reduceMul, Nat.reduceLT, Nat.reduceLeDiff, reduceCtorEq, Nat.reduceBEq, forall_const, implies_true, exists_const, ne_eq, Int.reduceAdd, Int.reduceSub, Int.reduceMul, Int.reduceBEq, Int.reduceEq, Int.reduceLT, Int.reduceLE, Int.reduceToNat, Int.reduceNeg, Int.reduceBNe, s5, s2, g2, b2, s1, hw]
        exact ⟨r, by omega, by omega, hlk, rfl⟩
theorem sync_at {d : Dk} (h : rightB d = true) {i : Nat} (hi : i < d.sectors.length) (hi2 : i < (syncD d).sectors.length) : (readD d i).1 = (syncD d).sectors[i] := by
  have hh : hasB d i = true := by simp [hasB, hi]
  have e : syncD d = doneD d d.cache := by simp [syncD, h]
  have rs : rightB (syncD d) = true := by rw [e]; exact right_done h _ (right_fits h)
  have hs : hasB (syncD d) i = true := by rw [e, has_done]; exact hh
  have hc : (syncD d).cache = [] := by rw [e]; rfl
  rw [← read_sync h hh, read_ok rs hs, hc]
  have : lookB [] (i : Int) = none := rfl
  rw [this]
  simp [hi2]

/-- a row that grows: nothing yet; a row of its own -/
def Grown (σ : St) (x : AC) (l ty e : Nat) (els : List (List SC)) : Prop := (x = .zc ∧ els = []) ∨ ∃ g, x = .own l g ∧ σ.h.gen l = g ∧ σ.h.blk l = .row ty e els
theorem refSync_spec (d : Dk) (hr : rightB d = true) : Spec Try.prog 40 [.agg (encDk d)] (.val (.agg (encDk (syncD d)))) := by
  refine spec_val mixed fn40 (by simp) ?_
  unfold ac40
  have hl := right_len hr
  have e : syncD d = doneD d d.cache := by simp [syncD, hr]
  have hsl : (syncD d).sectors.length = d.sectors.length := by rw [e]; exact doneS_len _ _
  have hsc : (syncD d).cache = [] := by rw [e]; rfl
  have hat : ∀ i, i < d.sectors.length → ∀ hi2 : i < (syncD d).sectors.length, (readD d i).1 = (syncD d).sectors[i] := fun i hi hi2 => sync_at hr hi hi2
  obtain ⟨z, hz⟩ : ∃ z, z = syncD d := ⟨_, rfl⟩
  rw [← hz] at hsl hsc hat ⊢
  simp -implicitDefEqProofs only [↓aP, aQ, ↓reduceIte, Nat.reduceEqDiff, Nat.reduceAdd, Nat.reduceSub, Nat.reduceMul, Nat.reduceLT, Nat.reduceLeDiff, reduceCtorEq, Nat.reduceBEq, forall_const, implies_true, exists_const, ne_eq, Int.reduceAdd, Int.reduceSub, Int.reduceMul, Int.reduceBEq, Int.reduceEq, Int.reduceLT, Int.reduceLE, Int.reduceToNat, Int.reduceNeg, Int.reduceBNe, encDk, hsc]
  refine loopA (fun m σ => ∃ i, i + m = d.sectors.length ∧ ∃ x, Grown σ x 18 9 1 ((z.sectors.take i).map encS) ∧ σ.slot 4 = vI i ∧ σ.slot 1 = .c (.ptr 1 1 0 0) ∧ σ.h.gen 1 = 1 ∧ σ.h.blk 1 = .box 25 2 [[.s (.sl 1 (d.sectors.map encS)), .s (.sl 2 (d.cache.map encWr))]] ∧ σ.slot 2 = .c (.ptr 2 1 0 0) ∧ σ.h.gen 2 = 1 ∧ σ.h.blk 2 = .box 25 2 [[.zc, .zc]] ∧ σ.slot 3 = .c (.ptr 3 1 0 0) ∧ σ.h.gen 3 = 1 ∧ σ.h.blk 3 = .box 25 2 [[x, .zc]]) d.sectors.length ?_ ?_
  · simp -implicitDefEqProofs only [↓aP, aQ, ↓reduceIte, Nat.reduceEqDiff, Nat.reduceAdd, Nat.reduceSub, Nat.reduceMul, Nat.reduceLT, Nat.reduceLeDiff, reduceCtorEq, Nat.reduceBEq, forall_const, implies_true, exists_const, ne_eq, Int.reduceAdd, Int.reduceSub, Int.reduceMul, Int.reduceBEq, Int.reduceEq, Int.reduceLT, Int.reduceLE, Int.reduceToNat, Int.reduceNeg, Int.reduceBNe]
    refine ⟨0, by omega, .zc, .inl ⟨rfl, rfl⟩, ?_⟩
    simp -implicitDefEqProofs only [↓aP, aQ, ↓reduceIte, Nat.reduceEqDiff, Nat.reduceAdd, Nat.reduceSub, Nat.reduceMul, Nat.reduceLT, Nat.reduceLeDiff, reduceCtorEq, Nat.reduceBEq, forall_const, implies_true, exists_const, ne_eq, Int.reduceAdd, Int.reduceSub, Int.reduceMul, Int.reduceBEq, Int.reduceEq, Int.reduceLT, Int.reduceLE, Int.reduceToNat, Int.reduceNeg, Int.reduceBNe]
  · rintro m σ ⟨i, him, x, hx, s4, s1, g1, b1, s2, g2, b2, s3, g3, b3⟩
    simp -implicitDefEqProofs only [↓aP, aQ, ↓reduceIte, Nat.reduceEqDiff, Nat.reduceAdd, Nat.reduceSub, Nat.reduceMul, Nat.reduceLT, Nat.reduceLeDiff, reduceCtorEq, Nat.reduceBEq, forall_const, implies_true, exists_const, ne_eq, Int.reduceAdd, Int.reduceSub, Int.reduceMul, Int.reduceBEq, Int.reduceEq, Int.reduceLT, Int.reduceLE, Int.reduceToNat, Int.reduceNeg, Int.reduceBNe, s4, s1, g1, b1, s2, g2, b2, s3, g3, b3]
    refine fork ?_ ?_ <;> intro hf
    · have hi : i < d.sectors.length := by simpa using hf
      have hi2 : i < z.sectors.length := by omega
      have hh : hasB d i = true := by simp [hasB, hi]
      have t := refRead_spec d i hr hh
      rw [hat i hi hi2] at t
      have htl : (z.sectors.take i).length = i := by rw [List.length_take]; omega
      rcases hx with ⟨rfl, he⟩ | ⟨g, rfl, g18, b18⟩
      · have hi0 : i = 0 := by
          have := congrArg List.length he
          rw [List.length_map, htl] at this
          simpa using this
        simp -implicitDefEqProofs only [↓aP, aQ, ↓reduceIte, Nat.reduceEqDiff, Nat.reduceAdd, Nat.reduceSub, Nat.reduceMul, Nat.reduceLT, Nat.reduceLeDiff, reduceCtorEq, Nat.reduceBEq, forall_const, implies_true, exists_const, ne_eq, Int.reduceAdd, Int.reduceSub, Int.reduceMul, Int.reduceBEq, Int.reduceEq, Int.reduceLT, Int.reduceLE, Int.reduceToNat, Int.reduceNeg, Int.reduceBNe, s4, s1, g1, b1, s2, g2, b2, s3, g3, b3]
        refine ask t ?_
        simp -implicitDefEqProofs only [↓aP, aQ, ↓reduceIte, Nat.reduceEqDiff, Nat.reduceAdd, Nat.reduceSub, Nat.reduceMul, Nat.reduceLT, Nat.reduceLeDiff, reduceCtorEq, Nat.reduceBEq, forall_const, implies_true, exists_const, ne_eq, Int.reduceAdd, Int.reduceSub, Int.reduceMul, Int.reduceBEq, Int.reduceEq, Int.reduceLT, Int.reduceLE, Int.reduceToNat, Int.reduceNeg, Int.reduceBNe, s4, s1, g1, b1, s2, g2, b2, s3, g3, b3, wrapS (show i < 4611686018427387904 by omega)]
        refine ⟨by decide, m - 1, by omega, i + 1, by omega, .own 18 (σ.h.gen 18 + 1), .inr ⟨_, rfl, ?_, ?_⟩, ?_⟩
        · simp -implicitDefEqProofs only [↓aP, aQ, ↓reduceIte, Nat.reduceEqDiff, Nat.reduceAdd, Nat.reduceSub, Nat.reduceMul, Nat.reduceLT, Nat.reduceLeDiff, reduceCtorEq, Nat.reduceBEq, forall_const, implies_true, exists_const, ne_eq, Int.reduceAdd, Int.reduceSub, Int.reduceMul, Int.reduceBEq, Int.reduceEq, Int.reduceLT, Int.reduceLE, Int.reduceToNat, Int.reduceNeg, Int.reduceBNe]
        · simp -implicitDefEqProofs only [↓aP, aQ, ↓reduceIte, Nat.reduceEqDiff, Nat.reduceAdd, Nat.reduceSub, Nat.reduceMul, Nat.reduceLT, Nat.reduceLeDiff, reduceCtorEq, Nat.reduceBEq, forall_const, implies_true, exists_const, ne_eq, Int.reduceAdd, Int.reduceSub, Int.reduceMul, Int.reduceBEq, Int.reduceEq, Int.reduceLT, Int.reduceLE, Int.reduceToNat, Int.reduceNeg, Int.reduceBNe]
          rw [take_snoc hi2, List.map_append, he]
          rfl
        · simp -implicitDefEqProofs only [↓aP, aQ, ↓reduceIte, Nat.reduceEqDiff, Nat.reduceAdd, Nat.reduceSub, Nat.reduceMul, Nat.reduceLT, Nat.reduceLeDiff, reduceCtorEq, Nat.reduceBEq, forall_const, implies_true, exists_const, ne_eq, Int.reduceAdd, Int.reduceSub, Int.reduceMul, Int.reduceBEq, Int.reduceEq, Int.reduceLT, Int.reduceLE, Int.reduceToNat, Int.reduceNeg, Int.reduceBNe, s4, s1, g1, b1, s2, g2, b2, s3, g3, b3]
      · simp -implicitDefEqProofs only [↓aP, aQ, ↓reduceIte, Nat.reduceEqDiff, Nat.reduceAdd, Nat.reduceSub, Nat.reduceMul, Nat.reduceLT, Nat.reduceLeDiff, reduceCtorEq, Nat.reduceBEq, forall_const, implies_true, exists_const, ne_eq, Int.reduceAdd, Int.reduceSub, Int.reduceMul, Int.reduceBEq, Int.reduceEq, Int.reduceLT, Int.reduceLE, Int.reduceToNat, Int.reduceNeg, Int.reduceBNe, s4, s1, g1, b1, s2, g2, b2, s3, g3, b3]
        refine ask t ?_
        simp -implicitDefEqProofs only [↓aP, aQ, ↓reduceIte, Nat.reduceEqDiff, Nat.reduceAdd, Nat.reduceSub, Nat.reduceMul, Nat.reduceLT, Nat.reduceLeDiff, reduceCtorEq, Nat.reduceBEq, forall_const, implies_true, exists_const, ne_eq, Int.reduceAdd, Int.reduceSub, Int.reduceMul, Int.reduceBEq, Int.reduceEq, Int.reduceLT, Int.reduceLE, Int.reduceToNat, Int.reduceNeg, Int.reduceBNe, s4, s1, g1, b1, s2, g2, b2, s3, g3, b3, g18, b18, htl, wrapS (show i < 4611686018427387904 by omega)]
        refine ⟨by omega, by omega, by decide, m - 1, by omega, i + 1, by omega, .own 18 (g + 1), .inr ⟨_, rfl, ?_, ?_⟩, ?_⟩
        · simp -implicitDefEqProofs only [↓aP, aQ, ↓reduceIte, Nat.reduceEqDiff, Nat.reduceAdd, Nat.reduceSub, Nat.reduceMul, Nat.reduceLT, Nat.reduceLeDiff, reduceCtorEq, Nat.reduceBEq, forall_const, implies_true, exists_const, ne_eq, Int.reduceAdd, Int.reduceSub, Int.reduceMul, Int.reduceBEq, Int.reduceEq, Int.reduceLT, Int.reduceLE, Int.reduceToNat, Int.reduceNeg, Int.reduceBNe]
        · simp -implicitDefEqProofs only [↓aP, aQ, ↓reduceIte, Nat.reduceEqDiff, Nat.reduceAdd, Nat.reduceSub, Nat.reduceMul, Nat.reduceLT, Nat.reduceLeDiff, reduceCtorEq, Nat.reduceBEq, forall_const, implies_true, exists_const, ne_eq, Int.reduceAdd, Int.reduceSub, Int.reduceMul, Int.reduceBEq, Int.reduceEq, Int.reduceLT, Int.reduceLE, Int.reduceToNat, Int.reduceNeg, Int.reduceBNe]
          rw [take_snoc hi2, List.map_append]
          rfl
        · simp -implicitDefEqProofs only [↓aP, aQ, ↓reduceIte, Nat.reduceEqDiff, Nat.reduceAdd, Nat.reduceSub, Nat.reduceMul, Nat.reduceLT, Nat.reduceLeDiff, reduceCtorEq, Nat.reduceBEq, forall_const, implies_true, exists_const, ne_eq, Int.reduceAdd, Int.reduceSub, Int.reduceMul, Int.reduceBEq, Int.reduceEq, Int.reduceLT, Int.reduceLE, Int.reduceToNat, Int.reduceNeg, Int.reduceBNe, s4, s1, g1, b1, s2, g2, b2, s3, g3, b3]
    · have hi : i = z.sectors.length := by simp at hf; omega
      rw [hi, List.take_length] at hx
      rcases hx with ⟨rfl, he⟩ | ⟨g, rfl, g18, b18⟩
      · simp -implicitDefEqProofs only [↓aP, aQ, ↓reduceIte, Nat.reduceEqDiff, Nat.reduceAdd, Nat.reduceSub, Nat.reduceMul, Nat.reduceLT, Nat.reduceLeDiff, reduceCtorEq, Nat.reduceBEq, forall_const, implies_true, exists_const, ne_eq, Int.reduceAdd, Int.reduceSub, Int.reduceMul, Int.reduceBEq, Int.reduceEq, Int.reduceLT, Int.reduceLE, Int.reduceToNat, Int.reduceNeg, Int.reduceBNe, s4, s1, g1, b1, s2, g2, b2, s3, g3, b3]
        rw [he]
        exact .refl _
      · simp -implicitDefEqProofs only [↓aP, aQ, ↓reduceIte, Nat.reduceEqDiff, Nat.reduceAdd, Nat.reduceSub, Nat.reduceMul, Nat.reduceLT, Nat.reduceLeDiff, reduceCtorEq, Nat.reduceBEq, forall_const, implies_true, exists_const, ne_eq, Int.reduceAdd, Int.reduceSub, Int.reduceMul, Int.reduceBEq, Int.reduceEq, Int.reduceLT, Int.reduceLE, Int.reduceToNat, Int.reduceNeg, Int.reduceBNe, s4, s1, g1, b1, s2, g2, b2, s3, g3, b3, g18, b18]
end Go.Proofs.Ytlloeinlfhnegaa
