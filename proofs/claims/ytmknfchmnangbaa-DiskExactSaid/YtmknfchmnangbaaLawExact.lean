/- DiskExact. -/
import Derived.Test.YtmknfchmnangbaaRef3
namespace Go.Proofs.Ytmknfchmnangbaa
open Go.RowKit
set_option linter.unusedVariables false
set_option linter.unusedSimpArgs false
theorem small_len {d : Dk} (h : smallB d = true) : d.sectors.length ≤ 80 ∧ d.cache.length ≤ 220 := by
  simp only [smallB, Bool.and_eq_true, decide_eq_true_eq] at h
  exact h.1.1
theorem emp : ByteArray.empty = ⟨#[]⟩ := rfl
theorem diskExact_spec (d : Dk) (a : Int) (w : Wr) (keep : List Int) : Spec Try.prog 4 [.agg (encDk d), rI a, .agg (encWr w), rL 1 (keep.map encI)] (.val (rB true)) := by
  refine spec_val mixed fn4 (by simp) ?_
  unfold ac4
  simp -implicitDefEqProofs only [↓aP, aQ, ↓reduceIte, Nat.reduceEqDiff, Nat.reduceAdd, Nat.reduceSub, Nat.reduceMul, Nat.reduceLT, Nat.reduceLeDiff, reduceCtorEq, Nat.reduceBEq, forall_const, implies_true, exists_const, ne_eq, Int.reduceAdd, Int.reduceSub, Int.reduceMul, Int.reduceBEq, Int.reduceEq, Int.reduceLT, Int.reduceLE, Int.reduceToNat, Int.reduceNeg, Int.reduceBNe, encDk, encWr]
  refine ask (small_spec d) ?_
  cases hs : smallB d
  · simp -implicitDefEqProofs only [↓aP, aQ, ↓reduceIte, Nat.reduceEqDiff, Nat.reduceAdd, Nat.reduceSub, Nat.reduceMul, Nat.reduceLT, Nat.reduceLeDiff, reduceCtorEq, Nat.reduceBEq, forall_const, implies_true, exists_const, ne_eq, Int.reduceAdd, Int.reduceSub, Int.reduceMul, Int.reduceBEq, Int.reduceEq, Int.reduceLT, Int.reduceLE, Int.reduceToNat, Int.reduceNeg, Int.reduceBNe]
    refine ask awake_spec ?_
    simp -implicitDefEqProofs only [↓aP, aQ, ↓reduceIte, Nat.reduceEqDiff, Nat.reduceAdd, Nat.reduceSub, Nat.reduceMul, Nat.reduceLT, Nat.reduceLeDiff, reduceCtorEq, Nat.reduceBEq, forall_const, implies_true, exists_const, ne_eq, Int.reduceAdd, Int.reduceSub, Int.reduceMul, Int.reduceBEq, Int.reduceEq, Int.reduceLT, Int.reduceLE, Int.reduceToNat, Int.reduceNeg, Int.reduceBNe]
  simp -implicitDefEqProofs only [↓aP, aQ, ↓reduceIte, Nat.reduceEqDiff, Nat.reduceAdd, Nat.reduceSub, Nat.reduceMul, Nat.reduceLT, Nat.reduceLeDiff, reduceCtorEq, Nat.reduceBEq, forall_const, implies_true, exists_const, ne_eq, Int.reduceAdd, Int.reduceSub, Int.reduceMul, Int.reduceBEq, Int.reduceEq, Int.reduceLT, Int.reduceLE, Int.reduceToNat, Int.reduceNeg, Int.reduceBNe, encDk, encWr]
  have hsm := small_len hs
  cases hd : decide ((40 : Int) < w.data.size)
  case true =>
    simp -implicitDefEqProofs only [↓aP, aQ, ↓reduceIte, Nat.reduceEqDiff, Nat.reduceAdd, Nat.reduceSub, Nat.reduceMul, Nat.reduceLT, Nat.reduceLeDiff, reduceCtorEq, Nat.reduceBEq, forall_const, implies_true, exists_const, ne_eq, Int.reduceAdd, Int.reduceSub, Int.reduceMul, Int.reduceBEq, Int.reduceEq, Int.reduceLT, Int.reduceLE, Int.reduceToNat, Int.reduceNeg, Int.reduceBNe]
    refine ask awake_spec ?_
    simp -implicitDefEqProofs only [↓aP, aQ, ↓reduceIte, Nat.reduceEqDiff, Nat.reduceAdd, Nat.reduceSub, Nat.reduceMul, Nat.reduceLT, Nat.reduceLeDiff, reduceCtorEq, Nat.reduceBEq, forall_const, implies_true, exists_const, ne_eq, Int.reduceAdd, Int.reduceSub, Int.reduceMul, Int.reduceBEq, Int.reduceEq, Int.reduceLT, Int.reduceLE, Int.reduceToNat, Int.reduceNeg, Int.reduceBNe]
  simp -implicitDefEqProofs only [↓aP, aQ, ↓reduceIte, Nat.reduceEqDiff, Nat.reduceAdd, Nat.reduceSub, Nat.reduceMul, Nat.reduceLT, Nat.reduceLeDiff, reduceCtorEq, Nat.reduceBEq, forall_const, implies_true, exists_const, ne_eq, Int.reduceAdd, Int.reduceSub, Int.reduceMul, Int.reduceBEq, Int.reduceEq, Int.reduceLT, Int.reduceLE, Int.reduceToNat, Int.reduceNeg, Int.reduceBNe, encDk, encWr]
  refine fork ?_ ?_ <;> intro hk
  · simp -implicitDefEqProofs only [↓aP, aQ, ↓reduceIte, Nat.reduceEqDiff, Nat.reduceAdd, Nat.reduceSub, Nat.reduceMul, Nat.reduceLT, Nat.reduceLeDiff, reduceCtorEq, Nat.reduceBEq, forall_const, implies_true, exists_const, ne_eq, Int.reduceAdd, Int.reduceSub, Int.reduceMul, Int.reduceBEq, Int.reduceEq, Int.reduceLT, Int.reduceLE, Int.reduceToNat, Int.reduceNeg, Int.reduceBNe]
    refine ask awake_spec ?_
    simp -implicitDefEqProofs only [↓aP, aQ, ↓reduceIte, Nat.reduceEqDiff, Nat.reduceAdd, Nat.reduceSub, Nat.reduceMul, Nat.reduceLT, Nat.reduceLeDiff, reduceCtorEq, Nat.reduceBEq, forall_const, implies_true, exists_const, ne_eq, Int.reduceAdd, Int.reduceSub, Int.reduceMul, Int.reduceBEq, Int.reduceEq, Int.reduceLT, Int.reduceLE, Int.reduceToNat, Int.reduceNeg, Int.reduceBNe]
  have hk2 : keep.length ≤ 220 := by simp at hk; omega
  simp -implicitDefEqProofs only [↓aP, aQ, ↓reduceIte, Nat.reduceEqDiff, Nat.reduceAdd, Nat.reduceSub, Nat.reduceMul, Nat.reduceLT, Nat.reduceLeDiff, reduceCtorEq, Nat.reduceBEq, forall_const, implies_true, exists_const, ne_eq, Int.reduceAdd, Int.reduceSub, Int.reduceMul, Int.reduceBEq, Int.reduceEq, Int.reduceLT, Int.reduceLE, Int.reduceToNat, Int.reduceNeg, Int.reduceBNe, encDk, encWr]
  refine ask (refRight_spec d) ?_
  obtain ⟨x, e, hxe⟩ : ∃ x e, readD d a = (x, e) := ⟨_, _, rfl⟩
  obtain ⟨p, f, hpf⟩ : ∃ p f, putD d w = (p, f) := ⟨_, _, rfl⟩
  have t1 := read_spec d a
  rw [hxe] at t1
  have t2 := put_spec d w
  rw [hpf] at t2
  have td := same_spec d (by omega) (by omega)
  simp -implicitDefEqProofs only [↓aP, aQ, ↓reduceIte, Nat.reduceEqDiff, Nat.reduceAdd, Nat.reduceSub, Nat.reduceMul, Nat.reduceLT, Nat.reduceLeDiff, reduceCtorEq, Nat.reduceBEq, forall_const, implies_true, exists_const, ne_eq, Int.reduceAdd, Int.reduceSub, Int.reduceMul, Int.reduceBEq, Int.reduceEq, Int.reduceLT, Int.reduceLE, Int.reduceToNat, Int.reduceNeg, Int.reduceBNe, encDk, encWr]
  refine ask t1 ?_
  simp -implicitDefEqProofs only [↓aP, aQ, ↓reduceIte, Nat.reduceEqDiff, Nat.reduceAdd, Nat.reduceSub, Nat.reduceMul, Nat.reduceLT, Nat.reduceLeDiff, reduceCtorEq, Nat.reduceBEq, forall_const, implies_true, exists_const, ne_eq, Int.reduceAdd, Int.reduceSub, Int.reduceMul, Int.reduceBEq, Int.reduceEq, Int.reduceLT, Int.reduceLE, Int.reduceToNat, Int.reduceNeg, Int.reduceBNe, encDk, encWr]
  refine ask t2 ?_
  simp -implicitDefEqProofs only [↓aP, aQ, ↓reduceIte, Nat.reduceEqDiff, Nat.reduceAdd, Nat.reduceSub, Nat.reduceMul, Nat.reduceLT, Nat.reduceLeDiff, reduceCtorEq, Nat.reduceBEq, forall_const, implies_true, exists_const, ne_eq, Int.reduceAdd, Int.reduceSub, Int.reduceMul, Int.reduceBEq, Int.reduceEq, Int.reduceLT, Int.reduceLE, Int.reduceToNat, Int.reduceNeg, Int.reduceBNe, encDk, encWr]
  refine ask (right_spec d) ?_
  cases hr : rightB d
  · have e1 : x = ⟨#[]⟩ ∧ e = 1 := by
      have : readD d a = (⟨#[]⟩, 1) := by rw [readD, hr]; rfl
      rw [this] at hxe
      simp only [Prod.mk.injEq] at hxe
      exact ⟨hxe.1.symm, hxe.2.symm⟩
    have e2 : p = d ∧ f = 1 := by
      have : putD d w = (d, 1) := by rw [putD, hr]; rfl
      rw [this] at hpf
      simp only [Prod.mk.injEq] at hpf
      exact ⟨hpf.1.symm, hpf.2.symm⟩
    obtain ⟨rfl, rfl⟩ := e1
    obtain ⟨rfl, rfl⟩ := e2
    have t3 := sync_spec p
    rw [show syncD p = p by simp [syncD, hr]] at t3
    have t4 := crash_spec p keep (by omega)
    rw [show crashD p keep = p by simp [crashD, hr]] at t4
    simp -implicitDefEqProofs only [↓aP, aQ, ↓reduceIte, Nat.reduceEqDiff, Nat.reduceAdd, Nat.reduceSub, Nat.reduceMul, Nat.reduceLT, Nat.reduceLeDiff, reduceCtorEq, Nat.reduceBEq, forall_const, implies_true, exists_const, ne_eq, Int.reduceAdd, Int.reduceSub, Int.reduceMul, Int.reduceBEq, Int.reduceEq, Int.reduceLT, Int.reduceLE, Int.reduceToNat, Int.reduceNeg, Int.reduceBNe, encDk, encWr]
    refine ask td ?_
    simp -implicitDefEqProofs only [↓aP, aQ, ↓reduceIte, Nat.reduceEqDiff, Nat.reduceAdd, Nat.reduceSub, Nat.reduceMul, Nat.reduceLT, Nat.reduceLeDiff, reduceCtorEq, Nat.reduceBEq, forall_const, implies_true, exists_const, ne_eq, Int.reduceAdd, Int.reduceSub, Int.reduceMul, Int.reduceBEq, Int.reduceEq, Int.reduceLT, Int.reduceLE, Int.reduceToNat, Int.reduceNeg, Int.reduceBNe, encDk, encWr]
    refine ask t3 ?_
    simp -implicitDefEqProofs only [↓aP, aQ, ↓reduceIte, Nat.reduceEqDiff, Nat.reduceAdd, Nat.reduceSub, Nat.reduceMul, Nat.reduceLT, Nat.reduceLeDiff, reduceCtorEq, Nat.reduceBEq, forall_const, implies_true, exists_const, ne_eq, Int.reduceAdd, Int.reduceSub, Int.reduceMul, Int.reduceBEq, Int.reduceEq, Int.reduceLT, Int.reduceLE, Int.reduceToNat, Int.reduceNeg, Int.reduceBNe, encDk, encWr]
    refine ask td ?_
    simp -implicitDefEqProofs only [↓aP, aQ, ↓reduceIte, Nat.reduceEqDiff, Nat.reduceAdd, Nat.reduceSub, Nat.reduceMul, Nat.reduceLT, Nat.reduceLeDiff, reduceCtorEq, Nat.reduceBEq, forall_const, implies_true, exists_const, ne_eq, Int.reduceAdd, Int.reduceSub, Int.reduceMul, Int.reduceBEq, Int.reduceEq, Int.reduceLT, Int.reduceLE, Int.reduceToNat, Int.reduceNeg, Int.reduceBNe, encDk, encWr]
    refine ask t4 ?_
    simp -implicitDefEqProofs only [↓aP, aQ, ↓reduceIte, Nat.reduceEqDiff, Nat.reduceAdd, Nat.reduceSub, Nat.reduceMul, Nat.reduceLT, Nat.reduceLeDiff, reduceCtorEq, Nat.reduceBEq, forall_const, implies_true, exists_const, ne_eq, Int.reduceAdd, Int.reduceSub, Int.reduceMul, Int.reduceBEq, Int.reduceEq, Int.reduceLT, Int.reduceLE, Int.reduceToNat, Int.reduceNeg, Int.reduceBNe, encDk, encWr]
    refine ask td ?_
    simp -implicitDefEqProofs only [↓aP, aQ, ↓reduceIte, Nat.reduceEqDiff, Nat.reduceAdd, Nat.reduceSub, Nat.reduceMul, Nat.reduceLT, Nat.reduceLeDiff, reduceCtorEq, Nat.reduceBEq, forall_const, implies_true, exists_const, ne_eq, Int.reduceAdd, Int.reduceSub, Int.reduceMul, Int.reduceBEq, Int.reduceEq, Int.reduceLT, Int.reduceLE, Int.reduceToNat, Int.reduceNeg, Int.reduceBNe, encDk, encWr]
    refine ask awake_spec ?_
    simp -implicitDefEqProofs only [↓aP, aQ, ↓reduceIte, Nat.reduceEqDiff, Nat.reduceAdd, Nat.reduceSub, Nat.reduceMul, Nat.reduceLT, Nat.reduceLeDiff, reduceCtorEq, Nat.reduceBEq, forall_const, implies_true, exists_const, ne_eq, Int.reduceAdd, Int.reduceSub, Int.reduceMul, Int.reduceBEq, Int.reduceEq, Int.reduceLT, Int.reduceLE, Int.reduceToNat, Int.reduceNeg, Int.reduceBNe]
    decide +kernel
  have hl := right_len hr
  obtain ⟨y, hy⟩ : ∃ y, y = syncD d := ⟨_, rfl⟩
  obtain ⟨c, hc⟩ : ∃ c, c = crashD d keep := ⟨_, rfl⟩
  have y1 : y.sectors.length = d.sectors.length ∧ y.cache = [] := by
    rw [hy, show syncD d = doneD d d.cache by simp [syncD, hr]]
    exact ⟨doneS_len _ _, rfl⟩
  have c1 := crash_len2 (keep := keep) hr
  rw [← hc] at c1
  have t3 := sync_spec d
  have t4 := refSync_spec d hr
  rw [← hy] at t3 t4
  have t5 := crash_spec d keep (by omega)
  have t6 := refCrash_spec d keep hr (by omega)
  rw [← hc] at t5 t6
  have ty := same_spec y (by omega) (by rw [y1.2]; decide)
  have tc := same_spec c (by omega) (by rw [c1.2]; decide)
  simp -implicitDefEqProofs only [↓aP, aQ, ↓reduceIte, Nat.reduceEqDiff, Nat.reduceAdd, Nat.reduceSub, Nat.reduceMul, Nat.reduceLT, Nat.reduceLeDiff, reduceCtorEq, Nat.reduceBEq, forall_const, implies_true, exists_const, ne_eq, Int.reduceAdd, Int.reduceSub, Int.reduceMul, Int.reduceBEq, Int.reduceEq, Int.reduceLT, Int.reduceLE, Int.reduceToNat, Int.reduceNeg, Int.reduceBNe, encDk, encWr]
  refine ask t3 ?_
  simp -implicitDefEqProofs only [↓aP, aQ, ↓reduceIte, Nat.reduceEqDiff, Nat.reduceAdd, Nat.reduceSub, Nat.reduceMul, Nat.reduceLT, Nat.reduceLeDiff, reduceCtorEq, Nat.reduceBEq, forall_const, implies_true, exists_const, ne_eq, Int.reduceAdd, Int.reduceSub, Int.reduceMul, Int.reduceBEq, Int.reduceEq, Int.reduceLT, Int.reduceLE, Int.reduceToNat, Int.reduceNeg, Int.reduceBNe, encDk, encWr]
  refine ask t4 ?_
  simp -implicitDefEqProofs only [↓aP, aQ, ↓reduceIte, Nat.reduceEqDiff, Nat.reduceAdd, Nat.reduceSub, Nat.reduceMul, Nat.reduceLT, Nat.reduceLeDiff, reduceCtorEq, Nat.reduceBEq, forall_const, implies_true, exists_const, ne_eq, Int.reduceAdd, Int.reduceSub, Int.reduceMul, Int.reduceBEq, Int.reduceEq, Int.reduceLT, Int.reduceLE, Int.reduceToNat, Int.reduceNeg, Int.reduceBNe, encDk, encWr]
  refine ask ty ?_
  simp -implicitDefEqProofs only [↓aP, aQ, ↓reduceIte, Nat.reduceEqDiff, Nat.reduceAdd, Nat.reduceSub, Nat.reduceMul, Nat.reduceLT, Nat.reduceLeDiff, reduceCtorEq, Nat.reduceBEq, forall_const, implies_true, exists_const, ne_eq, Int.reduceAdd, Int.reduceSub, Int.reduceMul, Int.reduceBEq, Int.reduceEq, Int.reduceLT, Int.reduceLE, Int.reduceToNat, Int.reduceNeg, Int.reduceBNe, encDk, encWr]
  refine ask t5 ?_
  simp -implicitDefEqProofs only [↓aP, aQ, ↓reduceIte, Nat.reduceEqDiff, Nat.reduceAdd, Nat.reduceSub, Nat.reduceMul, Nat.reduceLT, Nat.reduceLeDiff, reduceCtorEq, Nat.reduceBEq, forall_const, implies_true, exists_const, ne_eq, Int.reduceAdd, Int.reduceSub, Int.reduceMul, Int.reduceBEq, Int.reduceEq, Int.reduceLT, Int.reduceLE, Int.reduceToNat, Int.reduceNeg, Int.reduceBNe, encDk, encWr]
  refine ask t6 ?_
  simp -implicitDefEqProofs only [↓aP, aQ, ↓reduceIte, Nat.reduceEqDiff, Nat.reduceAdd, Nat.reduceSub, Nat.reduceMul, Nat.reduceLT, Nat.reduceLeDiff, reduceCtorEq, Nat.reduceBEq, forall_const, implies_true, exists_const, ne_eq, Int.reduceAdd, Int.reduceSub, Int.reduceMul, Int.reduceBEq, Int.reduceEq, Int.reduceLT, Int.reduceLE, Int.reduceToNat, Int.reduceNeg, Int.reduceBNe, encDk, encWr]
  refine ask tc ?_
  simp -implicitDefEqProofs only [↓aP, aQ, ↓reduceIte, Nat.reduceEqDiff, Nat.reduceAdd, Nat.reduceSub, Nat.reduceMul, Nat.reduceLT, Nat.reduceLeDiff, reduceCtorEq, Nat.reduceBEq, forall_const, implies_true, exists_const, ne_eq, Int.reduceAdd, Int.reduceSub, Int.reduceMul, Int.reduceBEq, Int.reduceEq, Int.reduceLT, Int.reduceLE, Int.reduceToNat, Int.reduceNeg, Int.reduceBNe, encDk, encWr]
  refine ⟨by decide +kernel, ?_⟩
  have t7 := fun hh => refRead_spec d a hr hh
  have noread : hasB d a = false → x = ⟨#[]⟩ ∧ e = 1 := fun h => by
    have : readD d a = (⟨#[]⟩, 1) := by rw [readD, hr, h]; rfl
    rw [this] at hxe
    simp only [Prod.mk.injEq] at hxe
    exact ⟨hxe.1.symm, hxe.2.symm⟩
  have noput : fitsB d w = false → p = d ∧ f = 1 := fun h => by
    have : putD d w = (d, 1) := by rw [putD, hr, h]; rfl
    rw [this] at hpf
    simp only [Prod.mk.injEq] at hpf
    exact ⟨hpf.1.symm, hpf.2.symm⟩
  have full : fitsB d w = true → d.cache.length = 200 → p = d ∧ f = 7 := fun h h2 => by
    have : putD d w = (d, 7) := by simp [putD, hr, h, h2]
    rw [this] at hpf
    simp only [Prod.mk.injEq] at hpf
    exact ⟨hpf.1.symm, hpf.2.symm⟩
  have goes : fitsB d w = true → d.cache.length ≠ 200 → p = ⟨d.sectors, d.cache ++ [w]⟩ ∧ f = 0 := fun h h2 => by
    rw [put_ok hr h h2] at hpf
    simp only [Prod.mk.injEq] at hpf
    exact ⟨hpf.1.symm, hpf.2.symm⟩
  have reads : hasB d a = true → e = 0 ∧ (readD d a).1 = x := fun h => by
    have := read_err hr h
    rw [hxe] at this ⊢
    exact ⟨this, rfl⟩
  clear t1 t2 t3 t4 t5 t6 ty tc hs hk hy hc
  have e0 : (decide (0 ≤ a) = false ∨ decide (a < (d.sectors.length : Int)) = false → x = ⟨#[]⟩ ∧ e = 1) := fun h => noread (by rcases h with h | h <;> simp [hasB, h])
  cases h0 : decide (0 ≤ a)
  case' false =>
    obtain ⟨rfl, rfl⟩ := e0 (.inl h0)
    simp -implicitDefEqProofs only [↓aP, aQ, ↓reduceIte, Nat.reduceEqDiff, Nat.reduceAdd, Nat.reduceSub, Nat.reduceMul, Nat.reduceLT, Nat.reduceLeDiff, reduceCtorEq, Nat.reduceBEq, forall_const, implies_true, exists_const, ne_eq, Int.reduceAdd, Int.reduceSub, Int.reduceMul, Int.reduceBEq, Int.reduceEq, Int.reduceLT, Int.reduceLE, Int.reduceToNat, Int.reduceNeg, Int.reduceBNe]
  case' true =>
    simp -implicitDefEqProofs only [↓aP, aQ, ↓reduceIte, Nat.reduceEqDiff, Nat.reduceAdd, Nat.reduceSub, Nat.reduceMul, Nat.reduceLT, Nat.reduceLeDiff, reduceCtorEq, Nat.reduceBEq, forall_const, implies_true, exists_const, ne_eq, Int.reduceAdd, Int.reduceSub, Int.reduceMul, Int.reduceBEq, Int.reduceEq, Int.reduceLT, Int.reduceLE, Int.reduceToNat, Int.reduceNeg, Int.reduceBNe]
    cases h1 : decide (a < (d.sectors.length : Int))
    case' false =>
      obtain ⟨rfl, rfl⟩ := e0 (.inr h1)
      simp -implicitDefEqProofs only [↓aP, aQ, ↓reduceIte, Nat.reduceEqDiff, Nat.reduceAdd, Nat.reduceSub, Nat.reduceMul, Nat.reduceLT, Nat.reduceLeDiff, reduceCtorEq, Nat.reduceBEq, forall_const, implies_true, exists_const, ne_eq, Int.reduceAdd, Int.reduceSub, Int.reduceMul, Int.reduceBEq, Int.reduceEq, Int.reduceLT, Int.reduceLE, Int.reduceToNat, Int.reduceNeg, Int.reduceBNe]
    case' true =>
      have hh : hasB d a = true := by simp only [hasB, h0, h1, Bool.and_true]
      obtain ⟨rfl, hx⟩ := reads hh
      have t8 := t7 hh
      rw [hx] at t8
      simp -implicitDefEqProofs only [↓aP, aQ, ↓reduceIte, Nat.reduceEqDiff, Nat.reduceAdd, Nat.reduceSub, Nat.reduceMul, Nat.reduceLT, Nat.reduceLeDiff, reduceCtorEq, Nat.reduceBEq, forall_const, implies_true, exists_const, ne_eq, Int.reduceAdd, Int.reduceSub, Int.reduceMul, Int.reduceBEq, Int.reduceEq, Int.reduceLT, Int.reduceLE, Int.reduceToNat, Int.reduceNeg, Int.reduceBNe, encDk, encWr]
      refine ask t8 ?_
      simp -implicitDefEqProofs only [↓aP, aQ, ↓reduceIte, Nat.reduceEqDiff, Nat.reduceAdd, Nat.reduceSub, Nat.reduceMul, Nat.reduceLT, Nat.reduceLeDiff, reduceCtorEq, Nat.reduceBEq, forall_const, implies_true, exists_const, ne_eq, Int.reduceAdd, Int.reduceSub, Int.reduceMul, Int.reduceBEq, Int.reduceEq, Int.reduceLT, Int.reduceLE, Int.reduceToNat, Int.reduceNeg, Int.reduceBNe, encDk, encWr]
  all_goals
    cases q1 : decide (w.at_ < 0)
    case' true =>
      obtain ⟨rfl, rfl⟩ := noput (by simp only [decide_eq_true_eq] at q1; simp [fitsB, hasB, Int.not_le.2 q1])
      simp -implicitDefEqProofs only [↓aP, aQ, ↓reduceIte, Nat.reduceEqDiff, Nat.reduceAdd, Nat.reduceSub, Nat.reduceMul, Nat.reduceLT, Nat.reduceLeDiff, reduceCtorEq, Nat.reduceBEq, forall_const, implies_true, exists_const, ne_eq, Int.reduceAdd, Int.reduceSub, Int.reduceMul, Int.reduceBEq, Int.reduceEq, Int.reduceLT, Int.reduceLE, Int.reduceToNat, Int.reduceNeg, Int.reduceBNe, encDk, encWr]
      refine ask td ?_
      simp -implicitDefEqProofs only [↓aP, aQ, ↓reduceIte, Nat.reduceEqDiff, Nat.reduceAdd, Nat.reduceSub, Nat.reduceMul, Nat.reduceLT, Nat.reduceLeDiff, reduceCtorEq, Nat.reduceBEq, forall_const, implies_true, exists_const, ne_eq, Int.reduceAdd, Int.reduceSub, Int.reduceMul, Int.reduceBEq, Int.reduceEq, Int.reduceLT, Int.reduceLE, Int.reduceToNat, Int.reduceNeg, Int.reduceBNe]
      refine ask awake_spec ?_
      simp -implicitDefEqProofs only [↓aP, aQ, ↓reduceIte, Nat.reduceEqDiff, Nat.reduceAdd, Nat.reduceSub, Nat.reduceMul, Nat.reduceLT, Nat.reduceLeDiff, reduceCtorEq, Nat.reduceBEq, forall_const, implies_true, exists_const, ne_eq, Int.reduceAdd, Int.reduceSub, Int.reduceMul, Int.reduceBEq, Int.reduceEq, Int.reduceLT, Int.reduceLE, Int.reduceToNat, Int.reduceNeg, Int.reduceBNe]
    simp -implicitDefEqProofs only [↓aP, aQ, ↓reduceIte, Nat.reduceEqDiff, Nat.reduceAdd, Nat.reduceSub, Nat.reduceMul, Nat.reduceLT, Nat.reduceLeDiff, reduceCtorEq, Nat.reduceBEq, forall_const, implies_true, exists_const, ne_eq, Int.reduceAdd, Int.reduceSub, Int.reduceMul, Int.reduceBEq, Int.reduceEq, Int.reduceLT, Int.reduceLE, Int.reduceToNat, Int.reduceNeg, Int.reduceBNe, encDk, encWr]
    cases q2 : decide ((d.sectors.length : Int) ≤ w.at_)
    case' true =>
      obtain ⟨rfl, rfl⟩ := noput (by simp only [decide_eq_true_eq] at q2; simp [fitsB, hasB, Int.not_lt.2 q2])
      simp -implicitDefEqProofs only [↓aP, aQ, ↓reduceIte, Nat.reduceEqDiff, Nat.reduceAdd, Nat.reduceSub, Nat.reduceMul, Nat.reduceLT, Nat.reduceLeDiff, reduceCtorEq, Nat.reduceBEq, forall_const, implies_true, exists_const, ne_eq, Int.reduceAdd, Int.reduceSub, Int.reduceMul, Int.reduceBEq, Int.reduceEq, Int.reduceLT, Int.reduceLE, Int.reduceToNat, Int.reduceNeg, Int.reduceBNe, encDk, encWr]
      refine ask td ?_
      simp -implicitDefEqProofs only [↓aP, aQ, ↓reduceIte, Nat.reduceEqDiff, Nat.reduceAdd, Nat.reduceSub, Nat.reduceMul, Nat.reduceLT, Nat.reduceLeDiff, reduceCtorEq, Nat.reduceBEq, forall_const, implies_true, exists_const, ne_eq, Int.reduceAdd, Int.reduceSub, Int.reduceMul, Int.reduceBEq, Int.reduceEq, Int.reduceLT, Int.reduceLE, Int.reduceToNat, Int.reduceNeg, Int.reduceBNe]
      refine ask awake_spec ?_
      simp -implicitDefEqProofs only [↓aP, aQ, ↓reduceIte, Nat.reduceEqDiff, Nat.reduceAdd, Nat.reduceSub, Nat.reduceMul, Nat.reduceLT, Nat.reduceLeDiff, reduceCtorEq, Nat.reduceBEq, forall_const, implies_true, exists_const, ne_eq, Int.reduceAdd, Int.reduceSub, Int.reduceMul, Int.reduceBEq, Int.reduceEq, Int.reduceLT, Int.reduceLE, Int.reduceToNat, Int.reduceNeg, Int.reduceBNe]
    simp -implicitDefEqProofs only [↓aP, aQ, ↓reduceIte, Nat.reduceEqDiff, Nat.reduceAdd, Nat.reduceSub, Nat.reduceMul, Nat.reduceLT, Nat.reduceLeDiff, reduceCtorEq, Nat.reduceBEq, forall_const, implies_true, exists_const, ne_eq, Int.reduceAdd, Int.reduceSub, Int.reduceMul, Int.reduceBEq, Int.reduceEq, Int.reduceLT, Int.reduceLE, Int.reduceToNat, Int.reduceNeg, Int.reduceBNe, encDk, encWr]
    refine fork ?_ ?_ <;> intro q3
    · obtain ⟨rfl, rfl⟩ := noput (by simp [fitsB]; intro _; simpa using q3)
      simp -implicitDefEqProofs only [↓aP, aQ, ↓reduceIte, Nat.reduceEqDiff, Nat.reduceAdd, Nat.reduceSub, Nat.reduceMul, Nat.reduceLT, Nat.reduceLeDiff, reduceCtorEq, Nat.reduceBEq, forall_const, implies_true, exists_const, ne_eq, Int.reduceAdd, Int.reduceSub, Int.reduceMul, Int.reduceBEq, Int.reduceEq, Int.reduceLT, Int.reduceLE, Int.reduceToNat, Int.reduceNeg, Int.reduceBNe, encDk, encWr]
      refine ask td ?_
      simp -implicitDefEqProofs only [↓aP, aQ, ↓reduceIte, Nat.reduceEqDiff, Nat.reduceAdd, Nat.reduceSub, Nat.reduceMul, Nat.reduceLT, Nat.reduceLeDiff, reduceCtorEq, Nat.reduceBEq, forall_const, implies_true, exists_const, ne_eq, Int.reduceAdd, Int.reduceSub, Int.reduceMul, Int.reduceBEq, Int.reduceEq, Int.reduceLT, Int.reduceLE, Int.reduceToNat, Int.reduceNeg, Int.reduceBNe]
      refine ask awake_spec ?_
      simp -implicitDefEqProofs only [↓aP, aQ, ↓reduceIte, Nat.reduceEqDiff, Nat.reduceAdd, Nat.reduceSub, Nat.reduceMul, Nat.reduceLT, Nat.reduceLeDiff, reduceCtorEq, Nat.reduceBEq, forall_const, implies_true, exists_const, ne_eq, Int.reduceAdd, Int.reduceSub, Int.reduceMul, Int.reduceBEq, Int.reduceEq, Int.reduceLT, Int.reduceLE, Int.reduceToNat, Int.reduceNeg, Int.reduceBNe]
    · have hfit : fitsB d w = true := by
        simp only [decide_eq_false_iff_not, Int.not_lt, Int.not_le, bne_eq_false_iff_eq] at q1 q2 q3
        simp [fitsB, hasB, q1, q2, q3]
      simp -implicitDefEqProofs only [↓aP, aQ, ↓reduceIte, Nat.reduceEqDiff, Nat.reduceAdd, Nat.reduceSub, Nat.reduceMul, Nat.reduceLT, Nat.reduceLeDiff, reduceCtorEq, Nat.reduceBEq, forall_const, implies_true, exists_const, ne_eq, Int.reduceAdd, Int.reduceSub, Int.reduceMul, Int.reduceBEq, Int.reduceEq, Int.reduceLT, Int.reduceLE, Int.reduceToNat, Int.reduceNeg, Int.reduceBNe, encDk, encWr]
      refine fork ?_ ?_ <;> intro q4
      · have h200 : d.cache.length = 200 := by simp at q4; omega
        obtain ⟨rfl, rfl⟩ := full hfit h200
        simp -implicitDefEqProofs only [↓aP, aQ, ↓reduceIte, Nat.reduceEqDiff, Nat.reduceAdd, Nat.reduceSub, Nat.reduceMul, Nat.reduceLT, Nat.reduceLeDiff, reduceCtorEq, Nat.reduceBEq, forall_const, implies_true, exists_const, ne_eq, Int.reduceAdd, Int.reduceSub, Int.reduceMul, Int.reduceBEq, Int.reduceEq, Int.reduceLT, Int.reduceLE, Int.reduceToNat, Int.reduceNeg, Int.reduceBNe, encDk, encWr]
        refine ask td ?_
        simp -implicitDefEqProofs only [↓aP, aQ, ↓reduceIte, Nat.reduceEqDiff, Nat.reduceAdd, Nat.reduceSub, Nat.reduceMul, Nat.reduceLT, Nat.reduceLeDiff, reduceCtorEq, Nat.reduceBEq, forall_const, implies_true, exists_const, ne_eq, Int.reduceAdd, Int.reduceSub, Int.reduceMul, Int.reduceBEq, Int.reduceEq, Int.reduceLT, Int.reduceLE, Int.reduceToNat, Int.reduceNeg, Int.reduceBNe]
        refine ask awake_spec ?_
        simp -implicitDefEqProofs only [↓aP, aQ, ↓reduceIte, Nat.reduceEqDiff, Nat.reduceAdd, Nat.reduceSub, Nat.reduceMul, Nat.reduceLT, Nat.reduceLeDiff, reduceCtorEq, Nat.reduceBEq, forall_const, implies_true, exists_const, ne_eq, Int.reduceAdd, Int.reduceSub, Int.reduceMul, Int.reduceBEq, Int.reduceEq, Int.reduceLT, Int.reduceLE, Int.reduceToNat, Int.reduceNeg, Int.reduceBNe]
      · have h200 : d.cache.length ≠ 200 := by simp at q4; omega
        obtain ⟨rfl, rfl⟩ := goes hfit h200
        have tm := same_spec ⟨d.sectors, d.cache ++ [w]⟩ (by simp; omega) (by simp; omega)
        simp -implicitDefEqProofs only [↓aP, aQ, ↓reduceIte, Nat.reduceEqDiff, Nat.reduceAdd, Nat.reduceSub, Nat.reduceMul, Nat.reduceLT, Nat.reduceLeDiff, reduceCtorEq, Nat.reduceBEq, forall_const, implies_true, exists_const, ne_eq, Int.reduceAdd, Int.reduceSub, Int.reduceMul, Int.reduceBEq, Int.reduceEq, Int.reduceLT, Int.reduceLE, Int.reduceToNat, Int.reduceNeg, Int.reduceBNe, encDk, encWr]
        refine ⟨by omega, by omega, by omega, by omega, by decide +kernel, ?_⟩
        simp only [encDk, rL, List.map_append, List.map_cons, List.map_nil, encWr] at tm ⊢
        refine ask tm ?_
        simp -implicitDefEqProofs only [↓aP, aQ, ↓reduceIte, Nat.reduceEqDiff, Nat.reduceAdd, Nat.reduceSub, Nat.reduceMul, Nat.reduceLT, Nat.reduceLeDiff, reduceCtorEq, Nat.reduceBEq, forall_const, implies_true, exists_const, ne_eq, Int.reduceAdd, Int.reduceSub, Int.reduceMul, Int.reduceBEq, Int.reduceEq, Int.reduceLT, Int.reduceLE, Int.reduceToNat, Int.reduceNeg, Int.reduceBNe]
        refine ask awake_spec ?_
        simp -implicitDefEqProofs only [↓aP, aQ, ↓reduceIte, Nat.reduceEqDiff, Nat.reduceAdd, Nat.reduceSub, Nat.reduceMul, Nat.reduceLT, Nat.reduceLeDiff, reduceCtorEq, Nat.reduceBEq, forall_const, implies_true, exists_const, ne_eq, Int.reduceAdd, Int.reduceSub, Int.reduceMul, Int.reduceBEq, Int.reduceEq, Int.reduceLT, Int.reduceLE, Int.reduceToNat, Int.reduceNeg, Int.reduceBNe]
theorem diskExact_walk {w : World} (v0 : Value) (a0 : ∃ x : Dk, RepT (RepS w fun _ => False) (.agg (encDk x)) v0) (a : Int) (ha : (Lit.int .i64 a).wf = true) (v1 : Value) (a1 : ∃ x : Wr, RepT (RepS w fun _ => False) (.agg (encWr x)) v1) (v2 : Value) (a2 : ∃ l : List Int, RepT (RepS w fun _ => False) (rL 1 (l.map encI)) v2 ∧ ∀ a ∈ l, (Lit.int .i64 a).wf = true) :
    Calls Try.prog 4 #[v0, .int .i64 a, v1, v2] w fun e w' => e = .returned (.bool true) ∧ Below w.heap.size w w' := by
  obtain ⟨d, h0⟩ := a0
  obtain ⟨x, h1⟩ := a1
  obtain ⟨l, h2, _⟩ := a2
  exact (diskExact_spec d a x l).plain (us := [v0, .int .i64 a, v1, v2]) (.cons h0 (.cons (.pv rfl) (.cons h1 (.cons h2 .nil))))
end Go.Proofs.Ytmknfchmnangbaa
