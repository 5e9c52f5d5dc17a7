/- layer 3's reference: Same, at equal disks. -/
import Derived.Test.YtfmbfgoofiojcaaQC
import Derived.Laws.StructEq
namespace Go.Proofs.Ytfmbfgoofiojcaa
open Go.RowKit
set_option linter.unusedVariables false
set_option linter.unusedSimpArgs false
theorem fields_wr : Try.prog.underlying 141 = some (.struct (Try.prog.fieldsOf 141)) := by kernel_rfl
theorem held_wr : Try.prog.stoodInHeld 141 = false := by kernel_rfl
theorem fieldsL_wr : ((Try.prog.fieldsOf 141).toList.map fun f => (f.type, f.offset)) = [(3, 0), (9, 1)] := by kernel_rfl
set_option maxRecDepth 100000 in
theorem eq_wr (x : Wr) : EqRun Try.prog 141 [.int .i64 x.at_, .string x.data] [.int .i64 x.at_, .string x.data] true := by
  intro w
  rw [run_eql_struct, run_equalIn_agg w 9999 _ _ _ fields_wr held_wr]
  go_simp

theorem same_spec (d : Dk) (h1 : d.sectors.length < 4611686018427387904) (h2 : d.cache.length < 4611686018427387904) : Spec Try.prog 38 [.agg (encDk d), .agg (encDk d)] (.val (rB true)) := by
  refine spec_val mixed fn38 (by simp) ?_
  unfold ac38
  simp -implicitDefEqProofs only [↓aP, aQ, ↓reduceIte, Nat.reduceEqDiff, Nat.reduceAdd, Nat.reduceSub, Nat.reduceMul, Nat.reduceLT, Nat.reduceLeDiff, reduceCtorEq, Nat.reduceBEq, forall_const, implies_true, exists_const, ne_eq, Int.reduceAdd, Int.reduceSub, Int.reduceMul, Int.reduceBEq, Int.reduceEq, Int.reduceLT, Int.reduceLE, Int.reduceToNat, Int.reduceNeg, Int.reduceBNe, encDk]
  refine loopA (fun m σ => ∃ i, i + m = d.sectors.length ∧ σ.slot 5 = vI i ∧ σ.slot 2 = .c (.ptr 2 1 0 0) ∧ σ.h.gen 2 = 1 ∧ σ.h.blk 2 = .box 62 2 [[.s (.sl 1 (d.sectors.map encS)), .s (.sl 2 (d.cache.map encWr))]] ∧ σ.slot 3 = .c (.ptr 3 1 0 0) ∧ σ.h.gen 3 = 1 ∧ σ.h.blk 3 = .box 62 2 [[.s (.sl 1 (d.sectors.map encS)), .s (.sl 2 (d.cache.map encWr))]]) d.sectors.length ?_ ?_
  · simp -implicitDefEqProofs only [↓aP, aQ, ↓reduceIte, Nat.reduceEqDiff, Nat.reduceAdd, Nat.reduceSub, Nat.reduceMul, Nat.reduceLT, Nat.reduceLeDiff, reduceCtorEq, Nat.reduceBEq, forall_const, implies_true, exists_const, ne_eq, Int.reduceAdd, Int.reduceSub, Int.reduceMul, Int.reduceBEq, Int.reduceEq, Int.reduceLT, Int.reduceLE, Int.reduceToNat, Int.reduceNeg, Int.reduceBNe]
    refine ⟨0, ?_⟩
    simp -implicitDefEqProofs only [↓aP, aQ, ↓reduceIte, Nat.reduceEqDiff, Nat.reduceAdd, Nat.reduceSub, Nat.reduceMul, Nat.reduceLT, Nat.reduceLeDiff, reduceCtorEq, Nat.reduceBEq, forall_const, implies_true, exists_const, ne_eq, Int.reduceAdd, Int.reduceSub, Int.reduceMul, Int.reduceBEq, Int.reduceEq, Int.reduceLT, Int.reduceLE, Int.reduceToNat, Int.reduceNeg, Int.reduceBNe]
  · rintro m σ ⟨i, him, s5, s2, g2, b2, s3, g3, b3⟩
    simp -implicitDefEqProofs only [↓aP, aQ, ↓reduceIte, Nat.reduceEqDiff, Nat.reduceAdd, Nat.reduceSub, Nat.reduceMul, Nat.reduceLT, Nat.reduceLeDiff, reduceCtorEq, Nat.reduceBEq, forall_const, implies_true, exists_const, ne_eq, Int.reduceAdd, Int.reduceSub, Int.reduceMul, Int.reduceBEq, Int.reduceEq, Int.reduceLT, Int.reduceLE, Int.reduceToNat, Int.reduceNeg, Int.reduceBNe, s5, s2, g2, b2, s3, g3, b3]
    refine fork ?_ ?_ <;> intro hf
    · have hi : i < d.sectors.length := by simpa using hf
      simp -implicitDefEqProofs only [↓aP, aQ, ↓reduceIte, Nat.reduceEqDiff, Nat.reduceAdd, Nat.reduceSub, Nat.reduceMul, Nat.reduceLT, Nat.reduceLeDiff, reduceCtorEq, Nat.reduceBEq, forall_const, implies_true, exists_const, ne_eq, Int.reduceAdd, Int.reduceSub, Int.reduceMul, Int.reduceBEq, Int.reduceEq, Int.reduceLT, Int.reduceLE, Int.reduceToNat, Int.reduceNeg, Int.reduceBNe, s5, s2, g2, b2, s3, g3, b3, askIdx_map, hi, encS, wrapS (show i < 4611686018427387904 by omega)]
      refine ⟨by decide, ?_⟩
      refine ⟨m - 1, by omega, i + 1, ?_⟩
      simp -implicitDefEqProofs only [↓aP, aQ, ↓reduceIte, Nat.reduceEqDiff, Nat.reduceAdd, Nat.reduceSub, Nat.reduceMul, Nat.reduceLT, Nat.reduceLeDiff, reduceCtorEq, Nat.reduceBEq, forall_const, implies_true, exists_const, ne_eq, Int.reduceAdd, Int.reduceSub, Int.reduceMul, Int.reduceBEq, Int.reduceEq, Int.reduceLT, Int.reduceLE, Int.reduceToNat, Int.reduceNeg, Int.reduceBNe]
      omega
    · simp -implicitDefEqProofs only [↓aP, aQ, ↓reduceIte, Nat.reduceEqDiff, Nat.reduceAdd, Nat.reduceSub, Nat.reduceMul, Nat.reduceLT, Nat.reduceLeDiff, reduceCtorEq, Nat.reduceBEq, forall_const, implies_true, exists_const, ne_eq, Int.reduceAdd, Int.reduceSub, Int.reduceMul, Int.reduceBEq, Int.reduceEq, Int.reduceLT, Int.reduceLE, Int.reduceToNat, Int.reduceNeg, Int.reduceBNe, s5, s2, g2, b2, s3, g3, b3]
      refine loopA (fun m σ => ∃ i, i + m = d.cache.length ∧ σ.slot 6 = vI i ∧ σ.slot 2 = .c (.ptr 2 1 0 0) ∧ σ.h.gen 2 = 1 ∧ σ.h.blk 2 = .box 62 2 [[.s (.sl 1 (d.sectors.map encS)), .s (.sl 2 (d.cache.map encWr))]] ∧ σ.slot 3 = .c (.ptr 3 1 0 0) ∧ σ.h.gen 3 = 1 ∧ σ.h.blk 3 = .box 62 2 [[.s (.sl 1 (d.sectors.map encS)), .s (.sl 2 (d.cache.map encWr))]]) d.cache.length ?_ ?_
      · simp -implicitDefEqProofs only [↓aP, aQ, ↓reduceIte, Nat.reduceEqDiff, Nat.reduceAdd, Nat.reduceSub, Nat.reduceMul, Nat.reduceLT, Nat.reduceLeDiff, reduceCtorEq, Nat.reduceBEq, forall_const, implies_true, exists_const, ne_eq, Int.reduceAdd, Int.reduceSub, Int.reduceMul, Int.reduceBEq, Int.reduceEq, Int.reduceLT, Int.reduceLE, Int.reduceToNat, Int.reduceNeg, Int.reduceBNe, s2, g2, b2, s3, g3, b3]
        refine ⟨0, ?_⟩
        simp -implicitDefEqProofs only [↓aP, aQ, ↓reduceIte, Nat.reduceEqDiff, Nat.reduceAdd, Nat.reduceSub, Nat.reduceMul, Nat.reduceLT, Nat.reduceLeDiff, reduceCtorEq, Nat.reduceBEq, forall_const, implies_true, exists_const, ne_eq, Int.reduceAdd, Int.reduceSub, Int.reduceMul, Int.reduceBEq, Int.reduceEq, Int.reduceLT, Int.reduceLE, Int.reduceToNat, Int.reduceNeg, Int.reduceBNe]
      · clear him s5 s2 g2 b2 s3 g3 b3 hf
        rintro m σ ⟨i, him, s6, s2, g2, b2, s3, g3, b3⟩
        simp -implicitDefEqProofs only [↓aP, aQ, ↓reduceIte, Nat.reduceEqDiff, Nat.reduceAdd, Nat.reduceSub, Nat.reduceMul, Nat.reduceLT, Nat.reduceLeDiff, reduceCtorEq, Nat.reduceBEq, forall_const, implies_true, exists_const, ne_eq, Int.reduceAdd, Int.reduceSub, Int.reduceMul, Int.reduceBEq, Int.reduceEq, Int.reduceLT, Int.reduceLE, Int.reduceToNat, Int.reduceNeg, Int.reduceBNe, s6, s2, g2, b2, s3, g3, b3]
        refine fork ?_ ?_ <;> intro hf
        · have hi : i < d.cache.length := by simpa using hf
          simp -implicitDefEqProofs only [↓aP, aQ, ↓reduceIte, Nat.reduceEqDiff, Nat.reduceAdd, Nat.reduceSub, Nat.reduceMul, Nat.reduceLT, Nat.reduceLeDiff, reduceCtorEq, Nat.reduceBEq, forall_const, implies_true, exists_const, ne_eq, Int.reduceAdd, Int.reduceSub, Int.reduceMul, Int.reduceBEq, Int.reduceEq, Int.reduceLT, Int.reduceLE, Int.reduceToNat, Int.reduceNeg, Int.reduceBNe, s6, s2, g2, b2, s3, g3, b3, askIdx_map, hi, encWr]
          refine askEq (eq_wr d.cache[i]) ?_
          simp -implicitDefEqProofs only [↓aP, aQ, ↓reduceIte, Nat.reduceEqDiff, Nat.reduceAdd, Nat.reduceSub, Nat.reduceMul, Nat.reduceLT, Nat.reduceLeDiff, reduceCtorEq, Nat.reduceBEq, forall_const, implies_true, exists_const, ne_eq, Int.reduceAdd, Int.reduceSub, Int.reduceMul, Int.reduceBEq, Int.reduceEq, Int.reduceLT, Int.reduceLE, Int.reduceToNat, Int.reduceNeg, Int.reduceBNe, s6, s2, g2, b2, s3, g3, b3, wrapS (show i < 4611686018427387904 by omega)]
          refine ⟨by decide, ?_⟩
          refine ⟨m - 1, by omega, i + 1, ?_⟩
          simp -implicitDefEqProofs only [↓aP, aQ, ↓reduceIte, Nat.reduceEqDiff, Nat.reduceAdd, Nat.reduceSub, Nat.reduceMul, Nat.reduceLT, Nat.reduceLeDiff, reduceCtorEq, Nat.reduceBEq, forall_const, implies_true, exists_const, ne_eq, Int.reduceAdd, Int.reduceSub, Int.reduceMul, Int.reduceBEq, Int.reduceEq, Int.reduceLT, Int.reduceLE, Int.reduceToNat, Int.reduceNeg, Int.reduceBNe]
          omega
        · simp -implicitDefEqProofs only [↓aP, aQ, ↓reduceIte, Nat.reduceEqDiff, Nat.reduceAdd, Nat.reduceSub, Nat.reduceMul, Nat.reduceLT, Nat.reduceLeDiff, reduceCtorEq, Nat.reduceBEq, forall_const, implies_true, exists_const, ne_eq, Int.reduceAdd, Int.reduceSub, Int.reduceMul, Int.reduceBEq, Int.reduceEq, Int.reduceLT, Int.reduceLE, Int.reduceToNat, Int.reduceNeg, Int.reduceBNe, s6, s2, g2, b2, s3, g3, b3]
end Go.Proofs.Ytfmbfgoofiojcaa
namespace Go.Proofs.Ytfmbfgoofiojcaa
open Go.RowKit
set_option linter.unusedVariables false
set_option linter.unusedSimpArgs false
theorem lookB_take_succ {ws : List Wr} {r : Nat} (hr : r < ws.length) (a : Int) : lookB (ws.take (r + 1)) a = if ws[r].at_ = a then some ws[r] else lookB (ws.take r) a := by
  rw [take_snoc hr, lookB_snoc]

theorem refRead_spec (d : Dk) (a : Int) (hr : rightB d = true) (hh : hasB d a = true) : Spec Try.prog 89 [.agg (encDk d), rI a] (.val (rS (readD d a).1)) := by
  refine spec_val mixed fn89 (by simp) ?_
  unfold ac89
  have hl := right_len hr
  obtain ⟨k, rfl, hk⟩ := has_nat hh
  have hw0 : IntKind.i64.wrap ((d.cache.length : Int) - 1) = (d.cache.length : Int) - 1 := wrapI (by omega)
  simp -implicitDefEqProofs only [↓aP, aQ, ↓reduceIte, Nat.reduceEqDiff, Nat.reduceAdd, Nat.reduceSub, Nat.reduceMul, Nat.reduceLT, Nat.reduceLeDiff, reduceCtorEq, Nat.reduceBEq, forall_const, implies_true, exists_const, ne_eq, Int.reduceAdd, Int.reduceSub, Int.reduceMul, Int.reduceBEq, Int.reduceEq, Int.reduceLT, Int.reduceLE, Int.reduceToNat, Int.reduceNeg, Int.reduceBNe, encDk, hw0]
  refine loopA (fun m σ => m ≤ d.cache.length ∧ lookB d.cache k = lookB (d.cache.take m) k ∧ σ.slot 5 = vI ((m : Int) - 1) ∧ σ.slot 2 = .c (.ptr 2 1 0 0) ∧ σ.h.gen 2 = 1 ∧ σ.h.blk 2 = .box 62 2 [[.s (.sl 1 (d.sectors.map encS)), .s (.sl 2 (d.cache.map encWr))]] ∧ σ.slot 1 = vI k) d.cache.length ?_ ?_
  · simp -implicitDefEqProofs only [↓aP, aQ, ↓reduceIte, Nat.reduceEqDiff, Nat.reduceAdd, Nat.reduceSub, Nat.reduceMul, Nat.reduceLT, Nat.reduceLeDiff, reduceCtorEq, Nat.reduceBEq, forall_const, implies_true, exists_const, ne_eq, Int.reduceAdd, Int.reduceSub, Int.reduceMul, Int.reduceBEq, Int.reduceEq, Int.reduceLT, Int.reduceLE, Int.reduceToNat, Int.reduceNeg, Int.reduceBNe]
    rw [List.take_length]
  · rintro m σ ⟨hm, hlk, s5, s2, g2, b2, s1⟩
    cases m with
    | zero =>
      have hneg : decide ((0 : Int) ≤ -1) = false := by decide
      simp -implicitDefEqProofs only [↓aP, aQ, ↓reduceIte, Nat.reduceEqDiff, Nat.reduceAdd, Nat.reduceSub, Nat.reduceMul, Nat.reduceLT, Nat.reduceLeDiff, reduceCtorEq, Nat.reduceBEq, forall_const, implies_true, exists_const, ne_eq, Int.reduceAdd, Int.reduceSub, Int.reduceMul, Int.reduceBEq, Int.reduceEq, Int.reduceLT, Int.reduceLE, Int.reduceToNat, Int.reduceNeg, Int.reduceBNe, s5, s2, g2, b2, s1, hneg, askIdx_map, hk, encS]
      have e : readD d k = (d.sectors[k], 0) := by
        rw [read_ok hr hh, hlk]
        simp [lookB, hk]
      rw [e]
    | succ r =>
      have e1 : ((r + 1 : Nat) : Int) - 1 = (r : Int) := by omega
      rw [e1] at s5
      have hr2 : r < d.cache.length := by omega
      rw [lookB_take_succ hr2] at hlk
      have hge : decide ((0 : Int) ≤ (r : Int)) = true := by simp
      have hw : IntKind.i64.wrap ((r : Int) - 1) = (r : Int) - 1 := wrapI (by omega)
      simp -implicitDefEqProofs only [↓aP, aQ, ↓reduceIte, Nat.reduceEqDiff, Nat.reduceAdd, Nat.reduceSub, Nat.reduceMul, Nat.reduceLT, Nat.reduceLeDiff, reduceCtorEq, Nat.reduceBEq, forall_const, implies_true, exists_const, ne_eq, Int.reduceAdd, Int.reduceSub, Int.reduceMul, Int.reduceBEq, Int.reduceEq, Int.reduceLT, Int.reduceLE, Int.reduceToNat, Int.reduceNeg, Int.reduceBNe, s5, s2, g2, b2, s1, hge, askIdx_map, hr2, encWr]
      refine fork ?_ ?_ <;> intro hf
      · have e : d.cache[r].at_ = (k : Int) := by simpa using hf
        rw [if_pos e] at hlk
        simp -implicitDefEqProofs only [↓aP, aQ, ↓reduceIte, Nat.reduceEqDiff, Nat.reduceAdd, Nat.reduceSub, Nat.reduceMul, Nat.reduceLT, Nat.reduceLeDiff, reduceCtorEq, Nat.reduceBEq, forall_const, implies_true, exists_const, ne_eq, Int.reduceAdd, Int.reduceSub, Int.reduceMul, Int.reduceBEq, Int.reduceEq, Int.reduceLT, Int.reduceLE, Int.reduceToNat, Int.reduceNeg, Int.reduceBNe, s5, s2, g2, b2, s1, hge, askIdx_map, hr2, encWr]
        have e : readD d k = (d.cache[r].data, 0) := by
          rw [read_ok hr hh, hlk]
        rw [e]
      · have e : d.cache[r].at_ ≠ (k : Int) := by simpa using hf
        rw [if_neg e] at hlk
        simp -implicitDefEqProofs only [↓aP, aQ, ↓reduceIte, Nat.reduceEqDiff, Nat.reduceAdd, Nat.reduceSub, Nat.reduceMul, Nat.reduceLT, Nat.reduceLeDiff, reduceCtorEq, Nat.reduceBEq, forall_const, implies_true, exists_const, ne_eq, Int.reduceAdd, Int.reduceSub, Int.reduceMul, Int.reduceBEq, Int.reduceEq, Int.reduceLT, Int.reduceLE, Int.reduceToNat, Int.reduceNeg, Int.reduceBNe, s5, s2, g2, b2, s1, hw]
        exact ⟨r, by omega, by omega, hlk, rfl⟩
theorem sync_at {d : Dk} (h : rightB d = true) {i : Nat} (hi : i < d.sectors.length) (hi2 : i < (syncD d).sectors.length) : (readD d i).1 = (syncD d).sectors[i] := by
  have hh : hasB d i = true := by simp [hasB, hi]
  have e : syncD d = doneD d d.cache := by simp [syncD, h]
  have rs : rightB (syncD d) = true := by rw [e]; exact right_done h _ (right_fits h)
  have hs : hasB (syncD d) i = true := by rw [e, has_done]; exact hh
  have hc : (syncD d).cache = [] := by rw [e]; rfl
  rw [← read_sync h hh, read_ok rs hs, hc]
  have : lookB [] (i : Int) = none := rfl
  rw [this]
  simp [hi2]

/-- a row that grows: nothing yet; a row of its own -/
def Grown (σ : St) (x : AC) (l ty e : Nat) (els : List (List SC)) : Prop := (x = .zc ∧ els = []) ∨ ∃ g, x = .own l g ∧ σ.h.gen l = g ∧ σ.h.blk l = .row ty e els
theorem refSync_spec (d : Dk) (hr : rightB d = true) : Spec Try.prog 90 [.agg (encDk d)] (.val (.agg (encDk (syncD d)))) := by
  refine spec_val mixed fn90 (by simp) ?_
  unfold ac90
  have hl := right_len hr
  have e : syncD d = doneD d d.cache := by simp [syncD, hr]
  have hsl : (syncD d).sectors.length = d.sectors.length := by rw [e]; exact doneS_len _ _
  have hsc : (syncD d).cache = [] := by rw [e]; rfl
  have hat : ∀ i, i < d.sectors.length → ∀ hi2 : i < (syncD d).sectors.length, (readD d i).1 = (syncD d).sectors[i] := fun i hi hi2 => sync_at hr hi hi2
  obtain ⟨z, hz⟩ : ∃ z, z = syncD d := ⟨_, rfl⟩
  rw [← hz] at hsl hsc hat ⊢
  simp -implicitDefEqProofs only [↓aP, aQ, ↓reduceIte, Nat.reduceEqDiff, Nat.reduceAdd, Nat.reduceSub, Nat.reduceMul, Nat.reduceLT, Nat.reduceLeDiff, reduceCtorEq, Nat.reduceBEq, forall_const, implies_true, exists_const, ne_eq, Int.reduceAdd, Int.reduceSub, Int.reduceMul, Int.reduceBEq, Int.reduceEq, Int.reduceLT, Int.reduceLE, Int.reduceToNat, Int.reduceNeg, Int.reduceBNe, encDk, hsc]
  refine loopA (fun m σ => ∃ i, i + m = d.sectors.length ∧ ∃ x, Grown σ x 18 9 1 ((z.sectors.take i).map encS) ∧ σ.slot 4 = vI i ∧ σ.slot 1 = .c (.ptr 1 1 0 0) ∧ σ.h.gen 1 = 1 ∧ σ.h.blk 1 = .box 62 2 [[.s (.sl 1 (d.sectors.map encS)), .s (.sl 2 (d.cache.map encWr))]] ∧ σ.slot 2 = .c (.ptr 2 1 0 0) ∧ σ.h.gen 2 = 1 ∧ σ.h.blk 2 = .box 62 2 [[.zc, .zc]] ∧ σ.slot 3 = .c (.ptr 3 1 0 0) ∧ σ.h.gen 3 = 1 ∧ σ.h.blk 3 = .box 62 2 [[x, .zc]]) d.sectors.length ?_ ?_
  · simp -implicitDefEqProofs only [↓aP, aQ, ↓reduceIte, Nat.reduceEqDiff, Nat.reduceAdd, Nat.reduceSub, Nat.reduceMul, Nat.reduceLT, Nat.reduceLeDiff, reduceCtorEq, Nat.reduceBEq, forall_const, implies_true, exists_const, ne_eq, Int.reduceAdd, Int.reduceSub, Int.reduceMul, Int.reduceBEq, Int.reduceEq, Int.reduceLT, Int.reduceLE, Int.reduceToNat, Int.reduceNeg, Int.reduceBNe]
    refine ⟨0, by omega, .zc, .inl ⟨rfl, rfl⟩, ?_⟩
    simp -implicitDefEqProofs only [↓aP, aQ, ↓reduceIte, Nat.reduceEqDiff, Nat.reduceAdd, Nat.reduceSub, Nat.reduceMul, Nat.reduceLT, Nat.reduceLeDiff, reduceCtorEq, Nat.reduceBEq, forall_const, implies_true, exists_const, ne_eq, Int.reduceAdd, Int.reduceSub, Int.reduceMul, Int.reduceBEq, Int.reduceEq, Int.reduceLT, Int.reduceLE, Int.reduceToNat, Int.reduceNeg, Int.reduceBNe]
  · rintro m σ ⟨i, him, x, hx, s4, s1, g1, b1, s2, g2, b2, s3, g3, b3⟩
    simp -implicitDefEqProofs only [↓aP, aQ, ↓reduceIte, Nat.reduceEqDiff, Nat.reduceAdd, Nat.reduceSub, Nat.reduceMul, Nat.reduceLT, Nat.reduceLeDiff, reduceCtorEq, Nat.reduceBEq, forall_const, implies_true, exists_const, ne_eq, Int.reduceAdd, Int.reduceSub, Int.reduceMul, Int.reduceBEq, Int.reduceEq, Int.reduceLT, Int.reduceLE, Int.reduceToNat, Int.reduceNeg, Int.reduceBNe, s4, s1, g1, b1, s2, g2, b2, s3, g3, b3]
    refine fork ?_ ?_ <;> intro hf
    · have hi : i < d.sectors.length := by simpa using hf
      have hi2 : i < z.sectors.length := by omega
      have hh : hasB d i = true := by simp [hasB, hi]
      have t := refRead_spec d i hr hh
      rw [hat i hi hi2] at t
      have htl : (z.sectors.take i).length = i := by rw [List.length_take]; omega
      rcases hx with ⟨rfl, he⟩ | ⟨g, rfl, g18, b18⟩
      · have hi0 : i = 0 := by
          have := congrArg List.length he
          rw [List.length_map, htl] at this
          simpa using this
        simp -implicitDefEqProofs only [↓aP, aQ, ↓reduceIte, Nat.reduceEqDiff, Nat.reduceAdd, Nat.reduceSub, Nat.reduceMul, Nat.reduceLT, Nat.reduceLeDiff, reduceCtorEq, Nat.reduceBEq, forall_const, implies_true, exists_const, ne_eq, Int.reduceAdd, Int.reduceSub, Int.reduceMul, Int.reduceBEq, Int.reduceEq, Int.reduceLT, Int.reduceLE, Int.reduceToNat, Int.reduceNeg, Int.reduceBNe, s4, s1, g1, b1, s2, g2, b2, s3, g3, b3]
        refine ask t ?_
        simp -implicitDefEqProofs only [↓aP, aQ, ↓reduceIte, Nat.reduceEqDiff, Nat.reduceAdd, Nat.reduceSub, Nat.reduceMul, Nat.reduceLT, Nat.reduceLeDiff, reduceCtorEq, Nat.reduceBEq, forall_const, implies_true, exists_const, ne_eq, Int.reduceAdd, Int.reduceSub, Int.reduceMul, Int.reduceBEq, Int.reduceEq, Int.reduceLT, Int.reduceLE, Int.reduceToNat, Int.reduceNeg, Int.reduceBNe, s4, s1, g1, b1, s2, g2, b2, s3, g3, b3, wrapS (show i < 4611686018427387904 by omega)]
        refine ⟨by decide, m - 1, by omega, i + 1, by omega, .own 18 (σ.h.gen 18 + 1), .inr ⟨_, rfl, ?_, ?_⟩, ?_⟩
        · simp -implicitDefEqProofs only [↓aP, aQ, ↓reduceIte, Nat.reduceEqDiff, Nat.reduceAdd, Nat.reduceSub, Nat.reduceMul, Nat.reduceLT, Nat.reduceLeDiff, reduceCtorEq, Nat.reduceBEq, forall_const, implies_true, exists_const, ne_eq, Int.reduceAdd, Int.reduceSub, Int.reduceMul, Int.reduceBEq, Int.reduceEq, Int.reduceLT, Int.reduceLE, Int.reduceToNat, Int.reduceNeg, Int.reduceBNe]
        · simp -implicitDefEqProofs only [↓aP, aQ, ↓reduceIte, Nat.reduceEqDiff, Nat.reduceAdd, Nat.reduceSub, Nat.reduceMul, Nat.reduceLT, Nat.reduceLeDiff, reduceCtorEq, Nat.reduceBEq, forall_const, implies_true, exists_const, ne_eq, Int.reduceAdd, Int.reduceSub, Int.reduceMul, Int.reduceBEq, Int.reduceEq, Int.reduceLT, Int.reduceLE, Int.reduceToNat, Int.reduceNeg, Int.reduceBNe]
          rw [take_snoc hi2, List.map_append, he]
          rfl
        · simp -implicitDefEqProofs only [↓aP, aQ, ↓reduceIte, Nat.reduceEqDiff, Nat.reduceAdd, Nat.reduceSub, Nat.reduceMul, Nat.reduceLT, Nat.reduceLeDiff, reduceCtorEq, Nat.reduceBEq, forall_const, implies_true, exists_const, ne_eq, Int.reduceAdd, Int.reduceSub, Int.reduceMul, Int.reduceBEq, Int.reduceEq, Int.reduceLT, Int.reduceLE, Int.reduceToNat, Int.reduceNeg, Int.reduceBNe, s4, s1, g1, b1, s2, g2, b2, s3, g3, b3]
      · simp -implicitDefEqProofs only [↓aP, aQ, ↓reduceIte, Nat.reduceEqDiff, Nat.reduceAdd, Nat.reduceSub, Nat.reduceMul, Nat.reduceLT, Nat.reduceLeDiff, reduceCtorEq, Nat.reduceBEq, forall_const, implies_true, exists_const, ne_eq, Int.reduceAdd, Int.reduceSub, Int.reduceMul, Int.reduceBEq, Int.reduceEq, Int.reduceLT, Int.reduceLE, Int.reduceToNat, Int.reduceNeg, Int.reduceBNe, s4, s1, g1, b1, s2, g2, b2, s3, g3, b3]
        refine ask t ?_
        simp -implicitDefEqProofs only [↓aP, aQ, ↓reduceIte, Nat.reduceEqDiff, Nat.reduceAdd, Nat.reduceSub, Nat.reduceMul, Nat.reduceLT, Nat.reduceLeDiff, reduceCtorEq, Nat.reduceBEq, forall_const, implies_true, exists_const, ne_eq, Int.reduceAdd, Int.reduceSub, Int.reduceMul, Int.reduceBEq, Int.reduceEq, Int.reduceLT, Int.reduceLE, Int.reduceToNat, Int.reduceNeg, Int.reduceBNe, s4, s1, g1, b1, s2, g2, b2, s3, g3, b3, g18, b18, htl, wrapS (show i < 4611686018427387904 by omega)]
        refine ⟨by omega, by omega, by decide, m - 1, by omega, i + 1, by omega, .own 18 (g + 1), .inr ⟨_, rfl, ?_, ?_⟩, ?_⟩
        · simp -implicitDefEqProofs only [↓aP, aQ, ↓reduceIte, Nat.reduceEqDiff, Nat.reduceAdd, Nat.reduceSub, Nat.reduceMul, Nat.reduceLT, Nat.reduceLeDiff, reduceCtorEq, Nat.reduceBEq, forall_const, implies_true, exists_const, ne_eq, Int.reduceAdd, Int.reduceSub, Int.reduceMul, Int.reduceBEq, Int.reduceEq, Int.reduceLT, Int.reduceLE, Int.reduceToNat, Int.reduceNeg, Int.reduceBNe]
        · simp -implicitDefEqProofs only [↓aP, aQ, ↓reduceIte, Nat.reduceEqDiff, Nat.reduceAdd, Nat.reduceSub, Nat.reduceMul, Nat.reduceLT, Nat.reduceLeDiff, reduceCtorEq, Nat.reduceBEq, forall_const, implies_true, exists_const, ne_eq, Int.reduceAdd, Int.reduceSub, Int.reduceMul, Int.reduceBEq, Int.reduceEq, Int.reduceLT, Int.reduceLE, Int.reduceToNat, Int.reduceNeg, Int.reduceBNe]
          rw [take_snoc hi2, List.map_append]
          rfl
        · simp -implicitDefEqProofs only [↓aP, aQ, ↓reduceIte, Nat.reduceEqDiff, Nat.reduceAdd, Nat.reduceSub, Nat.reduceMul, Nat.reduceLT, Nat.reduceLeDiff, reduceCtorEq, Nat.reduceBEq, forall_const, implies_true, exists_const, ne_eq, Int.reduceAdd, Int.reduceSub, Int.reduceMul, Int.reduceBEq, Int.reduceEq, Int.reduceLT, Int.reduceLE, Int.reduceToNat, Int.reduceNeg, Int.reduceBNe, s4, s1, g1, b1, s2, g2, b2, s3, g3, b3]
    · have hi : i = z.sectors.length := by simp at hf; omega
      rw [hi, List.take_length] at hx
      rcases hx with ⟨rfl, he⟩ | ⟨g, rfl, g18, b18⟩
      · simp -implicitDefEqProofs only [↓aP, aQ, ↓reduceIte, Nat.reduceEqDiff, Nat.reduceAdd, Nat.reduceSub, Nat.reduceMul, Nat.reduceLT, Nat.reduceLeDiff, reduceCtorEq, Nat.reduceBEq, forall_const, implies_true, exists_const, ne_eq, Int.reduceAdd, Int.reduceSub, Int.reduceMul, Int.reduceBEq, Int.reduceEq, Int.reduceLT, Int.reduceLE, Int.reduceToNat, Int.reduceNeg, Int.reduceBNe, s4, s1, g1, b1, s2, g2, b2, s3, g3, b3]
        rw [he]
        exact .refl _
      · simp -implicitDefEqProofs only [↓aP, aQ, ↓reduceIte, Nat.reduceEqDiff, Nat.reduceAdd, Nat.reduceSub, Nat.reduceMul, Nat.reduceLT, Nat.reduceLeDiff, reduceCtorEq, Nat.reduceBEq, forall_const, implies_true, exists_const, ne_eq, Int.reduceAdd, Int.reduceSub, Int.reduceMul, Int.reduceBEq, Int.reduceEq, Int.reduceLT, Int.reduceLE, Int.reduceToNat, Int.reduceNeg, Int.reduceBNe, s4, s1, g1, b1, s2, g2, b2, s3, g3, b3, g18, b18]
end Go.Proofs.Ytfmbfgoofiojcaa
namespace Go.Proofs.Ytfmbfgoofiojcaa
set_option linter.unusedVariables false
set_option linter.unusedSimpArgs false
end Go.Proofs.Ytfmbfgoofiojcaa
namespace Go.Proofs.Ytfmbfgoofiojcaa
open Go.RowKit
set_option linter.unusedVariables false
set_option linter.unusedSimpArgs false
theorem in_spec (l : List Int) (n : Int) (hl : l.length < 4611686018427387904) : Spec Try.prog 91 [rL 1 (l.map encI), rI n] (.val (rB (l.contains n))) := by
  refine spec_val mixed fn91 (by simp) ?_
  unfold ac91
  simp -implicitDefEqProofs only [↓aP, aQ, ↓reduceIte, Nat.reduceEqDiff, Nat.reduceAdd, Nat.reduceSub, Nat.reduceMul, Nat.reduceLT, Nat.reduceLeDiff, reduceCtorEq, Nat.reduceBEq, forall_const, implies_true, exists_const, ne_eq, Int.reduceAdd, Int.reduceSub, Int.reduceMul, Int.reduceBEq, Int.reduceEq, Int.reduceLT, Int.reduceLE, Int.reduceToNat, Int.reduceNeg, Int.reduceBNe]
  refine loopA (fun m σ => ∃ i, i + m = l.length ∧ (l.take i).contains n = false ∧ σ.slot 5 = vI i ∧ σ.slot 0 = vL 1 (l.map encI) ∧ σ.slot 1 = vI n) l.length ?_ ?_
  · simp -implicitDefEqProofs only [↓aP, aQ, ↓reduceIte, Nat.reduceEqDiff, Nat.reduceAdd, Nat.reduceSub, Nat.reduceMul, Nat.reduceLT, Nat.reduceLeDiff, reduceCtorEq, Nat.reduceBEq, forall_const, implies_true, exists_const, ne_eq, Int.reduceAdd, Int.reduceSub, Int.reduceMul, Int.reduceBEq, Int.reduceEq, Int.reduceLT, Int.reduceLE, Int.reduceToNat, Int.reduceNeg, Int.reduceBNe]
    refine ⟨0, by omega, by simp, ?_⟩
    simp -implicitDefEqProofs only [↓aP, aQ, ↓reduceIte, Nat.reduceEqDiff, Nat.reduceAdd, Nat.reduceSub, Nat.reduceMul, Nat.reduceLT, Nat.reduceLeDiff, reduceCtorEq, Nat.reduceBEq, forall_const, implies_true, exists_const, ne_eq, Int.reduceAdd, Int.reduceSub, Int.reduceMul, Int.reduceBEq, Int.reduceEq, Int.reduceLT, Int.reduceLE, Int.reduceToNat, Int.reduceNeg, Int.reduceBNe]
  · rintro m σ ⟨i, him, hno, s5, s0, s1⟩
    simp -implicitDefEqProofs only [↓aP, aQ, ↓reduceIte, Nat.reduceEqDiff, Nat.reduceAdd, Nat.reduceSub, Nat.reduceMul, Nat.reduceLT, Nat.reduceLeDiff, reduceCtorEq, Nat.reduceBEq, forall_const, implies_true, exists_const, ne_eq, Int.reduceAdd, Int.reduceSub, Int.reduceMul, Int.reduceBEq, Int.reduceEq, Int.reduceLT, Int.reduceLE, Int.reduceToNat, Int.reduceNeg, Int.reduceBNe, s5, s0, s1]
    refine fork ?_ ?_ <;> intro hf
    · have hi : i < l.length := by simpa using hf
      simp -implicitDefEqProofs only [↓aP, aQ, ↓reduceIte, Nat.reduceEqDiff, Nat.reduceAdd, Nat.reduceSub, Nat.reduceMul, Nat.reduceLT, Nat.reduceLeDiff, reduceCtorEq, Nat.reduceBEq, forall_const, implies_true, exists_const, ne_eq, Int.reduceAdd, Int.reduceSub, Int.reduceMul, Int.reduceBEq, Int.reduceEq, Int.reduceLT, Int.reduceLE, Int.reduceToNat, Int.reduceNeg, Int.reduceBNe, s5, s0, s1, askIdx_map, hi, encI]
      refine fork ?_ ?_ <;> intro hg
      · simp -implicitDefEqProofs only [↓aP, aQ, ↓reduceIte, Nat.reduceEqDiff, Nat.reduceAdd, Nat.reduceSub, Nat.reduceMul, Nat.reduceLT, Nat.reduceLeDiff, reduceCtorEq, Nat.reduceBEq, forall_const, implies_true, exists_const, ne_eq, Int.reduceAdd, Int.reduceSub, Int.reduceMul, Int.reduceBEq, Int.reduceEq, Int.reduceLT, Int.reduceLE, Int.reduceToNat, Int.reduceNeg, Int.reduceBNe]
        have : l.contains n = true := by
          rw [List.contains_iff_mem]
          have e : l[i] = n := by simpa using hg
          rw [← e]
          exact List.getElem_mem hi
        rw [this]
      · simp -implicitDefEqProofs only [↓aP, aQ, ↓reduceIte, Nat.reduceEqDiff, Nat.reduceAdd, Nat.reduceSub, Nat.reduceMul, Nat.reduceLT, Nat.reduceLeDiff, reduceCtorEq, Nat.reduceBEq, forall_const, implies_true, exists_const, ne_eq, Int.reduceAdd, Int.reduceSub, Int.reduceMul, Int.reduceBEq, Int.reduceEq, Int.reduceLT, Int.reduceLE, Int.reduceToNat, Int.reduceNeg, Int.reduceBNe, s5, s0, s1, wrapS (show i < 4611686018427387904 by omega)]
        refine ⟨m - 1, by omega, i + 1, by omega, ?_, rfl⟩
        rw [take_snoc hi]
        have e : l[i] ≠ n := by simpa using hg
        have hno' : n ∉ l.take i := by simpa using hno
        cases hq : (l.take i ++ [l[i]]).contains n with
        | false => rfl
        | true =>
          exfalso
          rw [List.contains_iff_mem, List.mem_append, List.mem_singleton] at hq
          rcases hq with h | h
          · exact hno' h
          · exact e h.symm
    · simp -implicitDefEqProofs only [↓aP, aQ, ↓reduceIte, Nat.reduceEqDiff, Nat.reduceAdd, Nat.reduceSub, Nat.reduceMul, Nat.reduceLT, Nat.reduceLeDiff, reduceCtorEq, Nat.reduceBEq, forall_const, implies_true, exists_const, ne_eq, Int.reduceAdd, Int.reduceSub, Int.reduceMul, Int.reduceBEq, Int.reduceEq, Int.reduceLT, Int.reduceLE, Int.reduceToNat, Int.reduceNeg, Int.reduceBNe, s5, s0, s1]
      have hi : i = l.length := by simp at hf; omega
      rw [hi, List.take_length] at hno
      rw [hno]
theorem mark_get (m : List Bool) (k : Int) (j : Nat) (hj : j < m.length) : (mark m k)[j]? = some (m[j] || (k == (j : Int))) := by
  unfold mark
  split
  · rename_i h
    by_cases e : k = (j : Int)
    · have : k.toNat = j := by omega
      rw [this, List.getElem?_set_self hj]
      simp [e]
    · have : k.toNat ≠ j := by omega
      rw [List.getElem?_set_ne this, List.getElem?_eq_getElem hj]
      have : (k == (j : Int)) = false := by simpa using e
      rw [this, Bool.or_false]
  · rename_i h
    have : (k == (j : Int)) = false := by
      cases hq : (k == (j : Int)) with
      | false => rfl
      | true =>
        have : k = (j : Int) := by simpa using hq
        omega
    rw [this, Bool.or_false, List.getElem?_eq_getElem hj]
theorem marks_fold (keep : List Int) : ∀ (m : List Bool) (j : Nat) (hj : j < m.length), (keep.foldl mark m)[j]? = some (m[j] || keep.contains (j : Int)) := by
  induction keep with
  | nil => intro m j hj; simp [hj]
  | cons k ks ih =>
    intro m j hj
    have h1 : j < (mark m k).length := by rw [mark_len]; exact hj
    rw [List.foldl_cons, ih _ j h1]
    have h2 := mark_get m k j hj
    rw [List.getElem?_eq_getElem h1] at h2
    simp only [Option.some.injEq] at h2
    rw [h2, List.contains_cons]
    have : (k == (j : Int)) = ((j : Int) == k) := by
      rw [Bool.eq_iff_iff, beq_iff_eq, beq_iff_eq]
      exact ⟨fun h => h.symm, fun h => h.symm⟩
    rw [this, Bool.or_assoc]
theorem marks_get (n : Nat) (keep : List Int) (j : Nat) (hj : j < n) (h2 : j < (marks n keep).length) : (marks n keep)[j] = keep.contains (j : Int) := by
  have := marks_fold keep (List.replicate n false) j (by simpa using hj)
  rw [show List.foldl mark (List.replicate n false) keep = marks n keep from rfl, List.getElem?_eq_getElem h2] at this
  simpa using this
def curS (d : Dk) (keep : List Int) (at_ j : Nat) (o : ByteArray) : ByteArray := match lookB (keptW (d.cache.take j) ((marks d.cache.length keep).take j)) at_ with
  | some w => w.data
  | none => o
theorem curS_succ {d : Dk} {keep : List Int} {at_ j : Nat} {o : ByteArray} (hj : j < d.cache.length) : curS d keep at_ (j + 1) o = if ((d.cache[j].at_ == (at_ : Int)) && keep.contains (j : Int)) = true then d.cache[j].data else curS d keep at_ j o := by
  have hj2 : j < (marks d.cache.length keep).length := by rw [marks_len]; exact hj
  unfold curS
  rw [take_snoc hj, take_snoc hj2, keptW_snoc (by simp [marks_len]), marks_get _ _ _ hj hj2]
  cases hc : keep.contains (j : Int)
  · simp
  · simp only [if_true, Bool.and_true]
    rw [lookB_snoc]
    by_cases e : d.cache[j].at_ = (at_ : Int)
    · simp [e]
    · simp [e]
theorem crash_at {d : Dk} {keep : List Int} (h : rightB d = true) {i : Nat} (hi : i < d.sectors.length) (hc : i < (crashD d keep).sectors.length) : curS d keep i d.cache.length d.sectors[i] = (crashD d keep).sectors[i] := by
  have e : crashD d keep = doneD d (keptW d.cache (marks d.cache.length keep)) := by simp [crashD, h]
  have key : (crashD d keep).sectors[i]? = match lookB (keptW d.cache (marks d.cache.length keep)) i with
    | some w => some w.data
    | none => d.sectors[i]? := by
    rw [e]
    exact doneS_at d.sectors i hi _ _ rfl (fun w hw => ((fits_has (right_fits h w (keptW_sub hw))).1).1)
  rw [List.getElem?_eq_getElem hc, List.getElem?_eq_getElem hi] at key
  unfold curS
  have e2 : (marks d.cache.length keep).take d.cache.length = marks d.cache.length keep := List.take_of_length_le (by rw [marks_len]; omega)
  rw [List.take_length, e2]
  cases hl : lookB (keptW d.cache (marks d.cache.length keep)) i with
  | none => rw [hl] at key; simpa using key.symm
  | some w => rw [hl] at key; simpa using key.symm
theorem crash_len2 {d : Dk} {keep : List Int} (h : rightB d = true) : (crashD d keep).sectors.length = d.sectors.length ∧ (crashD d keep).cache = [] := by
  have e : crashD d keep = doneD d (keptW d.cache (marks d.cache.length keep)) := by simp [crashD, h]
  rw [e]
  exact ⟨doneS_len _ _, rfl⟩

theorem refCrash_spec (d : Dk) (keep : List Int) (hr : rightB d = true) (hk : keep.length < 4611686018427387904) : Spec Try.prog 66 [.agg (encDk d), rL 1 (keep.map encI)] (.val (.agg (encDk (crashD d keep)))) := by
  refine spec_val mixed fn66 (by simp) ?_
  unfold ac66
  have hl := right_len hr
  obtain ⟨hsl, hsc⟩ := crash_len2 (keep := keep) hr
  have hat : ∀ i, (hi : i < d.sectors.length) → ∀ hi2 : i < (crashD d keep).sectors.length, curS d keep i d.cache.length d.sectors[i] = (crashD d keep).sectors[i] := fun i hi hi2 => crash_at hr hi hi2
  obtain ⟨z, hz⟩ : ∃ z, z = crashD d keep := ⟨_, rfl⟩
  rw [← hz] at hsl hsc hat ⊢
  simp -implicitDefEqProofs only [↓aP, aQ, ↓reduceIte, Nat.reduceEqDiff, Nat.reduceAdd, Nat.reduceSub, Nat.reduceMul, Nat.reduceLT, Nat.reduceLeDiff, reduceCtorEq, Nat.reduceBEq, forall_const, implies_true, exists_const, ne_eq, Int.reduceAdd, Int.reduceSub, Int.reduceMul, Int.reduceBEq, Int.reduceEq, Int.reduceLT, Int.reduceLE, Int.reduceToNat, Int.reduceNeg, Int.reduceBNe, encDk, hsc]
  refine loopA (fun m σ => ∃ i, i + m = d.sectors.length ∧ ∃ x, Grown σ x 51 9 1 ((z.sectors.take i).map encS) ∧ σ.slot 6 = vI i ∧ σ.slot 1 = vL 1 (keep.map encI) ∧ σ.slot 2 = .c (.ptr 2 1 0 0) ∧ σ.h.gen 2 = 1 ∧ σ.h.blk 2 = .box 62 2 [[.s (.sl 1 (d.sectors.map encS)), .s (.sl 2 (d.cache.map encWr))]] ∧ σ.slot 4 = .c (.ptr 4 1 0 0) ∧ σ.h.gen 4 = 1 ∧ σ.h.blk 4 = .box 62 2 [[.zc, .zc]] ∧ σ.slot 5 = .c (.ptr 5 1 0 0) ∧ σ.h.gen 5 = 1 ∧ σ.h.blk 5 = .box 62 2 [[x, .zc]]) d.sectors.length ?_ ?_
  · simp -implicitDefEqProofs only [↓aP, aQ, ↓reduceIte, Nat.reduceEqDiff, Nat.reduceAdd, Nat.reduceSub, Nat.reduceMul, Nat.reduceLT, Nat.reduceLeDiff, reduceCtorEq, Nat.reduceBEq, forall_const, implies_true, exists_const, ne_eq, Int.reduceAdd, Int.reduceSub, Int.reduceMul, Int.reduceBEq, Int.reduceEq, Int.reduceLT, Int.reduceLE, Int.reduceToNat, Int.reduceNeg, Int.reduceBNe]
    refine ⟨0, by omega, .zc, .inl ⟨rfl, rfl⟩, ?_⟩
    simp -implicitDefEqProofs only [↓aP, aQ, ↓reduceIte, Nat.reduceEqDiff, Nat.reduceAdd, Nat.reduceSub, Nat.reduceMul, Nat.reduceLT, Nat.reduceLeDiff, reduceCtorEq, Nat.reduceBEq, forall_const, implies_true, exists_const, ne_eq, Int.reduceAdd, Int.reduceSub, Int.reduceMul, Int.reduceBEq, Int.reduceEq, Int.reduceLT, Int.reduceLE, Int.reduceToNat, Int.reduceNeg, Int.reduceBNe]
  · rintro m σ ⟨i, him, x, hx, s6, s1, s2, g2, b2, s4, g4, b4, s5, g5, b5⟩
    simp -implicitDefEqProofs only [↓aP, aQ, ↓reduceIte, Nat.reduceEqDiff, Nat.reduceAdd, Nat.reduceSub, Nat.reduceMul, Nat.reduceLT, Nat.reduceLeDiff, reduceCtorEq, Nat.reduceBEq, forall_const, implies_true, exists_const, ne_eq, Int.reduceAdd, Int.reduceSub, Int.reduceMul, Int.reduceBEq, Int.reduceEq, Int.reduceLT, Int.reduceLE, Int.reduceToNat, Int.reduceNeg, Int.reduceBNe, s6, s1, s2, g2, b2, s4, g4, b4, s5, g5, b5]
    refine fork ?_ ?_ <;> intro hf
    · have hi : i < d.sectors.length := by simpa using hf
      have hi2 : i < z.sectors.length := by omega
      have htl : (z.sectors.take i).length = i := by rw [List.length_take]; omega
      simp -implicitDefEqProofs only [↓aP, aQ, ↓reduceIte, Nat.reduceEqDiff, Nat.reduceAdd, Nat.reduceSub, Nat.reduceMul, Nat.reduceLT, Nat.reduceLeDiff, reduceCtorEq, Nat.reduceBEq, forall_const, implies_true, exists_const, ne_eq, Int.reduceAdd, Int.reduceSub, Int.reduceMul, Int.reduceBEq, Int.reduceEq, Int.reduceLT, Int.reduceLE, Int.reduceToNat, Int.reduceNeg, Int.reduceBNe, s6, s1, s2, g2, b2, s4, g4, b4, s5, g5, b5, askIdx_map, hi, encS]
      refine loopA (fun m σ => ∃ j, j + m = d.cache.length ∧ σ.slot 8 = vI j ∧ σ.slot 7 = vS (curS d keep i j d.sectors[i]) ∧ Grown σ x 51 9 1 ((z.sectors.take i).map encS) ∧ σ.slot 6 = vI i ∧ σ.slot 1 = vL 1 (keep.map encI) ∧ σ.slot 2 = .c (.ptr 2 1 0 0) ∧ σ.h.gen 2 = 1 ∧ σ.h.blk 2 = .box 62 2 [[.s (.sl 1 (d.sectors.map encS)), .s (.sl 2 (d.cache.map encWr))]] ∧ σ.slot 4 = .c (.ptr 4 1 0 0) ∧ σ.h.gen 4 = 1 ∧ σ.h.blk 4 = .box 62 2 [[.zc, .zc]] ∧ σ.slot 5 = .c (.ptr 5 1 0 0) ∧ σ.h.gen 5 = 1 ∧ σ.h.blk 5 = .box 62 2 [[x, .zc]]) d.cache.length ?_ ?_
      · simp -implicitDefEqProofs only [↓aP, aQ, ↓reduceIte, Nat.reduceEqDiff, Nat.reduceAdd, Nat.reduceSub, Nat.reduceMul, Nat.reduceLT, Nat.reduceLeDiff, reduceCtorEq, Nat.reduceBEq, forall_const, implies_true, exists_const, ne_eq, Int.reduceAdd, Int.reduceSub, Int.reduceMul, Int.reduceBEq, Int.reduceEq, Int.reduceLT, Int.reduceLE, Int.reduceToNat, Int.reduceNeg, Int.reduceBNe, s6, s1, s2, g2, b2, s4, g4, b4, s5, g5, b5]
        refine ⟨0, by omega, rfl, ?_⟩
        refine ⟨by simp [curS, lookB, keptW], ?_⟩
        rcases hx with ⟨hx, he⟩ | ⟨g, hx, g51, b51⟩
        · exact .inl ⟨hx, he⟩
        · exact .inr ⟨g, hx, by simp -implicitDefEqProofs only [↓aP, aQ, ↓reduceIte, Nat.reduceEqDiff, Nat.reduceAdd, Nat.reduceSub, Nat.reduceMul, Nat.reduceLT, Nat.reduceLeDiff, reduceCtorEq, Nat.reduceBEq, forall_const, implies_true, exists_const, ne_eq, Int.reduceAdd, Int.reduceSub, Int.reduceMul, Int.reduceBEq, Int.reduceEq, Int.reduceLT, Int.reduceLE, Int.reduceToNat, Int.reduceNeg, Int.reduceBNe, g51], by simp -implicitDefEqProofs only [↓aP, aQ, ↓reduceIte, Nat.reduceEqDiff, Nat.reduceAdd, Nat.reduceSub, Nat.reduceMul, Nat.reduceLT, Nat.reduceLeDiff, reduceCtorEq, Nat.reduceBEq, forall_const, implies_true, exists_const, ne_eq, Int.reduceAdd, Int.reduceSub, Int.reduceMul, Int.reduceBEq, Int.reduceEq, Int.reduceLT, Int.reduceLE, Int.reduceToNat, Int.reduceNeg, Int.reduceBNe, b51]⟩
      · clear hx s6 s1 s2 g2 b2 s4 g4 b4 s5 g5 b5 hf
        rintro m2 σ ⟨j, hjm, s8, s7, hx, s6, s1, s2, g2, b2, s4, g4, b4, s5, g5, b5⟩
        simp -implicitDefEqProofs only [↓aP, aQ, ↓reduceIte, Nat.reduceEqDiff, Nat.reduceAdd, Nat.reduceSub, Nat.reduceMul, Nat.reduceLT, Nat.reduceLeDiff, reduceCtorEq, Nat.reduceBEq, forall_const, implies_true, exists_const, ne_eq, Int.reduceAdd, Int.reduceSub, Int.reduceMul, Int.reduceBEq, Int.reduceEq, Int.reduceLT, Int.reduceLE, Int.reduceToNat, Int.reduceNeg, Int.reduceBNe, s8, s7, s6, s1, s2, g2, b2, s4, g4, b4, s5, g5, b5]
        refine fork ?_ ?_ <;> intro hf
        · have hj : j < d.cache.length := by simpa using hf
          have ec := curS_succ (d := d) (keep := keep) (at_ := i) (o := d.sectors[i]) hj
          have keepG : ∀ σ' : St, σ'.h.gen 51 = σ.h.gen 51 → σ'.h.blk 51 = σ.h.blk 51 → Grown σ' x 51 9 1 ((z.sectors.take i).map encS) := by
            intro σ' e1 e2
            rcases hx with ⟨hx, he⟩ | ⟨g, hx, g51, b51⟩
            · exact .inl ⟨hx, he⟩
            · exact .inr ⟨g, hx, e1.trans g51, e2.trans b51⟩
          simp -implicitDefEqProofs only [↓aP, aQ, ↓reduceIte, Nat.reduceEqDiff, Nat.reduceAdd, Nat.reduceSub, Nat.reduceMul, Nat.reduceLT, Nat.reduceLeDiff, reduceCtorEq, Nat.reduceBEq, forall_const, implies_true, exists_const, ne_eq, Int.reduceAdd, Int.reduceSub, Int.reduceMul, Int.reduceBEq, Int.reduceEq, Int.reduceLT, Int.reduceLE, Int.reduceToNat, Int.reduceNeg, Int.reduceBNe, s8, s7, s6, s1, s2, g2, b2, s4, g4, b4, s5, g5, b5, askIdx_map, hj, encWr]
          cases q : (d.cache[j].at_ == (i : Int))
          · rw [q, Bool.false_and, if_neg (by simp)] at ec
            simp -implicitDefEqProofs only [↓aP, aQ, ↓reduceIte, Nat.reduceEqDiff, Nat.reduceAdd, Nat.reduceSub, Nat.reduceMul, Nat.reduceLT, Nat.reduceLeDiff, reduceCtorEq, Nat.reduceBEq, forall_const, implies_true, exists_const, ne_eq, Int.reduceAdd, Int.reduceSub, Int.reduceMul, Int.reduceBEq, Int.reduceEq, Int.reduceLT, Int.reduceLE, Int.reduceToNat, Int.reduceNeg, Int.reduceBNe, s8, s7, s6, s1, s2, g2, b2, s4, g4, b4, s5, g5, b5, wrapS (show j < 4611686018427387904 by omega)]
            refine ⟨m2 - 1, by omega, j + 1, by omega, rfl, ?_⟩
            simp -implicitDefEqProofs only [↓aP, aQ, ↓reduceIte, Nat.reduceEqDiff, Nat.reduceAdd, Nat.reduceSub, Nat.reduceMul, Nat.reduceLT, Nat.reduceLeDiff, reduceCtorEq, Nat.reduceBEq, forall_const, implies_true, exists_const, ne_eq, Int.reduceAdd, Int.reduceSub, Int.reduceMul, Int.reduceBEq, Int.reduceEq, Int.reduceLT, Int.reduceLE, Int.reduceToNat, Int.reduceNeg, Int.reduceBNe, ec]
            exact keepG _ rfl rfl
          · rw [q, Bool.true_and] at ec
            simp -implicitDefEqProofs only [↓aP, aQ, ↓reduceIte, Nat.reduceEqDiff, Nat.reduceAdd, Nat.reduceSub, Nat.reduceMul, Nat.reduceLT, Nat.reduceLeDiff, reduceCtorEq, Nat.reduceBEq, forall_const, implies_true, exists_const, ne_eq, Int.reduceAdd, Int.reduceSub, Int.reduceMul, Int.reduceBEq, Int.reduceEq, Int.reduceLT, Int.reduceLE, Int.reduceToNat, Int.reduceNeg, Int.reduceBNe, s8, s7, s6, s1, s2, g2, b2, s4, g4, b4, s5, g5, b5]
            refine ask (in_spec keep j hk) ?_
            cases q2 : keep.contains (j : Int)
            · rw [q2, if_neg (by simp)] at ec
              simp -implicitDefEqProofs only [↓aP, aQ, ↓reduceIte, Nat.reduceEqDiff, Nat.reduceAdd, Nat.reduceSub, Nat.reduceMul, Nat.reduceLT, Nat.reduceLeDiff, reduceCtorEq, Nat.reduceBEq, forall_const, implies_true, exists_const, ne_eq, Int.reduceAdd, Int.reduceSub, Int.reduceMul, Int.reduceBEq, Int.reduceEq, Int.reduceLT, Int.reduceLE, Int.reduceToNat, Int.reduceNeg, Int.reduceBNe, s8, s7, s6, s1, s2, g2, b2, s4, g4, b4, s5, g5, b5, wrapS (show j < 4611686018427387904 by omega)]
              refine ⟨m2 - 1, by omega, j + 1, by omega, rfl, ?_⟩
              simp -implicitDefEqProofs only [↓aP, aQ, ↓reduceIte, Nat.reduceEqDiff, Nat.reduceAdd, Nat.reduceSub, Nat.reduceMul, Nat.reduceLT, Nat.reduceLeDiff, reduceCtorEq, Nat.reduceBEq, forall_const, implies_true, exists_const, ne_eq, Int.reduceAdd, Int.reduceSub, Int.reduceMul, Int.reduceBEq, Int.reduceEq, Int.reduceLT, Int.reduceLE, Int.reduceToNat, Int.reduceNeg, Int.reduceBNe, ec]
              exact keepG _ rfl rfl
            · rw [q2, if_pos rfl] at ec
              simp -implicitDefEqProofs only [↓aP, aQ, ↓reduceIte, Nat.reduceEqDiff, Nat.reduceAdd, Nat.reduceSub, Nat.reduceMul, Nat.reduceLT, Nat.reduceLeDiff, reduceCtorEq, Nat.reduceBEq, forall_const, implies_true, exists_const, ne_eq, Int.reduceAdd, Int.reduceSub, Int.reduceMul, Int.reduceBEq, Int.reduceEq, Int.reduceLT, Int.reduceLE, Int.reduceToNat, Int.reduceNeg, Int.reduceBNe, s8, s7, s6, s1, s2, g2, b2, s4, g4, b4, s5, g5, b5, askIdx_map, hj, encWr, wrapS (show j < 4611686018427387904 by omega)]
              refine ⟨m2 - 1, by omega, j + 1, by omega, rfl, ?_⟩
              simp -implicitDefEqProofs only [↓aP, aQ, ↓reduceIte, Nat.reduceEqDiff, Nat.reduceAdd, Nat.reduceSub, Nat.reduceMul, Nat.reduceLT, Nat.reduceLeDiff, reduceCtorEq, Nat.reduceBEq, forall_const, implies_true, exists_const, ne_eq, Int.reduceAdd, Int.reduceSub, Int.reduceMul, Int.reduceBEq, Int.reduceEq, Int.reduceLT, Int.reduceLE, Int.reduceToNat, Int.reduceNeg, Int.reduceBNe, ec]
              exact keepG _ rfl rfl
        · have hj : j = d.cache.length := by simp at hf; omega
          rw [hj, hat i hi hi2] at s7
          rcases hx with ⟨rfl, he⟩ | ⟨g, rfl, g51, b51⟩
          · simp -implicitDefEqProofs only [↓aP, aQ, ↓reduceIte, Nat.reduceEqDiff, Nat.reduceAdd, Nat.reduceSub, Nat.reduceMul, Nat.reduceLT, Nat.reduceLeDiff, reduceCtorEq, Nat.reduceBEq, forall_const, implies_true, exists_const, ne_eq, Int.reduceAdd, Int.reduceSub, Int.reduceMul, Int.reduceBEq, Int.reduceEq, Int.reduceLT, Int.reduceLE, Int.reduceToNat, Int.reduceNeg, Int.reduceBNe, s8, s7, s6, s1, s2, g2, b2, s4, g4, b4, s5, g5, b5, wrapS (show i < 4611686018427387904 by omega)]
            refine ⟨m - 1, by omega, i + 1, by omega, .own 51 (σ.h.gen 51 + 1), .inr ⟨_, rfl, ?_, ?_⟩, ?_⟩
            · simp -implicitDefEqProofs only [↓aP, aQ, ↓reduceIte, Nat.reduceEqDiff, Nat.reduceAdd, Nat.reduceSub, Nat.reduceMul, Nat.reduceLT, Nat.reduceLeDiff, reduceCtorEq, Nat.reduceBEq, forall_const, implies_true, exists_const, ne_eq, Int.reduceAdd, Int.reduceSub, Int.reduceMul, Int.reduceBEq, Int.reduceEq, Int.reduceLT, Int.reduceLE, Int.reduceToNat, Int.reduceNeg, Int.reduceBNe]
            · simp -implicitDefEqProofs only [↓aP, aQ, ↓reduceIte, Nat.reduceEqDiff, Nat.reduceAdd, Nat.reduceSub, Nat.reduceMul, Nat.reduceLT, Nat.reduceLeDiff, reduceCtorEq, Nat.reduceBEq, forall_const, implies_true, exists_const, ne_eq, Int.reduceAdd, Int.reduceSub, Int.reduceMul, Int.reduceBEq, Int.reduceEq, Int.reduceLT, Int.reduceLE, Int.reduceToNat, Int.reduceNeg, Int.reduceBNe]
              rw [take_snoc hi2, List.map_append, he]
              rfl
            · simp -implicitDefEqProofs only [↓aP, aQ, ↓reduceIte, Nat.reduceEqDiff, Nat.reduceAdd, Nat.reduceSub, Nat.reduceMul, Nat.reduceLT, Nat.reduceLeDiff, reduceCtorEq, Nat.reduceBEq, forall_const, implies_true, exists_const, ne_eq, Int.reduceAdd, Int.reduceSub, Int.reduceMul, Int.reduceBEq, Int.reduceEq, Int.reduceLT, Int.reduceLE, Int.reduceToNat, Int.reduceNeg, Int.reduceBNe, s6, s1, s2, g2, b2, s4, g4, b4, s5, g5, b5]
          · simp -implicitDefEqProofs only [↓aP, aQ, ↓reduceIte, Nat.reduceEqDiff, Nat.reduceAdd, Nat.reduceSub, Nat.reduceMul, Nat.reduceLT, Nat.reduceLeDiff, reduceCtorEq, Nat.reduceBEq, forall_const, implies_true, exists_const, ne_eq, Int.reduceAdd, Int.reduceSub, Int.reduceMul, Int.reduceBEq, Int.reduceEq, Int.reduceLT, Int.reduceLE, Int.reduceToNat, Int.reduceNeg, Int.reduceBNe, s8, s7, s6, s1, s2, g2, b2, s4, g4, b4, s5, g5, b5, g51, b51, htl, wrapS (show i < 4611686018427387904 by omega)]
            refine ⟨by omega, by omega, m - 1, by omega, i + 1, by omega, .own 51 (g + 1), .inr ⟨_, rfl, ?_, ?_⟩, ?_⟩
            · simp -implicitDefEqProofs only [↓aP, aQ, ↓reduceIte, Nat.reduceEqDiff, Nat.reduceAdd, Nat.reduceSub, Nat.reduceMul, Nat.reduceLT, Nat.reduceLeDiff, reduceCtorEq, Nat.reduceBEq, forall_const, implies_true, exists_const, ne_eq, Int.reduceAdd, Int.reduceSub, Int.reduceMul, Int.reduceBEq, Int.reduceEq, Int.reduceLT, Int.reduceLE, Int.reduceToNat, Int.reduceNeg, Int.reduceBNe]
            · simp -implicitDefEqProofs only [↓aP, aQ, ↓reduceIte, Nat.reduceEqDiff, Nat.reduceAdd, Nat.reduceSub, Nat.reduceMul, Nat.reduceLT, Nat.reduceLeDiff, reduceCtorEq, Nat.reduceBEq, forall_const, implies_true, exists_const, ne_eq, Int.reduceAdd, Int.reduceSub, Int.reduceMul, Int.reduceBEq, Int.reduceEq, Int.reduceLT, Int.reduceLE, Int.reduceToNat, Int.reduceNeg, Int.reduceBNe]
              rw [take_snoc hi2, List.map_append]
              rfl
            · simp -implicitDefEqProofs only [↓aP, aQ, ↓reduceIte, Nat.reduceEqDiff, Nat.reduceAdd, Nat.reduceSub, Nat.reduceMul, Nat.reduceLT, Nat.reduceLeDiff, reduceCtorEq, Nat.reduceBEq, forall_const, implies_true, exists_const, ne_eq, Int.reduceAdd, Int.reduceSub, Int.reduceMul, Int.reduceBEq, Int.reduceEq, Int.reduceLT, Int.reduceLE, Int.reduceToNat, Int.reduceNeg, Int.reduceBNe, s6, s1, s2, g2, b2, s4, g4, b4, s5, g5, b5]
    · have hi : i = z.sectors.length := by simp at hf; omega
      rw [hi, List.take_length] at hx
      rcases hx with ⟨rfl, he⟩ | ⟨g, rfl, g51, b51⟩
      · simp -implicitDefEqProofs only [↓aP, aQ, ↓reduceIte, Nat.reduceEqDiff, Nat.reduceAdd, Nat.reduceSub, Nat.reduceMul, Nat.reduceLT, Nat.reduceLeDiff, reduceCtorEq, Nat.reduceBEq, forall_const, implies_true, exists_const, ne_eq, Int.reduceAdd, Int.reduceSub, Int.reduceMul, Int.reduceBEq, Int.reduceEq, Int.reduceLT, Int.reduceLE, Int.reduceToNat, Int.reduceNeg, Int.reduceBNe, s6, s1, s2, g2, b2, s4, g4, b4, s5, g5, b5]
        rw [he]
        exact .refl _
      · simp -implicitDefEqProofs only [↓aP, aQ, ↓reduceIte, Nat.reduceEqDiff, Nat.reduceAdd, Nat.reduceSub, Nat.reduceMul, Nat.reduceLT, Nat.reduceLeDiff, reduceCtorEq, Nat.reduceBEq, forall_const, implies_true, exists_const, ne_eq, Int.reduceAdd, Int.reduceSub, Int.reduceMul, Int.reduceBEq, Int.reduceEq, Int.reduceLT, Int.reduceLE, Int.reduceToNat, Int.reduceNeg, Int.reduceBNe, s6, s1, s2, g2, b2, s4, g4, b4, s5, g5, b5, g51, b51]
end Go.Proofs.Ytfmbfgoofiojcaa
