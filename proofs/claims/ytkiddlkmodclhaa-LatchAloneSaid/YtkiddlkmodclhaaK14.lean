/- layer 8: the law LatchReaders: its walk. -/
import Derived.Test.YtkiddlkmodclhaaK13
namespace Go.Proofs.Ytkiddlkmodclhaa
open Go.RowKit La
set_option linter.unusedVariables false
set_option linter.unusedSimpArgs false



theorem law_readers (a b : Int) (ha : 0 ≤ a ∧ a ≤ 255) (hb : 0 ≤ b ∧ b ≤ 255) : Spec Try.prog 10 [.c (.pv (.int .u8 a)), .c (.pv (.int .u8 b))] (.val (rB true)) := by
  refine spec_val mixed fn10 (by simp) ?_
  unfold ac10
  obtain ⟨n, hn, hn0, hn20⟩ : ∃ n : Nat, IntKind.i64.wrap (1 + IntKind.i64.wrap (a.tmod 20)) = (n : Int) ∧ 0 < n ∧ n ≤ 20 := by
    rw [Int.tmod_eq_emod_of_nonneg ha.1, wrapI (x := a % 20) (by omega), wrapI (by omega)]
    exact ⟨(1 + a % 20).toNat, by omega, by omega, by omega⟩
  obtain ⟨k, hk, hk20⟩ : ∃ k : Nat, IntKind.i64.wrap (b.tmod 20) = (k : Int) ∧ k < 20 := by
    rw [Int.tmod_eq_emod_of_nonneg hb.1, wrapI (x := b % 20) (by omega)]
    exact ⟨(b % 20).toNat, by omega, by omega⟩
  simp -implicitDefEqProofs only [↓aP, aQ, ↓reduceIte, Nat.reduceEqDiff, Nat.reduceAdd, Nat.reduceSub, Nat.reduceMul, Nat.reduceLT, Nat.reduceLeDiff, reduceCtorEq, Nat.reduceBEq, forall_const, implies_true, exists_const, ne_eq, Int.reduceAdd, Int.reduceSub, Int.reduceMul, Int.reduceBEq, Int.reduceEq, Int.reduceLT, Int.reduceLE, Int.reduceToNat, Int.reduceNeg, Int.reduceBNe, hn, hk]
  refine rangeB n (fun i σ => right ⟨rg i, false, []⟩ = true ∧ ((i = 0 ∧ σ.h.blk 7 = .box 54 3 [[.zc, .s (.pv (.bool false)), .zc]]) ∨ (0 < i ∧ σ.h.blk 7 = .box 54 3 [(encLt ⟨rg i, false, []⟩).map AC.s])) ∧ σ.slot 5 = vI n ∧ σ.slot 6 = vI k ∧ σ.slot 7 = .c (.ptr 7 1 0 0) ∧ σ.h.gen 7 = 1 ∧ σ.slot 32 = vI n ∧ σ.slot 33 = vI i) ?_ ?_ ?_
  · refine ⟨right_empty, ?_⟩
    simp -implicitDefEqProofs only [↓aP, aQ, ↓reduceIte, Nat.reduceEqDiff, Nat.reduceAdd, Nat.reduceSub, Nat.reduceMul, Nat.reduceLT, Nat.reduceLeDiff, reduceCtorEq, Nat.reduceBEq, forall_const, implies_true, exists_const, ne_eq, Int.reduceAdd, Int.reduceSub, Int.reduceMul, Int.reduceBEq, Int.reduceEq, Int.reduceLT, Int.reduceLE, Int.reduceToNat, Int.reduceNeg, Int.reduceBNe]
  · rintro i m σ him hi hlt ⟨hr, hb7, s5, s6, s7, g7, s32, s33⟩
    obtain ⟨q1, q2⟩ := ask1 (by omega) hr
    have hsp := lAsk_spec ⟨rg i, false, []⟩ i false (by simp [rg_len]; omega)
    rw [q1] at hsp
    rcases hb7 with ⟨hi0, b7⟩ | ⟨hi0, b7⟩
    · simp -implicitDefEqProofs only [↓aP, aQ, ↓reduceIte, Nat.reduceEqDiff, Nat.reduceAdd, Nat.reduceSub, Nat.reduceMul, Nat.reduceLT, Nat.reduceLeDiff, reduceCtorEq, Nat.reduceBEq, forall_const, implies_true, exists_const, ne_eq, Int.reduceAdd, Int.reduceSub, Int.reduceMul, Int.reduceBEq, Int.reduceEq, Int.reduceLT, Int.reduceLE, Int.reduceToNat, Int.reduceNeg, Int.reduceBNe, hlt, s5, s6, s7, g7, s32, s33, b7]
      refine askS hsp (by subst hi0; simp -implicitDefEqProofs only [↓aP, aQ, ↓reduceIte, Nat.reduceEqDiff, Nat.reduceAdd, Nat.reduceSub, Nat.reduceMul, Nat.reduceLT, Nat.reduceLeDiff, reduceCtorEq, Nat.reduceBEq, forall_const, implies_true, exists_const, ne_eq, Int.reduceAdd, Int.reduceSub, Int.reduceMul, Int.reduceBEq, Int.reduceEq, Int.reduceLT, Int.reduceLE, Int.reduceToNat, Int.reduceNeg, Int.reduceBNe, encLt, rg, List.range_zero, List.map_nil]) ?_
      simp -implicitDefEqProofs only [↓aP, aQ, ↓reduceIte, Nat.reduceEqDiff, Nat.reduceAdd, Nat.reduceSub, Nat.reduceMul, Nat.reduceLT, Nat.reduceLeDiff, reduceCtorEq, Nat.reduceBEq, forall_const, implies_true, exists_const, ne_eq, Int.reduceAdd, Int.reduceSub, Int.reduceMul, Int.reduceBEq, Int.reduceEq, Int.reduceLT, Int.reduceLE, Int.reduceToNat, Int.reduceNeg, Int.reduceBNe, encAsk, encLt, bne_self_eq_false, s5, s6, s7, g7, s32, s33, b7, wrapS (show i < 4611686018427387904 by omega)]
      refine nextR hi him ⟨q2, .inr ⟨by omega, ?_⟩, ?_⟩ <;> simp -implicitDefEqProofs only [↓aP, aQ, ↓reduceIte, Nat.reduceEqDiff, Nat.reduceAdd, Nat.reduceSub, Nat.reduceMul, Nat.reduceLT, Nat.reduceLeDiff, reduceCtorEq, Nat.reduceBEq, forall_const, implies_true, exists_const, ne_eq, Int.reduceAdd, Int.reduceSub, Int.reduceMul, Int.reduceBEq, Int.reduceEq, Int.reduceLT, Int.reduceLE, Int.reduceToNat, Int.reduceNeg, Int.reduceBNe, s5, s6, s7, g7, s32, s33, encLt]
    · simp -implicitDefEqProofs only [↓aP, aQ, ↓reduceIte, Nat.reduceEqDiff, Nat.reduceAdd, Nat.reduceSub, Nat.reduceMul, Nat.reduceLT, Nat.reduceLeDiff, reduceCtorEq, Nat.reduceBEq, forall_const, implies_true, exists_const, ne_eq, Int.reduceAdd, Int.reduceSub, Int.reduceMul, Int.reduceBEq, Int.reduceEq, Int.reduceLT, Int.reduceLE, Int.reduceToNat, Int.reduceNeg, Int.reduceBNe, hlt, s5, s6, s7, g7, s32, s33, b7, encLt]
      refine ask hsp ?_
      simp -implicitDefEqProofs only [↓aP, aQ, ↓reduceIte, Nat.reduceEqDiff, Nat.reduceAdd, Nat.reduceSub, Nat.reduceMul, Nat.reduceLT, Nat.reduceLeDiff, reduceCtorEq, Nat.reduceBEq, forall_const, implies_true, exists_const, ne_eq, Int.reduceAdd, Int.reduceSub, Int.reduceMul, Int.reduceBEq, Int.reduceEq, Int.reduceLT, Int.reduceLE, Int.reduceToNat, Int.reduceNeg, Int.reduceBNe, encAsk, encLt, bne_self_eq_false, s5, s6, s7, g7, s32, s33, b7, wrapS (show i < 4611686018427387904 by omega)]
      refine nextR hi him ⟨q2, .inr ⟨by omega, ?_⟩, ?_⟩ <;> simp -implicitDefEqProofs only [↓aP, aQ, ↓reduceIte, Nat.reduceEqDiff, Nat.reduceAdd, Nat.reduceSub, Nat.reduceMul, Nat.reduceLT, Nat.reduceLeDiff, reduceCtorEq, Nat.reduceBEq, forall_const, implies_true, exists_const, ne_eq, Int.reduceAdd, Int.reduceSub, Int.reduceMul, Int.reduceBEq, Int.reduceEq, Int.reduceLT, Int.reduceLE, Int.reduceToNat, Int.reduceNeg, Int.reduceBNe, s5, s6, s7, g7, s32, s33, encLt]
  · rintro m σ hlt ⟨hr, hb7, s5, s6, s7, g7, s32, s33⟩
    rcases hb7 with ⟨hi0, b7⟩ | ⟨hi0, b7⟩
    · omega
    obtain ⟨q1, q2⟩ := ask2 hn0 hn20 hr
    have hsp := lAsk_spec ⟨rg n, false, []⟩ 100 true (by simp [rg_len]; omega)
    rw [q1] at hsp
    simp -implicitDefEqProofs only [↓aP, aQ, ↓reduceIte, Nat.reduceEqDiff, Nat.reduceAdd, Nat.reduceSub, Nat.reduceMul, Nat.reduceLT, Nat.reduceLeDiff, reduceCtorEq, Nat.reduceBEq, forall_const, implies_true, exists_const, ne_eq, Int.reduceAdd, Int.reduceSub, Int.reduceMul, Int.reduceBEq, Int.reduceEq, Int.reduceLT, Int.reduceLE, Int.reduceToNat, Int.reduceNeg, Int.reduceBNe, hlt, s5, s6, s7, g7, s32, s33, b7, encLt]
    refine ask hsp ?_
    simp -implicitDefEqProofs only [↓aP, aQ, ↓reduceIte, Nat.reduceEqDiff, Nat.reduceAdd, Nat.reduceSub, Nat.reduceMul, Nat.reduceLT, Nat.reduceLeDiff, reduceCtorEq, Nat.reduceBEq, forall_const, implies_true, exists_const, ne_eq, Int.reduceAdd, Int.reduceSub, Int.reduceMul, Int.reduceBEq, Int.reduceEq, Int.reduceLT, Int.reduceLE, Int.reduceToNat, Int.reduceNeg, Int.reduceBNe, encAsk, encLt, s5, s6, s7, g7, s32, s33, b7]
    refine rangeB k (fun i σ => right ⟨rg n, false, Qw i⟩ = true ∧ σ.slot 5 = vI n ∧ σ.slot 6 = vI k ∧ σ.slot 7 = .c (.ptr 7 1 0 0) ∧ σ.h.gen 7 = 1 ∧ σ.h.blk 7 = .box 54 3 [(encLt ⟨rg n, false, Qw i⟩).map AC.s] ∧ σ.slot 12 = vB false ∧ σ.slot 13 = vI 0 ∧ σ.slot 57 = vI k ∧ σ.slot 58 = vI i) ?_ ?_ ?_
    · refine ⟨q2, ?_⟩
      simp -implicitDefEqProofs only [↓aP, aQ, ↓reduceIte, Nat.reduceEqDiff, Nat.reduceAdd, Nat.reduceSub, Nat.reduceMul, Nat.reduceLT, Nat.reduceLeDiff, reduceCtorEq, Nat.reduceBEq, forall_const, implies_true, exists_const, ne_eq, Int.reduceAdd, Int.reduceSub, Int.reduceMul, Int.reduceBEq, Int.reduceEq, Int.reduceLT, Int.reduceLE, Int.reduceToNat, Int.reduceNeg, Int.reduceBNe, encLt, s5, s6, s7, g7, s32, s33]
    · clear hlt s5 s6 s7 g7 s32 s33 b7 hr q1 q2 hsp
      rintro i m σ him hi hlt ⟨hr, s5, s6, s7, g7, b7, s12, s13, s57, s58⟩
      obtain ⟨q1, q2⟩ := ask3 hn20 (by omega) hr
      have hsp := lAsk_spec ⟨rg n, false, Qw i⟩ (200 + (i : Int)) false (by simp [rg_len, Qw, rq_len]; omega)
      rw [q1] at hsp
      have w2 : IntKind.i64.wrap (200 + (i : Int)) = 200 + (i : Int) := wrapI (by omega)
      simp -implicitDefEqProofs only [↓aP, aQ, ↓reduceIte, Nat.reduceEqDiff, Nat.reduceAdd, Nat.reduceSub, Nat.reduceMul, Nat.reduceLT, Nat.reduceLeDiff, reduceCtorEq, Nat.reduceBEq, forall_const, implies_true, exists_const, ne_eq, Int.reduceAdd, Int.reduceSub, Int.reduceMul, Int.reduceBEq, Int.reduceEq, Int.reduceLT, Int.reduceLE, Int.reduceToNat, Int.reduceNeg, Int.reduceBNe, hlt, s5, s6, s7, g7, b7, s12, s13, s57, s58, encLt, w2]
      refine ask hsp ?_
      simp -implicitDefEqProofs only [↓aP, aQ, ↓reduceIte, Nat.reduceEqDiff, Nat.reduceAdd, Nat.reduceSub, Nat.reduceMul, Nat.reduceLT, Nat.reduceLeDiff, reduceCtorEq, Nat.reduceBEq, forall_const, implies_true, exists_const, ne_eq, Int.reduceAdd, Int.reduceSub, Int.reduceMul, Int.reduceBEq, Int.reduceEq, Int.reduceLT, Int.reduceLE, Int.reduceToNat, Int.reduceNeg, Int.reduceBNe, encAsk, encLt, bne_self_eq_false, s5, s6, s7, g7, b7, s12, s13, s57, s58, wrapS (show i < 4611686018427387904 by omega)]
      refine nextR hi him ⟨q2, ?_⟩
      simp -implicitDefEqProofs only [↓aP, aQ, ↓reduceIte, Nat.reduceEqDiff, Nat.reduceAdd, Nat.reduceSub, Nat.reduceMul, Nat.reduceLT, Nat.reduceLeDiff, reduceCtorEq, Nat.reduceBEq, forall_const, implies_true, exists_const, ne_eq, Int.reduceAdd, Int.reduceSub, Int.reduceMul, Int.reduceBEq, Int.reduceEq, Int.reduceLT, Int.reduceLE, Int.reduceToNat, Int.reduceNeg, Int.reduceBNe, s5, s6, s7, g7, b7, s12, s13, s57, s58, encLt]
    · clear hlt s5 s6 s7 g7 s32 s33 b7 hr q1 q2 hsp
      rintro m σ hlt ⟨hr, s5, s6, s7, g7, b7, s12, s13, s57, s58⟩
      simp -implicitDefEqProofs only [↓aP, aQ, ↓reduceIte, Nat.reduceEqDiff, Nat.reduceAdd, Nat.reduceSub, Nat.reduceMul, Nat.reduceLT, Nat.reduceLeDiff, reduceCtorEq, Nat.reduceBEq, forall_const, implies_true, exists_const, ne_eq, Int.reduceAdd, Int.reduceSub, Int.reduceMul, Int.reduceBEq, Int.reduceEq, Int.reduceLT, Int.reduceLE, Int.reduceToNat, Int.reduceNeg, Int.reduceBNe, hlt, s5, s6, s7, g7, b7, s12, s13, s57, s58, encLt]
      have hS0 : Sd n k 0 = ⟨rg n, false, Qw k⟩ := by unfold Sd; rw [if_pos hn0]; rfl
      refine rangeB n (fun i σ => right (Sd n k i) = true ∧ σ.slot 5 = vI n ∧ σ.slot 6 = vI k ∧ σ.slot 7 = .c (.ptr 7 1 0 0) ∧ σ.h.gen 7 = 1 ∧ σ.h.blk 7 = .box 54 3 [(encLt (Sd n k i)).map AC.s] ∧ σ.slot 12 = vB false ∧ σ.slot 13 = vI 0 ∧ σ.slot 76 = vI n ∧ σ.slot 77 = vI i) ?_ ?_ ?_
      · rw [hS0]
        refine ⟨hr, ?_⟩
        simp -implicitDefEqProofs only [↓aP, aQ, ↓reduceIte, Nat.reduceEqDiff, Nat.reduceAdd, Nat.reduceSub, Nat.reduceMul, Nat.reduceLT, Nat.reduceLeDiff, reduceCtorEq, Nat.reduceBEq, forall_const, implies_true, exists_const, ne_eq, Int.reduceAdd, Int.reduceSub, Int.reduceMul, Int.reduceBEq, Int.reduceEq, Int.reduceLT, Int.reduceLE, Int.reduceToNat, Int.reduceNeg, Int.reduceBNe, hS0, encLt, s5, s6, s7, g7, b7, s12, s13, s57, s58]
      · clear hlt s5 s6 s7 g7 b7 s12 s13 s57 s58 hr
        rintro i m σ him hi hlt ⟨hr, s5, s6, s7, g7, b7, s12, s13, s76, s77⟩
        obtain ⟨q1, q2⟩ := drop1 (k := k) hn20 hi hr
        have hSl : (Sd n k i).h.length + (Sd n k i).q.length ≤ 64 := right_le hr
        have hsp := lDrop_spec (Sd n k i) i (by omega)
        rw [q1, encLt_eq] at hsp
        have w3 : IntKind.i64.wrap ((n : Int) - 1) = ((n - 1 : Nat) : Int) := by rw [wrapI (by omega)]; omega
        by_cases hn1 : i + 1 < n
        · rw [if_pos hn1] at hsp
          simp -implicitDefEqProofs only [↓aP, aQ, ↓reduceIte, Nat.reduceEqDiff, Nat.reduceAdd, Nat.reduceSub, Nat.reduceMul, Nat.reduceLT, Nat.reduceLeDiff, reduceCtorEq, Nat.reduceBEq, forall_const, implies_true, exists_const, ne_eq, Int.reduceAdd, Int.reduceSub, Int.reduceMul, Int.reduceBEq, Int.reduceEq, Int.reduceLT, Int.reduceLE, Int.reduceToNat, Int.reduceNeg, Int.reduceBNe, hlt, s5, s6, s7, g7, b7, s12, s13, s76, s77, encLt]
          refine ask hsp ?_
          simp -implicitDefEqProofs only [↓aP, aQ, ↓reduceIte, Nat.reduceEqDiff, Nat.reduceAdd, Nat.reduceSub, Nat.reduceMul, Nat.reduceLT, Nat.reduceLeDiff, reduceCtorEq, Nat.reduceBEq, forall_const, implies_true, exists_const, ne_eq, Int.reduceAdd, Int.reduceSub, Int.reduceMul, Int.reduceBEq, Int.reduceEq, Int.reduceLT, Int.reduceLE, Int.reduceToNat, Int.reduceNeg, Int.reduceBNe, encDrop, encLt, bne_self_eq_false, List.map_nil, List.length_nil, w3, s5, s6, s7, g7, b7, s12, s13, s76, s77, wrapS (show i < 4611686018427387904 by omega), show ((i : Int) == ((n - 1 : Nat) : Int)) = false by rw [beq_eq_false_iff_ne]; omega]
          refine nextR hi him ⟨q2, ?_⟩
          simp -implicitDefEqProofs only [↓aP, aQ, ↓reduceIte, Nat.reduceEqDiff, Nat.reduceAdd, Nat.reduceSub, Nat.reduceMul, Nat.reduceLT, Nat.reduceLeDiff, reduceCtorEq, Nat.reduceBEq, forall_const, implies_true, exists_const, ne_eq, Int.reduceAdd, Int.reduceSub, Int.reduceMul, Int.reduceBEq, Int.reduceEq, Int.reduceLT, Int.reduceLE, Int.reduceToNat, Int.reduceNeg, Int.reduceBNe, s5, s6, s7, g7, b7, s12, s13, s76, s77, encLt]
        · rw [if_neg hn1] at hsp
          simp -implicitDefEqProofs only [↓aP, aQ, ↓reduceIte, Nat.reduceEqDiff, Nat.reduceAdd, Nat.reduceSub, Nat.reduceMul, Nat.reduceLT, Nat.reduceLeDiff, reduceCtorEq, Nat.reduceBEq, forall_const, implies_true, exists_const, ne_eq, Int.reduceAdd, Int.reduceSub, Int.reduceMul, Int.reduceBEq, Int.reduceEq, Int.reduceLT, Int.reduceLE, Int.reduceToNat, Int.reduceNeg, Int.reduceBNe, hlt, s5, s6, s7, g7, b7, s12, s13, s76, s77, encLt]
          refine ask hsp ?_
          simp -implicitDefEqProofs only [↓aP, aQ, ↓reduceIte, Nat.reduceEqDiff, Nat.reduceAdd, Nat.reduceSub, Nat.reduceMul, Nat.reduceLT, Nat.reduceLeDiff, reduceCtorEq, Nat.reduceBEq, forall_const, implies_true, exists_const, ne_eq, Int.reduceAdd, Int.reduceSub, Int.reduceMul, Int.reduceBEq, Int.reduceEq, Int.reduceLT, Int.reduceLE, Int.reduceToNat, Int.reduceNeg, Int.reduceBNe, encDrop, encLt, bne_self_eq_false, List.map_cons, List.map_nil, List.length_cons, List.length_nil, w3, encI, s5, s6, s7, g7, b7, s12, s13, s76, s77, wrapS (show i < 4611686018427387904 by omega), show ((i : Int) == ((n - 1 : Nat) : Int)) = true by simp; omega]
          refine nextR hi him ⟨q2, ?_⟩
          simp -implicitDefEqProofs only [↓aP, aQ, ↓reduceIte, Nat.reduceEqDiff, Nat.reduceAdd, Nat.reduceSub, Nat.reduceMul, Nat.reduceLT, Nat.reduceLeDiff, reduceCtorEq, Nat.reduceBEq, forall_const, implies_true, exists_const, ne_eq, Int.reduceAdd, Int.reduceSub, Int.reduceMul, Int.reduceBEq, Int.reduceEq, Int.reduceLT, Int.reduceLE, Int.reduceToNat, Int.reduceNeg, Int.reduceBNe, s5, s6, s7, g7, b7, s12, s13, s76, s77, encLt]
      · clear hlt s5 s6 s7 g7 b7 s12 s13 s57 s58 hr
        rintro m σ hlt ⟨hr, s5, s6, s7, g7, b7, s12, s13, s76, s77⟩
        have hSn : Sd n k n = ⟨[100], true, rq k⟩ := by unfold Sd; rw [if_neg (by omega)]
        rw [hSn] at hr b7
        obtain ⟨q1, q2, q3, q4⟩ := drop2 (by omega) hr
        have hsp := lDrop_spec ⟨[100], true, rq k⟩ 100 (by simp [rq_len]; omega)
        simp -implicitDefEqProofs only [↓aP, aQ, ↓reduceIte, Nat.reduceEqDiff, Nat.reduceAdd, Nat.reduceSub, Nat.reduceMul, Nat.reduceLT, Nat.reduceLeDiff, reduceCtorEq, Nat.reduceBEq, forall_const, implies_true, exists_const, ne_eq, Int.reduceAdd, Int.reduceSub, Int.reduceMul, Int.reduceBEq, Int.reduceEq, Int.reduceLT, Int.reduceLE, Int.reduceToNat, Int.reduceNeg, Int.reduceBNe, hlt, s5, s6, s7, g7, b7, s12, s13, s76, s77, encLt]
        refine ask hsp ?_
        simp -implicitDefEqProofs only [↓aP, aQ, ↓reduceIte, Nat.reduceEqDiff, Nat.reduceAdd, Nat.reduceSub, Nat.reduceMul, Nat.reduceLT, Nat.reduceLeDiff, reduceCtorEq, Nat.reduceBEq, forall_const, implies_true, exists_const, ne_eq, Int.reduceAdd, Int.reduceSub, Int.reduceMul, Int.reduceBEq, Int.reduceEq, Int.reduceLT, Int.reduceLE, Int.reduceToNat, Int.reduceNeg, Int.reduceBNe, encDrop, encLt, List.length_map, q1, q2, q3, q4, s5, s6, s7, g7, b7, s12, s13, s76, s77, beq_self_eq_true]
        refine ask awake_spec ?_
        simp -implicitDefEqProofs only [↓aP, aQ, ↓reduceIte, Nat.reduceEqDiff, Nat.reduceAdd, Nat.reduceSub, Nat.reduceMul, Nat.reduceLT, Nat.reduceLeDiff, reduceCtorEq, Nat.reduceBEq, forall_const, implies_true, exists_const, ne_eq, Int.reduceAdd, Int.reduceSub, Int.reduceMul, Int.reduceBEq, Int.reduceEq, Int.reduceLT, Int.reduceLE, Int.reduceToNat, Int.reduceNeg, Int.reduceBNe]
theorem u8_of {k : Int} (h : (Lit.int .u8 k).wf = true) : 0 ≤ k ∧ k ≤ 255 := by
  simpa [Lit.wf, IntKind.min, IntKind.max, IntKind.signed, IntKind.bits] using h
theorem latchReaders_walk {w : World} (a : Int) (ha : (Lit.int .u8 a).wf = true) (b : Int) (hb : (Lit.int .u8 b).wf = true) :
    Calls Try.prog 10 #[.int .u8 a, .int .u8 b] w fun e w' => e = .returned (.bool true) ∧ Below w.heap.size w w' := by
  exact (law_readers a b (u8_of ha) (u8_of hb)).plain (us := [.int .u8 a, .int .u8 b]) (.cons (.pv rfl) (.cons (.pv rfl) .nil))
end Go.Proofs.Ytkiddlkmodclhaa
