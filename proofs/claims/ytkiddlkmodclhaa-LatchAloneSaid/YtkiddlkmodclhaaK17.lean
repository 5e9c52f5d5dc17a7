/- layer 8: the law LatchWriters: its walk. -/
import Derived.Test.YtkiddlkmodclhaaK16
namespace Go.Proofs.Ytkiddlkmodclhaa
open Go.RowKit La
set_option linter.unusedVariables false
set_option linter.unusedSimpArgs false
def cB (b : Bool) : List AC := [.s (.pv (.bool b))]
theorem ftF : (false == true) = false := rfl
theorem tfF : (true == false) = false := rfl
theorem tb_nil : Tb [] = List.replicate 256 false := by decide +kernel


set_option maxRecDepth 100000 in
theorem law_writers (U : List Int) (hU : U8 U) (hl : U.length ≤ 9223372036854775807) : Spec Try.prog 12 [rL 1 (U.map encU)] (.val (rB true)) := by
  refine spec_val mixed fn12 (by simp) ?_
  unfold ac12
  simp -implicitDefEqProofs only [↓aP, aQ, ↓reduceIte, Nat.reduceEqDiff, Nat.reduceAdd, Nat.reduceSub, Nat.reduceMul, Nat.reduceLT, Nat.reduceLeDiff, reduceCtorEq, Nat.reduceBEq, forall_const, implies_true, exists_const, ne_eq, Int.reduceAdd, Int.reduceSub, Int.reduceMul, Int.reduceBEq, Int.reduceEq, Int.reduceLT, Int.reduceLE, Int.reduceToNat, Int.reduceNeg, Int.reduceBNe]
  refine shift (sub_slot (s := 4) 62 3 1 rfl (by exact Nat.succ_pos _)) ?_
  refine loopA (fun m σ => ∃ i O g, i + m = min U.length 20 ∧ O.length ≤ i ∧ (∀ w ∈ O, 0 ≤ w ∧ w ≤ 255) ∧ right (Wl O) = true ∧ ((O = [] ∧ σ.h.blk 3 = .box 54 3 [[.zc, .s (.pv (.bool false)), .zc]]) ∨ (0 < O.length ∧ σ.h.blk 3 = .box 54 3 [(encLt (Wl O)).map AC.s])) ∧ σ.slot 0 = vL 1 (U.map encU) ∧ σ.slot 3 = .c (.ptr 3 1 0 0) ∧ σ.h.gen 3 = 1 ∧ σ.slot 4 = .c (.own 62 g) ∧ σ.h.gen 62 = g ∧ σ.h.blk 62 = .row 3 1 (O.map encI) ∧ σ.slot 5 = .c (.ptr 5 1 0 0) ∧ σ.h.gen 5 = 1 ∧ σ.h.blk 5 = .box 78 1 ((Tb O).map cB) ∧ σ.slot 6 = vI i) (min U.length 20) ?_ ?_
  · refine ⟨0, [], 1, by omega, by simp, by simp, by decide +kernel, ?_⟩
    simp -implicitDefEqProofs only [↓aP, aQ, ↓reduceIte, Nat.reduceEqDiff, Nat.reduceAdd, Nat.reduceSub, Nat.reduceMul, Nat.reduceLT, Nat.reduceLeDiff, reduceCtorEq, Nat.reduceBEq, forall_const, implies_true, exists_const, ne_eq, Int.reduceAdd, Int.reduceSub, Int.reduceMul, Int.reduceBEq, Int.reduceEq, Int.reduceLT, Int.reduceLE, Int.reduceToNat, Int.reduceNeg, Int.reduceBNe]
    rw [tb_nil]
    rfl
  · rintro m σ ⟨i, O, g, him, hOi, hO8, hr, hb3, s0, s3, g3, s4, g62, b62, s5, g5, b5, s6⟩
    by_cases hi : i < min U.length 20
    · have hiU : i < U.length := by omega
      have c1 : decide ((i : Int) < (U.length : Int)) = true := by simp; omega
      have c2 : decide ((i : Int) < 20) = true := by simp; omega
      have hw : 0 ≤ U[i] ∧ U[i] ≤ 255 := hU _ (List.getElem_mem hiU)
      have wc : IntKind.i64.wrap U[i] = U[i] := wrapI (by omega)
      have hix : U[i].toNat < (Tb O).length := by rw [tb_len]; omega
      have hsp := lAsk_spec (Wl O) U[i] true (by rw [wl_len]; omega)
      by_cases hm : U[i] ∈ O
      · rw [wl_again hr hw hm] at hsp
        have hO0 : 0 < O.length := List.length_pos_of_mem hm
        rcases hb3 with ⟨hO, b3⟩ | ⟨hO, b3⟩
        · subst hO; simp at hO0
        simp -implicitDefEqProofs only [↓aP, aQ, ↓reduceIte, Nat.reduceEqDiff, Nat.reduceAdd, Nat.reduceSub, Nat.reduceMul, Nat.reduceLT, Nat.reduceLeDiff, reduceCtorEq, Nat.reduceBEq, forall_const, implies_true, exists_const, ne_eq, Int.reduceAdd, Int.reduceSub, Int.reduceMul, Int.reduceBEq, Int.reduceEq, Int.reduceLT, Int.reduceLE, Int.reduceToNat, Int.reduceNeg, Int.reduceBNe, c1, c2, s0, s3, g3, s4, g62, b62, s5, g5, b5, s6, b3, List.length_map, askIdx_map, hiU, encU, wc, encLt]
        refine ask hsp ?_
        simp -implicitDefEqProofs only [↓aP, aQ, ↓reduceIte, Nat.reduceEqDiff, Nat.reduceAdd, Nat.reduceSub, Nat.reduceMul, Nat.reduceLT, Nat.reduceLeDiff, reduceCtorEq, Nat.reduceBEq, forall_const, implies_true, exists_const, ne_eq, Int.reduceAdd, Int.reduceSub, Int.reduceMul, Int.reduceBEq, Int.reduceEq, Int.reduceLT, Int.reduceLE, Int.reduceToNat, Int.reduceNeg, Int.reduceBNe, encAsk, encLt, s0, s3, g3, s4, g62, b62, s5, g5, b5, s6, hix, cB, askIdx_map, tb_at hw hix, decide_eq_true hm]
        refine ⟨by omega, by omega, ?_⟩
        simp -implicitDefEqProofs only [↓aP, aQ, ↓reduceIte, Nat.reduceEqDiff, Nat.reduceAdd, Nat.reduceSub, Nat.reduceMul, Nat.reduceLT, Nat.reduceLeDiff, reduceCtorEq, Nat.reduceBEq, forall_const, implies_true, exists_const, ne_eq, Int.reduceAdd, Int.reduceSub, Int.reduceMul, Int.reduceBEq, Int.reduceEq, Int.reduceLT, Int.reduceLE, Int.reduceToNat, Int.reduceNeg, Int.reduceBNe, s0, s3, g3, s4, g62, b62, s5, g5, b5, s6, b3, ftF, tfF, encLt, wrapS (show i < 4611686018427387904 by omega)]
        refine ⟨m - 1, by omega, i + 1, O, g, by omega, by omega, hO8, hr, .inr ⟨hO, ?_⟩, ?_⟩ <;> simp -implicitDefEqProofs only [↓aP, aQ, ↓reduceIte, Nat.reduceEqDiff, Nat.reduceAdd, Nat.reduceSub, Nat.reduceMul, Nat.reduceLT, Nat.reduceLeDiff, reduceCtorEq, Nat.reduceBEq, forall_const, implies_true, exists_const, ne_eq, Int.reduceAdd, Int.reduceSub, Int.reduceMul, Int.reduceBEq, Int.reduceEq, Int.reduceLT, Int.reduceLE, Int.reduceToNat, Int.reduceNeg, Int.reduceBNe, s0, s3, g3, s4, g62, b62, s5, g5, b5, s6, encLt]
      · obtain ⟨q1, q2⟩ := wl_ask hr hw hm (by omega)
        rw [q1] at hsp
        have hset : ((Tb O).map cB).set U[i].toNat [.s (.pv (.bool true))] = (Tb (O ++ [U[i]])).map cB := by
          rw [← tb_set hw, List.map_set]; rfl
        have hO9 : ∀ w ∈ O ++ [U[i]], 0 ≤ w ∧ w ≤ 255 := fun w h => by
          rcases List.mem_append.1 h with h | h
          · exact hO8 w h
          · rw [List.mem_singleton.1 h]; exact hw
        rcases hb3 with ⟨hO, b3⟩ | ⟨hO, b3⟩
        · subst hO
          simp -implicitDefEqProofs only [↓aP, aQ, ↓reduceIte, Nat.reduceEqDiff, Nat.reduceAdd, Nat.reduceSub, Nat.reduceMul, Nat.reduceLT, Nat.reduceLeDiff, reduceCtorEq, Nat.reduceBEq, forall_const, implies_true, exists_const, ne_eq, Int.reduceAdd, Int.reduceSub, Int.reduceMul, Int.reduceBEq, Int.reduceEq, Int.reduceLT, Int.reduceLE, Int.reduceToNat, Int.reduceNeg, Int.reduceBNe, c1, c2, s0, s3, g3, s4, g62, b62, s5, g5, b5, s6, b3, List.length_map, askIdx_map, hiU, encU, wc]
          refine askS hsp (by simp -implicitDefEqProofs only [↓aP, aQ, ↓reduceIte, Nat.reduceEqDiff, Nat.reduceAdd, Nat.reduceSub, Nat.reduceMul, Nat.reduceLT, Nat.reduceLeDiff, reduceCtorEq, Nat.reduceBEq, forall_const, implies_true, exists_const, ne_eq, Int.reduceAdd, Int.reduceSub, Int.reduceMul, Int.reduceBEq, Int.reduceEq, Int.reduceLT, Int.reduceLE, Int.reduceToNat, Int.reduceNeg, Int.reduceBNe, encLt, Wl, List.map_nil]) ?_
          simp -implicitDefEqProofs only [↓aP, aQ, ↓reduceIte, Nat.reduceEqDiff, Nat.reduceAdd, Nat.reduceSub, Nat.reduceMul, Nat.reduceLT, Nat.reduceLeDiff, reduceCtorEq, Nat.reduceBEq, forall_const, implies_true, exists_const, ne_eq, Int.reduceAdd, Int.reduceSub, Int.reduceMul, Int.reduceBEq, Int.reduceEq, Int.reduceLT, Int.reduceLE, Int.reduceToNat, Int.reduceNeg, Int.reduceBNe, encAsk, encLt, s0, s3, g3, s4, g62, b62, s5, g5, b5, s6, hix, cB, askIdx_map, tb_at hw hix]
          refine ⟨by omega, by omega, ?_⟩
          simp -implicitDefEqProofs only [↓aP, aQ, ↓reduceIte, Nat.reduceEqDiff, Nat.reduceAdd, Nat.reduceSub, Nat.reduceMul, Nat.reduceLT, Nat.reduceLeDiff, reduceCtorEq, Nat.reduceBEq, forall_const, implies_true, exists_const, ne_eq, Int.reduceAdd, Int.reduceSub, Int.reduceMul, Int.reduceBEq, Int.reduceEq, Int.reduceLT, Int.reduceLE, Int.reduceToNat, Int.reduceNeg, Int.reduceBNe, s0, s3, g3, s4, g62, b62, s5, g5, b5, s6, ftF, tfF, bne_self_eq_false, decide_eq_false hm, encLt, List.length_nil, List.map_nil, wrapS (show i < 4611686018427387904 by omega)]
          refine ⟨by omega, by omega, ?_⟩
          simp -implicitDefEqProofs only [↓aP, aQ, ↓reduceIte, Nat.reduceEqDiff, Nat.reduceAdd, Nat.reduceSub, Nat.reduceMul, Nat.reduceLT, Nat.reduceLeDiff, reduceCtorEq, Nat.reduceBEq, forall_const, implies_true, exists_const, ne_eq, Int.reduceAdd, Int.reduceSub, Int.reduceMul, Int.reduceBEq, Int.reduceEq, Int.reduceLT, Int.reduceLE, Int.reduceToNat, Int.reduceNeg, Int.reduceBNe, s0, s3, g3, s4, g62, b62, s5, g5, b5, s6, b3, hix, cB, askIdx_map, encLt, List.length_nil, List.map_nil, wrapS (show i < 4611686018427387904 by omega)]
          refine ⟨m - 1, by omega, i + 1, [U[i]], g + 1, by omega, by simp, hO9, q2, .inr ⟨by simp, rfl⟩, rfl, rfl, ?_, ?_, rfl⟩
          · simp [encI]
          · rw [hset]; rfl
        · simp -implicitDefEqProofs only [↓aP, aQ, ↓reduceIte, Nat.reduceEqDiff, Nat.reduceAdd, Nat.reduceSub, Nat.reduceMul, Nat.reduceLT, Nat.reduceLeDiff, reduceCtorEq, Nat.reduceBEq, forall_const, implies_true, exists_const, ne_eq, Int.reduceAdd, Int.reduceSub, Int.reduceMul, Int.reduceBEq, Int.reduceEq, Int.reduceLT, Int.reduceLE, Int.reduceToNat, Int.reduceNeg, Int.reduceBNe, c1, c2, s0, s3, g3, s4, g62, b62, s5, g5, b5, s6, b3, List.length_map, askIdx_map, hiU, encU, wc, encLt]
          refine ask hsp ?_
          simp -implicitDefEqProofs only [↓aP, aQ, ↓reduceIte, Nat.reduceEqDiff, Nat.reduceAdd, Nat.reduceSub, Nat.reduceMul, Nat.reduceLT, Nat.reduceLeDiff, reduceCtorEq, Nat.reduceBEq, forall_const, implies_true, exists_const, ne_eq, Int.reduceAdd, Int.reduceSub, Int.reduceMul, Int.reduceBEq, Int.reduceEq, Int.reduceLT, Int.reduceLE, Int.reduceToNat, Int.reduceNeg, Int.reduceBNe, encAsk, encLt, s0, s3, g3, s4, g62, b62, s5, g5, b5, s6, hix, cB, askIdx_map, tb_at hw hix]
          refine ⟨by omega, by omega, ?_⟩
          simp -implicitDefEqProofs only [↓aP, aQ, ↓reduceIte, Nat.reduceEqDiff, Nat.reduceAdd, Nat.reduceSub, Nat.reduceMul, Nat.reduceLT, Nat.reduceLeDiff, reduceCtorEq, Nat.reduceBEq, forall_const, implies_true, exists_const, ne_eq, Int.reduceAdd, Int.reduceSub, Int.reduceMul, Int.reduceBEq, Int.reduceEq, Int.reduceLT, Int.reduceLE, Int.reduceToNat, Int.reduceNeg, Int.reduceBNe, s0, s3, g3, s4, g62, b62, s5, g5, b5, s6, ftF, tfF, bne_self_eq_false, decide_eq_false hm, encLt, List.length_map, show ((O.length : Int) == 0) = false by (rw [beq_eq_false_iff_ne]; omega), show decide (O.length = 0) = false by (rw [decide_eq_false_iff_not]; omega), wrapS (show i < 4611686018427387904 by omega)]
          refine ⟨by omega, by omega, by omega, by omega, ?_⟩
          simp -implicitDefEqProofs only [↓aP, aQ, ↓reduceIte, Nat.reduceEqDiff, Nat.reduceAdd, Nat.reduceSub, Nat.reduceMul, Nat.reduceLT, Nat.reduceLeDiff, reduceCtorEq, Nat.reduceBEq, forall_const, implies_true, exists_const, ne_eq, Int.reduceAdd, Int.reduceSub, Int.reduceMul, Int.reduceBEq, Int.reduceEq, Int.reduceLT, Int.reduceLE, Int.reduceToNat, Int.reduceNeg, Int.reduceBNe, s0, s3, g3, s4, g62, b62, s5, g5, b5, s6, b3, hix, cB, askIdx_map, encLt, List.length_map, wrapS (show i < 4611686018427387904 by omega)]
          refine ⟨m - 1, by omega, i + 1, O ++ [U[i]], g + 1, by omega, by simp; omega, hO9, q2, .inr ⟨by simp, rfl⟩, rfl, rfl, ?_, ?_, rfl⟩
          · simp [encI]
          · rw [hset]
    · have hO20 : O.length ≤ 20 := by omega
      by_cases hiU : i < U.length
      case pos =>
        simp -implicitDefEqProofs only [↓aP, aQ, ↓reduceIte, Nat.reduceEqDiff, Nat.reduceAdd, Nat.reduceSub, Nat.reduceMul, Nat.reduceLT, Nat.reduceLeDiff, reduceCtorEq, Nat.reduceBEq, forall_const, implies_true, exists_const, ne_eq, Int.reduceAdd, Int.reduceSub, Int.reduceMul, Int.reduceBEq, Int.reduceEq, Int.reduceLT, Int.reduceLE, Int.reduceToNat, Int.reduceNeg, Int.reduceBNe, show decide ((i : Int) < (U.length : Int)) = true by (simp; omega), show decide ((i : Int) < 20) = false by (simp; omega), s0, s3, g3, s4, g62, b62, s5, g5, b5, s6, List.length_map]
        refine rangeB O.length (fun i σ => right (Wl (O.drop i)) = true ∧ ((O = [] ∧ σ.h.blk 3 = .box 54 3 [[.zc, .s (.pv (.bool false)), .zc]]) ∨ (0 < O.length ∧ σ.h.blk 3 = .box 54 3 [(encLt (Wl (O.drop i))).map AC.s])) ∧ σ.slot 3 = .c (.ptr 3 1 0 0) ∧ σ.h.gen 3 = 1 ∧ σ.slot 4 = .c (.own 62 g) ∧ σ.h.gen 62 = g ∧ σ.h.blk 62 = .row 3 1 (O.map encI) ∧ σ.slot 66 = .c (.own 62 g) ∧ σ.slot 67 = vI O.length ∧ σ.slot 68 = vI i) ?_ ?_ ?_
        · refine ⟨by rw [List.drop_zero]; exact hr, ?_⟩
          simp -implicitDefEqProofs only [↓aP, aQ, ↓reduceIte, Nat.reduceEqDiff, Nat.reduceAdd, Nat.reduceSub, Nat.reduceMul, Nat.reduceLT, Nat.reduceLeDiff, reduceCtorEq, Nat.reduceBEq, forall_const, implies_true, exists_const, ne_eq, Int.reduceAdd, Int.reduceSub, Int.reduceMul, Int.reduceBEq, Int.reduceEq, Int.reduceLT, Int.reduceLE, Int.reduceToNat, Int.reduceNeg, Int.reduceBNe, s0, s3, g3, s4, g62, b62, s5, g5, b5, s6, List.length_map, List.drop_zero]
          exact hb3
        · clear s0 s3 g3 s4 g62 b62 s5 g5 b5 s6 hb3 hr him hi
          rintro i m σ him hi hlt ⟨hr, hb3, s3, g3, s4, g62, b62, s66, s67, s68⟩
          rcases hb3 with ⟨hO, b3⟩ | ⟨hO, b3⟩
          · rw [hO] at hi; simp at hi
          have hd : O.drop i = O[i] :: O.drop (i + 1) := List.drop_eq_getElem_cons hi
          rw [hd] at hr
          have hh := wl_holds hr
          obtain ⟨q1, q2⟩ := wl_drop hr
          have hwl : (Wl (O[i] :: O.drop (i + 1))).h.length + (Wl (O[i] :: O.drop (i + 1))).q.length ≤ 1000000 := by rw [wl_len]; simp; omega
          have hsp1 := lHolds_spec (Wl (O[i] :: O.drop (i + 1))) O[i] hwl
          have hsp2 := lDrop_spec (Wl (O[i] :: O.drop (i + 1))) O[i] hwl
          rw [hh] at hsp1
          rw [q1] at hsp2
          rw [hd] at b3
          by_cases hi1 : i + 1 < O.length
          · have ht : (O.drop (i + 1)).take 1 = [O[i + 1]] := by rw [List.drop_eq_getElem_cons hi1]; rfl
            have w1 : IntKind.i64.wrap ((i : Int) + 1) = ((i + 1 : Nat) : Int) := by rw [wrapI (by omega)]; omega
            have w2 : IntKind.i64.wrap ((O.length : Int) - 1) = ((O.length - 1 : Nat) : Int) := by rw [wrapI (by omega)]; omega
            have hmin : min ((i + 1 : Nat) : Int) ((O.length - 1 : Nat) : Int) = ((i + 1 : Nat) : Int) := by omega
            rw [ht] at hsp2
            simp -implicitDefEqProofs only [↓aP, aQ, ↓reduceIte, Nat.reduceEqDiff, Nat.reduceAdd, Nat.reduceSub, Nat.reduceMul, Nat.reduceLT, Nat.reduceLeDiff, reduceCtorEq, Nat.reduceBEq, forall_const, implies_true, exists_const, ne_eq, Int.reduceAdd, Int.reduceSub, Int.reduceMul, Int.reduceBEq, Int.reduceEq, Int.reduceLT, Int.reduceLE, Int.reduceToNat, Int.reduceNeg, Int.reduceBNe, hlt, s3, g3, s4, g62, b62, s66, s67, s68, b3, askIdx_map, hi, encI, List.length_map, encLt]
            refine ask hsp1 ?_
            simp -implicitDefEqProofs only [↓aP, aQ, ↓reduceIte, Nat.reduceEqDiff, Nat.reduceAdd, Nat.reduceSub, Nat.reduceMul, Nat.reduceLT, Nat.reduceLeDiff, reduceCtorEq, Nat.reduceBEq, forall_const, implies_true, exists_const, ne_eq, Int.reduceAdd, Int.reduceSub, Int.reduceMul, Int.reduceBEq, Int.reduceEq, Int.reduceLT, Int.reduceLE, Int.reduceToNat, Int.reduceNeg, Int.reduceBNe, s3, g3, s4, g62, b62, s66, s67, s68, b3, encLt]
            refine ask hsp2 ?_
            simp -implicitDefEqProofs only [↓aP, aQ, ↓reduceIte, Nat.reduceEqDiff, Nat.reduceAdd, Nat.reduceSub, Nat.reduceMul, Nat.reduceLT, Nat.reduceLeDiff, reduceCtorEq, Nat.reduceBEq, forall_const, implies_true, exists_const, ne_eq, Int.reduceAdd, Int.reduceSub, Int.reduceMul, Int.reduceBEq, Int.reduceEq, Int.reduceLT, Int.reduceLE, Int.reduceToNat, Int.reduceNeg, Int.reduceBNe, s3, g3, s4, g62, b62, s66, s67, s68, b3, encDrop, encLt, bne_self_eq_false, List.map_cons, List.map_nil, w1, w2, hmin, show decide (((i + 1 : Nat) : Int) < (O.length : Int)) = true by (simp; omega), askIdx_map, hi1, encI, List.length_map]
            refine ⟨by decide +kernel, ?_⟩
            refine nextR hi him ⟨q2, .inr ⟨hO, ?_⟩, ?_⟩ <;> simp -implicitDefEqProofs only [↓aP, aQ, ↓reduceIte, Nat.reduceEqDiff, Nat.reduceAdd, Nat.reduceSub, Nat.reduceMul, Nat.reduceLT, Nat.reduceLeDiff, reduceCtorEq, Nat.reduceBEq, forall_const, implies_true, exists_const, ne_eq, Int.reduceAdd, Int.reduceSub, Int.reduceMul, Int.reduceBEq, Int.reduceEq, Int.reduceLT, Int.reduceLE, Int.reduceToNat, Int.reduceNeg, Int.reduceBNe, s3, g3, s4, g62, b62, s66, s67, s68, encLt]
          · have ht : (O.drop (i + 1)).take 1 = [] := by rw [List.drop_of_length_le (by omega)]; rfl
            have w1 : IntKind.i64.wrap ((i : Int) + 1) = ((i + 1 : Nat) : Int) := by rw [wrapI (by omega)]; omega
            rw [ht] at hsp2
            simp -implicitDefEqProofs only [↓aP, aQ, ↓reduceIte, Nat.reduceEqDiff, Nat.reduceAdd, Nat.reduceSub, Nat.reduceMul, Nat.reduceLT, Nat.reduceLeDiff, reduceCtorEq, Nat.reduceBEq, forall_const, implies_true, exists_const, ne_eq, Int.reduceAdd, Int.reduceSub, Int.reduceMul, Int.reduceBEq, Int.reduceEq, Int.reduceLT, Int.reduceLE, Int.reduceToNat, Int.reduceNeg, Int.reduceBNe, hlt, s3, g3, s4, g62, b62, s66, s67, s68, b3, askIdx_map, hi, encI, List.length_map, encLt]
            refine ask hsp1 ?_
            simp -implicitDefEqProofs only [↓aP, aQ, ↓reduceIte, Nat.reduceEqDiff, Nat.reduceAdd, Nat.reduceSub, Nat.reduceMul, Nat.reduceLT, Nat.reduceLeDiff, reduceCtorEq, Nat.reduceBEq, forall_const, implies_true, exists_const, ne_eq, Int.reduceAdd, Int.reduceSub, Int.reduceMul, Int.reduceBEq, Int.reduceEq, Int.reduceLT, Int.reduceLE, Int.reduceToNat, Int.reduceNeg, Int.reduceBNe, s3, g3, s4, g62, b62, s66, s67, s68, b3, encLt]
            refine ask hsp2 ?_
            simp -implicitDefEqProofs only [↓aP, aQ, ↓reduceIte, Nat.reduceEqDiff, Nat.reduceAdd, Nat.reduceSub, Nat.reduceMul, Nat.reduceLT, Nat.reduceLeDiff, reduceCtorEq, Nat.reduceBEq, forall_const, implies_true, exists_const, ne_eq, Int.reduceAdd, Int.reduceSub, Int.reduceMul, Int.reduceBEq, Int.reduceEq, Int.reduceLT, Int.reduceLE, Int.reduceToNat, Int.reduceNeg, Int.reduceBNe, s3, g3, s4, g62, b62, s66, s67, s68, b3, encDrop, encLt, bne_self_eq_false, List.map_nil, w1, show decide (((i + 1 : Nat) : Int) < (O.length : Int)) = false by (simp; omega)]
            refine ⟨by decide +kernel, ?_⟩
            refine nextR hi him ⟨q2, .inr ⟨hO, ?_⟩, ?_⟩ <;> simp -implicitDefEqProofs only [↓aP, aQ, ↓reduceIte, Nat.reduceEqDiff, Nat.reduceAdd, Nat.reduceSub, Nat.reduceMul, Nat.reduceLT, Nat.reduceLeDiff, reduceCtorEq, Nat.reduceBEq, forall_const, implies_true, exists_const, ne_eq, Int.reduceAdd, Int.reduceSub, Int.reduceMul, Int.reduceBEq, Int.reduceEq, Int.reduceLT, Int.reduceLE, Int.reduceToNat, Int.reduceNeg, Int.reduceBNe, s3, g3, s4, g62, b62, s66, s67, s68, encLt]
        · clear s0 s3 g3 s4 g62 b62 s5 g5 b5 s6 hb3 hr him hi
          rintro m σ hlt ⟨hr, hb3, s3, g3, s4, g62, b62, s66, s67, s68⟩
          rcases hb3 with ⟨hO, b3⟩ | ⟨hO, b3⟩
          · simp -implicitDefEqProofs only [↓aP, aQ, ↓reduceIte, Nat.reduceEqDiff, Nat.reduceAdd, Nat.reduceSub, Nat.reduceMul, Nat.reduceLT, Nat.reduceLeDiff, reduceCtorEq, Nat.reduceBEq, forall_const, implies_true, exists_const, ne_eq, Int.reduceAdd, Int.reduceSub, Int.reduceMul, Int.reduceBEq, Int.reduceEq, Int.reduceLT, Int.reduceLE, Int.reduceToNat, Int.reduceNeg, Int.reduceBNe, hlt, s3, g3, s4, g62, b62, s66, s67, s68, b3]
            refine ask awake_spec ?_
            simp -implicitDefEqProofs only [↓aP, aQ, ↓reduceIte, Nat.reduceEqDiff, Nat.reduceAdd, Nat.reduceSub, Nat.reduceMul, Nat.reduceLT, Nat.reduceLeDiff, reduceCtorEq, Nat.reduceBEq, forall_const, implies_true, exists_const, ne_eq, Int.reduceAdd, Int.reduceSub, Int.reduceMul, Int.reduceBEq, Int.reduceEq, Int.reduceLT, Int.reduceLE, Int.reduceToNat, Int.reduceNeg, Int.reduceBNe]
          · rw [List.drop_length] at b3
            simp -implicitDefEqProofs only [↓aP, aQ, ↓reduceIte, Nat.reduceEqDiff, Nat.reduceAdd, Nat.reduceSub, Nat.reduceMul, Nat.reduceLT, Nat.reduceLeDiff, reduceCtorEq, Nat.reduceBEq, forall_const, implies_true, exists_const, ne_eq, Int.reduceAdd, Int.reduceSub, Int.reduceMul, Int.reduceBEq, Int.reduceEq, Int.reduceLT, Int.reduceLE, Int.reduceToNat, Int.reduceNeg, Int.reduceBNe, hlt, s3, g3, s4, g62, b62, s66, s67, s68, b3, encLt, Wl]
            refine ask awake_spec ?_
            simp -implicitDefEqProofs only [↓aP, aQ, ↓reduceIte, Nat.reduceEqDiff, Nat.reduceAdd, Nat.reduceSub, Nat.reduceMul, Nat.reduceLT, Nat.reduceLeDiff, reduceCtorEq, Nat.reduceBEq, forall_const, implies_true, exists_const, ne_eq, Int.reduceAdd, Int.reduceSub, Int.reduceMul, Int.reduceBEq, Int.reduceEq, Int.reduceLT, Int.reduceLE, Int.reduceToNat, Int.reduceNeg, Int.reduceBNe]
      simp -implicitDefEqProofs only [↓aP, aQ, ↓reduceIte, Nat.reduceEqDiff, Nat.reduceAdd, Nat.reduceSub, Nat.reduceMul, Nat.reduceLT, Nat.reduceLeDiff, reduceCtorEq, Nat.reduceBEq, forall_const, implies_true, exists_const, ne_eq, Int.reduceAdd, Int.reduceSub, Int.reduceMul, Int.reduceBEq, Int.reduceEq, Int.reduceLT, Int.reduceLE, Int.reduceToNat, Int.reduceNeg, Int.reduceBNe, show decide ((i : Int) < (U.length : Int)) = false by (simp; omega), s0, s3, g3, s4, g62, b62, s5, g5, b5, s6, List.length_map]
      refine rangeB O.length (fun i σ => right (Wl (O.drop i)) = true ∧ ((O = [] ∧ σ.h.blk 3 = .box 54 3 [[.zc, .s (.pv (.bool false)), .zc]]) ∨ (0 < O.length ∧ σ.h.blk 3 = .box 54 3 [(encLt (Wl (O.drop i))).map AC.s])) ∧ σ.slot 3 = .c (.ptr 3 1 0 0) ∧ σ.h.gen 3 = 1 ∧ σ.slot 4 = .c (.own 62 g) ∧ σ.h.gen 62 = g ∧ σ.h.blk 62 = .row 3 1 (O.map encI) ∧ σ.slot 66 = .c (.own 62 g) ∧ σ.slot 67 = vI O.length ∧ σ.slot 68 = vI i) ?_ ?_ ?_
      · refine ⟨by rw [List.drop_zero]; exact hr, ?_⟩
        simp -implicitDefEqProofs only [↓aP, aQ, ↓reduceIte, Nat.reduceEqDiff, Nat.reduceAdd, Nat.reduceSub, Nat.reduceMul, Nat.reduceLT, Nat.reduceLeDiff, reduceCtorEq, Nat.reduceBEq, forall_const, implies_true, exists_const, ne_eq, Int.reduceAdd, Int.reduceSub, Int.reduceMul, Int.reduceBEq, Int.reduceEq, Int.reduceLT, Int.reduceLE, Int.reduceToNat, Int.reduceNeg, Int.reduceBNe, s0, s3, g3, s4, g62, b62, s5, g5, b5, s6, List.length_map, List.drop_zero]
        exact hb3
      · clear s0 s3 g3 s4 g62 b62 s5 g5 b5 s6 hb3 hr him hi
        rintro i m σ him hi hlt ⟨hr, hb3, s3, g3, s4, g62, b62, s66, s67, s68⟩
        rcases hb3 with ⟨hO, b3⟩ | ⟨hO, b3⟩
        · rw [hO] at hi; simp at hi
        have hd : O.drop i = O[i] :: O.drop (i + 1) := List.drop_eq_getElem_cons hi
        rw [hd] at hr
        have hh := wl_holds hr
        obtain ⟨q1, q2⟩ := wl_drop hr
        have hwl : (Wl (O[i] :: O.drop (i + 1))).h.length + (Wl (O[i] :: O.drop (i + 1))).q.length ≤ 1000000 := by rw [wl_len]; simp; omega
        have hsp1 := lHolds_spec (Wl (O[i] :: O.drop (i + 1))) O[i] hwl
        have hsp2 := lDrop_spec (Wl (O[i] :: O.drop (i + 1))) O[i] hwl
        rw [hh] at hsp1
        rw [q1] at hsp2
        rw [hd] at b3
        by_cases hi1 : i + 1 < O.length
        · have ht : (O.drop (i + 1)).take 1 = [O[i + 1]] := by rw [List.drop_eq_getElem_cons hi1]; rfl
          have w1 : IntKind.i64.wrap ((i : Int) + 1) = ((i + 1 : Nat) : Int) := by rw [wrapI (by omega)]; omega
          have w2 : IntKind.i64.wrap ((O.length : Int) - 1) = ((O.length - 1 : Nat) : Int) := by rw [wrapI (by omega)]; omega
          have hmin : min ((i + 1 : Nat) : Int) ((O.length - 1 : Nat) : Int) = ((i + 1 : Nat) : Int) := by omega
          rw [ht] at hsp2
          simp -implicitDefEqProofs only [↓aP, aQ, ↓reduceIte, Nat.reduceEqDiff, Nat.reduceAdd, Nat.reduceSub, Nat.reduceMul, Nat.reduceLT, Nat.reduceLeDiff, reduceCtorEq, Nat.reduceBEq, forall_const, implies_true, exists_const, ne_eq, Int.reduceAdd, Int.reduceSub, Int.reduceMul, Int.reduceBEq, Int.reduceEq, Int.reduceLT, Int.reduceLE, Int.reduceToNat, Int.reduceNeg, Int.reduceBNe, hlt, s3, g3, s4, g62, b62, s66, s67, s68, b3, askIdx_map, hi, encI, List.length_map, encLt]
          refine ask hsp1 ?_
          simp -implicitDefEqProofs only [↓aP, aQ, ↓reduceIte, Nat.reduceEqDiff, Nat.reduceAdd, Nat.reduceSub, Nat.reduceMul, Nat.reduceLT, Nat.reduceLeDiff, reduceCtorEq, Nat.reduceBEq, forall_const, implies_true, exists_const, ne_eq, Int.reduceAdd, Int.reduceSub, Int.reduceMul, Int.reduceBEq, Int.reduceEq, Int.reduceLT, Int.reduceLE, Int.reduceToNat, Int.reduceNeg, Int.reduceBNe, s3, g3, s4, g62, b62, s66, s67, s68, b3, encLt]
          refine ask hsp2 ?_
          simp -implicitDefEqProofs only [↓aP, aQ, ↓reduceIte, Nat.reduceEqDiff, Nat.reduceAdd, Nat.reduceSub, Nat.reduceMul, Nat.reduceLT, Nat.reduceLeDiff, reduceCtorEq, Nat.reduceBEq, forall_const, implies_true, exists_const, ne_eq, Int.reduceAdd, Int.reduceSub, Int.reduceMul, Int.reduceBEq, Int.reduceEq, Int.reduceLT, Int.reduceLE, Int.reduceToNat, Int.reduceNeg, Int.reduceBNe, s3, g3, s4, g62, b62, s66, s67, s68, b3, encDrop, encLt, bne_self_eq_false, List.map_cons, List.map_nil, w1, w2, hmin, show decide (((i + 1 : Nat) : Int) < (O.length : Int)) = true by (simp; omega), askIdx_map, hi1, encI, List.length_map]
          refine ⟨by decide +kernel, ?_⟩
          refine nextR hi him ⟨q2, .inr ⟨hO, ?_⟩, ?_⟩ <;> simp -implicitDefEqProofs only [↓aP, aQ, ↓reduceIte, Nat.reduceEqDiff, Nat.reduceAdd, Nat.reduceSub, Nat.reduceMul, Nat.reduceLT, Nat.reduceLeDiff, reduceCtorEq, Nat.reduceBEq, forall_const, implies_true, exists_const, ne_eq, Int.reduceAdd, Int.reduceSub, Int.reduceMul, Int.reduceBEq, Int.reduceEq, Int.reduceLT, Int.reduceLE, Int.reduceToNat, Int.reduceNeg, Int.reduceBNe, s3, g3, s4, g62, b62, s66, s67, s68, encLt]
        · have ht : (O.drop (i + 1)).take 1 = [] := by rw [List.drop_of_length_le (by omega)]; rfl
          have w1 : IntKind.i64.wrap ((i : Int) + 1) = ((i + 1 : Nat) : Int) := by rw [wrapI (by omega)]; omega
          rw [ht] at hsp2
          simp -implicitDefEqProofs only [↓aP, aQ, ↓reduceIte, Nat.reduceEqDiff, Nat.reduceAdd, Nat.reduceSub, Nat.reduceMul, Nat.reduceLT, Nat.reduceLeDiff, reduceCtorEq, Nat.reduceBEq, forall_const, implies_true, exists_const, ne_eq, Int.reduceAdd, Int.reduceSub, Int.reduceMul, Int.reduceBEq, Int.reduceEq, Int.reduceLT, Int.reduceLE, Int.reduceToNat, Int.reduceNeg, Int.reduceBNe, hlt, s3, g3, s4, g62, b62, s66, s67, s68, b3, askIdx_map, hi, encI, List.length_map, encLt]
          refine ask hsp1 ?_
          simp -implicitDefEqProofs only [↓aP, aQ, ↓reduceIte, Nat.reduceEqDiff, Nat.reduceAdd, Nat.reduceSub, Nat.reduceMul, Nat.reduceLT, Nat.reduceLeDiff, reduceCtorEq, Nat.reduceBEq, forall_const, implies_true, exists_const, ne_eq, Int.reduceAdd, Int.reduceSub, Int.reduceMul, Int.reduceBEq, Int.reduceEq, Int.reduceLT, Int.reduceLE, Int.reduceToNat, Int.reduceNeg, Int.reduceBNe, s3, g3, s4, g62, b62, s66, s67, s68, b3, encLt]
          refine ask hsp2 ?_
          simp -implicitDefEqProofs only [↓aP, aQ, ↓reduceIte, Nat.reduceEqDiff, Nat.reduceAdd, Nat.reduceSub, Nat.reduceMul, Nat.reduceLT, Nat.reduceLeDiff, reduceCtorEq, Nat.reduceBEq, forall_const, implies_true, exists_const, ne_eq, Int.reduceAdd, Int.reduceSub, Int.reduceMul, Int.reduceBEq, Int.reduceEq, Int.reduceLT, Int.reduceLE, Int.reduceToNat, Int.reduceNeg, Int.reduceBNe, s3, g3, s4, g62, b62, s66, s67, s68, b3, encDrop, encLt, bne_self_eq_false, List.map_nil, w1, show decide (((i + 1 : Nat) : Int) < (O.length : Int)) = false by (simp; omega)]
          refine ⟨by decide +kernel, ?_⟩
          refine nextR hi him ⟨q2, .inr ⟨hO, ?_⟩, ?_⟩ <;> simp -implicitDefEqProofs only [↓aP, aQ, ↓reduceIte, Nat.reduceEqDiff, Nat.reduceAdd, Nat.reduceSub, Nat.reduceMul, Nat.reduceLT, Nat.reduceLeDiff, reduceCtorEq, Nat.reduceBEq, forall_const, implies_true, exists_const, ne_eq, Int.reduceAdd, Int.reduceSub, Int.reduceMul, Int.reduceBEq, Int.reduceEq, Int.reduceLT, Int.reduceLE, Int.reduceToNat, Int.reduceNeg, Int.reduceBNe, s3, g3, s4, g62, b62, s66, s67, s68, encLt]
      · clear s0 s3 g3 s4 g62 b62 s5 g5 b5 s6 hb3 hr him hi
        rintro m σ hlt ⟨hr, hb3, s3, g3, s4, g62, b62, s66, s67, s68⟩
        rcases hb3 with ⟨hO, b3⟩ | ⟨hO, b3⟩
        · simp -implicitDefEqProofs only [↓aP, aQ, ↓reduceIte, Nat.reduceEqDiff, Nat.reduceAdd, Nat.reduceSub, Nat.reduceMul, Nat.reduceLT, Nat.reduceLeDiff, reduceCtorEq, Nat.reduceBEq, forall_const, implies_true, exists_const, ne_eq, Int.reduceAdd, Int.reduceSub, Int.reduceMul, Int.reduceBEq, Int.reduceEq, Int.reduceLT, Int.reduceLE, Int.reduceToNat, Int.reduceNeg, Int.reduceBNe, hlt, s3, g3, s4, g62, b62, s66, s67, s68, b3]
          refine ask awake_spec ?_
          simp -implicitDefEqProofs only [↓aP, aQ, ↓reduceIte, Nat.reduceEqDiff, Nat.reduceAdd, Nat.reduceSub, Nat.reduceMul, Nat.reduceLT, Nat.reduceLeDiff, reduceCtorEq, Nat.reduceBEq, forall_const, implies_true, exists_const, ne_eq, Int.reduceAdd, Int.reduceSub, Int.reduceMul, Int.reduceBEq, Int.reduceEq, Int.reduceLT, Int.reduceLE, Int.reduceToNat, Int.reduceNeg, Int.reduceBNe]
        · rw [List.drop_length] at b3
          simp -implicitDefEqProofs only [↓aP, aQ, ↓reduceIte, Nat.reduceEqDiff, Nat.reduceAdd, Nat.reduceSub, Nat.reduceMul, Nat.reduceLT, Nat.reduceLeDiff, reduceCtorEq, Nat.reduceBEq, forall_const, implies_true, exists_const, ne_eq, Int.reduceAdd, Int.reduceSub, Int.reduceMul, Int.reduceBEq, Int.reduceEq, Int.reduceLT, Int.reduceLE, Int.reduceToNat, Int.reduceNeg, Int.reduceBNe, hlt, s3, g3, s4, g62, b62, s66, s67, s68, b3, encLt, Wl]
          refine ask awake_spec ?_
          simp -implicitDefEqProofs only [↓aP, aQ, ↓reduceIte, Nat.reduceEqDiff, Nat.reduceAdd, Nat.reduceSub, Nat.reduceMul, Nat.reduceLT, Nat.reduceLeDiff, reduceCtorEq, Nat.reduceBEq, forall_const, implies_true, exists_const, ne_eq, Int.reduceAdd, Int.reduceSub, Int.reduceMul, Int.reduceBEq, Int.reduceEq, Int.reduceLT, Int.reduceLE, Int.reduceToNat, Int.reduceNeg, Int.reduceBNe]
theorem latchWriters_walk {w : World} (v0 : Value) (a0 : ∃ l : List Int, (U8 l ∧ l.length ≤ maxLen) ∧ RepT (RepS w fun _ => False) (rL 1 (l.map encU)) v0) :
    Calls Try.prog 12 #[v0] w fun e w' => e = .returned (.bool true) ∧ Below w.heap.size w w' := by
  obtain ⟨U, hU, h0⟩ := a0
  exact (law_writers U hU.1 (by have := hU.2; unfold maxLen at this; omega)).plain (us := [v0]) (.cons h0 .nil)
end Go.Proofs.Ytkiddlkmodclhaa
