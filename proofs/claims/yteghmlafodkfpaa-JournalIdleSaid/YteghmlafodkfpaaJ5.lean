/- layer 12: the law JournalMany: its walk. -/
import Derived.Test.YteghmlafodkfpaaJ4
import Derived.Test.YteghmlafodkfpaaAm19
namespace Go.Proofs.Yteghmlafodkfpaa
open Go.RowKit
set_option linter.unusedVariables false
set_option linter.unusedSimpArgs false
def aSt (s : ByteArray) : List AC := (encS s).map AC.s
def encU (n : Int) : List SC := [.pv (.int .u8 n)]
/-- what is wanted, and what is there -/
structure Wants (s : List ByteArray) (T : List ByteArray) : Prop where
  ok : Jn.Ok 35 s
  zero : Jn.rd s [] 0 = noughts
  len : T.length = 17
  all : ∀ q (h : q < T.length), 1 ≤ q → T[q] ≠ ⟨#[]⟩ → Jn.getM ⟨s, []⟩ q = (T[q], 0)
theorem wants_new : Wants Jn.new35 (List.replicate 17 ⟨#[]⟩) := by
  refine ⟨Jn.ok_new, Jn.rd_new (by omega), by simp, fun q h h1 hne => ?_⟩
  exact absurd (by rw [List.getElem_replicate]) hne
theorem wants_put {s : List ByteArray} {T : List ByteArray} (hw : Wants s T) {p : Nat} {x : ByteArray} (hp : 1 ≤ p ∧ p ≤ 16) (hx : x.size = 32) : Wants (Jn.s4 s p x) (T.set p x) := by
  have hp2 : (1 : Int) ≤ (p : Int) ∧ (p : Int) ≤ 16 := by omega
  have hf := Jn.s4_fin Jn.h35 hw.ok hp2 hx
  refine ⟨hf.ok, hf.zero, by simp [hw.len], fun q h h1 hne => ?_⟩
  rw [List.length_set, hw.len] at h
  rw [Jn.fin_get Jn.h35 hw.ok hp2 hx hf q (by omega)]
  by_cases e : q = p
  · subst e
    rw [if_pos rfl, List.getElem_set_self]
  · rw [if_neg (by omega), List.getElem_set_ne (by omega)]
    rw [List.getElem_set_ne (by omega)] at hne
    rw [hw.all q (by rw [hw.len]; exact h) h1 hne]


set_option maxRecDepth 100000 in
set_option maxHeartbeats 4000000 in
theorem law_many (ps : List Int) (hps : ∀ p ∈ ps, 0 ≤ p ∧ p ≤ 255) (xs : List ByteArray) (hl : ps.length ≤ 9223372036854775807) (hl2 : xs.length ≤ 9223372036854775807) : Spec Try.prog 11 [rL 1 (ps.map encU), rL 1 (xs.map encS)] (.val (rB true)) := by
  refine spec_val mixed fn11 (by simp) ?_
  unfold ac11
  simp -implicitDefEqProofs only [↓aP, aQ, ↓reduceIte, Nat.reduceEqDiff, Nat.reduceAdd, Nat.reduceSub, Nat.reduceMul, Nat.reduceLT, Nat.reduceLeDiff, reduceCtorEq, Nat.reduceBEq, forall_const, implies_true, exists_const, ne_eq, Int.reduceAdd, Int.reduceSub, Int.reduceMul, Int.reduceBEq, Int.reduceEq, Int.reduceLT, Int.reduceLE, Int.reduceToNat, Int.reduceNeg, Int.reduceBNe]
  refine ask (new_spec 35) ?_
  rw [Jn.new_eq]
  simp -implicitDefEqProofs only [↓aP, aQ, ↓reduceIte, Nat.reduceEqDiff, Nat.reduceAdd, Nat.reduceSub, Nat.reduceMul, Nat.reduceLT, Nat.reduceLeDiff, reduceCtorEq, Nat.reduceBEq, forall_const, implies_true, exists_const, ne_eq, Int.reduceAdd, Int.reduceSub, Int.reduceMul, Int.reduceBEq, Int.reduceEq, Int.reduceLT, Int.reduceLE, Int.reduceToNat, Int.reduceNeg, Int.reduceBNe, encDk]
  refine loopA (fun m σ => ∃ (s : List ByteArray) (T : List ByteArray) (i : Nat), Wants s T ∧ i + m = 30 ∧ σ.slot 0 = vL 1 (ps.map encU) ∧ σ.slot 1 = vL 1 (xs.map encS) ∧ σ.slot 5 = .c (.ptr 5 1 0 0) ∧ σ.h.gen 5 = 1 ∧ σ.h.blk 5 = .box 68 2 [(encDk ⟨s, []⟩).map AC.s] ∧ σ.slot 7 = .c (.ptr 7 1 0 0) ∧ σ.h.gen 7 = 1 ∧ σ.h.blk 7 = .box 94 1 (T.map aSt) ∧ σ.slot 8 = vI i) 30 ?_ ?_
  · refine ⟨Jn.new35, List.replicate 17 ⟨#[]⟩, 0, wants_new, by omega, ?_⟩
    simp -implicitDefEqProofs only [↓aP, aQ, ↓reduceIte, Nat.reduceEqDiff, Nat.reduceAdd, Nat.reduceSub, Nat.reduceMul, Nat.reduceLT, Nat.reduceLeDiff, reduceCtorEq, Nat.reduceBEq, forall_const, implies_true, exists_const, ne_eq, Int.reduceAdd, Int.reduceSub, Int.reduceMul, Int.reduceBEq, Int.reduceEq, Int.reduceLT, Int.reduceLE, Int.reduceToNat, Int.reduceNeg, Int.reduceBNe, encDk, List.map_nil]
    rfl
  · rintro m σ ⟨s, T, i, hw, him, s0, s1, s5, g5, b5, s7, g7, b7, s8⟩
    by_cases h1 : i < ps.length ∧ i < xs.length ∧ i < 30
    case pos =>
      obtain ⟨h1, h2, h3⟩ := h1
      have d1 : decide ((i : Int) < (ps.length : Int)) = true := by simp; omega
      have d2 : decide ((i : Int) < (xs.length : Int)) = true := by simp; omega
      have d3 : decide ((i : Int) < 30) = true := by simp; omega
      by_cases hx : xs[i].size = 32
      case neg =>
        simp -implicitDefEqProofs only [↓aP, aQ, ↓reduceIte, Nat.reduceEqDiff, Nat.reduceAdd, Nat.reduceSub, Nat.reduceMul, Nat.reduceLT, Nat.reduceLeDiff, reduceCtorEq, Nat.reduceBEq, forall_const, implies_true, exists_const, ne_eq, Int.reduceAdd, Int.reduceSub, Int.reduceMul, Int.reduceBEq, Int.reduceEq, Int.reduceLT, Int.reduceLE, Int.reduceToNat, Int.reduceNeg, Int.reduceBNe, s0, s1, s5, g5, b5, s7, g7, b7, s8, List.length_map, d1, d2, d3, askIdx_map, h2, encS, show ((xs[i].size : Int) != 32) = true by rw [bne_iff_ne]; omega]
        refine ask awake_spec ?_
        simp -implicitDefEqProofs only [↓aP, aQ, ↓reduceIte, Nat.reduceEqDiff, Nat.reduceAdd, Nat.reduceSub, Nat.reduceMul, Nat.reduceLT, Nat.reduceLeDiff, reduceCtorEq, Nat.reduceBEq, forall_const, implies_true, exists_const, ne_eq, Int.reduceAdd, Int.reduceSub, Int.reduceMul, Int.reduceBEq, Int.reduceEq, Int.reduceLT, Int.reduceLE, Int.reduceToNat, Int.reduceNeg, Int.reduceBNe]
      have hpi := hps _ (List.getElem_mem h1)
      obtain ⟨p, hp, hp1, hp16⟩ : ∃ p : Nat, IntKind.i64.wrap (1 + IntKind.i64.wrap (ps[i].tmod 16)) = (p : Int) ∧ 1 ≤ p ∧ p ≤ 16 := by
        rw [Int.tmod_eq_emod_of_nonneg hpi.1, wrapI (x := ps[i] % 16) (by omega), wrapI (by omega)]
        exact ⟨(1 + ps[i] % 16).toNat, by omega, by omega, by omega⟩
      have hc := Jn.commit_st Jn.h35 hw.ok (p := p) (by omega) hx
      have hpt : p < T.length := by rw [hw.len]; omega
      have hset : (T.map aSt).set p (encS xs[i] |>.map AC.s) = (T.set p xs[i]).map aSt := by rw [List.map_set]; rfl
      simp -implicitDefEqProofs only [↓aP, aQ, ↓reduceIte, Nat.reduceEqDiff, Nat.reduceAdd, Nat.reduceSub, Nat.reduceMul, Nat.reduceLT, Nat.reduceLeDiff, reduceCtorEq, Nat.reduceBEq, forall_const, implies_true, exists_const, ne_eq, Int.reduceAdd, Int.reduceSub, Int.reduceMul, Int.reduceBEq, Int.reduceEq, Int.reduceLT, Int.reduceLE, Int.reduceToNat, Int.reduceNeg, Int.reduceBNe, s0, s1, s5, g5, b5, s7, g7, b7, s8, List.length_map, d1, d2, d3, askIdx_map, h1, h2, encS, encU, show ((xs[i].size : Int) != 32) = false by rw [bne_eq_false_iff_eq]; omega, hp, encDk]
      refine ask (by have := commit_spec ⟨s, []⟩ p xs[i]; rw [hc] at this; exact this) ?_
      simp -implicitDefEqProofs only [↓aP, aQ, ↓reduceIte, Nat.reduceEqDiff, Nat.reduceAdd, Nat.reduceSub, Nat.reduceMul, Nat.reduceLT, Nat.reduceLeDiff, reduceCtorEq, Nat.reduceBEq, forall_const, implies_true, exists_const, ne_eq, Int.reduceAdd, Int.reduceSub, Int.reduceMul, Int.reduceBEq, Int.reduceEq, Int.reduceLT, Int.reduceLE, Int.reduceToNat, Int.reduceNeg, Int.reduceBNe, encDk, bne_self_eq_false, List.map_nil, List.length_nil, s0, s1, s5, g5, b5, s7, g7, b7, s8, askIdx_map, h2, hpt, hw.len, encS, aSt, List.length_map]
      refine ⟨by decide +kernel, by omega, ?_⟩
      simp -implicitDefEqProofs only [↓aP, aQ, ↓reduceIte, Nat.reduceEqDiff, Nat.reduceAdd, Nat.reduceSub, Nat.reduceMul, Nat.reduceLT, Nat.reduceLeDiff, reduceCtorEq, Nat.reduceBEq, forall_const, implies_true, exists_const, ne_eq, Int.reduceAdd, Int.reduceSub, Int.reduceMul, Int.reduceBEq, Int.reduceEq, Int.reduceLT, Int.reduceLE, Int.reduceToNat, Int.reduceNeg, Int.reduceBNe, s0, s1, s5, g5, b5, s7, g7, b7, s8, askIdx_map, hpt, aSt, encS, List.length_map, wrapS (show i < 4611686018427387904 by omega)]
      refine ⟨by decide +kernel, m - 1, by omega, Jn.s4 s p xs[i], T.set p xs[i], i + 1, wants_put hw ⟨hp1, hp16⟩ hx, by omega, ?_⟩
      simp -implicitDefEqProofs only [↓aP, aQ, ↓reduceIte, Nat.reduceEqDiff, Nat.reduceAdd, Nat.reduceSub, Nat.reduceMul, Nat.reduceLT, Nat.reduceLeDiff, reduceCtorEq, Nat.reduceBEq, forall_const, implies_true, exists_const, ne_eq, Int.reduceAdd, Int.reduceSub, Int.reduceMul, Int.reduceBEq, Int.reduceEq, Int.reduceLT, Int.reduceLE, Int.reduceToNat, Int.reduceNeg, Int.reduceBNe, s0, s1, s5, g5, b5, s7, g7, b7, s8, encDk, List.map_nil]
      exact congrArg (LB.box _ 1) hset
    case neg =>
      apply with_tail (F := fun σ => ∃ j : Int, j = 1 ∧ σ.slot 5 = .c (.ptr 5 1 0 0) ∧ σ.h.gen 5 = 1 ∧ σ.h.blk 5 = .box 68 2 [(encDk ⟨s, []⟩).map AC.s] ∧ σ.slot 7 = .c (.ptr 7 1 0 0) ∧ σ.h.gen 7 = 1 ∧ σ.h.blk 7 = .box 94 1 (T.map aSt) ∧ σ.slot 12 = vI j)
      case h1 =>
        intro tail
        by_cases c1 : i < ps.length
        · by_cases c2 : i < xs.length
          · simp -implicitDefEqProofs only [↓aP, aQ, ↓reduceIte, Nat.reduceEqDiff, Nat.reduceAdd, Nat.reduceSub, Nat.reduceMul, Nat.reduceLT, Nat.reduceLeDiff, reduceCtorEq, Nat.reduceBEq, forall_const, implies_true, exists_const, ne_eq, Int.reduceAdd, Int.reduceSub, Int.reduceMul, Int.reduceBEq, Int.reduceEq, Int.reduceLT, Int.reduceLE, Int.reduceToNat, Int.reduceNeg, Int.reduceBNe, s0, s1, s5, g5, b5, s7, g7, b7, s8, List.length_map, show decide ((i : Int) < (ps.length : Int)) = true by simp; omega, show decide ((i : Int) < (xs.length : Int)) = true by simp; omega, show decide ((i : Int) < 30) = false by simp; omega]
            refine tail _ ⟨1, rfl, ?_⟩
            simp -implicitDefEqProofs only [↓aP, aQ, ↓reduceIte, Nat.reduceEqDiff, Nat.reduceAdd, Nat.reduceSub, Nat.reduceMul, Nat.reduceLT, Nat.reduceLeDiff, reduceCtorEq, Nat.reduceBEq, forall_const, implies_true, exists_const, ne_eq, Int.reduceAdd, Int.reduceSub, Int.reduceMul, Int.reduceBEq, Int.reduceEq, Int.reduceLT, Int.reduceLE, Int.reduceToNat, Int.reduceNeg, Int.reduceBNe, s0, s1, s5, g5, b5, s7, g7, b7, s8]
          · simp -implicitDefEqProofs only [↓aP, aQ, ↓reduceIte, Nat.reduceEqDiff, Nat.reduceAdd, Nat.reduceSub, Nat.reduceMul, Nat.reduceLT, Nat.reduceLeDiff, reduceCtorEq, Nat.reduceBEq, forall_const, implies_true, exists_const, ne_eq, Int.reduceAdd, Int.reduceSub, Int.reduceMul, Int.reduceBEq, Int.reduceEq, Int.reduceLT, Int.reduceLE, Int.reduceToNat, Int.reduceNeg, Int.reduceBNe, s0, s1, s5, g5, b5, s7, g7, b7, s8, List.length_map, show decide ((i : Int) < (ps.length : Int)) = true by simp; omega, show decide ((i : Int) < (xs.length : Int)) = false by simp; omega]
            refine tail _ ⟨1, rfl, ?_⟩
            simp -implicitDefEqProofs only [↓aP, aQ, ↓reduceIte, Nat.reduceEqDiff, Nat.reduceAdd, Nat.reduceSub, Nat.reduceMul, Nat.reduceLT, Nat.reduceLeDiff, reduceCtorEq, Nat.reduceBEq, forall_const, implies_true, exists_const, ne_eq, Int.reduceAdd, Int.reduceSub, Int.reduceMul, Int.reduceBEq, Int.reduceEq, Int.reduceLT, Int.reduceLE, Int.reduceToNat, Int.reduceNeg, Int.reduceBNe, s0, s1, s5, g5, b5, s7, g7, b7, s8]
        · simp -implicitDefEqProofs only [↓aP, aQ, ↓reduceIte, Nat.reduceEqDiff, Nat.reduceAdd, Nat.reduceSub, Nat.reduceMul, Nat.reduceLT, Nat.reduceLeDiff, reduceCtorEq, Nat.reduceBEq, forall_const, implies_true, exists_const, ne_eq, Int.reduceAdd, Int.reduceSub, Int.reduceMul, Int.reduceBEq, Int.reduceEq, Int.reduceLT, Int.reduceLE, Int.reduceToNat, Int.reduceNeg, Int.reduceBNe, s0, s1, s5, g5, b5, s7, g7, b7, s8, List.length_map, show decide ((i : Int) < (ps.length : Int)) = false by simp; omega]
          refine tail _ ⟨1, rfl, ?_⟩
          simp -implicitDefEqProofs only [↓aP, aQ, ↓reduceIte, Nat.reduceEqDiff, Nat.reduceAdd, Nat.reduceSub, Nat.reduceMul, Nat.reduceLT, Nat.reduceLeDiff, reduceCtorEq, Nat.reduceBEq, forall_const, implies_true, exists_const, ne_eq, Int.reduceAdd, Int.reduceSub, Int.reduceMul, Int.reduceBEq, Int.reduceEq, Int.reduceLT, Int.reduceLE, Int.reduceToNat, Int.reduceNeg, Int.reduceBNe, s0, s1, s5, g5, b5, s7, g7, b7, s8]
      case h2 =>
        clear s0 s1 s5 g5 b5 s7 g7 b7 s8 h1
        rintro σ ⟨j, hj, s5, g5, b5, s7, g7, b7, s12⟩
        refine loopA (fun m σ => ∃ j : Int, j = 17 - (m : Int) ∧ m ≤ 16 ∧ σ.slot 5 = .c (.ptr 5 1 0 0) ∧ σ.h.gen 5 = 1 ∧ σ.h.blk 5 = .box 68 2 [(encDk ⟨s, []⟩).map AC.s] ∧ σ.slot 7 = .c (.ptr 7 1 0 0) ∧ σ.h.gen 7 = 1 ∧ σ.h.blk 7 = .box 94 1 (T.map aSt) ∧ σ.slot 12 = vI j) 16 ⟨j, by omega, by omega, s5, g5, b5, s7, g7, b7, s12⟩ ?_
        clear hj s5 g5 b5 s7 g7 b7 s12
        rintro k σ ⟨j, hj, hk, s5, g5, b5, s7, g7, b7, s12⟩
        by_cases hk0 : k = 0
        · subst hk0
          simp -implicitDefEqProofs only [↓aP, aQ, ↓reduceIte, Nat.reduceEqDiff, Nat.reduceAdd, Nat.reduceSub, Nat.reduceMul, Nat.reduceLT, Nat.reduceLeDiff, reduceCtorEq, Nat.reduceBEq, forall_const, implies_true, exists_const, ne_eq, Int.reduceAdd, Int.reduceSub, Int.reduceMul, Int.reduceBEq, Int.reduceEq, Int.reduceLT, Int.reduceLE, Int.reduceToNat, Int.reduceNeg, Int.reduceBNe, s5, g5, b5, s7, g7, b7, s12, show decide (j ≤ 16) = false by simp; omega, encDk]
          refine ask (by have := repair_spec ⟨s, []⟩; rw [Jn.repair_idle Jn.h35 hw.ok Jn.cok_nil hw.zero] at this; exact this) ?_
          simp -implicitDefEqProofs only [↓aP, aQ, ↓reduceIte, Nat.reduceEqDiff, Nat.reduceAdd, Nat.reduceSub, Nat.reduceMul, Nat.reduceLT, Nat.reduceLeDiff, reduceCtorEq, Nat.reduceBEq, forall_const, implies_true, exists_const, ne_eq, Int.reduceAdd, Int.reduceSub, Int.reduceMul, Int.reduceBEq, Int.reduceEq, Int.reduceLT, Int.reduceLE, Int.reduceToNat, Int.reduceNeg, Int.reduceBNe, List.map_nil, List.length_nil]
          refine ask awake_spec ?_
          simp -implicitDefEqProofs only [↓aP, aQ, ↓reduceIte, Nat.reduceEqDiff, Nat.reduceAdd, Nat.reduceSub, Nat.reduceMul, Nat.reduceLT, Nat.reduceLeDiff, reduceCtorEq, Nat.reduceBEq, forall_const, implies_true, exists_const, ne_eq, Int.reduceAdd, Int.reduceSub, Int.reduceMul, Int.reduceBEq, Int.reduceEq, Int.reduceLT, Int.reduceLE, Int.reduceToNat, Int.reduceNeg, Int.reduceBNe]
        obtain ⟨q, hq, hq1, hq16⟩ : ∃ q : Nat, j = (q : Int) ∧ 1 ≤ q ∧ q ≤ 16 := ⟨j.toNat, by omega, by omega, by omega⟩
        subst hq
        have hqt : q < T.length := by rw [hw.len]; omega
        have hgs := Jn.get_sec Jn.h35 hw.ok (q := q) (by omega)
        have hall := hw.all q hqt hq1
        have w1 : IntKind.i64.wrap ((q : Int) + 1) = (q : Int) + 1 := wrapI (by omega)
        simp -implicitDefEqProofs only [↓aP, aQ, ↓reduceIte, Nat.reduceEqDiff, Nat.reduceAdd, Nat.reduceSub, Nat.reduceMul, Nat.reduceLT, Nat.reduceLeDiff, reduceCtorEq, Nat.reduceBEq, forall_const, implies_true, exists_const, ne_eq, Int.reduceAdd, Int.reduceSub, Int.reduceMul, Int.reduceBEq, Int.reduceEq, Int.reduceLT, Int.reduceLE, Int.reduceToNat, Int.reduceNeg, Int.reduceBNe, s5, g5, b5, s7, g7, b7, s12, show decide ((q : Int) ≤ 16) = true by simp; omega, encDk]
        refine ask (jget_spec ⟨s, []⟩ q) ?_
        have h0 : (Jn.getM ⟨s, []⟩ q).2 = 0 := by rw [hgs]
        simp -implicitDefEqProofs only [↓aP, aQ, ↓reduceIte, Nat.reduceEqDiff, Nat.reduceAdd, Nat.reduceSub, Nat.reduceMul, Nat.reduceLT, Nat.reduceLeDiff, reduceCtorEq, Nat.reduceBEq, forall_const, implies_true, exists_const, ne_eq, Int.reduceAdd, Int.reduceSub, Int.reduceMul, Int.reduceBEq, Int.reduceEq, Int.reduceLT, Int.reduceLE, Int.reduceToNat, Int.reduceNeg, Int.reduceBNe, h0, bne_self_eq_false, s5, g5, b5, s7, g7, b7, s12]
        refine ⟨by omega, ?_⟩
        simp -implicitDefEqProofs only [↓aP, aQ, ↓reduceIte, Nat.reduceEqDiff, Nat.reduceAdd, Nat.reduceSub, Nat.reduceMul, Nat.reduceLT, Nat.reduceLeDiff, reduceCtorEq, Nat.reduceBEq, forall_const, implies_true, exists_const, ne_eq, Int.reduceAdd, Int.reduceSub, Int.reduceMul, Int.reduceBEq, Int.reduceEq, Int.reduceLT, Int.reduceLE, Int.reduceToNat, Int.reduceNeg, Int.reduceBNe, askIdx_map, hqt, aSt, encS, tl_beq]
        by_cases hne : T[q] = ⟨#[]⟩
        · simp -implicitDefEqProofs only [↓aP, aQ, ↓reduceIte, Nat.reduceEqDiff, Nat.reduceAdd, Nat.reduceSub, Nat.reduceMul, Nat.reduceLT, Nat.reduceLeDiff, reduceCtorEq, Nat.reduceBEq, forall_const, implies_true, exists_const, ne_eq, Int.reduceAdd, Int.reduceSub, Int.reduceMul, Int.reduceBEq, Int.reduceEq, Int.reduceLT, Int.reduceLE, Int.reduceToNat, Int.reduceNeg, Int.reduceBNe, decide_eq_true hne, Bool.not_true, s5, g5, b5, s7, g7, b7, s12, w1, encDk]
          refine ⟨k - 1, by omega, (q : Int) + 1, by omega, by omega, ?_⟩
          simp -implicitDefEqProofs only [↓aP, aQ, ↓reduceIte, Nat.reduceEqDiff, Nat.reduceAdd, Nat.reduceSub, Nat.reduceMul, Nat.reduceLT, Nat.reduceLeDiff, reduceCtorEq, Nat.reduceBEq, forall_const, implies_true, exists_const, ne_eq, Int.reduceAdd, Int.reduceSub, Int.reduceMul, Int.reduceBEq, Int.reduceEq, Int.reduceLT, Int.reduceLE, Int.reduceToNat, Int.reduceNeg, Int.reduceBNe, s5, g5, b5, s7, g7, b7, s12, encDk]
        · simp -implicitDefEqProofs only [↓aP, aQ, ↓reduceIte, Nat.reduceEqDiff, Nat.reduceAdd, Nat.reduceSub, Nat.reduceMul, Nat.reduceLT, Nat.reduceLeDiff, reduceCtorEq, Nat.reduceBEq, forall_const, implies_true, exists_const, ne_eq, Int.reduceAdd, Int.reduceSub, Int.reduceMul, Int.reduceBEq, Int.reduceEq, Int.reduceLT, Int.reduceLE, Int.reduceToNat, Int.reduceNeg, Int.reduceBNe, decide_eq_false hne, Bool.not_false, s5, g5, b5, s7, g7, b7, s12, hw.len]
          refine ⟨by omega, ?_⟩
          have he : (Jn.getM ⟨s, []⟩ (q : Int)).1 = T[q] := by rw [hall hne]
          simp -implicitDefEqProofs only [↓aP, aQ, ↓reduceIte, Nat.reduceEqDiff, Nat.reduceAdd, Nat.reduceSub, Nat.reduceMul, Nat.reduceLT, Nat.reduceLeDiff, reduceCtorEq, Nat.reduceBEq, forall_const, implies_true, exists_const, ne_eq, Int.reduceAdd, Int.reduceSub, Int.reduceMul, Int.reduceBEq, Int.reduceEq, Int.reduceLT, Int.reduceLE, Int.reduceToNat, Int.reduceNeg, Int.reduceBNe, askIdx_map, hqt, aSt, encS, tl_beq, he, decide_true, Bool.not_true, s5, g5, b5, s7, g7, b7, s12, w1, encDk]
          refine ⟨k - 1, by omega, (q : Int) + 1, by omega, by omega, ?_⟩
          simp -implicitDefEqProofs only [↓aP, aQ, ↓reduceIte, Nat.reduceEqDiff, Nat.reduceAdd, Nat.reduceSub, Nat.reduceMul, Nat.reduceLT, Nat.reduceLeDiff, reduceCtorEq, Nat.reduceBEq, forall_const, implies_true, exists_const, ne_eq, Int.reduceAdd, Int.reduceSub, Int.reduceMul, Int.reduceBEq, Int.reduceEq, Int.reduceLT, Int.reduceLE, Int.reduceToNat, Int.reduceNeg, Int.reduceBNe, s5, g5, b5, s7, g7, b7, s12, encDk]
open Go.ChangeShapes Go.WideShapes in
theorem u8_of {k : Int} (h : (Lit.int .u8 k).wf = true) : 0 ≤ k ∧ k ≤ 255 := by
  simpa [Lit.wf, IntKind.min, IntKind.max, IntKind.signed, IntKind.bits] using h
open Go.ChangeShapes Go.WideShapes in
set_option maxRecDepth 100000 in
theorem open_us {H : Type} {enc : TypeId × Value → H} {w : World} {spare : Nat → Bool} {held : Bool} {r : Reach} {b0 : Nat} {v : Value} {d : DataW H} {p : List MemPlace} 
    (hv : Value.okWide Try.prog w r b0 92 v) (h : DataW.Trod enc Try.prog w 0 spare held 92 v d p) : ∃ A : List Int, ((∀ p ∈ A, 0 ≤ p ∧ p ≤ 255) ∧ A.length ≤ maxLen) ∧ RepT (RepS w fun _ => False) (rL 1 (A.map encU)) v := by
  obtain ⟨y, ⟨els, e1, e2, e3⟩, h2⟩ := open_one (opens_slice Try.underlying92 (by kernel_rfl) (by decide) (opens_int Try.underlying5 (by kernel_rfl))) (slice_cells Try.underlying92 hv) h
  simp only [List.cons.injEq, and_true] at e1
  subst e1
  obtain ⟨A, rfl, hA⟩ := all_of_mem2 (f := encU) (p := fun p => 0 ≤ p ∧ p ≤ 255) (fun y hy => by
    obtain ⟨n, hn, hw⟩ := e2 y hy
    exact ⟨n, hn, u8_of hw⟩)
  exact ⟨A, ⟨hA, by simpa using e3⟩, h2⟩
open Go.ChangeShapes Go.WideShapes in
set_option maxRecDepth 100000 in
theorem open_strs {H : Type} {enc : TypeId × Value → H} {w : World} {spare : Nat → Bool} {held : Bool} {r : Reach} {b0 : Nat} {v : Value} {d : DataW H} {p : List MemPlace} 
    (hv : Value.okWide Try.prog w r b0 65 v) (h : DataW.Trod enc Try.prog w 0 spare held 65 v d p) : ∃ A : List ByteArray, A.length ≤ maxLen ∧ RepT (RepS w fun _ => False) (rL 1 (A.map encS)) v := by
  obtain ⟨y, ⟨els, e1, e2, e3⟩, h2⟩ := open_one (opens_slice Try.underlying65 (by kernel_rfl) (by decide) (opens_str Try.underlying9 (by kernel_rfl))) (slice_cells Try.underlying65 hv) h
  simp only [List.cons.injEq, and_true] at e1
  subst e1
  obtain ⟨A, rfl⟩ := all_of_mem (f := encS) (fun y hy => by obtain ⟨n, hn, _⟩ := e2 y hy; exact ⟨n, hn⟩)
  exact ⟨A, by simpa using e3, h2⟩
theorem journalMany_walk {w : World} (v0 : Value) (a0 : ∃ A : List Int, ((∀ p ∈ A, 0 ≤ p ∧ p ≤ 255) ∧ A.length ≤ maxLen) ∧ RepT (RepS w fun _ => False) (rL 1 (A.map encU)) v0) (v1 : Value) (a1 : ∃ A : List ByteArray, A.length ≤ maxLen ∧ RepT (RepS w fun _ => False) (rL 1 (A.map encS)) v1) :
    Calls Try.prog 11 #[v0, v1] w fun e w' => e = .returned (.bool true) ∧ Below w.heap.size w w' := by
  obtain ⟨A, ⟨h1, h2⟩, h0⟩ := a0
  obtain ⟨X, h3, h4⟩ := a1
  exact (law_many A h1 X (by unfold maxLen at h2; omega) (by unfold maxLen at h3; omega)).plain (us := [v0, v1]) (.cons h0 (.cons h4 .nil))
end Go.Proofs.Yteghmlafodkfpaa
