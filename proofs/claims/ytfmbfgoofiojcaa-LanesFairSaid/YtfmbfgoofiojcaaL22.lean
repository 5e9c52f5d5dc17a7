/- THE STATEMENT LanesFair: its walk. -/
import Derived.Test.YtfmbfgoofiojcaaL18
import Derived.Test.YtfmbfgoofiojcaaL21
namespace Go.Proofs.Ytfmbfgoofiojcaa
open Go.RowKit Lk Go.ChangeShapes Go.WideShapes
set_option linter.unusedVariables false
set_option linter.unusedSimpArgs false
set_option maxRecDepth 10000
def Sf (W : List Int) (i : Nat) (x : Ls) (S : List Int) : Prop := right x = true ∧ weights x = W ∧ x.l.length = W.length ∧ S.length = W.length ∧ (∀ c ∈ costs x, 150 - i ≤ c.length) ∧ (∀ s ∈ S, 0 ≤ s ∧ s ≤ 8 * (i : Int)) ∧ (∃ r, Lk.Fair x r S) ∧ Giv x



theorem lawFair_spec (U : List Int) (K : List (List Int)) (st : Int) (hU : U8 U) (hK : ∀ r ∈ K, U8 r) (hst : 0 ≤ st ∧ st ≤ 255) : Spec Try.prog 4 [rL 1 (U.map encU), rL 1 (K.map encRw), .c (.pv (.int .u8 st))] (.val (rB true)) := by
  refine spec_val mixed fn4 (by simp) ?_
  unfold ac4
  simp -implicitDefEqProofs only [↓aP, aQ, ↓reduceIte, Nat.reduceEqDiff, Nat.reduceAdd, Nat.reduceSub, Nat.reduceMul, Nat.reduceLT, Nat.reduceLeDiff, reduceCtorEq, Nat.reduceBEq, forall_const, implies_true, exists_const, ne_eq, Int.reduceAdd, Int.reduceSub, Int.reduceMul, Int.reduceBEq, Int.reduceEq, Int.reduceLT, Int.reduceLE, Int.reduceToNat, Int.reduceNeg, Int.reduceBNe]
  refine ask (filled_spec U K hU hK) ?_
  have hWn := wts_ok hU
  obtain ⟨W, hW⟩ : ∃ W, W = wts U := ⟨_, rfl⟩
  rw [← hW] at hWn ⊢
  have hW6 : 1 ≤ W.length ∧ W.length ≤ 6 := by
    unfold okNew at hWn
    simp only [Bool.and_eq_true, decide_eq_true_eq] at hWn
    exact hWn.1
  obtain ⟨N, hN⟩ : ∃ N : Nat, st.tmod 101 = N := ⟨(st.tmod 101).toNat, by rw [Int.tmod_eq_emod_of_nonneg hst.1]; omega⟩
  have hN100 : N ≤ 100 := by rw [Int.tmod_eq_emod_of_nonneg hst.1] at hN; omega
  simp -implicitDefEqProofs only [↓aP, aQ, ↓reduceIte, Nat.reduceEqDiff, Nat.reduceAdd, Nat.reduceSub, Nat.reduceMul, Nat.reduceLT, Nat.reduceLeDiff, reduceCtorEq, Nat.reduceBEq, forall_const, implies_true, exists_const, ne_eq, Int.reduceAdd, Int.reduceSub, Int.reduceMul, Int.reduceBEq, Int.reduceEq, Int.reduceLT, Int.reduceLE, Int.reduceToNat, Int.reduceNeg, Int.reduceBNe, encFl, encLs, List.length_map, hN]
  refine ⟨by omega, by omega, ?_⟩
  refine rangeB N (fun i σ => ∃ x S, Sf W i x S ∧ σ.slot 7 = .c (.ptr 7 1 0 0) ∧ σ.h.gen 7 = 1 ∧ σ.h.blk 7 = .box 25 3 [(encLs x).map AC.s] ∧ σ.slot 8 = vL 1 (W.map encI) ∧ σ.slot 10 = .c (.own 28 1) ∧ σ.h.gen 28 = 1 ∧ σ.h.blk 28 = .row 3 1 (S.map encI) ∧ σ.slot 30 = .c (.s (.pv (.int .u8 (N : Int)))) ∧ σ.slot 31 = .c (.s (.pv (.int .u8 (i : Int))))) ?_ ?_ ?_
  · refine ⟨fillL W K W.length 0, List.replicate W.length 0, ⟨fill_right hWn hK (by omega), fill_weights, fill_len, by simp, fun c hc => by have := fill_costs c hc; omega, fun s hs => by rw [List.eq_of_mem_replicate hs]; omega, ⟨0, fun j hj => ?_⟩, fun hg => by simp [fillL] at hg⟩, ?_⟩
    · have e0 : sh (fillL W K W.length 0) 0 j = 0 := if_neg (by simp [fillL])
      rw [e0, fill_get]
      simp [List.getD_eq_getElem?_getD, List.getElem?_replicate]
      split <;> rfl
    · simp -implicitDefEqProofs only [↓aP, aQ, ↓reduceIte, Nat.reduceEqDiff, Nat.reduceAdd, Nat.reduceSub, Nat.reduceMul, Nat.reduceLT, Nat.reduceLeDiff, reduceCtorEq, Nat.reduceBEq, forall_const, implies_true, exists_const, ne_eq, Int.reduceAdd, Int.reduceSub, Int.reduceMul, Int.reduceBEq, Int.reduceEq, Int.reduceLT, Int.reduceLE, Int.reduceToNat, Int.reduceNeg, Int.reduceBNe, encLs, List.map_replicate, encI]
  · rintro i m σ him hi hlt ⟨x, S, ⟨hrx, hwx, hlx, hSl, hcx, hSb, ⟨r, hfr⟩, hgv⟩, s7, g7, b7, s8, s10, g28, b28, s30, s31⟩
    obtain ⟨x', k, c, n1, n2, n3, n4, n5, n6, n7, n8, n9⟩ := next_step hrx (by omega) (fun c hc => by have := hcx c hc; omega)
    have hwt : waits x = true := by
      cases hh : waits x
      · rw [next_none hh] at n1; simp at n1
      · rfl
    obtain ⟨⟨r2, hf2⟩, hg2⟩ := next_fair hrx (fun c hc => by have := hcx c hc; omega) hwt n1 (by omega) hfr hgv
    have hnx := lNext_spec x (right_small hrx)
    rw [n1] at hnx
    have hkS : k < S.length := by omega
    have hkW : k < W.length := by omega
    have d1 : decide ((k : Int) < 0) = false := by simp
    have d2 : decide ((W.length : Int) ≤ (k : Int)) = false := by simp; omega
    have d3 : decide (c < 1) = false := by simp; omega
    have d4 : decide ((8 : Int) < c) = false := by simp; omega
    obtain ⟨sb1, sb2⟩ := hSb _ (List.getElem_mem hkS)
    have w1 : IntKind.i64.wrap (S[k] + c) = S[k] + c := wrapI (by omega)
    obtain ⟨T, hT⟩ : ∃ T, T = S.set k (S[k] + c) := ⟨_, rfl⟩
    have hTl : T.length = W.length := by rw [hT]; simpa using hSl
    have hTb : ∀ s ∈ T, 0 ≤ s ∧ s ≤ 8 * ((i + 1 : Nat) : Int) := by
      intro s hs
      rw [hT] at hs
      rcases List.mem_or_eq_of_mem_set hs with h | h
      · have := hSb s h; omega
      · rw [h]; omega
    rw [show S.getD k 0 = S[k] by rw [List.getD_eq_getElem?_getD, List.getElem?_eq_getElem hkS]; rfl, ← hT] at hf2
    have u1 : IntKind.u8.wrap ((i : Int) + 1) = ((i + 1 : Nat) : Int) := by
      unfold IntKind.wrap
      simp [IntKind.bits, IntKind.signed]
      omega
    have hmapT : (S.map encI).set k [.pv (.int .i64 (S[k] + c))] = T.map encI := by rw [hT, List.map_set]; rfl
    simp -implicitDefEqProofs only [↓aP, aQ, ↓reduceIte, Nat.reduceEqDiff, Nat.reduceAdd, Nat.reduceSub, Nat.reduceMul, Nat.reduceLT, Nat.reduceLeDiff, reduceCtorEq, Nat.reduceBEq, forall_const, implies_true, exists_const, ne_eq, Int.reduceAdd, Int.reduceSub, Int.reduceMul, Int.reduceBEq, Int.reduceEq, Int.reduceLT, Int.reduceLE, Int.reduceToNat, Int.reduceNeg, Int.reduceBNe, hlt, s7, g7, b7, s8, s10, g28, b28, s30, s31, encLs]
    refine ask hnx ?_
    simp -implicitDefEqProofs only [↓aP, aQ, ↓reduceIte, Nat.reduceEqDiff, Nat.reduceAdd, Nat.reduceSub, Nat.reduceMul, Nat.reduceLT, Nat.reduceLeDiff, reduceCtorEq, Nat.reduceBEq, forall_const, implies_true, exists_const, ne_eq, Int.reduceAdd, Int.reduceSub, Int.reduceMul, Int.reduceBEq, Int.reduceEq, Int.reduceLT, Int.reduceLE, Int.reduceToNat, Int.reduceNeg, Int.reduceBNe, encN, encLs, s7, g7, b7, s8, s10, g28, b28, s30, s31, d1, d2, d3, d4, List.length_map, askIdx_map, hkS, hkW, encI, w1]
    refine rangeB W.length (fun p σ => σ.slot 7 = .c (.ptr 7 1 0 0) ∧ σ.h.gen 7 = 1 ∧ σ.h.blk 7 = .box 25 3 [(encLs x').map AC.s] ∧ σ.slot 8 = vL 1 (W.map encI) ∧ σ.slot 10 = .c (.own 28 1) ∧ σ.h.gen 28 = 1 ∧ σ.h.blk 28 = .row 3 1 (T.map encI) ∧ σ.slot 30 = .c (.s (.pv (.int .u8 (N : Int)))) ∧ σ.slot 31 = .c (.s (.pv (.int .u8 (i : Int)))) ∧ σ.slot 69 = vI W.length ∧ σ.slot 70 = vI p) ?_ ?_ ?_
    · simp -implicitDefEqProofs only [↓aP, aQ, ↓reduceIte, Nat.reduceEqDiff, Nat.reduceAdd, Nat.reduceSub, Nat.reduceMul, Nat.reduceLT, Nat.reduceLeDiff, reduceCtorEq, Nat.reduceBEq, forall_const, implies_true, exists_const, ne_eq, Int.reduceAdd, Int.reduceSub, Int.reduceMul, Int.reduceBEq, Int.reduceEq, Int.reduceLT, Int.reduceLE, Int.reduceToNat, Int.reduceNeg, Int.reduceBNe, s7, g7, b7, s8, s10, g28, b28, s30, s31, encLs, hmapT]
    · rintro p m2 σ2 hpm hp hplt ⟨s7, g7, b7, s8, s10, g28, b28, s30, s31, s69, s70⟩
      simp -implicitDefEqProofs only [↓aP, aQ, ↓reduceIte, Nat.reduceEqDiff, Nat.reduceAdd, Nat.reduceSub, Nat.reduceMul, Nat.reduceLT, Nat.reduceLeDiff, reduceCtorEq, Nat.reduceBEq, forall_const, implies_true, exists_const, ne_eq, Int.reduceAdd, Int.reduceSub, Int.reduceMul, Int.reduceBEq, Int.reduceEq, Int.reduceLT, Int.reduceLE, Int.reduceToNat, Int.reduceNeg, Int.reduceBNe, hplt, s7, g7, b7, s8, s10, g28, b28, s30, s31, s69, s70, List.length_map]
      refine rangeB W.length (fun q σ => σ.slot 7 = .c (.ptr 7 1 0 0) ∧ σ.h.gen 7 = 1 ∧ σ.h.blk 7 = .box 25 3 [(encLs x').map AC.s] ∧ σ.slot 8 = vL 1 (W.map encI) ∧ σ.slot 10 = .c (.own 28 1) ∧ σ.h.gen 28 = 1 ∧ σ.h.blk 28 = .row 3 1 (T.map encI) ∧ σ.slot 30 = .c (.s (.pv (.int .u8 (N : Int)))) ∧ σ.slot 31 = .c (.s (.pv (.int .u8 (i : Int)))) ∧ σ.slot 69 = vI W.length ∧ σ.slot 70 = vI p ∧ σ.slot 15 = vI p ∧ σ.slot 74 = vI W.length ∧ σ.slot 75 = vI q) ?_ ?_ ?_
      · simp -implicitDefEqProofs only [↓aP, aQ, ↓reduceIte, Nat.reduceEqDiff, Nat.reduceAdd, Nat.reduceSub, Nat.reduceMul, Nat.reduceLT, Nat.reduceLeDiff, reduceCtorEq, Nat.reduceBEq, forall_const, implies_true, exists_const, ne_eq, Int.reduceAdd, Int.reduceSub, Int.reduceMul, Int.reduceBEq, Int.reduceEq, Int.reduceLT, Int.reduceLE, Int.reduceToNat, Int.reduceNeg, Int.reduceBNe, s7, g7, b7, s8, s10, g28, b28, s30, s31, s69, s70]
      · rintro q m3 σ3 hqm hq hqlt ⟨s7, g7, b7, s8, s10, g28, b28, s30, s31, s69, s70, s15, s74, s75⟩
        have hpT : p < T.length := by omega
        have hqT : q < T.length := by omega
        have hWx : ∀ j (h : j < W.length), W[j] = (x'.l[j]'(by omega)).w := by
          intro j hj
          have h1 : (weights x')[j]? = some (x'.l[j]'(by omega)).w := by unfold weights; rw [List.getElem?_map, List.getElem?_eq_getElem (by omega)]; rfl
          rw [n7, hwx, List.getElem?_eq_getElem hj] at h1
          simpa using h1
        have hbd := fair_bound n2 hf2 hg2 (i := p) (j := q) (by omega) (by omega)
        rw [← hWx p hp, ← hWx q hq, List.getD_eq_getElem?_getD, List.getD_eq_getElem?_getD, List.getElem?_eq_getElem hpT, List.getElem?_eq_getElem hqT] at hbd
        simp only [Option.getD_some] at hbd
        have wb : ∀ j (h : j < W.length), 1 ≤ W[j] ∧ W[j] ≤ 8 := by
          intro j hj
          rw [hWx j hj]
          exact okW_iff.1 (okL_iff.1 ((right_iff.1 n2).2 j (by omega))).1
        have tp := hTb _ (List.getElem_mem hpT)
        have tq := hTb _ (List.getElem_mem hqT)
        have wp := wb p hp
        have wq := wb q hq
        have mul8 : ∀ a b : Int, 0 ≤ a → a ≤ 1000 → 1 ≤ b → b ≤ 8 → 0 ≤ a * b ∧ a * b ≤ 8000 := by
          intro a b h1 h2 h3 h4
          refine ⟨Int.mul_nonneg h1 (by omega), ?_⟩
          have e1 : a * b ≤ 1000 * b := Int.mul_le_mul_of_nonneg_right h2 (by omega)
          omega
        have b1 := mul8 T[p] W[q] tp.1 (by omega) wq.1 wq.2
        have b2 := mul8 T[q] W[p] tq.1 (by omega) wp.1 wp.2
        have b3 := mul8 W[p] W[q] (by omega) (by omega) wq.1 wq.2
        have x1 : IntKind.i64.wrap (T[p] * W[q]) = T[p] * W[q] := wrapI (by omega)
        have x2 : IntKind.i64.wrap (T[q] * W[p]) = T[q] * W[p] := wrapI (by omega)
        have x3 : IntKind.i64.wrap (T[p] * W[q] - T[q] * W[p]) = T[p] * W[q] - T[q] * W[p] := wrapI (by omega)
        have x4 : IntKind.i64.wrap (W[p] * W[q]) = W[p] * W[q] := wrapI (by omega)
        have x5 : IntKind.i64.wrap (W[p] * W[q] * 4) = W[p] * W[q] * 4 := wrapI (by omega)
        have x6 : IntKind.i64.wrap (7 * W[p]) = 7 * W[p] := wrapI (by omega)
        have x7 : IntKind.i64.wrap (W[p] * W[q] * 4 + 7 * W[p]) = W[p] * W[q] * 4 + 7 * W[p] := wrapI (by omega)
        have t1 : decide (W[p] * W[q] * 4 + 7 * W[p] < T[p] * W[q] - T[q] * W[p]) = false := decide_eq_false (by omega)
        simp -implicitDefEqProofs only [↓aP, aQ, ↓reduceIte, Nat.reduceEqDiff, Nat.reduceAdd, Nat.reduceSub, Nat.reduceMul, Nat.reduceLT, Nat.reduceLeDiff, reduceCtorEq, Nat.reduceBEq, forall_const, implies_true, exists_const, ne_eq, Int.reduceAdd, Int.reduceSub, Int.reduceMul, Int.reduceBEq, Int.reduceEq, Int.reduceLT, Int.reduceLE, Int.reduceToNat, Int.reduceNeg, Int.reduceBNe, hqlt, s7, g7, b7, s8, s10, g28, b28, s30, s31, s69, s70, s15, s74, s75, List.length_map, askIdx_map, hp, hq, hpT, hqT, encI, x1, x2, x3, x4, x5, x6, x7, t1]
        refine ⟨by decide +kernel, ?_⟩
        simp -implicitDefEqProofs only [↓aP, aQ, ↓reduceIte, Nat.reduceEqDiff, Nat.reduceAdd, Nat.reduceSub, Nat.reduceMul, Nat.reduceLT, Nat.reduceLeDiff, reduceCtorEq, Nat.reduceBEq, forall_const, implies_true, exists_const, ne_eq, Int.reduceAdd, Int.reduceSub, Int.reduceMul, Int.reduceBEq, Int.reduceEq, Int.reduceLT, Int.reduceLE, Int.reduceToNat, Int.reduceNeg, Int.reduceBNe, s7, g7, b7, s8, s10, g28, b28, s30, s31, s69, s70, s15, s74, s75, wrapS (show q < 4611686018427387904 by omega)]
        refine nextR hq hqm ?_
        simp -implicitDefEqProofs only [↓aP, aQ, ↓reduceIte, Nat.reduceEqDiff, Nat.reduceAdd, Nat.reduceSub, Nat.reduceMul, Nat.reduceLT, Nat.reduceLeDiff, reduceCtorEq, Nat.reduceBEq, forall_const, implies_true, exists_const, ne_eq, Int.reduceAdd, Int.reduceSub, Int.reduceMul, Int.reduceBEq, Int.reduceEq, Int.reduceLT, Int.reduceLE, Int.reduceToNat, Int.reduceNeg, Int.reduceBNe, s7, g7, b7, s8, s10, g28, b28, s30, s31, s69, s70, s15, s74, s75]
      · rintro m3 σ3 hqlt ⟨s7, g7, b7, s8, s10, g28, b28, s30, s31, s69, s70, s15, s74, s75⟩
        simp -implicitDefEqProofs only [↓aP, aQ, ↓reduceIte, Nat.reduceEqDiff, Nat.reduceAdd, Nat.reduceSub, Nat.reduceMul, Nat.reduceLT, Nat.reduceLeDiff, reduceCtorEq, Nat.reduceBEq, forall_const, implies_true, exists_const, ne_eq, Int.reduceAdd, Int.reduceSub, Int.reduceMul, Int.reduceBEq, Int.reduceEq, Int.reduceLT, Int.reduceLE, Int.reduceToNat, Int.reduceNeg, Int.reduceBNe, hqlt, s7, g7, b7, s8, s10, g28, b28, s30, s31, s69, s70, s15, s74, s75, wrapS (show p < 4611686018427387904 by omega)]
        refine nextR hp hpm ?_
        simp -implicitDefEqProofs only [↓aP, aQ, ↓reduceIte, Nat.reduceEqDiff, Nat.reduceAdd, Nat.reduceSub, Nat.reduceMul, Nat.reduceLT, Nat.reduceLeDiff, reduceCtorEq, Nat.reduceBEq, forall_const, implies_true, exists_const, ne_eq, Int.reduceAdd, Int.reduceSub, Int.reduceMul, Int.reduceBEq, Int.reduceEq, Int.reduceLT, Int.reduceLE, Int.reduceToNat, Int.reduceNeg, Int.reduceBNe, s7, g7, b7, s8, s10, g28, b28, s30, s31, s69, s70, s15, s74, s75]
    · rintro m2 σ2 hplt ⟨s7, g7, b7, s8, s10, g28, b28, s30, s31, s69, s70⟩
      simp -implicitDefEqProofs only [↓aP, aQ, ↓reduceIte, Nat.reduceEqDiff, Nat.reduceAdd, Nat.reduceSub, Nat.reduceMul, Nat.reduceLT, Nat.reduceLeDiff, reduceCtorEq, Nat.reduceBEq, forall_const, implies_true, exists_const, ne_eq, Int.reduceAdd, Int.reduceSub, Int.reduceMul, Int.reduceBEq, Int.reduceEq, Int.reduceLT, Int.reduceLE, Int.reduceToNat, Int.reduceNeg, Int.reduceBNe, hplt, s7, g7, b7, s8, s10, g28, b28, s30, s31, s69, s70, u1]
      refine nextR hi him ⟨x', T, ⟨n2, n7.trans hwx, n5.trans hlx, hTl, n8 (150 - (i + 1)) (fun c2 hc2 => by have := hcx c2 hc2; omega), hTb, ⟨r2, hf2⟩, hg2⟩, ?_⟩
      simp -implicitDefEqProofs only [↓aP, aQ, ↓reduceIte, Nat.reduceEqDiff, Nat.reduceAdd, Nat.reduceSub, Nat.reduceMul, Nat.reduceLT, Nat.reduceLeDiff, reduceCtorEq, Nat.reduceBEq, forall_const, implies_true, exists_const, ne_eq, Int.reduceAdd, Int.reduceSub, Int.reduceMul, Int.reduceBEq, Int.reduceEq, Int.reduceLT, Int.reduceLE, Int.reduceToNat, Int.reduceNeg, Int.reduceBNe, s7, g7, b7, s8, s10, g28, b28, s30, s31, s69, s70, u1, encLs]
  · rintro m σ hlt ⟨x, S, hS, s7, g7, b7, s8, s10, g28, b28, s30, s31⟩
    simp -implicitDefEqProofs only [↓aP, aQ, ↓reduceIte, Nat.reduceEqDiff, Nat.reduceAdd, Nat.reduceSub, Nat.reduceMul, Nat.reduceLT, Nat.reduceLeDiff, reduceCtorEq, Nat.reduceBEq, forall_const, implies_true, exists_const, ne_eq, Int.reduceAdd, Int.reduceSub, Int.reduceMul, Int.reduceBEq, Int.reduceEq, Int.reduceLT, Int.reduceLE, Int.reduceToNat, Int.reduceNeg, Int.reduceBNe, hlt, s7, g7, b7, s8, s10, g28, b28, s30, s31]
    refine ask awake_spec ?_
    simp -implicitDefEqProofs only [↓aP, aQ, ↓reduceIte, Nat.reduceEqDiff, Nat.reduceAdd, Nat.reduceSub, Nat.reduceMul, Nat.reduceLT, Nat.reduceLeDiff, reduceCtorEq, Nat.reduceBEq, forall_const, implies_true, exists_const, ne_eq, Int.reduceAdd, Int.reduceSub, Int.reduceMul, Int.reduceBEq, Int.reduceEq, Int.reduceLT, Int.reduceLE, Int.reduceToNat, Int.reduceNeg, Int.reduceBNe]
theorem lanesFair_walk {w : World} (v0 : Value) (a0 : ∃ l : List Int, U8 l ∧ RepT (RepS w fun _ => False) (rL 1 (l.map encU)) v0) (v1 : Value) (a1 : ∃ K : List (List Int), ((∀ r ∈ K, U8 r) ∧ K.length ≤ maxLen ∧ ∀ r ∈ K, r.length ≤ maxLen) ∧ RepT (RepS w fun _ => False) (rL 1 (K.map encRw)) v1) (a : Int) (ha : (Lit.int .u8 a).wf = true) :
    Calls Try.prog 4 #[v0, v1, .int .u8 a] w fun e w' => e = .returned (.bool true) ∧ Below w.heap.size w w' := by
  obtain ⟨U, hU, h0⟩ := a0
  obtain ⟨K, hK, h1⟩ := a1
  exact (lawFair_spec U K a hU hK.1 (u8_of ha)).plain (us := [v0, v1, .int .u8 a]) (.cons h0 (.cons h1 (.cons (.pv rfl) .nil)))
end Go.Proofs.Ytfmbfgoofiojcaa
