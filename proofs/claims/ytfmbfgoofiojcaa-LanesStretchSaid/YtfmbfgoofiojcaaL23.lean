/- THE STATEMENT LanesStretch: its walk. -/
import Derived.Test.YtfmbfgoofiojcaaL18
import Derived.Test.YtfmbfgoofiojcaaL21
namespace Go.Proofs.Ytfmbfgoofiojcaa
open Go.RowKit Lk Go.ChangeShapes Go.WideShapes
set_option linter.unusedVariables false
set_option linter.unusedSimpArgs false
set_option maxRecDepth 10000
/-- behind i steps, of which these were served -/
def Sg (W : List Int) (i : Nat) (x : Ls) (V : List Int) : Prop := right x = true ∧ weights x = W ∧ x.l.length = W.length ∧ V.length = W.length ∧ (∀ c ∈ costs x, 150 - i ≤ c.length) ∧ (∃ r, Lk.Fair x r V) ∧ Giv x
theorem sg_start {W : List Int} {K : List (List Int)} (hWn : okNew W = true) (hK : ∀ r ∈ K, U8 r) : Sg W 0 (fillL W K W.length 0) (List.replicate W.length 0) := by
  have hW6 : 1 ≤ W.length ∧ W.length ≤ 6 := by
    unfold okNew at hWn
    simp only [Bool.and_eq_true, decide_eq_true_eq] at hWn
    exact hWn.1
  refine ⟨fill_right hWn hK (by omega), fill_weights, fill_len, by simp, fun c hc => by have := fill_costs c hc; omega, ⟨0, fun j hj => ?_⟩, fun hg => by simp [fillL] at hg⟩
  have e0 : sh (fillL W K W.length 0) 0 j = 0 := if_neg (by simp [fillL])
  rw [e0, fill_get]
  simp [List.getD_eq_getElem?_getD, List.getElem?_replicate]
  split <;> rfl
theorem sg_step {W : List Int} {i : Nat} {x : Ls} {V : List Int} (hW6 : 1 ≤ W.length ∧ W.length ≤ 6) (hi : i < 140) (h : Sg W i x V) :
    ∃ (x' : Ls) (k : Nat) (c : Int), nextI x = (x', (k : Int), c, true) ∧ k < W.length ∧ 1 ≤ c ∧ c ≤ 8 ∧ Sg W (i + 1) x' (V.set k (V.getD k 0 + c)) := by
  obtain ⟨hrx, hwx, hlx, hVl, hcx, ⟨r, hfr⟩, hgv⟩ := h
  obtain ⟨x', k, c, n1, n2, n3, n4, n5, n6, n7, n8, n9⟩ := next_step hrx (by omega) (fun c hc => by have := hcx c hc; omega)
  have hwt : waits x = true := by
    cases hh : waits x
    · rw [next_none hh] at n1; simp at n1
    · rfl
  obtain ⟨⟨r2, hf2⟩, hg2⟩ := next_fair hrx (fun c hc => by have := hcx c hc; omega) hwt n1 (by omega) hfr hgv
  refine ⟨x', k, c, n1, by omega, by omega, by omega, n2, n7.trans hwx, n5.trans hlx, by simpa using hVl, n8 (150 - (i + 1)) (fun c2 hc2 => by have := hcx c2 hc2; omega), ⟨r2, hf2⟩, hg2⟩
theorem sg_bound {W : List Int} {i : Nat} {x : Ls} {V : List Int} (h : Sg W i x V) {p q : Nat} (hp : p < W.length) (hq : q < W.length) :
    1 ≤ W[p] ∧ W[p] ≤ 8 ∧ V.getD p 0 * W[q] - V.getD q 0 * W[p] ≤ W[p] * W[q] * 4 + 7 * W[p] := by
  obtain ⟨hrx, hwx, hlx, hVl, hcx, ⟨r, hfr⟩, hgv⟩ := h
  have hWx : ∀ j (h : j < W.length), W[j] = (x.l[j]'(by omega)).w := by
    intro j hj
    have h1 : (weights x)[j]? = some (x.l[j]'(by omega)).w := by unfold weights; rw [List.getElem?_map, List.getElem?_eq_getElem (by omega)]; rfl
    rw [hwx, List.getElem?_eq_getElem hj] at h1
    simpa using h1
  have hbd := fair_bound hrx hfr hgv (i := p) (j := q) (by omega) (by omega)
  rw [← hWx p hp, ← hWx q hq] at hbd
  have wb := okW_iff.1 (okL_iff.1 ((right_iff.1 hrx).2 p (by omega))).1
  rw [← hWx p hp] at wb
  exact ⟨wb.1, wb.2, hbd⟩
/-- what was served since then -/
def Since (W V1 V T : List Int) (i : Nat) : Prop := T.length = W.length ∧ (∀ j, V.getD j 0 = V1.getD j 0 + T.getD j 0) ∧ ∀ s ∈ T, 0 ≤ s ∧ s ≤ 8 * (i : Int)




theorem lawStretch_spec (U : List Int) (K : List (List Int)) (ah st : Int) (hU : U8 U) (hK : ∀ r ∈ K, U8 r) (hah : 0 ≤ ah ∧ ah ≤ 255) (hst : 0 ≤ st ∧ st ≤ 255) : Spec Try.prog 5 [rL 1 (U.map encU), rL 1 (K.map encRw), .c (.pv (.int .u8 ah)), .c (.pv (.int .u8 st))] (.val (rB true)) := by
  refine spec_val mixed fn5 (by simp) ?_
  unfold ac5
  simp -implicitDefEqProofs only [↓aP, aQ, ↓reduceIte, Nat.reduceEqDiff, Nat.reduceAdd, Nat.reduceSub, Nat.reduceMul, Nat.reduceLT, Nat.reduceLeDiff, reduceCtorEq, Nat.reduceBEq, forall_const, implies_true, exists_const, ne_eq, Int.reduceAdd, Int.reduceSub, Int.reduceMul, Int.reduceBEq, Int.reduceEq, Int.reduceLT, Int.reduceLE, Int.reduceToNat, Int.reduceNeg, Int.reduceBNe]
  refine ask (filled_spec U K hU hK) ?_
  have hWn := wts_ok hU
  obtain ⟨W, hW⟩ : ∃ W, W = wts U := ⟨_, rfl⟩
  rw [← hW] at hWn ⊢
  have hW6 : 1 ≤ W.length ∧ W.length ≤ 6 := by
    unfold okNew at hWn
    simp only [Bool.and_eq_true, decide_eq_true_eq] at hWn
    exact hWn.1
  obtain ⟨M, hM⟩ : ∃ N : Nat, ah.tmod 61 = N := ⟨(ah.tmod 61).toNat, by rw [Int.tmod_eq_emod_of_nonneg hah.1]; omega⟩
  have hM60 : M ≤ 60 := by rw [Int.tmod_eq_emod_of_nonneg hah.1] at hM; omega
  obtain ⟨N, hN⟩ : ∃ N : Nat, st.tmod 61 = N := ⟨(st.tmod 61).toNat, by rw [Int.tmod_eq_emod_of_nonneg hst.1]; omega⟩
  have hN60 : N ≤ 60 := by rw [Int.tmod_eq_emod_of_nonneg hst.1] at hN; omega
  have u1 : ∀ i : Nat, i ≤ 100 → IntKind.u8.wrap ((i : Int) + 1) = ((i + 1 : Nat) : Int) := by
    intro i hi
    unfold IntKind.wrap
    simp [IntKind.bits, IntKind.signed]
    omega
  simp -implicitDefEqProofs only [↓aP, aQ, ↓reduceIte, Nat.reduceEqDiff, Nat.reduceAdd, Nat.reduceSub, Nat.reduceMul, Nat.reduceLT, Nat.reduceLeDiff, reduceCtorEq, Nat.reduceBEq, forall_const, implies_true, exists_const, ne_eq, Int.reduceAdd, Int.reduceSub, Int.reduceMul, Int.reduceBEq, Int.reduceEq, Int.reduceLT, Int.reduceLE, Int.reduceToNat, Int.reduceNeg, Int.reduceBNe, encFl, encLs, List.length_map, hM]
  refine rangeB M (fun i σ => ∃ x V, Sg W i x V ∧ σ.slot 3 = .c (.s (.pv (.int .u8 st))) ∧ σ.slot 9 = .c (.ptr 9 1 0 0) ∧ σ.h.gen 9 = 1 ∧ σ.h.blk 9 = .box 25 3 [(encLs x).map AC.s] ∧ σ.slot 10 = vL 1 (W.map encI) ∧ σ.slot 33 = .c (.s (.pv (.int .u8 (M : Int)))) ∧ σ.slot 34 = .c (.s (.pv (.int .u8 (i : Int))))) ?_ ?_ ?_
  · refine ⟨fillL W K W.length 0, List.replicate W.length 0, sg_start hWn hK, ?_⟩
    simp -implicitDefEqProofs only [↓aP, aQ, ↓reduceIte, Nat.reduceEqDiff, Nat.reduceAdd, Nat.reduceSub, Nat.reduceMul, Nat.reduceLT, Nat.reduceLeDiff, reduceCtorEq, Nat.reduceBEq, forall_const, implies_true, exists_const, ne_eq, Int.reduceAdd, Int.reduceSub, Int.reduceMul, Int.reduceBEq, Int.reduceEq, Int.reduceLT, Int.reduceLE, Int.reduceToNat, Int.reduceNeg, Int.reduceBNe, encLs, encI]
  · rintro i m σ him hi hlt ⟨x, V, hS, s3, s9, g9, b9, s10, s33, s34⟩
    obtain ⟨x', k, c, n1, n2, n3, n4, n5⟩ := sg_step hW6 (by omega) hS
    have hnx := lNext_spec x (right_small hS.1)
    rw [n1] at hnx
    simp -implicitDefEqProofs only [↓aP, aQ, ↓reduceIte, Nat.reduceEqDiff, Nat.reduceAdd, Nat.reduceSub, Nat.reduceMul, Nat.reduceLT, Nat.reduceLeDiff, reduceCtorEq, Nat.reduceBEq, forall_const, implies_true, exists_const, ne_eq, Int.reduceAdd, Int.reduceSub, Int.reduceMul, Int.reduceBEq, Int.reduceEq, Int.reduceLT, Int.reduceLE, Int.reduceToNat, Int.reduceNeg, Int.reduceBNe, hlt, s3, s9, g9, b9, s10, s33, s34, encLs]
    refine ask hnx ?_
    simp -implicitDefEqProofs only [↓aP, aQ, ↓reduceIte, Nat.reduceEqDiff, Nat.reduceAdd, Nat.reduceSub, Nat.reduceMul, Nat.reduceLT, Nat.reduceLeDiff, reduceCtorEq, Nat.reduceBEq, forall_const, implies_true, exists_const, ne_eq, Int.reduceAdd, Int.reduceSub, Int.reduceMul, Int.reduceBEq, Int.reduceEq, Int.reduceLT, Int.reduceLE, Int.reduceToNat, Int.reduceNeg, Int.reduceBNe, encN, encLs, s3, s9, g9, b9, s10, s33, s34, u1 i (by omega)]
    refine nextR hi him ⟨x', _, n5, ?_⟩
    simp -implicitDefEqProofs only [↓aP, aQ, ↓reduceIte, Nat.reduceEqDiff, Nat.reduceAdd, Nat.reduceSub, Nat.reduceMul, Nat.reduceLT, Nat.reduceLeDiff, reduceCtorEq, Nat.reduceBEq, forall_const, implies_true, exists_const, ne_eq, Int.reduceAdd, Int.reduceSub, Int.reduceMul, Int.reduceBEq, Int.reduceEq, Int.reduceLT, Int.reduceLE, Int.reduceToNat, Int.reduceNeg, Int.reduceBNe, s3, s9, g9, b9, s10, s33, s34, encLs]
  · rintro m σ hlt ⟨x1, V1, hS1, s3, s9, g9, b9, s10, s33, s34⟩
    obtain ⟨G, hG⟩ : ∃ G, σ.h.gen 49 = G := ⟨_, rfl⟩
    simp -implicitDefEqProofs only [↓aP, aQ, ↓reduceIte, Nat.reduceEqDiff, Nat.reduceAdd, Nat.reduceSub, Nat.reduceMul, Nat.reduceLT, Nat.reduceLeDiff, reduceCtorEq, Nat.reduceBEq, forall_const, implies_true, exists_const, ne_eq, Int.reduceAdd, Int.reduceSub, Int.reduceMul, Int.reduceBEq, Int.reduceEq, Int.reduceLT, Int.reduceLE, Int.reduceToNat, Int.reduceNeg, Int.reduceBNe, hlt, s3, s9, g9, b9, s10, s33, s34, List.length_map, hN, hG]
    refine ⟨by omega, by omega, ?_⟩
    refine rangeB N (fun i σ => ∃ x V S, Sg W (M + i) x V ∧ Since W V1 V S i ∧ σ.slot 9 = .c (.ptr 9 1 0 0) ∧ σ.h.gen 9 = 1 ∧ σ.h.blk 9 = .box 25 3 [(encLs x).map AC.s] ∧ σ.slot 10 = vL 1 (W.map encI) ∧ σ.slot 16 = .c (.own 49 (G + 1)) ∧ σ.h.gen 49 = G + 1 ∧ σ.h.blk 49 = .row 3 1 (S.map encI) ∧ σ.slot 51 = .c (.s (.pv (.int .u8 (N : Int)))) ∧ σ.slot 52 = .c (.s (.pv (.int .u8 (i : Int))))) ?_ ?_ ?_
    · refine ⟨x1, V1, List.replicate W.length 0, hS1, ⟨by simp, fun j => ?_, fun s hs => by rw [List.eq_of_mem_replicate hs]; omega⟩, ?_⟩
      · simp only [List.getD_eq_getElem?_getD, List.getElem?_replicate]
        split <;> simp
      · simp -implicitDefEqProofs only [↓aP, aQ, ↓reduceIte, Nat.reduceEqDiff, Nat.reduceAdd, Nat.reduceSub, Nat.reduceMul, Nat.reduceLT, Nat.reduceLeDiff, reduceCtorEq, Nat.reduceBEq, forall_const, implies_true, exists_const, ne_eq, Int.reduceAdd, Int.reduceSub, Int.reduceMul, Int.reduceBEq, Int.reduceEq, Int.reduceLT, Int.reduceLE, Int.reduceToNat, Int.reduceNeg, Int.reduceBNe, s3, s9, g9, b9, s10, s33, s34, encLs, List.map_replicate, encI, hG]
    · rintro i m σ him hi hlt ⟨x, V, S, hS, ⟨hSl, hSV, hSb⟩, s9, g9, b9, s10, s16, g49, b49, s51, s52⟩
      obtain ⟨x', k, c, n1, n2, n3, n4, n5⟩ := sg_step hW6 (by omega) hS
      have hnx := lNext_spec x (right_small hS.1)
      rw [n1] at hnx
      have hkS : k < S.length := by omega
      have hkW : k < W.length := by omega
      have d1 : decide ((k : Int) < 0) = false := by simp
      have d2 : decide ((W.length : Int) ≤ (k : Int)) = false := by simp; omega
      obtain ⟨sb1, sb2⟩ := hSb _ (List.getElem_mem hkS)
      have w1 : IntKind.i64.wrap (S[k] + c) = S[k] + c := wrapI (by omega)
      obtain ⟨T, hT⟩ : ∃ T, T = S.set k (S[k] + c) := ⟨_, rfl⟩
      have hTl : T.length = W.length := by rw [hT]; simpa using hSl
      have hTb : ∀ s ∈ T, 0 ≤ s ∧ s ≤ 8 * ((i + 1 : Nat) : Int) := by
        intro s hs
        rw [hT] at hs
        rcases List.mem_or_eq_of_mem_set hs with h | h
        · have := hSb s h; omega
        · rw [h]; omega
      have hVl : V.length = W.length := hS.2.2.2.1
      have hTV : ∀ j, (V.set k (V.getD k 0 + c)).getD j 0 = V1.getD j 0 + T.getD j 0 := by
        intro j
        have h0 := hSV j
        have hk0 := hSV k
        rw [hT]
        simp only [List.getD_eq_getElem?_getD, List.getElem?_set] at h0 hk0 ⊢
        by_cases e : k = j
        · subst e
          rw [if_pos rfl, if_pos rfl, if_pos (by omega), if_pos (by omega)]
          rw [List.getElem?_eq_getElem hkS] at h0
          simp only [Option.getD_some] at h0 ⊢
          omega
        · rw [if_neg e, if_neg e]; exact h0
      have hmapT : (S.map encI).set k [.pv (.int .i64 (S[k] + c))] = T.map encI := by rw [hT, List.map_set]; rfl
      simp -implicitDefEqProofs only [↓aP, aQ, ↓reduceIte, Nat.reduceEqDiff, Nat.reduceAdd, Nat.reduceSub, Nat.reduceMul, Nat.reduceLT, Nat.reduceLeDiff, reduceCtorEq, Nat.reduceBEq, forall_const, implies_true, exists_const, ne_eq, Int.reduceAdd, Int.reduceSub, Int.reduceMul, Int.reduceBEq, Int.reduceEq, Int.reduceLT, Int.reduceLE, Int.reduceToNat, Int.reduceNeg, Int.reduceBNe, hlt, s9, g9, b9, s10, s16, g49, b49, s51, s52, encLs]
      refine ask hnx ?_
      simp -implicitDefEqProofs only [↓aP, aQ, ↓reduceIte, Nat.reduceEqDiff, Nat.reduceAdd, Nat.reduceSub, Nat.reduceMul, Nat.reduceLT, Nat.reduceLeDiff, reduceCtorEq, Nat.reduceBEq, forall_const, implies_true, exists_const, ne_eq, Int.reduceAdd, Int.reduceSub, Int.reduceMul, Int.reduceBEq, Int.reduceEq, Int.reduceLT, Int.reduceLE, Int.reduceToNat, Int.reduceNeg, Int.reduceBNe, encN, encLs, s9, g9, b9, s10, s16, g49, b49, s51, s52, d1, d2, List.length_map, askIdx_map, hkS, hkW, encI, w1]
      refine rangeB W.length (fun p σ => σ.slot 9 = .c (.ptr 9 1 0 0) ∧ σ.h.gen 9 = 1 ∧ σ.h.blk 9 = .box 25 3 [(encLs x').map AC.s] ∧ σ.slot 10 = vL 1 (W.map encI) ∧ σ.slot 16 = .c (.own 49 (G + 1)) ∧ σ.h.gen 49 = G + 1 ∧ σ.h.blk 49 = .row 3 1 (T.map encI) ∧ σ.slot 51 = .c (.s (.pv (.int .u8 (N : Int)))) ∧ σ.slot 52 = .c (.s (.pv (.int .u8 (i : Int)))) ∧ σ.slot 82 = vI W.length ∧ σ.slot 83 = vI p) ?_ ?_ ?_
      · simp -implicitDefEqProofs only [↓aP, aQ, ↓reduceIte, Nat.reduceEqDiff, Nat.reduceAdd, Nat.reduceSub, Nat.reduceMul, Nat.reduceLT, Nat.reduceLeDiff, reduceCtorEq, Nat.reduceBEq, forall_const, implies_true, exists_const, ne_eq, Int.reduceAdd, Int.reduceSub, Int.reduceMul, Int.reduceBEq, Int.reduceEq, Int.reduceLT, Int.reduceLE, Int.reduceToNat, Int.reduceNeg, Int.reduceBNe, s9, g9, b9, s10, s16, g49, b49, s51, s52, encLs, hmapT]
      · rintro p m2 σ2 hpm hp hplt ⟨s9, g9, b9, s10, s16, g49, b49, s51, s52, s82, s83⟩
        simp -implicitDefEqProofs only [↓aP, aQ, ↓reduceIte, Nat.reduceEqDiff, Nat.reduceAdd, Nat.reduceSub, Nat.reduceMul, Nat.reduceLT, Nat.reduceLeDiff, reduceCtorEq, Nat.reduceBEq, forall_const, implies_true, exists_const, ne_eq, Int.reduceAdd, Int.reduceSub, Int.reduceMul, Int.reduceBEq, Int.reduceEq, Int.reduceLT, Int.reduceLE, Int.reduceToNat, Int.reduceNeg, Int.reduceBNe, hplt, s9, g9, b9, s10, s16, g49, b49, s51, s52, s82, s83, List.length_map]
        refine rangeB W.length (fun q σ => σ.slot 9 = .c (.ptr 9 1 0 0) ∧ σ.h.gen 9 = 1 ∧ σ.h.blk 9 = .box 25 3 [(encLs x').map AC.s] ∧ σ.slot 10 = vL 1 (W.map encI) ∧ σ.slot 16 = .c (.own 49 (G + 1)) ∧ σ.h.gen 49 = G + 1 ∧ σ.h.blk 49 = .row 3 1 (T.map encI) ∧ σ.slot 51 = .c (.s (.pv (.int .u8 (N : Int)))) ∧ σ.slot 52 = .c (.s (.pv (.int .u8 (i : Int)))) ∧ σ.slot 82 = vI W.length ∧ σ.slot 83 = vI p ∧ σ.slot 21 = vI p ∧ σ.slot 87 = vI W.length ∧ σ.slot 88 = vI q) ?_ ?_ ?_
        · simp -implicitDefEqProofs only [↓aP, aQ, ↓reduceIte, Nat.reduceEqDiff, Nat.reduceAdd, Nat.reduceSub, Nat.reduceMul, Nat.reduceLT, Nat.reduceLeDiff, reduceCtorEq, Nat.reduceBEq, forall_const, implies_true, exists_const, ne_eq, Int.reduceAdd, Int.reduceSub, Int.reduceMul, Int.reduceBEq, Int.reduceEq, Int.reduceLT, Int.reduceLE, Int.reduceToNat, Int.reduceNeg, Int.reduceBNe, s9, g9, b9, s10, s16, g49, b49, s51, s52, s82, s83]
        · rintro q m3 σ3 hqm hq hqlt ⟨s9, g9, b9, s10, s16, g49, b49, s51, s52, s82, s83, s21, s87, s88⟩
          have hpT : p < T.length := by omega
          have hqT : q < T.length := by omega
          obtain ⟨wp1, wp8, hb1⟩ := sg_bound n5 hp hq
          obtain ⟨wq1, wq8, hb2⟩ := sg_bound hS1 hq hp
          have hvp := hTV p
          have hvq := hTV q
          rw [List.getD_eq_getElem?_getD (l := T), List.getElem?_eq_getElem hpT, Option.getD_some] at hvp
          rw [List.getD_eq_getElem?_getD (l := T), List.getElem?_eq_getElem hqT, Option.getD_some] at hvq
          rw [hvp, hvq, Int.add_mul, Int.add_mul] at hb1
          rw [Int.mul_comm W[q] W[p]] at hb2
          have tp := hTb _ (List.getElem_mem hpT)
          have tq := hTb _ (List.getElem_mem hqT)
          have mul8 : ∀ a b : Int, 0 ≤ a → a ≤ 1000 → 1 ≤ b → b ≤ 8 → 0 ≤ a * b ∧ a * b ≤ 8000 := by
            intro a b h1 h2 h3 h4
            refine ⟨Int.mul_nonneg h1 (by omega), ?_⟩
            have e1 : a * b ≤ 1000 * b := Int.mul_le_mul_of_nonneg_right h2 (by omega)
            omega
          have b1 := mul8 T[p] W[q] tp.1 (by omega) wq1 wq8
          have b2 := mul8 T[q] W[p] tq.1 (by omega) wp1 wp8
          have b3 := mul8 W[p] W[q] (by omega) (by omega) wq1 wq8
          have x1 : IntKind.i64.wrap (T[p] * W[q]) = T[p] * W[q] := wrapI (by omega)
          have x2 : IntKind.i64.wrap (T[q] * W[p]) = T[q] * W[p] := wrapI (by omega)
          have x3 : IntKind.i64.wrap (T[p] * W[q] - T[q] * W[p]) = T[p] * W[q] - T[q] * W[p] := wrapI (by omega)
          have x4 : IntKind.i64.wrap (W[p] * W[q]) = W[p] * W[q] := wrapI (by omega)
          have x5 : IntKind.i64.wrap (W[p] * W[q] * 4) = W[p] * W[q] * 4 := wrapI (by omega)
          have x6 : IntKind.i64.wrap (7 * W[p]) = 7 * W[p] := wrapI (by omega)
          have x7 : IntKind.i64.wrap (W[p] * W[q] * 4 + 7 * W[p]) = W[p] * W[q] * 4 + 7 * W[p] := wrapI (by omega)
          have x8 : IntKind.i64.wrap (3 * (W[p] * W[q] * 4 + 7 * W[p])) = 3 * (W[p] * W[q] * 4 + 7 * W[p]) := wrapI (by omega)
          have y6 : IntKind.i64.wrap (7 * W[q]) = 7 * W[q] := wrapI (by omega)
          have y7 : IntKind.i64.wrap (W[p] * W[q] * 4 + 7 * W[q]) = W[p] * W[q] * 4 + 7 * W[q] := wrapI (by omega)
          have y8 : IntKind.i64.wrap (3 * (W[p] * W[q] * 4 + 7 * W[q])) = 3 * (W[p] * W[q] * 4 + 7 * W[q]) := wrapI (by omega)
          have x9 : IntKind.i64.wrap (3 * (W[p] * W[q] * 4 + 7 * W[p]) + 3 * (W[p] * W[q] * 4 + 7 * W[q])) = 3 * (W[p] * W[q] * 4 + 7 * W[p]) + 3 * (W[p] * W[q] * 4 + 7 * W[q]) := wrapI (by omega)
          have t1 : decide (3 * (W[p] * W[q] * 4 + 7 * W[p]) + 3 * (W[p] * W[q] * 4 + 7 * W[q]) < T[p] * W[q] - T[q] * W[p]) = false := decide_eq_false (by omega)
          simp -implicitDefEqProofs only [↓aP, aQ, ↓reduceIte, Nat.reduceEqDiff, Nat.reduceAdd, Nat.reduceSub, Nat.reduceMul, Nat.reduceLT, Nat.reduceLeDiff, reduceCtorEq, Nat.reduceBEq, forall_const, implies_true, exists_const, ne_eq, Int.reduceAdd, Int.reduceSub, Int.reduceMul, Int.reduceBEq, Int.reduceEq, Int.reduceLT, Int.reduceLE, Int.reduceToNat, Int.reduceNeg, Int.reduceBNe, hqlt, s9, g9, b9, s10, s16, g49, b49, s51, s52, s82, s83, s21, s87, s88, List.length_map, askIdx_map, hp, hq, hpT, hqT, encI, x1, x2, x3, x4, x5, x6, x7, x8, y6, y7, y8, x9, t1]
          refine ⟨by decide +kernel, ?_⟩
          simp -implicitDefEqProofs only [↓aP, aQ, ↓reduceIte, Nat.reduceEqDiff, Nat.reduceAdd, Nat.reduceSub, Nat.reduceMul, Nat.reduceLT, Nat.reduceLeDiff, reduceCtorEq, Nat.reduceBEq, forall_const, implies_true, exists_const, ne_eq, Int.reduceAdd, Int.reduceSub, Int.reduceMul, Int.reduceBEq, Int.reduceEq, Int.reduceLT, Int.reduceLE, Int.reduceToNat, Int.reduceNeg, Int.reduceBNe, s9, g9, b9, s10, s16, g49, b49, s51, s52, s82, s83, s21, s87, s88, wrapS (show q < 4611686018427387904 by omega)]
          refine nextR hq hqm ?_
          simp -implicitDefEqProofs only [↓aP, aQ, ↓reduceIte, Nat.reduceEqDiff, Nat.reduceAdd, Nat.reduceSub, Nat.reduceMul, Nat.reduceLT, Nat.reduceLeDiff, reduceCtorEq, Nat.reduceBEq, forall_const, implies_true, exists_const, ne_eq, Int.reduceAdd, Int.reduceSub, Int.reduceMul, Int.reduceBEq, Int.reduceEq, Int.reduceLT, Int.reduceLE, Int.reduceToNat, Int.reduceNeg, Int.reduceBNe, s9, g9, b9, s10, s16, g49, b49, s51, s52, s82, s83, s21, s87, s88]
        · rintro m3 σ3 hqlt ⟨s9, g9, b9, s10, s16, g49, b49, s51, s52, s82, s83, s21, s87, s88⟩
          simp -implicitDefEqProofs only [↓aP, aQ, ↓reduceIte, Nat.reduceEqDiff, Nat.reduceAdd, Nat.reduceSub, Nat.reduceMul, Nat.reduceLT, Nat.reduceLeDiff, reduceCtorEq, Nat.reduceBEq, forall_const, implies_true, exists_const, ne_eq, Int.reduceAdd, Int.reduceSub, Int.reduceMul, Int.reduceBEq, Int.reduceEq, Int.reduceLT, Int.reduceLE, Int.reduceToNat, Int.reduceNeg, Int.reduceBNe, hqlt, s9, g9, b9, s10, s16, g49, b49, s51, s52, s82, s83, s21, s87, s88, wrapS (show p < 4611686018427387904 by omega)]
          refine nextR hp hpm ?_
          simp -implicitDefEqProofs only [↓aP, aQ, ↓reduceIte, Nat.reduceEqDiff, Nat.reduceAdd, Nat.reduceSub, Nat.reduceMul, Nat.reduceLT, Nat.reduceLeDiff, reduceCtorEq, Nat.reduceBEq, forall_const, implies_true, exists_const, ne_eq, Int.reduceAdd, Int.reduceSub, Int.reduceMul, Int.reduceBEq, Int.reduceEq, Int.reduceLT, Int.reduceLE, Int.reduceToNat, Int.reduceNeg, Int.reduceBNe, s9, g9, b9, s10, s16, g49, b49, s51, s52, s82, s83]
      · rintro m2 σ2 hplt ⟨s9, g9, b9, s10, s16, g49, b49, s51, s52, s82, s83⟩
        simp -implicitDefEqProofs only [↓aP, aQ, ↓reduceIte, Nat.reduceEqDiff, Nat.reduceAdd, Nat.reduceSub, Nat.reduceMul, Nat.reduceLT, Nat.reduceLeDiff, reduceCtorEq, Nat.reduceBEq, forall_const, implies_true, exists_const, ne_eq, Int.reduceAdd, Int.reduceSub, Int.reduceMul, Int.reduceBEq, Int.reduceEq, Int.reduceLT, Int.reduceLE, Int.reduceToNat, Int.reduceNeg, Int.reduceBNe, hplt, s9, g9, b9, s10, s16, g49, b49, s51, s52, s82, s83, u1 i (by omega)]
        refine nextR hi him ⟨x', _, T, n5, ⟨hTl, hTV, hTb⟩, ?_⟩
        simp -implicitDefEqProofs only [↓aP, aQ, ↓reduceIte, Nat.reduceEqDiff, Nat.reduceAdd, Nat.reduceSub, Nat.reduceMul, Nat.reduceLT, Nat.reduceLeDiff, reduceCtorEq, Nat.reduceBEq, forall_const, implies_true, exists_const, ne_eq, Int.reduceAdd, Int.reduceSub, Int.reduceMul, Int.reduceBEq, Int.reduceEq, Int.reduceLT, Int.reduceLE, Int.reduceToNat, Int.reduceNeg, Int.reduceBNe, s9, g9, b9, s10, s16, g49, b49, s51, s52, s82, s83, u1 i (by omega), encLs]
    · rintro m σ hlt ⟨x, V, S, hS, hN2, s9, g9, b9, s10, s16, g49, b49, s51, s52⟩
      simp -implicitDefEqProofs only [↓aP, aQ, ↓reduceIte, Nat.reduceEqDiff, Nat.reduceAdd, Nat.reduceSub, Nat.reduceMul, Nat.reduceLT, Nat.reduceLeDiff, reduceCtorEq, Nat.reduceBEq, forall_const, implies_true, exists_const, ne_eq, Int.reduceAdd, Int.reduceSub, Int.reduceMul, Int.reduceBEq, Int.reduceEq, Int.reduceLT, Int.reduceLE, Int.reduceToNat, Int.reduceNeg, Int.reduceBNe, hlt, s9, g9, b9, s10, s16, g49, b49, s51, s52]
      refine ask awake_spec ?_
      simp -implicitDefEqProofs only [↓aP, aQ, ↓reduceIte, Nat.reduceEqDiff, Nat.reduceAdd, Nat.reduceSub, Nat.reduceMul, Nat.reduceLT, Nat.reduceLeDiff, reduceCtorEq, Nat.reduceBEq, forall_const, implies_true, exists_const, ne_eq, Int.reduceAdd, Int.reduceSub, Int.reduceMul, Int.reduceBEq, Int.reduceEq, Int.reduceLT, Int.reduceLE, Int.reduceToNat, Int.reduceNeg, Int.reduceBNe]
theorem lanesStretch_walk {w : World} (v0 : Value) (a0 : ∃ l : List Int, U8 l ∧ RepT (RepS w fun _ => False) (rL 1 (l.map encU)) v0) (v1 : Value) (a1 : ∃ K : List (List Int), ((∀ r ∈ K, U8 r) ∧ K.length ≤ maxLen ∧ ∀ r ∈ K, r.length ≤ maxLen) ∧ RepT (RepS w fun _ => False) (rL 1 (K.map encRw)) v1) (a : Int) (ha : (Lit.int .u8 a).wf = true) (b : Int) (hb : (Lit.int .u8 b).wf = true) :
    Calls Try.prog 5 #[v0, v1, .int .u8 a, .int .u8 b] w fun e w' => e = .returned (.bool true) ∧ Below w.heap.size w w' := by
  obtain ⟨U, hU, h0⟩ := a0
  obtain ⟨K, hK, h1⟩ := a1
  exact (lawStretch_spec U K a b hU hK.1 (u8_of ha) (u8_of hb)).plain (us := [v0, v1, .int .u8 a, .int .u8 b]) (.cons h0 (.cons h1 (.cons (.pv rfl) (.cons (.pv rfl) .nil))))
end Go.Proofs.Ytfmbfgoofiojcaa
