/- THE STATEMENT LanesAlone: its walk. -/
import Derived.Test.YtfmbfgoofiojcaaL12
namespace Go.Proofs.Ytfmbfgoofiojcaa
open Go.RowKit Lk Go.ChangeShapes Go.WideShapes
set_option linter.unusedVariables false
set_option linter.unusedSimpArgs false
set_option maxRecDepth 10000
theorem u8_conv {b : Int} (h : 0 ≤ b ∧ b ≤ 255) : IntKind.i64.wrap (b.tmod 8) = b.tmod 8 ∧ IntKind.i64.wrap (1 + b.tmod 8) = wOf b := by
  have := tmod8 h
  exact ⟨wrapI (by omega), wrapI (by omega)⟩



theorem lawAlone_spec (U C : List Int) (ln : Int) (hU : U8 U) (hC : U8 C) (hln : 0 ≤ ln ∧ ln ≤ 255) : Spec Try.prog 7 [rL 1 (U.map encU), .c (.pv (.int .u8 ln)), rL 1 (C.map encU)] (.val (rB true)) := by
  refine spec_val mixed fn7 (by simp) ?_
  unfold ac7
  simp -implicitDefEqProofs only [↓aP, aQ, ↓reduceIte, Nat.reduceEqDiff, Nat.reduceAdd, Nat.reduceSub, Nat.reduceMul, Nat.reduceLT, Nat.reduceLeDiff, reduceCtorEq, Nat.reduceBEq, forall_const, implies_true, exists_const, ne_eq, Int.reduceAdd, Int.reduceSub, Int.reduceMul, Int.reduceBEq, Int.reduceEq, Int.reduceLT, Int.reduceLE, Int.reduceToNat, Int.reduceNeg, Int.reduceBNe]
  refine shift (sub_slot (s := 7) 45 3 1 rfl (by exact Nat.succ_pos _)) ?_
  obtain ⟨n, hn⟩ : ∃ n, n = min U.length 6 := ⟨_, rfl⟩
  refine rangeB n (fun i σ => ∃ g, σ.slot 0 = vL 1 (U.map encU) ∧ σ.slot 1 = .c (.s (.pv (.int .u8 ln))) ∧ σ.slot 2 = vL 1 (C.map encU) ∧ σ.slot 7 = .c (.own 45 g) ∧ σ.slot 8 = vI i ∧ σ.h.gen 45 = g ∧ σ.h.blk 45 = .row 3 1 (((U.take i).map wOf).map encI)) ?_ ?_ ?_
  · simp -implicitDefEqProofs only [↓aP, aQ, ↓reduceIte, Nat.reduceEqDiff, Nat.reduceAdd, Nat.reduceSub, Nat.reduceMul, Nat.reduceLT, Nat.reduceLeDiff, reduceCtorEq, Nat.reduceBEq, forall_const, implies_true, exists_const, ne_eq, Int.reduceAdd, Int.reduceSub, Int.reduceMul, Int.reduceBEq, Int.reduceEq, Int.reduceLT, Int.reduceLE, Int.reduceToNat, Int.reduceNeg, Int.reduceBNe]
    exact ⟨1, by simp⟩
  · rintro i m σ him hi hlt ⟨g, s0, s1, s2, s7, s8, g45, b45⟩
    have hi2 : i < U.length := by omega
    have c1 : decide ((i : Int) < (U.length : Int)) = true := by simp; omega
    have c2 : decide ((i : Int) < 6) = true := by simp; omega
    obtain ⟨v1, v2⟩ := u8_conv (hU _ (List.getElem_mem hi2))
    have e9 : (List.take i U).length ≤ 6 := by rw [List.length_take]; omega
    simp -implicitDefEqProofs only [↓aP, aQ, ↓reduceIte, Nat.reduceEqDiff, Nat.reduceAdd, Nat.reduceSub, Nat.reduceMul, Nat.reduceLT, Nat.reduceLeDiff, reduceCtorEq, Nat.reduceBEq, forall_const, implies_true, exists_const, ne_eq, Int.reduceAdd, Int.reduceSub, Int.reduceMul, Int.reduceBEq, Int.reduceEq, Int.reduceLT, Int.reduceLE, Int.reduceToNat, Int.reduceNeg, Int.reduceBNe, c1, c2, s0, s1, s2, s7, s8, g45, b45, List.length_map, askIdx_map, hi2, encU, v1, v2]
    refine ⟨by omega, by omega, ?_⟩
    refine nextR hi him ⟨g + 1, ?_⟩
    simp -implicitDefEqProofs only [↓aP, aQ, ↓reduceIte, Nat.reduceEqDiff, Nat.reduceAdd, Nat.reduceSub, Nat.reduceMul, Nat.reduceLT, Nat.reduceLeDiff, reduceCtorEq, Nat.reduceBEq, forall_const, implies_true, exists_const, ne_eq, Int.reduceAdd, Int.reduceSub, Int.reduceMul, Int.reduceBEq, Int.reduceEq, Int.reduceLT, Int.reduceLE, Int.reduceToNat, Int.reduceNeg, Int.reduceBNe, s0, s1, s2, s7, s8, g45, b45, take_snoc hi2, List.map_append, encI, wrapS (show i < 4611686018427387904 by omega)]
  · rintro m σ hlt ⟨g, s0, s1, s2, s7, s8, g45, b45⟩
    obtain ⟨W, hW⟩ : ∃ W, W = (U.take n).map wOf := ⟨_, rfl⟩
    have hWl : W.length = n := by rw [hW]; simp; omega
    have hUt : U8 (U.take n) := fun u hu => hU u (List.mem_of_mem_take hu)
    rw [← hW] at b45
    have hnew := lNew_spec W (by omega)
    -- the loop's end
    have hend : ∀ Q : Prop, (decide ((n : Int) < (U.length : Int)) = false → Q) → (decide ((n : Int) < (U.length : Int)) = true → decide ((n : Int) < 6) = false → Q) → Q := by
      intro Q h1 h2
      by_cases hu : n < U.length
      · exact h2 (by simp; omega) (by simp; omega)
      · exact h1 (by simp; omega)
    refine hend _ (fun c1 => ?_) (fun c1 c2 => ?_)
    case' refine_1 => simp -implicitDefEqProofs only [↓aP, aQ, ↓reduceIte, Nat.reduceEqDiff, Nat.reduceAdd, Nat.reduceSub, Nat.reduceMul, Nat.reduceLT, Nat.reduceLeDiff, reduceCtorEq, Nat.reduceBEq, forall_const, implies_true, exists_const, ne_eq, Int.reduceAdd, Int.reduceSub, Int.reduceMul, Int.reduceBEq, Int.reduceEq, Int.reduceLT, Int.reduceLE, Int.reduceToNat, Int.reduceNeg, Int.reduceBNe, c1, s0, s1, s2, s7, s8, g45, b45, List.length_map]
    case' refine_2 => simp -implicitDefEqProofs only [↓aP, aQ, ↓reduceIte, Nat.reduceEqDiff, Nat.reduceAdd, Nat.reduceSub, Nat.reduceMul, Nat.reduceLT, Nat.reduceLeDiff, reduceCtorEq, Nat.reduceBEq, forall_const, implies_true, exists_const, ne_eq, Int.reduceAdd, Int.reduceSub, Int.reduceMul, Int.reduceBEq, Int.reduceEq, Int.reduceLT, Int.reduceLE, Int.reduceToNat, Int.reduceNeg, Int.reduceBNe, c1, c2, s0, s1, s2, s7, s8, g45, b45, List.length_map]
    all_goals
      refine ask hnew ?_
      by_cases h0 : W.length = 0
      case pos =>
        have e : newI W = (⟨[], 0, false⟩, 1) := okNew_no (fun h => by omega)
        have d0 : ((W.length : Int) == 0) = true := by rw [h0]; rfl
        rw [e]
        simp -implicitDefEqProofs only [↓aP, aQ, ↓reduceIte, Nat.reduceEqDiff, Nat.reduceAdd, Nat.reduceSub, Nat.reduceMul, Nat.reduceLT, Nat.reduceLeDiff, reduceCtorEq, Nat.reduceBEq, forall_const, implies_true, exists_const, ne_eq, Int.reduceAdd, Int.reduceSub, Int.reduceMul, Int.reduceBEq, Int.reduceEq, Int.reduceLT, Int.reduceLE, Int.reduceToNat, Int.reduceNeg, Int.reduceBNe, encR, encLs, s0, s1, s2, s7, s8, g45, b45]
        repeat' ((first | ((first | with_reducible refine fork ?_ ?_ | with_reducible refine gcase ?_ ?_ | with_reducible refine gcaseD ?_ ?_) <;> intro hc <;> (have hp := hc) <;> (try simp only [aB] at hp)) | (have hc := True.intro; first | with_reducible refine askM (by omega) ?_ | with_reducible refine And.intro (by first | omega | decide +kernel) ?_ | refine ask (awake_spec) ?_ | fail)) <;> (try simp -implicitDefEqProofs only [↓aP, aQ, ↓reduceIte, Nat.reduceEqDiff, Nat.reduceAdd, Nat.reduceSub, Nat.reduceMul, Nat.reduceLT, Nat.reduceLeDiff, reduceCtorEq, Nat.reduceBEq, forall_const, implies_true, exists_const, ne_eq, Int.reduceAdd, Int.reduceSub, Int.reduceMul, Int.reduceBEq, Int.reduceEq, Int.reduceLT, Int.reduceLE, Int.reduceToNat, Int.reduceNeg, Int.reduceBNe, hc, encR, encLs, s0, s1, s2, s7, s8, g45, b45, List.length_map, d0]))
      case neg =>
        have hWn : okNew W = true := by rw [hW]; exact okNew_map hUt (by rw [List.length_take]; omega) (by rw [List.length_take]; omega)
        obtain ⟨k, hkd⟩ : ∃ k, k = ln.toNat % W.length := ⟨_, rfl⟩
        have hk : k < W.length := by rw [hkd]; exact Nat.mod_lt _ (by omega)
        have e3 : Int.tmod ln (W.length : Int) = (k : Int) := by
          rw [Int.tmod_eq_emod_of_nonneg hln.1, hkd, Int.natCast_emod, Int.toNat_of_nonneg hln.1]
        have e4 : IntKind.i64.wrap ln = ln := wrapI (by omega)
        have hne : ¬ (W.length : Int) = 0 := by omega
        have e : newI W = (one W k [], 0) := by
          rw [one_nil hk]
          rcases newI_cases W with ⟨_, h⟩ | ⟨h, _⟩
          · exact h
          · rw [hWn] at h; simp at h
        rw [e]
        simp -implicitDefEqProofs only [↓aP, aQ, ↓reduceIte, Nat.reduceEqDiff, Nat.reduceAdd, Nat.reduceSub, Nat.reduceMul, Nat.reduceLT, Nat.reduceLeDiff, reduceCtorEq, Nat.reduceBEq, forall_const, implies_true, exists_const, ne_eq, Int.reduceAdd, Int.reduceSub, Int.reduceMul, Int.reduceBEq, Int.reduceEq, Int.reduceLT, Int.reduceLE, Int.reduceToNat, Int.reduceNeg, Int.reduceBNe, encR, encLs, s0, s1, s2, s7, s8, g45, b45, List.length_map]
        by_cases h100 : 100 < C.length
        case pos =>
          have d1 : decide ((100 : Int) < (C.length : Int)) = true := by simp; omega
          simp -implicitDefEqProofs only [↓aP, aQ, ↓reduceIte, Nat.reduceEqDiff, Nat.reduceAdd, Nat.reduceSub, Nat.reduceMul, Nat.reduceLT, Nat.reduceLeDiff, reduceCtorEq, Nat.reduceBEq, forall_const, implies_true, exists_const, ne_eq, Int.reduceAdd, Int.reduceSub, Int.reduceMul, Int.reduceBEq, Int.reduceEq, Int.reduceLT, Int.reduceLE, Int.reduceToNat, Int.reduceNeg, Int.reduceBNe, d1, s0, s1, s2, s7, s8, g45, b45, List.length_map]
          refine ask awake_spec ?_
          simp -implicitDefEqProofs only [↓aP, aQ, ↓reduceIte, Nat.reduceEqDiff, Nat.reduceAdd, Nat.reduceSub, Nat.reduceMul, Nat.reduceLT, Nat.reduceLeDiff, reduceCtorEq, Nat.reduceBEq, forall_const, implies_true, exists_const, ne_eq, Int.reduceAdd, Int.reduceSub, Int.reduceMul, Int.reduceBEq, Int.reduceEq, Int.reduceLT, Int.reduceLE, Int.reduceToNat, Int.reduceNeg, Int.reduceBNe]
        case neg =>
          have d1 : decide ((100 : Int) < (C.length : Int)) = false := by simp; omega
          obtain ⟨GA, hGA⟩ : ∃ G, σ.h.gen 9 = G := ⟨_, rfl⟩
          simp -implicitDefEqProofs only [↓aP, aQ, ↓reduceIte, Nat.reduceEqDiff, Nat.reduceAdd, Nat.reduceSub, Nat.reduceMul, Nat.reduceLT, Nat.reduceLeDiff, reduceCtorEq, Nat.reduceBEq, forall_const, implies_true, exists_const, ne_eq, Int.reduceAdd, Int.reduceSub, Int.reduceMul, Int.reduceBEq, Int.reduceEq, Int.reduceLT, Int.reduceLE, Int.reduceToNat, Int.reduceNeg, Int.reduceBNe, d1, s0, s1, s2, s7, s8, g45, b45, List.length_map, e4, e3, hGA]
          refine ⟨hne, ?_⟩
          refine rangeB C.length (fun i σ => σ.slot 2 = vL 1 (C.map encU) ∧ σ.slot 9 = .c (.ptr 9 (GA + 1) 0 0) ∧ σ.h.gen 9 = GA + 1 ∧ σ.h.blk 9 = .box 25 3 [(encLs (one W k ((C.take i).map wOf))).map AC.s] ∧ σ.slot 11 = vI k ∧ σ.slot 74 = vL 1 (C.map encU) ∧ σ.slot 75 = vI C.length ∧ σ.slot 76 = vI i) ?_ ?_ ?_
          · simp -implicitDefEqProofs only [↓aP, aQ, ↓reduceIte, Nat.reduceEqDiff, Nat.reduceAdd, Nat.reduceSub, Nat.reduceMul, Nat.reduceLT, Nat.reduceLeDiff, reduceCtorEq, Nat.reduceBEq, forall_const, implies_true, exists_const, ne_eq, Int.reduceAdd, Int.reduceSub, Int.reduceMul, Int.reduceBEq, Int.reduceEq, Int.reduceLT, Int.reduceLE, Int.reduceToNat, Int.reduceNeg, Int.reduceBNe, s0, s1, s2, s7, s8, g45, b45, encLs, hGA]
          · rintro i m σ him hi hlt ⟨s2, s9, g9, b9, s11, s74, s75, s76⟩
            obtain ⟨v1, v2⟩ := u8_conv (hC _ (List.getElem_mem hi))
            have hCt : U8 (C.take i) := fun u hu => hC u (List.mem_of_mem_take hu)
            have hl9 : ((C.take i).map wOf).length ≤ 100 := by rw [List.length_map, List.length_take]; omega
            have hp := lPush_spec (one W k ((C.take i).map wOf)) k (wOf C[i]) (right_small (one_right hWn hk (by omega) (map_okC hCt)))
            rw [one_push hWn hk (by omega) (map_okC hCt) (wOf_ok (hC _ (List.getElem_mem hi))).2] at hp
            simp -implicitDefEqProofs only [↓aP, aQ, ↓reduceIte, Nat.reduceEqDiff, Nat.reduceAdd, Nat.reduceSub, Nat.reduceMul, Nat.reduceLT, Nat.reduceLeDiff, reduceCtorEq, Nat.reduceBEq, forall_const, implies_true, exists_const, ne_eq, Int.reduceAdd, Int.reduceSub, Int.reduceMul, Int.reduceBEq, Int.reduceEq, Int.reduceLT, Int.reduceLE, Int.reduceToNat, Int.reduceNeg, Int.reduceBNe, hlt, s2, s9, g9, b9, s11, s74, s75, s76, askIdx_map, hi, encU, v1, v2, encLs]
            refine ask hp ?_
            simp -implicitDefEqProofs only [↓aP, aQ, ↓reduceIte, Nat.reduceEqDiff, Nat.reduceAdd, Nat.reduceSub, Nat.reduceMul, Nat.reduceLT, Nat.reduceLeDiff, reduceCtorEq, Nat.reduceBEq, forall_const, implies_true, exists_const, ne_eq, Int.reduceAdd, Int.reduceSub, Int.reduceMul, Int.reduceBEq, Int.reduceEq, Int.reduceLT, Int.reduceLE, Int.reduceToNat, Int.reduceNeg, Int.reduceBNe, encR, encLs, s2, s9, g9, b9, s11, s74, s75, s76, wrapS (show i < 4611686018427387904 by omega)]
            refine nextR hi him ?_
            simp -implicitDefEqProofs only [↓aP, aQ, ↓reduceIte, Nat.reduceEqDiff, Nat.reduceAdd, Nat.reduceSub, Nat.reduceMul, Nat.reduceLT, Nat.reduceLeDiff, reduceCtorEq, Nat.reduceBEq, forall_const, implies_true, exists_const, ne_eq, Int.reduceAdd, Int.reduceSub, Int.reduceMul, Int.reduceBEq, Int.reduceEq, Int.reduceLT, Int.reduceLE, Int.reduceToNat, Int.reduceNeg, Int.reduceBNe, s2, s9, g9, b9, s11, s74, s75, s76, take_snoc hi, List.map_append, encLs]
          · rintro m σ hlt ⟨s2, s9, g9, b9, s11, s74, s75, s76⟩
            simp -implicitDefEqProofs only [↓aP, aQ, ↓reduceIte, Nat.reduceEqDiff, Nat.reduceAdd, Nat.reduceSub, Nat.reduceMul, Nat.reduceLT, Nat.reduceLeDiff, reduceCtorEq, Nat.reduceBEq, forall_const, implies_true, exists_const, ne_eq, Int.reduceAdd, Int.reduceSub, Int.reduceMul, Int.reduceBEq, Int.reduceEq, Int.reduceLT, Int.reduceLE, Int.reduceToNat, Int.reduceNeg, Int.reduceBNe, hlt, s2, s9, g9, b9, s11, s74, s75, s76, List.length_map]
            refine rangeB C.length (fun i σ => ∃ x, right x = true ∧ costs x = (List.replicate W.length []).set k ((C.drop i).map wOf) ∧ σ.slot 9 = .c (.ptr 9 (GA + 1) 0 0) ∧ σ.h.gen 9 = GA + 1 ∧ σ.h.blk 9 = .box 25 3 [(encLs x).map AC.s] ∧ σ.slot 11 = vI k ∧ σ.slot 94 = vL 1 (C.map encU) ∧ σ.slot 95 = vI C.length ∧ σ.slot 96 = vI i) ?_ ?_ ?_
            · refine ⟨one W k (C.map wOf), one_right hWn hk (by rw [List.length_map]; omega) (map_okC hC), one_costs, ?_⟩
              simp -implicitDefEqProofs only [↓aP, aQ, ↓reduceIte, Nat.reduceEqDiff, Nat.reduceAdd, Nat.reduceSub, Nat.reduceMul, Nat.reduceLT, Nat.reduceLeDiff, reduceCtorEq, Nat.reduceBEq, forall_const, implies_true, exists_const, ne_eq, Int.reduceAdd, Int.reduceSub, Int.reduceMul, Int.reduceBEq, Int.reduceEq, Int.reduceLT, Int.reduceLE, Int.reduceToNat, Int.reduceNeg, Int.reduceBNe, s2, s9, g9, b9, s11, s74, s75, s76, List.take_length]
            · rintro i m σ him hi hlt ⟨x, hrx, hcx, s9, g9, b9, s11, s94, s95, s96⟩
              obtain ⟨v1, v2⟩ := u8_conv (hC _ (List.getElem_mem hi))
              rw [List.drop_eq_getElem_cons hi, List.map_cons] at hcx
              obtain ⟨x', n1, n2, n3⟩ := next_one hrx hk hcx
              have hnx := lNext_spec x (right_small hrx)
              rw [n1] at hnx
              simp -implicitDefEqProofs only [↓aP, aQ, ↓reduceIte, Nat.reduceEqDiff, Nat.reduceAdd, Nat.reduceSub, Nat.reduceMul, Nat.reduceLT, Nat.reduceLeDiff, reduceCtorEq, Nat.reduceBEq, forall_const, implies_true, exists_const, ne_eq, Int.reduceAdd, Int.reduceSub, Int.reduceMul, Int.reduceBEq, Int.reduceEq, Int.reduceLT, Int.reduceLE, Int.reduceToNat, Int.reduceNeg, Int.reduceBNe, hlt, s9, g9, b9, s11, s94, s95, s96, askIdx_map, hi, encU, encLs]
              refine ask hnx ?_
              simp -implicitDefEqProofs only [↓aP, aQ, ↓reduceIte, Nat.reduceEqDiff, Nat.reduceAdd, Nat.reduceSub, Nat.reduceMul, Nat.reduceLT, Nat.reduceLeDiff, reduceCtorEq, Nat.reduceBEq, forall_const, implies_true, exists_const, ne_eq, Int.reduceAdd, Int.reduceSub, Int.reduceMul, Int.reduceBEq, Int.reduceEq, Int.reduceLT, Int.reduceLE, Int.reduceToNat, Int.reduceNeg, Int.reduceBNe, encN, encLs, s9, g9, b9, s11, s94, s95, s96, v1, v2, wrapS (show i < 4611686018427387904 by omega)]
              refine nextR hi him ⟨x', n2, n3, ?_⟩
              simp -implicitDefEqProofs only [↓aP, aQ, ↓reduceIte, Nat.reduceEqDiff, Nat.reduceAdd, Nat.reduceSub, Nat.reduceMul, Nat.reduceLT, Nat.reduceLeDiff, reduceCtorEq, Nat.reduceBEq, forall_const, implies_true, exists_const, ne_eq, Int.reduceAdd, Int.reduceSub, Int.reduceMul, Int.reduceBEq, Int.reduceEq, Int.reduceLT, Int.reduceLE, Int.reduceToNat, Int.reduceNeg, Int.reduceBNe, s9, g9, b9, s11, s94, s95, s96, encLs]
            · rintro m σ hlt ⟨x, hrx, hcx, s9, g9, b9, s11, s94, s95, s96⟩
              rw [List.drop_length, List.map_nil] at hcx
              have hnx := lNext_spec x (right_small hrx)
              rw [next_over hcx] at hnx
              simp -implicitDefEqProofs only [↓aP, aQ, ↓reduceIte, Nat.reduceEqDiff, Nat.reduceAdd, Nat.reduceSub, Nat.reduceMul, Nat.reduceLT, Nat.reduceLeDiff, reduceCtorEq, Nat.reduceBEq, forall_const, implies_true, exists_const, ne_eq, Int.reduceAdd, Int.reduceSub, Int.reduceMul, Int.reduceBEq, Int.reduceEq, Int.reduceLT, Int.reduceLE, Int.reduceToNat, Int.reduceNeg, Int.reduceBNe, hlt, s9, g9, b9, s11, s94, s95, s96, encLs]
              refine ask hnx ?_
              simp -implicitDefEqProofs only [↓aP, aQ, ↓reduceIte, Nat.reduceEqDiff, Nat.reduceAdd, Nat.reduceSub, Nat.reduceMul, Nat.reduceLT, Nat.reduceLeDiff, reduceCtorEq, Nat.reduceBEq, forall_const, implies_true, exists_const, ne_eq, Int.reduceAdd, Int.reduceSub, Int.reduceMul, Int.reduceBEq, Int.reduceEq, Int.reduceLT, Int.reduceLE, Int.reduceToNat, Int.reduceNeg, Int.reduceBNe, encN, encLs, s9, g9, b9, s11, s94, s95, s96]
              refine ask awake_spec ?_
              simp -implicitDefEqProofs only [↓aP, aQ, ↓reduceIte, Nat.reduceEqDiff, Nat.reduceAdd, Nat.reduceSub, Nat.reduceMul, Nat.reduceLT, Nat.reduceLeDiff, reduceCtorEq, Nat.reduceBEq, forall_const, implies_true, exists_const, ne_eq, Int.reduceAdd, Int.reduceSub, Int.reduceMul, Int.reduceBEq, Int.reduceEq, Int.reduceLT, Int.reduceLE, Int.reduceToNat, Int.reduceNeg, Int.reduceBNe]
end Go.Proofs.Ytfmbfgoofiojcaa
