/- layer 5: the contract of the statements' filled. -/
import Derived.Test.YtfmbfgoofiojcaaL15
import Derived.Test.YtfmbfgoofiojcaaL14
namespace Go.Proofs.Ytfmbfgoofiojcaa
open Go.RowKit Lk Go.ChangeShapes Go.WideShapes
set_option linter.unusedVariables false
set_option linter.unusedSimpArgs false
set_option maxRecDepth 10000
def encRw (r : List Int) : List SC := [.sl 1 (r.map encU)]
def wts (U : List Int) : List Int := if U.length = 0 then [1] else (U.take (min U.length 6)).map wOf
def encFl (W : List Int) (K : List (List Int)) : TV SC := .tup [(true, encLs (fillL W K W.length 0)), (false, [.sl 1 (W.map encI)]), (false, [.pv (.bool true)])]





theorem cAt_some {K : List (List Int)} {i k : Nat} (h : i < K.length) (h0 : 0 < K[i].length) : cAt K i k = wOf (K[i][k % K[i].length]'(Nat.mod_lt _ h0)) := by
  unfold cAt
  rw [List.getElem?_eq_getElem h]
  simp only [if_pos h0, List.getD_eq_getElem?_getD, List.getElem?_eq_getElem (Nat.mod_lt k h0), Option.getD_some]
theorem cAt_none {K : List (List Int)} {i k : Nat} (h : ∀ h : i < K.length, K[i].length = 0) : cAt K i k = 1 + (((i + k) % 8 : Nat) : Int) := by
  unfold cAt
  split
  · rename_i r hr
    obtain ⟨h1, rfl⟩ := List.getElem?_eq_some_iff.1 hr
    rw [if_neg (by have := h h1; omega)]
  · rfl
theorem filled_spec (U : List Int) (K : List (List Int)) (hU : U8 U) (hK : ∀ r ∈ K, U8 r) : Spec Try.prog 22 [rL 1 (U.map encU), rL 1 (K.map encRw)] (.val (encFl (wts U) K)) := by
  refine spec_val mixed fn22 (by simp) ?_
  unfold ac22
  simp -implicitDefEqProofs only [↓aP, aQ, ↓reduceIte, Nat.reduceEqDiff, Nat.reduceAdd, Nat.reduceSub, Nat.reduceMul, Nat.reduceLT, Nat.reduceLeDiff, reduceCtorEq, Nat.reduceBEq, forall_const, implies_true, exists_const, ne_eq, Int.reduceAdd, Int.reduceSub, Int.reduceMul, Int.reduceBEq, Int.reduceEq, Int.reduceLT, Int.reduceLE, Int.reduceToNat, Int.reduceNeg, Int.reduceBNe]
  refine shift (sub_slot (s := 7) 35 3 1 rfl (by exact Nat.succ_pos _)) ?_
  obtain ⟨n, hn⟩ : ∃ n, n = min U.length 6 := ⟨_, rfl⟩
  refine rangeB n (fun i σ => ∃ g, σ.slot 0 = vL 1 (U.map encU) ∧ σ.slot 1 = vL 1 (K.map encRw) ∧ σ.slot 4 = .c (.ptr 4 1 0 0) ∧ σ.h.gen 4 = 1 ∧ σ.h.blk 4 = .box 25 3 [[.zc, .s (.pv (.int .i64 0)), .s (.pv (.bool false))]] ∧ σ.slot 7 = .c (.own 35 g) ∧ σ.slot 8 = vI i ∧ σ.h.gen 35 = g ∧ σ.h.blk 35 = .row 3 1 (((U.take i).map wOf).map encI)) ?_ ?_ ?_
  · simp -implicitDefEqProofs only [↓aP, aQ, ↓reduceIte, Nat.reduceEqDiff, Nat.reduceAdd, Nat.reduceSub, Nat.reduceMul, Nat.reduceLT, Nat.reduceLeDiff, reduceCtorEq, Nat.reduceBEq, forall_const, implies_true, exists_const, ne_eq, Int.reduceAdd, Int.reduceSub, Int.reduceMul, Int.reduceBEq, Int.reduceEq, Int.reduceLT, Int.reduceLE, Int.reduceToNat, Int.reduceNeg, Int.reduceBNe]
    exact ⟨1, by simp⟩
  · rintro i m σ him hi hlt ⟨g, s0, s1, s4, g4, b4, s7, s8, g35, b35⟩
    have hi2 : i < U.length := by omega
    have c1 : decide ((i : Int) < (U.length : Int)) = true := by simp; omega
    have c2 : decide ((i : Int) < 6) = true := by simp; omega
    obtain ⟨v1, v2⟩ := u8_conv (hU _ (List.getElem_mem hi2))
    have e9 : (List.take i U).length ≤ 6 := by rw [List.length_take]; omega
    simp -implicitDefEqProofs only [↓aP, aQ, ↓reduceIte, Nat.reduceEqDiff, Nat.reduceAdd, Nat.reduceSub, Nat.reduceMul, Nat.reduceLT, Nat.reduceLeDiff, reduceCtorEq, Nat.reduceBEq, forall_const, implies_true, exists_const, ne_eq, Int.reduceAdd, Int.reduceSub, Int.reduceMul, Int.reduceBEq, Int.reduceEq, Int.reduceLT, Int.reduceLE, Int.reduceToNat, Int.reduceNeg, Int.reduceBNe, c1, c2, s0, s1, s4, g4, b4, s7, s8, g35, b35, List.length_map, askIdx_map, hi2, encU, v1, v2]
    refine ⟨by omega, by omega, ?_⟩
    refine nextR hi him ⟨g + 1, ?_⟩
    simp -implicitDefEqProofs only [↓aP, aQ, ↓reduceIte, Nat.reduceEqDiff, Nat.reduceAdd, Nat.reduceSub, Nat.reduceMul, Nat.reduceLT, Nat.reduceLeDiff, reduceCtorEq, Nat.reduceBEq, forall_const, implies_true, exists_const, ne_eq, Int.reduceAdd, Int.reduceSub, Int.reduceMul, Int.reduceBEq, Int.reduceEq, Int.reduceLT, Int.reduceLE, Int.reduceToNat, Int.reduceNeg, Int.reduceBNe, s0, s1, s4, g4, b4, s7, s8, g35, b35, take_snoc hi2, List.map_append, encI, wrapS (show i < 4611686018427387904 by omega)]
  · rintro m σ hlt ⟨g, s0, s1, s4, g4, b4, s7, s8, g35, b35⟩
    obtain ⟨W, hW⟩ : ∃ W, W = wts U := ⟨_, rfl⟩
    have hUt : U8 (U.take n) := fun u hu => hU u (List.mem_of_mem_take hu)
    have hWn : okNew W = true := by
      rw [hW]
      unfold wts
      split
      · decide
      · rw [← hn]; exact okNew_map hUt (by rw [List.length_take]; omega) (by rw [List.length_take]; omega)
    have hW6 : 1 ≤ W.length ∧ W.length ≤ 6 := by
      unfold okNew at hWn
      simp only [Bool.and_eq_true, decide_eq_true_eq] at hWn
      exact hWn.1
    have hnew := lNew_spec W (by omega)
    have e : newI W = (fillL W K 0 0, 0) := by
      rw [fill_start]
      rcases newI_cases W with ⟨_, h⟩ | ⟨h, _⟩
      · exact h
      · rw [hWn] at h; simp at h
    rw [e] at hnew
    rw [← hW]
    have hend : ∀ Q : Prop, (decide ((n : Int) < (U.length : Int)) = false → Q) → (decide ((n : Int) < (U.length : Int)) = true → decide ((n : Int) < 6) = false → Q) → Q := by
      intro Q h1 h2
      by_cases hu : n < U.length
      · exact h2 (by simp; omega) (by simp; omega)
      · exact h1 (by simp; omega)
    obtain ⟨GA, hGA⟩ : ∃ G, σ.h.gen 9 = G := ⟨_, rfl⟩
    have hLt : (List.take n U).length = n := by rw [List.length_take]; omega
    refine hend _ (fun c1 => ?_) (fun c1 c2 => ?_)
    case' refine_1 => simp -implicitDefEqProofs only [↓aP, aQ, ↓reduceIte, Nat.reduceEqDiff, Nat.reduceAdd, Nat.reduceSub, Nat.reduceMul, Nat.reduceLT, Nat.reduceLeDiff, reduceCtorEq, Nat.reduceBEq, forall_const, implies_true, exists_const, ne_eq, Int.reduceAdd, Int.reduceSub, Int.reduceMul, Int.reduceBEq, Int.reduceEq, Int.reduceLT, Int.reduceLE, Int.reduceToNat, Int.reduceNeg, Int.reduceBNe, c1, s0, s1, s4, g4, b4, s7, s8, g35, b35, List.length_map]
    case' refine_2 => simp -implicitDefEqProofs only [↓aP, aQ, ↓reduceIte, Nat.reduceEqDiff, Nat.reduceAdd, Nat.reduceSub, Nat.reduceMul, Nat.reduceLT, Nat.reduceLeDiff, reduceCtorEq, Nat.reduceBEq, forall_const, implies_true, exists_const, ne_eq, Int.reduceAdd, Int.reduceSub, Int.reduceMul, Int.reduceBEq, Int.reduceEq, Int.reduceLT, Int.reduceLE, Int.reduceToNat, Int.reduceNeg, Int.reduceBNe, c1, c2, s0, s1, s4, g4, b4, s7, s8, g35, b35, List.length_map]
    all_goals
      by_cases h0 : n = 0
      case pos =>
        have hWe : W = [1] := by rw [hW]; unfold wts; rw [if_pos (by omega)]
        have d0 : (((List.take n U).length : Int) == 0) = true := by rw [hLt, h0]; rfl
        simp -implicitDefEqProofs only [↓aP, aQ, ↓reduceIte, Nat.reduceEqDiff, Nat.reduceAdd, Nat.reduceSub, Nat.reduceMul, Nat.reduceLT, Nat.reduceLeDiff, reduceCtorEq, Nat.reduceBEq, forall_const, implies_true, exists_const, ne_eq, Int.reduceAdd, Int.reduceSub, Int.reduceMul, Int.reduceBEq, Int.reduceEq, Int.reduceLT, Int.reduceLE, Int.reduceToNat, Int.reduceNeg, Int.reduceBNe, d0, s0, s1, s4, g4, b4, s7, s8, g35, b35]
        refine askS hnew (by rw [hWe]; simp -implicitDefEqProofs only [↓aP, aQ, ↓reduceIte, Nat.reduceEqDiff, Nat.reduceAdd, Nat.reduceSub, Nat.reduceMul, Nat.reduceLT, Nat.reduceLeDiff, reduceCtorEq, Nat.reduceBEq, forall_const, implies_true, exists_const, ne_eq, Int.reduceAdd, Int.reduceSub, Int.reduceMul, Int.reduceBEq, Int.reduceEq, Int.reduceLT, Int.reduceLE, Int.reduceToNat, Int.reduceNeg, Int.reduceBNe, encI]) ?_
        simp -implicitDefEqProofs only [↓aP, aQ, ↓reduceIte, Nat.reduceEqDiff, Nat.reduceAdd, Nat.reduceSub, Nat.reduceMul, Nat.reduceLT, Nat.reduceLeDiff, reduceCtorEq, Nat.reduceBEq, forall_const, implies_true, exists_const, ne_eq, Int.reduceAdd, Int.reduceSub, Int.reduceMul, Int.reduceBEq, Int.reduceEq, Int.reduceLT, Int.reduceLE, Int.reduceToNat, Int.reduceNeg, Int.reduceBNe, encR, encLs, s0, s1, s4, g4, b4, s7, s8, g35, b35, hGA]
        obtain ⟨gl, hgl⟩ : ∃ gl, σ.h.gen 39 + 1 = gl := ⟨_, rfl⟩
        refine rangeB W.length (fun i σ => σ.slot 1 = vL 1 (K.map encRw) ∧ σ.slot 4 = .c (.ptr 4 1 0 0) ∧ σ.h.gen 4 = 1 ∧ σ.h.blk 4 = .box 25 3 [[.zc, .s (.pv (.int .i64 0)), .s (.pv (.bool false))]] ∧ σ.slot 7 = .c (.own 39 gl) ∧ σ.h.gen 39 = gl ∧ σ.h.blk 39 = .ice (.sl 1 (W.map encI)) ∧ σ.slot 9 = .c (.ptr 9 (GA + 1) 0 0) ∧ σ.h.gen 9 = GA + 1 ∧ σ.h.blk 9 = .box 25 3 [(encLs (fillL W K i 0)).map AC.s] ∧ σ.slot 10 = vI 0 ∧ σ.slot 46 = vI W.length ∧ σ.slot 47 = vI i) ?_ ?_ ?_
        · simp -implicitDefEqProofs only [↓aP, aQ, ↓reduceIte, Nat.reduceEqDiff, Nat.reduceAdd, Nat.reduceSub, Nat.reduceMul, Nat.reduceLT, Nat.reduceLeDiff, reduceCtorEq, Nat.reduceBEq, forall_const, implies_true, exists_const, ne_eq, Int.reduceAdd, Int.reduceSub, Int.reduceMul, Int.reduceBEq, Int.reduceEq, Int.reduceLT, Int.reduceLE, Int.reduceToNat, Int.reduceNeg, Int.reduceBNe, s0, s1, s4, g4, b4, s7, s8, g35, b35, encLs, hGA, hWe, encI, hgl]
        · rintro i m σ him hi hlt ⟨s1, s4, g4, b4, s7, g39, b39, s9, g9, b9, s10, s46, s47⟩
          simp -implicitDefEqProofs only [↓aP, aQ, ↓reduceIte, Nat.reduceEqDiff, Nat.reduceAdd, Nat.reduceSub, Nat.reduceMul, Nat.reduceLT, Nat.reduceLeDiff, reduceCtorEq, Nat.reduceBEq, forall_const, implies_true, exists_const, ne_eq, Int.reduceAdd, Int.reduceSub, Int.reduceMul, Int.reduceBEq, Int.reduceEq, Int.reduceLT, Int.reduceLE, Int.reduceToNat, Int.reduceNeg, Int.reduceBNe, hlt, s1, s4, g4, b4, s7, g39, b39, s9, g9, b9, s10, s46, s47, List.length_map]
          refine rangeB 150 (fun k σ => σ.slot 1 = vL 1 (K.map encRw) ∧ σ.slot 4 = .c (.ptr 4 1 0 0) ∧ σ.h.gen 4 = 1 ∧ σ.h.blk 4 = .box 25 3 [[.zc, .s (.pv (.int .i64 0)), .s (.pv (.bool false))]] ∧ σ.slot 7 = .c (.own 39 gl) ∧ σ.h.gen 39 = gl ∧ σ.h.blk 39 = .ice (.sl 1 (W.map encI)) ∧ σ.slot 9 = .c (.ptr 9 (GA + 1) 0 0) ∧ σ.h.gen 9 = GA + 1 ∧ σ.h.blk 9 = .box 25 3 [(encLs (fillL W K i k)).map AC.s] ∧ σ.slot 10 = vI 0 ∧ σ.slot 46 = vI W.length ∧ σ.slot 47 = vI i ∧ σ.slot 11 = vI i ∧ σ.slot 50 = vI k) ?_ ?_ ?_
          · simp -implicitDefEqProofs only [↓aP, aQ, ↓reduceIte, Nat.reduceEqDiff, Nat.reduceAdd, Nat.reduceSub, Nat.reduceMul, Nat.reduceLT, Nat.reduceLeDiff, reduceCtorEq, Nat.reduceBEq, forall_const, implies_true, exists_const, ne_eq, Int.reduceAdd, Int.reduceSub, Int.reduceMul, Int.reduceBEq, Int.reduceEq, Int.reduceLT, Int.reduceLE, Int.reduceToNat, Int.reduceNeg, Int.reduceBNe, s1, s4, g4, b4, s7, g39, b39, s9, g9, b9, s10, s46, s47]
          · rintro k m2 σ2 hkm hk hklt ⟨s1, s4, g4, b4, s7, g39, b39, s9, g9, b9, s10, s46, s47, s11, s50⟩
            have hp := lPush_spec (fillL W K i k) i (cAt K i k) (right_small (fill_right hWn hK (by omega)))
            rw [fill_push hWn hK hi hk] at hp
            have f0 : decide ((k : Int) < 150) = true := by simp; omega
            have f1 : IntKind.i64.wrap ((i : Int) + (k : Int)) = ((i + k : Nat) : Int) := by rw [wrapI (by omega)]; omega
            have f2 : Int.tmod ((i + k : Nat) : Int) 8 = (((i + k) % 8 : Nat) : Int) := by rw [Int.tmod_eq_emod_of_nonneg (by omega)]; omega
            have f3 : IntKind.i64.wrap (1 + (((i + k) % 8 : Nat) : Int)) = 1 + (((i + k) % 8 : Nat) : Int) := wrapI (by omega)
            by_cases hiK : i < K.length
            case neg =>
              have d1 : decide ((i : Int) < (K.length : Int)) = false := by simp; omega
              rw [cAt_none (fun h => absurd h hiK)] at hp
              simp -implicitDefEqProofs only [↓aP, aQ, ↓reduceIte, Nat.reduceEqDiff, Nat.reduceAdd, Nat.reduceSub, Nat.reduceMul, Nat.reduceLT, Nat.reduceLeDiff, reduceCtorEq, Nat.reduceBEq, forall_const, implies_true, exists_const, ne_eq, Int.reduceAdd, Int.reduceSub, Int.reduceMul, Int.reduceBEq, Int.reduceEq, Int.reduceLT, Int.reduceLE, Int.reduceToNat, Int.reduceNeg, Int.reduceBNe, f0, s1, s4, g4, b4, s7, g39, b39, s9, g9, b9, s10, s46, s47, s11, s50, List.length_map, f1, f2, f3, d1, encLs]
              refine ask hp ?_
              simp -implicitDefEqProofs only [↓aP, aQ, ↓reduceIte, Nat.reduceEqDiff, Nat.reduceAdd, Nat.reduceSub, Nat.reduceMul, Nat.reduceLT, Nat.reduceLeDiff, reduceCtorEq, Nat.reduceBEq, forall_const, implies_true, exists_const, ne_eq, Int.reduceAdd, Int.reduceSub, Int.reduceMul, Int.reduceBEq, Int.reduceEq, Int.reduceLT, Int.reduceLE, Int.reduceToNat, Int.reduceNeg, Int.reduceBNe, encR, encLs, s1, s4, g4, b4, s7, g39, b39, s9, g9, b9, s10, s46, s47, s11, s50, wrapS (show k < 4611686018427387904 by omega)]
              refine nextR hk hkm ?_
              simp -implicitDefEqProofs only [↓aP, aQ, ↓reduceIte, Nat.reduceEqDiff, Nat.reduceAdd, Nat.reduceSub, Nat.reduceMul, Nat.reduceLT, Nat.reduceLeDiff, reduceCtorEq, Nat.reduceBEq, forall_const, implies_true, exists_const, ne_eq, Int.reduceAdd, Int.reduceSub, Int.reduceMul, Int.reduceBEq, Int.reduceEq, Int.reduceLT, Int.reduceLE, Int.reduceToNat, Int.reduceNeg, Int.reduceBNe, s1, s4, g4, b4, s7, g39, b39, s9, g9, b9, s10, s46, s47, s11, s50, encLs]
            case pos =>
              have d1 : decide ((i : Int) < (K.length : Int)) = true := by simp; omega
              by_cases hr0 : 0 < K[i].length
              case neg =>
                have d2 : decide ((0 : Int) < (K[i].length : Int)) = false := decide_eq_false (by omega)
                rw [cAt_none (fun h => by omega)] at hp
                simp -implicitDefEqProofs only [↓aP, aQ, ↓reduceIte, Nat.reduceEqDiff, Nat.reduceAdd, Nat.reduceSub, Nat.reduceMul, Nat.reduceLT, Nat.reduceLeDiff, reduceCtorEq, Nat.reduceBEq, forall_const, implies_true, exists_const, ne_eq, Int.reduceAdd, Int.reduceSub, Int.reduceMul, Int.reduceBEq, Int.reduceEq, Int.reduceLT, Int.reduceLE, Int.reduceToNat, Int.reduceNeg, Int.reduceBNe, f0, s1, s4, g4, b4, s7, g39, b39, s9, g9, b9, s10, s46, s47, s11, s50, List.length_map, f1, f2, f3, d1, d2, askIdx_map, hiK, encRw, encLs]
                refine ask hp ?_
                simp -implicitDefEqProofs only [↓aP, aQ, ↓reduceIte, Nat.reduceEqDiff, Nat.reduceAdd, Nat.reduceSub, Nat.reduceMul, Nat.reduceLT, Nat.reduceLeDiff, reduceCtorEq, Nat.reduceBEq, forall_const, implies_true, exists_const, ne_eq, Int.reduceAdd, Int.reduceSub, Int.reduceMul, Int.reduceBEq, Int.reduceEq, Int.reduceLT, Int.reduceLE, Int.reduceToNat, Int.reduceNeg, Int.reduceBNe, encR, encLs, s1, s4, g4, b4, s7, g39, b39, s9, g9, b9, s10, s46, s47, s11, s50, wrapS (show k < 4611686018427387904 by omega)]
                refine nextR hk hkm ?_
                simp -implicitDefEqProofs only [↓aP, aQ, ↓reduceIte, Nat.reduceEqDiff, Nat.reduceAdd, Nat.reduceSub, Nat.reduceMul, Nat.reduceLT, Nat.reduceLeDiff, reduceCtorEq, Nat.reduceBEq, forall_const, implies_true, exists_const, ne_eq, Int.reduceAdd, Int.reduceSub, Int.reduceMul, Int.reduceBEq, Int.reduceEq, Int.reduceLT, Int.reduceLE, Int.reduceToNat, Int.reduceNeg, Int.reduceBNe, s1, s4, g4, b4, s7, g39, b39, s9, g9, b9, s10, s46, s47, s11, s50, encLs]
              case pos =>
                have d2 : decide ((0 : Int) < (K[i].length : Int)) = true := by simp; omega
                have hm : k % K[i].length < K[i].length := Nat.mod_lt _ hr0
                have f4 : Int.tmod (k : Int) (K[i].length : Int) = ((k % K[i].length : Nat) : Int) := by rw [Int.tmod_eq_emod_of_nonneg (Int.natCast_nonneg k), Int.natCast_emod]
                have hne : ¬ (K[i].length : Int) = 0 := by omega
                obtain ⟨v1, v2⟩ := u8_conv (hK _ (List.getElem_mem hiK) _ (List.getElem_mem hm))
                rw [cAt_some hiK hr0] at hp
                simp -implicitDefEqProofs only [↓aP, aQ, ↓reduceIte, Nat.reduceEqDiff, Nat.reduceAdd, Nat.reduceSub, Nat.reduceMul, Nat.reduceLT, Nat.reduceLeDiff, reduceCtorEq, Nat.reduceBEq, forall_const, implies_true, exists_const, ne_eq, Int.reduceAdd, Int.reduceSub, Int.reduceMul, Int.reduceBEq, Int.reduceEq, Int.reduceLT, Int.reduceLE, Int.reduceToNat, Int.reduceNeg, Int.reduceBNe, f0, s1, s4, g4, b4, s7, g39, b39, s9, g9, b9, s10, s46, s47, s11, s50, List.length_map, f1, f2, f3, d1, d2, askIdx_map, hiK, encRw, encLs, f4, hm, encU, v1, v2, hne]
                refine ⟨by decide +kernel, ?_⟩
                refine ask hp ?_
                simp -implicitDefEqProofs only [↓aP, aQ, ↓reduceIte, Nat.reduceEqDiff, Nat.reduceAdd, Nat.reduceSub, Nat.reduceMul, Nat.reduceLT, Nat.reduceLeDiff, reduceCtorEq, Nat.reduceBEq, forall_const, implies_true, exists_const, ne_eq, Int.reduceAdd, Int.reduceSub, Int.reduceMul, Int.reduceBEq, Int.reduceEq, Int.reduceLT, Int.reduceLE, Int.reduceToNat, Int.reduceNeg, Int.reduceBNe, encR, encLs, s1, s4, g4, b4, s7, g39, b39, s9, g9, b9, s10, s46, s47, s11, s50, wrapS (show k < 4611686018427387904 by omega)]
                refine nextR hk hkm ?_
                simp -implicitDefEqProofs only [↓aP, aQ, ↓reduceIte, Nat.reduceEqDiff, Nat.reduceAdd, Nat.reduceSub, Nat.reduceMul, Nat.reduceLT, Nat.reduceLeDiff, reduceCtorEq, Nat.reduceBEq, forall_const, implies_true, exists_const, ne_eq, Int.reduceAdd, Int.reduceSub, Int.reduceMul, Int.reduceBEq, Int.reduceEq, Int.reduceLT, Int.reduceLE, Int.reduceToNat, Int.reduceNeg, Int.reduceBNe, s1, s4, g4, b4, s7, g39, b39, s9, g9, b9, s10, s46, s47, s11, s50, encLs]
          · rintro m2 σ2 hklt ⟨s1, s4, g4, b4, s7, g39, b39, s9, g9, b9, s10, s46, s47, s11, s50⟩
            have f0 : decide ((150 : Int) < 150) = false := by decide
            simp -implicitDefEqProofs only [↓aP, aQ, ↓reduceIte, Nat.reduceEqDiff, Nat.reduceAdd, Nat.reduceSub, Nat.reduceMul, Nat.reduceLT, Nat.reduceLeDiff, reduceCtorEq, Nat.reduceBEq, forall_const, implies_true, exists_const, ne_eq, Int.reduceAdd, Int.reduceSub, Int.reduceMul, Int.reduceBEq, Int.reduceEq, Int.reduceLT, Int.reduceLE, Int.reduceToNat, Int.reduceNeg, Int.reduceBNe, f0, s1, s4, g4, b4, s7, g39, b39, s9, g9, b9, s10, s46, s47, s11, s50, fill_next, wrapS (show i < 4611686018427387904 by omega)]
            refine nextR hi him ?_
            simp -implicitDefEqProofs only [↓aP, aQ, ↓reduceIte, Nat.reduceEqDiff, Nat.reduceAdd, Nat.reduceSub, Nat.reduceMul, Nat.reduceLT, Nat.reduceLeDiff, reduceCtorEq, Nat.reduceBEq, forall_const, implies_true, exists_const, ne_eq, Int.reduceAdd, Int.reduceSub, Int.reduceMul, Int.reduceBEq, Int.reduceEq, Int.reduceLT, Int.reduceLE, Int.reduceToNat, Int.reduceNeg, Int.reduceBNe, s1, s4, g4, b4, s7, g39, b39, s9, g9, b9, s10, s46, s47, s11, s50, fill_next]
        · rintro m σ hlt ⟨s1, s4, g4, b4, s7, g39, b39, s9, g9, b9, s10, s46, s47⟩
          simp -implicitDefEqProofs only [↓aP, aQ, ↓reduceIte, Nat.reduceEqDiff, Nat.reduceAdd, Nat.reduceSub, Nat.reduceMul, Nat.reduceLT, Nat.reduceLeDiff, reduceCtorEq, Nat.reduceBEq, forall_const, implies_true, exists_const, ne_eq, Int.reduceAdd, Int.reduceSub, Int.reduceMul, Int.reduceBEq, Int.reduceEq, Int.reduceLT, Int.reduceLE, Int.reduceToNat, Int.reduceNeg, Int.reduceBNe, hlt, s1, s4, g4, b4, s7, g39, b39, s9, g9, b9, s10, s46, s47, encFl, encLs]
      case neg =>
        have hWe : (U.take n).map wOf = W := by rw [hW]; unfold wts; rw [if_neg (by omega), hn]
        have d0 : (((List.take n U).length : Int) == 0) = false := by rw [hLt, beq_eq_false_iff_ne]; omega
        rw [hWe] at b35
        simp -implicitDefEqProofs only [↓aP, aQ, ↓reduceIte, Nat.reduceEqDiff, Nat.reduceAdd, Nat.reduceSub, Nat.reduceMul, Nat.reduceLT, Nat.reduceLeDiff, reduceCtorEq, Nat.reduceBEq, forall_const, implies_true, exists_const, ne_eq, Int.reduceAdd, Int.reduceSub, Int.reduceMul, Int.reduceBEq, Int.reduceEq, Int.reduceLT, Int.reduceLE, Int.reduceToNat, Int.reduceNeg, Int.reduceBNe, d0, s0, s1, s4, g4, b4, s7, s8, g35, b35]
        refine ask hnew ?_
        simp -implicitDefEqProofs only [↓aP, aQ, ↓reduceIte, Nat.reduceEqDiff, Nat.reduceAdd, Nat.reduceSub, Nat.reduceMul, Nat.reduceLT, Nat.reduceLeDiff, reduceCtorEq, Nat.reduceBEq, forall_const, implies_true, exists_const, ne_eq, Int.reduceAdd, Int.reduceSub, Int.reduceMul, Int.reduceBEq, Int.reduceEq, Int.reduceLT, Int.reduceLE, Int.reduceToNat, Int.reduceNeg, Int.reduceBNe, encR, encLs, s0, s1, s4, g4, b4, s7, s8, g35, b35, hGA]
        obtain ⟨gl, hgl⟩ : ∃ gl, g = gl := ⟨_, rfl⟩
        refine rangeB W.length (fun i σ => σ.slot 1 = vL 1 (K.map encRw) ∧ σ.slot 4 = .c (.ptr 4 1 0 0) ∧ σ.h.gen 4 = 1 ∧ σ.h.blk 4 = .box 25 3 [[.zc, .s (.pv (.int .i64 0)), .s (.pv (.bool false))]] ∧ σ.slot 7 = .c (.own 35 gl) ∧ σ.h.gen 35 = gl ∧ σ.h.blk 35 = .ice (.sl 1 (W.map encI)) ∧ σ.slot 9 = .c (.ptr 9 (GA + 1) 0 0) ∧ σ.h.gen 9 = GA + 1 ∧ σ.h.blk 9 = .box 25 3 [(encLs (fillL W K i 0)).map AC.s] ∧ σ.slot 10 = vI 0 ∧ σ.slot 46 = vI W.length ∧ σ.slot 47 = vI i) ?_ ?_ ?_
        · simp -implicitDefEqProofs only [↓aP, aQ, ↓reduceIte, Nat.reduceEqDiff, Nat.reduceAdd, Nat.reduceSub, Nat.reduceMul, Nat.reduceLT, Nat.reduceLeDiff, reduceCtorEq, Nat.reduceBEq, forall_const, implies_true, exists_const, ne_eq, Int.reduceAdd, Int.reduceSub, Int.reduceMul, Int.reduceBEq, Int.reduceEq, Int.reduceLT, Int.reduceLE, Int.reduceToNat, Int.reduceNeg, Int.reduceBNe, s0, s1, s4, g4, b4, s7, s8, g35, b35, encLs, hGA, hgl]
        · rintro i m σ him hi hlt ⟨s1, s4, g4, b4, s7, g35, b35, s9, g9, b9, s10, s46, s47⟩
          simp -implicitDefEqProofs only [↓aP, aQ, ↓reduceIte, Nat.reduceEqDiff, Nat.reduceAdd, Nat.reduceSub, Nat.reduceMul, Nat.reduceLT, Nat.reduceLeDiff, reduceCtorEq, Nat.reduceBEq, forall_const, implies_true, exists_const, ne_eq, Int.reduceAdd, Int.reduceSub, Int.reduceMul, Int.reduceBEq, Int.reduceEq, Int.reduceLT, Int.reduceLE, Int.reduceToNat, Int.reduceNeg, Int.reduceBNe, hlt, s1, s4, g4, b4, s7, g35, b35, s9, g9, b9, s10, s46, s47, List.length_map]
          refine rangeB 150 (fun k σ => σ.slot 1 = vL 1 (K.map encRw) ∧ σ.slot 4 = .c (.ptr 4 1 0 0) ∧ σ.h.gen 4 = 1 ∧ σ.h.blk 4 = .box 25 3 [[.zc, .s (.pv (.int .i64 0)), .s (.pv (.bool false))]] ∧ σ.slot 7 = .c (.own 35 gl) ∧ σ.h.gen 35 = gl ∧ σ.h.blk 35 = .ice (.sl 1 (W.map encI)) ∧ σ.slot 9 = .c (.ptr 9 (GA + 1) 0 0) ∧ σ.h.gen 9 = GA + 1 ∧ σ.h.blk 9 = .box 25 3 [(encLs (fillL W K i k)).map AC.s] ∧ σ.slot 10 = vI 0 ∧ σ.slot 46 = vI W.length ∧ σ.slot 47 = vI i ∧ σ.slot 11 = vI i ∧ σ.slot 50 = vI k) ?_ ?_ ?_
          · simp -implicitDefEqProofs only [↓aP, aQ, ↓reduceIte, Nat.reduceEqDiff, Nat.reduceAdd, Nat.reduceSub, Nat.reduceMul, Nat.reduceLT, Nat.reduceLeDiff, reduceCtorEq, Nat.reduceBEq, forall_const, implies_true, exists_const, ne_eq, Int.reduceAdd, Int.reduceSub, Int.reduceMul, Int.reduceBEq, Int.reduceEq, Int.reduceLT, Int.reduceLE, Int.reduceToNat, Int.reduceNeg, Int.reduceBNe, s1, s4, g4, b4, s7, g35, b35, s9, g9, b9, s10, s46, s47]
          · rintro k m2 σ2 hkm hk hklt ⟨s1, s4, g4, b4, s7, g35, b35, s9, g9, b9, s10, s46, s47, s11, s50⟩
            have hp := lPush_spec (fillL W K i k) i (cAt K i k) (right_small (fill_right hWn hK (by omega)))
            rw [fill_push hWn hK hi hk] at hp
            have f0 : decide ((k : Int) < 150) = true := by simp; omega
            have f1 : IntKind.i64.wrap ((i : Int) + (k : Int)) = ((i + k : Nat) : Int) := by rw [wrapI (by omega)]; omega
            have f2 : Int.tmod ((i + k : Nat) : Int) 8 = (((i + k) % 8 : Nat) : Int) := by rw [Int.tmod_eq_emod_of_nonneg (by omega)]; omega
            have f3 : IntKind.i64.wrap (1 + (((i + k) % 8 : Nat) : Int)) = 1 + (((i + k) % 8 : Nat) : Int) := wrapI (by omega)
            by_cases hiK : i < K.length
            case neg =>
              have d1 : decide ((i : Int) < (K.length : Int)) = false := by simp; omega
              rw [cAt_none (fun h => absurd h hiK)] at hp
              simp -implicitDefEqProofs only [↓aP, aQ, ↓reduceIte, Nat.reduceEqDiff, Nat.reduceAdd, Nat.reduceSub, Nat.reduceMul, Nat.reduceLT, Nat.reduceLeDiff, reduceCtorEq, Nat.reduceBEq, forall_const, implies_true, exists_const, ne_eq, Int.reduceAdd, Int.reduceSub, Int.reduceMul, Int.reduceBEq, Int.reduceEq, Int.reduceLT, Int.reduceLE, Int.reduceToNat, Int.reduceNeg, Int.reduceBNe, f0, s1, s4, g4, b4, s7, g35, b35, s9, g9, b9, s10, s46, s47, s11, s50, List.length_map, f1, f2, f3, d1, encLs]
              refine ask hp ?_
              simp -implicitDefEqProofs only [↓aP, aQ, ↓reduceIte, Nat.reduceEqDiff, Nat.reduceAdd, Nat.reduceSub, Nat.reduceMul, Nat.reduceLT, Nat.reduceLeDiff, reduceCtorEq, Nat.reduceBEq, forall_const, implies_true, exists_const, ne_eq, Int.reduceAdd, Int.reduceSub, Int.reduceMul, Int.reduceBEq, Int.reduceEq, Int.reduceLT, Int.reduceLE, Int.reduceToNat, Int.reduceNeg, Int.reduceBNe, encR, encLs, s1, s4, g4, b4, s7, g35, b35, s9, g9, b9, s10, s46, s47, s11, s50, wrapS (show k < 4611686018427387904 by omega)]
              refine nextR hk hkm ?_
              simp -implicitDefEqProofs only [↓aP, aQ, ↓reduceIte, Nat.reduceEqDiff, Nat.reduceAdd, Nat.reduceSub, Nat.reduceMul, Nat.reduceLT, Nat.reduceLeDiff, reduceCtorEq, Nat.reduceBEq, forall_const, implies_true, exists_const, ne_eq, Int.reduceAdd, Int.reduceSub, Int.reduceMul, Int.reduceBEq, Int.reduceEq, Int.reduceLT, Int.reduceLE, Int.reduceToNat, Int.reduceNeg, Int.reduceBNe, s1, s4, g4, b4, s7, g35, b35, s9, g9, b9, s10, s46, s47, s11, s50, encLs]
            case pos =>
              have d1 : decide ((i : Int) < (K.length : Int)) = true := by simp; omega
              by_cases hr0 : 0 < K[i].length
              case neg =>
                have d2 : decide ((0 : Int) < (K[i].length : Int)) = false := decide_eq_false (by omega)
                rw [cAt_none (fun h => by omega)] at hp
                simp -implicitDefEqProofs only [↓aP, aQ, ↓reduceIte, Nat.reduceEqDiff, Nat.reduceAdd, Nat.reduceSub, Nat.reduceMul, Nat.reduceLT, Nat.reduceLeDiff, reduceCtorEq, Nat.reduceBEq, forall_const, implies_true, exists_const, ne_eq, Int.reduceAdd, Int.reduceSub, Int.reduceMul, Int.reduceBEq, Int.reduceEq, Int.reduceLT, Int.reduceLE, Int.reduceToNat, Int.reduceNeg, Int.reduceBNe, f0, s1, s4, g4, b4, s7, g35, b35, s9, g9, b9, s10, s46, s47, s11, s50, List.length_map, f1, f2, f3, d1, d2, askIdx_map, hiK, encRw, encLs]
                refine ask hp ?_
                simp -implicitDefEqProofs only [↓aP, aQ, ↓reduceIte, Nat.reduceEqDiff, Nat.reduceAdd, Nat.reduceSub, Nat.reduceMul, Nat.reduceLT, Nat.reduceLeDiff, reduceCtorEq, Nat.reduceBEq, forall_const, implies_true, exists_const, ne_eq, Int.reduceAdd, Int.reduceSub, Int.reduceMul, Int.reduceBEq, Int.reduceEq, Int.reduceLT, Int.reduceLE, Int.reduceToNat, Int.reduceNeg, Int.reduceBNe, encR, encLs, s1, s4, g4, b4, s7, g35, b35, s9, g9, b9, s10, s46, s47, s11, s50, wrapS (show k < 4611686018427387904 by omega)]
                refine nextR hk hkm ?_
                simp -implicitDefEqProofs only [↓aP, aQ, ↓reduceIte, Nat.reduceEqDiff, Nat.reduceAdd, Nat.reduceSub, Nat.reduceMul, Nat.reduceLT, Nat.reduceLeDiff, reduceCtorEq, Nat.reduceBEq, forall_const, implies_true, exists_const, ne_eq, Int.reduceAdd, Int.reduceSub, Int.reduceMul, Int.reduceBEq, Int.reduceEq, Int.reduceLT, Int.reduceLE, Int.reduceToNat, Int.reduceNeg, Int.reduceBNe, s1, s4, g4, b4, s7, g35, b35, s9, g9, b9, s10, s46, s47, s11, s50, encLs]
              case pos =>
                have d2 : decide ((0 : Int) < (K[i].length : Int)) = true := by simp; omega
                have hm : k % K[i].length < K[i].length := Nat.mod_lt _ hr0
                have f4 : Int.tmod (k : Int) (K[i].length : Int) = ((k % K[i].length : Nat) : Int) := by rw [Int.tmod_eq_emod_of_nonneg (Int.natCast_nonneg k), Int.natCast_emod]
                have hne : ¬ (K[i].length : Int) = 0 := by omega
                obtain ⟨v1, v2⟩ := u8_conv (hK _ (List.getElem_mem hiK) _ (List.getElem_mem hm))
                rw [cAt_some hiK hr0] at hp
                simp -implicitDefEqProofs only [↓aP, aQ, ↓reduceIte, Nat.reduceEqDiff, Nat.reduceAdd, Nat.reduceSub, Nat.reduceMul, Nat.reduceLT, Nat.reduceLeDiff, reduceCtorEq, Nat.reduceBEq, forall_const, implies_true, exists_const, ne_eq, Int.reduceAdd, Int.reduceSub, Int.reduceMul, Int.reduceBEq, Int.reduceEq, Int.reduceLT, Int.reduceLE, Int.reduceToNat, Int.reduceNeg, Int.reduceBNe, f0, s1, s4, g4, b4, s7, g35, b35, s9, g9, b9, s10, s46, s47, s11, s50, List.length_map, f1, f2, f3, d1, d2, askIdx_map, hiK, encRw, encLs, f4, hm, encU, v1, v2, hne]
                refine ⟨by decide +kernel, ?_⟩
                refine ask hp ?_
                simp -implicitDefEqProofs only [↓aP, aQ, ↓reduceIte, Nat.reduceEqDiff, Nat.reduceAdd, Nat.reduceSub, Nat.reduceMul, Nat.reduceLT, Nat.reduceLeDiff, reduceCtorEq, Nat.reduceBEq, forall_const, implies_true, exists_const, ne_eq, Int.reduceAdd, Int.reduceSub, Int.reduceMul, Int.reduceBEq, Int.reduceEq, Int.reduceLT, Int.reduceLE, Int.reduceToNat, Int.reduceNeg, Int.reduceBNe, encR, encLs, s1, s4, g4, b4, s7, g35, b35, s9, g9, b9, s10, s46, s47, s11, s50, wrapS (show k < 4611686018427387904 by omega)]
                refine nextR hk hkm ?_
                simp -implicitDefEqProofs only [↓aP, aQ, ↓reduceIte, Nat.reduceEqDiff, Nat.reduceAdd, Nat.reduceSub, Nat.reduceMul, Nat.reduceLT, Nat.reduceLeDiff, reduceCtorEq, Nat.reduceBEq, forall_const, implies_true, exists_const, ne_eq, Int.reduceAdd, Int.reduceSub, Int.reduceMul, Int.reduceBEq, Int.reduceEq, Int.reduceLT, Int.reduceLE, Int.reduceToNat, Int.reduceNeg, Int.reduceBNe, s1, s4, g4, b4, s7, g35, b35, s9, g9, b9, s10, s46, s47, s11, s50, encLs]
          · rintro m2 σ2 hklt ⟨s1, s4, g4, b4, s7, g35, b35, s9, g9, b9, s10, s46, s47, s11, s50⟩
            have f0 : decide ((150 : Int) < 150) = false := by decide
            simp -implicitDefEqProofs only [↓aP, aQ, ↓reduceIte, Nat.reduceEqDiff, Nat.reduceAdd, Nat.reduceSub, Nat.reduceMul, Nat.reduceLT, Nat.reduceLeDiff, reduceCtorEq, Nat.reduceBEq, forall_const, implies_true, exists_const, ne_eq, Int.reduceAdd, Int.reduceSub, Int.reduceMul, Int.reduceBEq, Int.reduceEq, Int.reduceLT, Int.reduceLE, Int.reduceToNat, Int.reduceNeg, Int.reduceBNe, f0, s1, s4, g4, b4, s7, g35, b35, s9, g9, b9, s10, s46, s47, s11, s50, fill_next, wrapS (show i < 4611686018427387904 by omega)]
            refine nextR hi him ?_
            simp -implicitDefEqProofs only [↓aP, aQ, ↓reduceIte, Nat.reduceEqDiff, Nat.reduceAdd, Nat.reduceSub, Nat.reduceMul, Nat.reduceLT, Nat.reduceLeDiff, reduceCtorEq, Nat.reduceBEq, forall_const, implies_true, exists_const, ne_eq, Int.reduceAdd, Int.reduceSub, Int.reduceMul, Int.reduceBEq, Int.reduceEq, Int.reduceLT, Int.reduceLE, Int.reduceToNat, Int.reduceNeg, Int.reduceBNe, s1, s4, g4, b4, s7, g35, b35, s9, g9, b9, s10, s46, s47, s11, s50, fill_next]
        · rintro m σ hlt ⟨s1, s4, g4, b4, s7, g35, b35, s9, g9, b9, s10, s46, s47⟩
          simp -implicitDefEqProofs only [↓aP, aQ, ↓reduceIte, Nat.reduceEqDiff, Nat.reduceAdd, Nat.reduceSub, Nat.reduceMul, Nat.reduceLT, Nat.reduceLeDiff, reduceCtorEq, Nat.reduceBEq, forall_const, implies_true, exists_const, ne_eq, Int.reduceAdd, Int.reduceSub, Int.reduceMul, Int.reduceBEq, Int.reduceEq, Int.reduceLT, Int.reduceLE, Int.reduceToNat, Int.reduceNeg, Int.reduceBNe, hlt, s1, s4, g4, b4, s7, g35, b35, s9, g9, b9, s10, s46, s47, encFl, encLs]
end Go.Proofs.Ytfmbfgoofiojcaa
