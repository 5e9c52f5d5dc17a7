/- layer 5: the law LanesEqual: its walk. -/
import Derived.Test.YtfmbfgoofiojcaaL24
namespace Go.Proofs.Ytfmbfgoofiojcaa
open Go.RowKit Lk
set_option linter.unusedVariables false
set_option linter.unusedSimpArgs false
def ow (n i : Nat) : List Int := (List.range n).map fun j => if j < i then 1 else 0
theorem ow_len {n i : Nat} : (ow n i).length = n := by simp [ow]
theorem ow_zero {n : Nat} : (ow n 0).map encI = List.replicate n [.pv (.int .i64 0)] := by
  unfold ow
  refine List.ext_getElem (by simp) (fun j h1 h2 => ?_)
  simp [encI]
theorem ow_set {n i : Nat} : ((ow n i).map encI).set i [.pv (.int .i64 1)] = (ow n (i + 1)).map encI := by
  refine List.ext_getElem (by simp [ow_len]) (fun j h1 h2 => ?_)
  rw [List.getElem_set]
  simp only [ow, List.getElem_map, List.getElem_range, encI]
  by_cases e : i = j
  · rw [if_pos e, if_pos (by omega)]
  · rw [if_neg e]
    by_cases h : j < i
    · rw [if_pos h, if_pos (by omega)]
    · rw [if_neg h, if_neg (by omega)]
theorem ow_end {n : Nat} : ow n n = List.replicate n 1 := by
  unfold ow
  refine List.ext_getElem (by simp) (fun j h1 h2 => ?_)
  simp at h2 ⊢
  omega








theorem law_equal (a b : Int) (ha : 0 ≤ a ∧ a ≤ 255) (hb : 0 ≤ b ∧ b ≤ 255) (hf : Bool) : Spec Try.prog 8 [.c (.pv (.int .u8 a)), .c (.pv (.int .u8 b)), rB hf] (.val (rB true)) := by
  refine spec_val mixed fn8 (by simp) ?_
  unfold ac8
  obtain ⟨n, hn, hn26⟩ : ∃ n : Nat, IntKind.i64.wrap (2 + IntKind.i64.wrap (a.tmod 5)) = (n : Int) ∧ 2 ≤ n ∧ n ≤ 6 := by
    rw [Int.tmod_eq_emod_of_nonneg ha.1, wrapI (x := a % 5) (by omega), wrapI (by omega)]
    exact ⟨(2 + a % 5).toNat, by omega, by omega, by omega⟩
  obtain ⟨s, hs, hs60⟩ : ∃ s : Nat, IntKind.i64.wrap (b.tmod 61) = (s : Int) ∧ s ≤ 60 := by
    rw [Int.tmod_eq_emod_of_nonneg hb.1, wrapI (x := b % 61) (by omega)]
    exact ⟨(b % 61).toNat, by omega, by omega⟩
  cases hf
  · have hle := (le_all n (by omega) hn26.1).1
    simp -implicitDefEqProofs only [↓aP, aQ, ↓reduceIte, Nat.reduceEqDiff, Nat.reduceAdd, Nat.reduceSub, Nat.reduceMul, Nat.reduceLT, Nat.reduceLeDiff, reduceCtorEq, Nat.reduceBEq, forall_const, implies_true, exists_const, ne_eq, Int.reduceAdd, Int.reduceSub, Int.reduceMul, Int.reduceBEq, Int.reduceEq, Int.reduceLT, Int.reduceLE, Int.reduceToNat, Int.reduceNeg, Int.reduceBNe, hn, hs]
    refine ⟨by omega, by omega, ?_⟩
    refine rangeB n (fun i σ => ∃ g, σ.slot 7 = vI n ∧ σ.slot 8 = vI 4 ∧ σ.slot 9 = vI 1 ∧ σ.slot 1 = .c (.s (.pv (.int .u8 b))) ∧ σ.slot 10 = .c (.own 26 g) ∧ σ.h.gen 26 = g ∧ σ.h.blk 26 = .row 3 1 ((ow n i).map encI) ∧ σ.slot 28 = vI n ∧ σ.slot 29 = vI i) ?_ ?_ ?_
    · simp -implicitDefEqProofs only [↓aP, aQ, ↓reduceIte, Nat.reduceEqDiff, Nat.reduceAdd, Nat.reduceSub, Nat.reduceMul, Nat.reduceLT, Nat.reduceLeDiff, reduceCtorEq, Nat.reduceBEq, forall_const, implies_true, exists_const, ne_eq, Int.reduceAdd, Int.reduceSub, Int.reduceMul, Int.reduceBEq, Int.reduceEq, Int.reduceLT, Int.reduceLE, Int.reduceToNat, Int.reduceNeg, Int.reduceBNe, ow_len, ow_zero]
      exact ⟨1, rfl, rfl, by rw [List.length_replicate]⟩
    · rintro i m σ him hi hlt ⟨g, s7, s8, s9, s1, s10, g26, b26, s28, s29⟩
      have hil : i < (ow n i).length := by rw [ow_len]; exact hi
      simp -implicitDefEqProofs only [↓aP, aQ, ↓reduceIte, Nat.reduceEqDiff, Nat.reduceAdd, Nat.reduceSub, Nat.reduceMul, Nat.reduceLT, Nat.reduceLeDiff, reduceCtorEq, Nat.reduceBEq, forall_const, implies_true, exists_const, ne_eq, Int.reduceAdd, Int.reduceSub, Int.reduceMul, Int.reduceBEq, Int.reduceEq, Int.reduceLT, Int.reduceLE, Int.reduceToNat, Int.reduceNeg, Int.reduceBNe, hlt, s7, s8, s9, s1, s10, g26, b26, s28, s29, List.length_map, hil, Int.toNat_natCast, wrapS (show i < 4611686018427387904 by omega)]
      refine nextR hi him ⟨g, ?_⟩
      simp -implicitDefEqProofs only [↓aP, aQ, ↓reduceIte, Nat.reduceEqDiff, Nat.reduceAdd, Nat.reduceSub, Nat.reduceMul, Nat.reduceLT, Nat.reduceLeDiff, reduceCtorEq, Nat.reduceBEq, forall_const, implies_true, exists_const, ne_eq, Int.reduceAdd, Int.reduceSub, Int.reduceMul, Int.reduceBEq, Int.reduceEq, Int.reduceLT, Int.reduceLE, Int.reduceToNat, Int.reduceNeg, Int.reduceBNe, s7, s8, s9, s1, s10, g26, b26, s28, s29, encI, ow_set]
    · rintro m σ hlt ⟨g, s7, s8, s9, s1, s10, g26, b26, s28, s29⟩
      rw [ow_end] at b26
      obtain ⟨GG, hGG⟩ : ∃ G, σ.h.gen 12 = G := ⟨_, rfl⟩
      simp -implicitDefEqProofs only [↓aP, aQ, ↓reduceIte, Nat.reduceEqDiff, Nat.reduceAdd, Nat.reduceSub, Nat.reduceMul, Nat.reduceLT, Nat.reduceLeDiff, reduceCtorEq, Nat.reduceBEq, forall_const, implies_true, exists_const, ne_eq, Int.reduceAdd, Int.reduceSub, Int.reduceMul, Int.reduceBEq, Int.reduceEq, Int.reduceLT, Int.reduceLE, Int.reduceToNat, Int.reduceNeg, Int.reduceBNe, hlt, s7, s8, s9, s1, s10, g26, b26, s28, s29]
      have hnw := lNew_spec (List.replicate n 1) (by simp; omega)
      rw [ps_new (c := 4) hn26] at hnw
      refine ask hnw ?_
      simp -implicitDefEqProofs only [↓aP, aQ, ↓reduceIte, Nat.reduceEqDiff, Nat.reduceAdd, Nat.reduceSub, Nat.reduceMul, Nat.reduceLT, Nat.reduceLeDiff, reduceCtorEq, Nat.reduceBEq, forall_const, implies_true, exists_const, ne_eq, Int.reduceAdd, Int.reduceSub, Int.reduceMul, Int.reduceBEq, Int.reduceEq, Int.reduceLT, Int.reduceLE, Int.reduceToNat, Int.reduceNeg, Int.reduceBNe, encR, encLs, s7, s8, s9, s1, s10, g26, b26, s28, s29, hGG]
      refine rangeB n (fun i σ => σ.slot 7 = vI n ∧ σ.slot 8 = vI 4 ∧ σ.slot 9 = vI 1 ∧ σ.slot 1 = .c (.s (.pv (.int .u8 b))) ∧ σ.slot 12 = .c (.ptr 12 (GG + 1) 0 0) ∧ σ.h.gen 12 = GG + 1 ∧ σ.h.blk 12 = .box 25 3 [(encLs (pS n 4 i 0)).map AC.s] ∧ σ.slot 13 = vI 0 ∧ σ.slot 41 = vI n ∧ σ.slot 42 = vI i) ?_ ?_ ?_
      · simp -implicitDefEqProofs only [↓aP, aQ, ↓reduceIte, Nat.reduceEqDiff, Nat.reduceAdd, Nat.reduceSub, Nat.reduceMul, Nat.reduceLT, Nat.reduceLeDiff, reduceCtorEq, Nat.reduceBEq, forall_const, implies_true, exists_const, ne_eq, Int.reduceAdd, Int.reduceSub, Int.reduceMul, Int.reduceBEq, Int.reduceEq, Int.reduceLT, Int.reduceLE, Int.reduceToNat, Int.reduceNeg, Int.reduceBNe, s7, s8, s9, s1, s10, g26, b26, s28, s29, encLs, hGG]
      · clear hlt s7 s8 s9 s1 s10 g26 b26 s28 s29 hnw
        rintro i m σ him hi hlt ⟨s7, s8, s9, s1, s12, g12, b12, s13, s41, s42⟩
        simp -implicitDefEqProofs only [↓aP, aQ, ↓reduceIte, Nat.reduceEqDiff, Nat.reduceAdd, Nat.reduceSub, Nat.reduceMul, Nat.reduceLT, Nat.reduceLeDiff, reduceCtorEq, Nat.reduceBEq, forall_const, implies_true, exists_const, ne_eq, Int.reduceAdd, Int.reduceSub, Int.reduceMul, Int.reduceBEq, Int.reduceEq, Int.reduceLT, Int.reduceLE, Int.reduceToNat, Int.reduceNeg, Int.reduceBNe, hlt, s7, s8, s9, s1, s12, g12, b12, s13, s41, s42, encLs]
        refine rangeB 60 (fun k σ => σ.slot 7 = vI n ∧ σ.slot 8 = vI 4 ∧ σ.slot 9 = vI 1 ∧ σ.slot 1 = .c (.s (.pv (.int .u8 b))) ∧ σ.slot 12 = .c (.ptr 12 (GG + 1) 0 0) ∧ σ.h.gen 12 = GG + 1 ∧ σ.h.blk 12 = .box 25 3 [(encLs (pS n 4 i k)).map AC.s] ∧ σ.slot 13 = vI 0 ∧ σ.slot 41 = vI n ∧ σ.slot 42 = vI i ∧ σ.slot 14 = vI i ∧ σ.slot 45 = vI k) ?_ ?_ ?_
        · simp -implicitDefEqProofs only [↓aP, aQ, ↓reduceIte, Nat.reduceEqDiff, Nat.reduceAdd, Nat.reduceSub, Nat.reduceMul, Nat.reduceLT, Nat.reduceLeDiff, reduceCtorEq, Nat.reduceBEq, forall_const, implies_true, exists_const, ne_eq, Int.reduceAdd, Int.reduceSub, Int.reduceMul, Int.reduceBEq, Int.reduceEq, Int.reduceLT, Int.reduceLE, Int.reduceToNat, Int.reduceNeg, Int.reduceBNe, s7, s8, s9, s1, s12, g12, b12, s13, s41, s42, encLs]
        · clear hlt s7 s8 s9 s1 s12 g12 b12 s13 s41 s42
          rintro k m2 σ hkm hk hlt ⟨s7, s8, s9, s1, s12, g12, b12, s13, s41, s42, s14, s45⟩
          have hk60 : decide ((k : Int) < 60) = true := by simp; omega
          have hsp := lPush_spec (pS n 4 i k) i 4 (right_small (ps_right hn26 (by omega) (by decide)))
          simp -implicitDefEqProofs only [↓aP, aQ, ↓reduceIte, Nat.reduceEqDiff, Nat.reduceAdd, Nat.reduceSub, Nat.reduceMul, Nat.reduceLT, Nat.reduceLeDiff, reduceCtorEq, Nat.reduceBEq, forall_const, implies_true, exists_const, ne_eq, Int.reduceAdd, Int.reduceSub, Int.reduceMul, Int.reduceBEq, Int.reduceEq, Int.reduceLT, Int.reduceLE, Int.reduceToNat, Int.reduceNeg, Int.reduceBNe, hk60, s7, s8, s9, s1, s12, g12, b12, s13, s41, s42, s14, s45, encLs]
          refine ask hsp ?_
          simp -implicitDefEqProofs only [↓aP, aQ, ↓reduceIte, Nat.reduceEqDiff, Nat.reduceAdd, Nat.reduceSub, Nat.reduceMul, Nat.reduceLT, Nat.reduceLeDiff, reduceCtorEq, Nat.reduceBEq, forall_const, implies_true, exists_const, ne_eq, Int.reduceAdd, Int.reduceSub, Int.reduceMul, Int.reduceBEq, Int.reduceEq, Int.reduceLT, Int.reduceLE, Int.reduceToNat, Int.reduceNeg, Int.reduceBNe, encR, encLs, ps_push hn26 hi hk (show okC 4 = true by decide), s7, s8, s9, s1, s12, g12, b12, s13, s41, s42, s14, s45, wrapS (show k < 4611686018427387904 by omega)]
          refine nextR hk hkm ?_
          simp -implicitDefEqProofs only [↓aP, aQ, ↓reduceIte, Nat.reduceEqDiff, Nat.reduceAdd, Nat.reduceSub, Nat.reduceMul, Nat.reduceLT, Nat.reduceLeDiff, reduceCtorEq, Nat.reduceBEq, forall_const, implies_true, exists_const, ne_eq, Int.reduceAdd, Int.reduceSub, Int.reduceMul, Int.reduceBEq, Int.reduceEq, Int.reduceLT, Int.reduceLE, Int.reduceToNat, Int.reduceNeg, Int.reduceBNe, s7, s8, s9, s1, s12, g12, b12, s13, s41, s42, s14, s45, encLs]
        · clear hlt s7 s8 s9 s1 s12 g12 b12 s13 s41 s42
          rintro m2 σ hlt ⟨s7, s8, s9, s1, s12, g12, b12, s13, s41, s42, s14, s45⟩
          rw [ps_next] at b12
          simp -implicitDefEqProofs only [↓aP, aQ, ↓reduceIte, Nat.reduceEqDiff, Nat.reduceAdd, Nat.reduceSub, Nat.reduceMul, Nat.reduceLT, Nat.reduceLeDiff, reduceCtorEq, Nat.reduceBEq, forall_const, implies_true, exists_const, ne_eq, Int.reduceAdd, Int.reduceSub, Int.reduceMul, Int.reduceBEq, Int.reduceEq, Int.reduceLT, Int.reduceLE, Int.reduceToNat, Int.reduceNeg, Int.reduceBNe, s7, s8, s9, s1, s12, g12, b12, s13, s41, s42, s14, s45, show decide (((60 : Nat) : Int) < 60) = false by decide, wrapS (show i < 4611686018427387904 by omega)]
          refine nextR hi him ?_
          simp -implicitDefEqProofs only [↓aP, aQ, ↓reduceIte, Nat.reduceEqDiff, Nat.reduceAdd, Nat.reduceSub, Nat.reduceMul, Nat.reduceLT, Nat.reduceLeDiff, reduceCtorEq, Nat.reduceBEq, forall_const, implies_true, exists_const, ne_eq, Int.reduceAdd, Int.reduceSub, Int.reduceMul, Int.reduceBEq, Int.reduceEq, Int.reduceLT, Int.reduceLE, Int.reduceToNat, Int.reduceNeg, Int.reduceBNe, s7, s8, s9, s1, s12, g12, b12, s13, s41, s42, s14, s45, encLs]
      · clear hlt s7 s8 s9 s1 s10 g26 b26 s28 s29 hnw
        rintro m σ hlt ⟨s7, s8, s9, s1, s12, g12, b12, s13, s41, s42⟩
        simp -implicitDefEqProofs only [↓aP, aQ, ↓reduceIte, Nat.reduceEqDiff, Nat.reduceAdd, Nat.reduceSub, Nat.reduceMul, Nat.reduceLT, Nat.reduceLeDiff, reduceCtorEq, Nat.reduceBEq, forall_const, implies_true, exists_const, ne_eq, Int.reduceAdd, Int.reduceSub, Int.reduceMul, Int.reduceBEq, Int.reduceEq, Int.reduceLT, Int.reduceLE, Int.reduceToNat, Int.reduceNeg, Int.reduceBNe, hlt, s7, s8, s9, s1, s12, g12, b12, s13, s41, s42, hs]
        refine rangeB s (fun i σ => σ.slot 7 = vI n ∧ σ.slot 8 = vI 4 ∧ σ.slot 9 = vI 1 ∧ σ.slot 1 = .c (.s (.pv (.int .u8 b))) ∧ σ.slot 12 = .c (.ptr 12 (GG + 1) 0 0) ∧ σ.h.gen 12 = GG + 1 ∧ σ.h.blk 12 = .box 25 3 [(encLs (itN (pS n 4 n 0) i)).map AC.s] ∧ σ.slot 13 = vI 0 ∧ σ.slot 58 = vI s ∧ σ.slot 59 = vI i) ?_ ?_ ?_
        · simp -implicitDefEqProofs only [↓aP, aQ, ↓reduceIte, Nat.reduceEqDiff, Nat.reduceAdd, Nat.reduceSub, Nat.reduceMul, Nat.reduceLT, Nat.reduceLeDiff, reduceCtorEq, Nat.reduceBEq, forall_const, implies_true, exists_const, ne_eq, Int.reduceAdd, Int.reduceSub, Int.reduceMul, Int.reduceBEq, Int.reduceEq, Int.reduceLT, Int.reduceLE, Int.reduceToNat, Int.reduceNeg, Int.reduceBNe, s7, s8, s9, s1, s12, g12, b12, s13, s41, s42, itN]
        · clear hlt s7 s8 s9 s1 s12 g12 b12 s13 s41 s42
          rintro i m σ him hi hlt ⟨s7, s8, s9, s1, s12, g12, b12, s13, s58, s59⟩
          obtain ⟨q1, q2, q3⟩ := leC_at 60 0 _ hle i (by omega)
          rw [Nat.zero_add] at q2
          have hsp := lNext_spec (itN (pS n 4 n 0) i) (right_small (next_right q1))
          have hst : (nextI (itN (pS n 4 n 0) i)).1 = itN (pS n 4 n 0) (i + 1) := rfl
          simp -implicitDefEqProofs only [↓aP, aQ, ↓reduceIte, Nat.reduceEqDiff, Nat.reduceAdd, Nat.reduceSub, Nat.reduceMul, Nat.reduceLT, Nat.reduceLeDiff, reduceCtorEq, Nat.reduceBEq, forall_const, implies_true, exists_const, ne_eq, Int.reduceAdd, Int.reduceSub, Int.reduceMul, Int.reduceBEq, Int.reduceEq, Int.reduceLT, Int.reduceLE, Int.reduceToNat, Int.reduceNeg, Int.reduceBNe, hlt, s7, s8, s9, s1, s12, g12, b12, s13, s58, s59, encLs]
          refine ask hsp ?_
          have hdv : (IntKind.i64.wrap ((i : Int).tdiv 1)).tmod (n : Int) = ((i / 1 % n : Nat) : Int) := by
            have h0 : (i : Int).tdiv 1 = ((i / 1 : Nat) : Int) := by rw [Int.tdiv_eq_ediv_of_nonneg (by omega)]; omega
            rw [h0, wrapI (by omega), Int.tmod_eq_emod_of_nonneg (by omega)]
            first | exact (Int.natCast_emod _ _).symm | exact (Int.ofNat_emod _ _).symm | rfl
          simp -implicitDefEqProofs only [↓aP, aQ, ↓reduceIte, Nat.reduceEqDiff, Nat.reduceAdd, Nat.reduceSub, Nat.reduceMul, Nat.reduceLT, Nat.reduceLeDiff, reduceCtorEq, Nat.reduceBEq, forall_const, implies_true, exists_const, ne_eq, Int.reduceAdd, Int.reduceSub, Int.reduceMul, Int.reduceBEq, Int.reduceEq, Int.reduceLT, Int.reduceLE, Int.reduceToNat, Int.reduceNeg, Int.reduceBNe, encN, encLs, q1, q2, q3, hst, s7, s8, s9, s1, s12, g12, b12, s13, s58, s59, hdv, bne_self_eq_false, wrapS (show i < 4611686018427387904 by omega)]
          refine ⟨by omega, ?_⟩
          try simp -implicitDefEqProofs only [↓aP, aQ, ↓reduceIte, Nat.reduceEqDiff, Nat.reduceAdd, Nat.reduceSub, Nat.reduceMul, Nat.reduceLT, Nat.reduceLeDiff, reduceCtorEq, Nat.reduceBEq, forall_const, implies_true, exists_const, ne_eq, Int.reduceAdd, Int.reduceSub, Int.reduceMul, Int.reduceBEq, Int.reduceEq, Int.reduceLT, Int.reduceLE, Int.reduceToNat, Int.reduceNeg, Int.reduceBNe, s7, s8, s9, s1, s12, g12, b12, s13, s58, s59, encLs, hst, hdv, bne_self_eq_false]
          refine nextR hi him ?_
          simp -implicitDefEqProofs only [↓aP, aQ, ↓reduceIte, Nat.reduceEqDiff, Nat.reduceAdd, Nat.reduceSub, Nat.reduceMul, Nat.reduceLT, Nat.reduceLeDiff, reduceCtorEq, Nat.reduceBEq, forall_const, implies_true, exists_const, ne_eq, Int.reduceAdd, Int.reduceSub, Int.reduceMul, Int.reduceBEq, Int.reduceEq, Int.reduceLT, Int.reduceLE, Int.reduceToNat, Int.reduceNeg, Int.reduceBNe, s7, s8, s9, s1, s12, g12, b12, s13, s58, s59, encLs]
        · clear hlt s7 s8 s9 s1 s12 g12 b12 s13 s41 s42
          rintro m σ hlt ⟨s7, s8, s9, s1, s12, g12, b12, s13, s58, s59⟩
          simp -implicitDefEqProofs only [↓aP, aQ, ↓reduceIte, Nat.reduceEqDiff, Nat.reduceAdd, Nat.reduceSub, Nat.reduceMul, Nat.reduceLT, Nat.reduceLeDiff, reduceCtorEq, Nat.reduceBEq, forall_const, implies_true, exists_const, ne_eq, Int.reduceAdd, Int.reduceSub, Int.reduceMul, Int.reduceBEq, Int.reduceEq, Int.reduceLT, Int.reduceLE, Int.reduceToNat, Int.reduceNeg, Int.reduceBNe, hlt, s7, s8, s9, s1, s12, g12, b12, s13, s58, s59, beq_self_eq_true]
          refine ask awake_spec ?_
          simp -implicitDefEqProofs only [↓aP, aQ, ↓reduceIte, Nat.reduceEqDiff, Nat.reduceAdd, Nat.reduceSub, Nat.reduceMul, Nat.reduceLT, Nat.reduceLeDiff, reduceCtorEq, Nat.reduceBEq, forall_const, implies_true, exists_const, ne_eq, Int.reduceAdd, Int.reduceSub, Int.reduceMul, Int.reduceBEq, Int.reduceEq, Int.reduceLT, Int.reduceLE, Int.reduceToNat, Int.reduceNeg, Int.reduceBNe]
  · have hle := (le_all n (by omega) hn26.1).2
    simp -implicitDefEqProofs only [↓aP, aQ, ↓reduceIte, Nat.reduceEqDiff, Nat.reduceAdd, Nat.reduceSub, Nat.reduceMul, Nat.reduceLT, Nat.reduceLeDiff, reduceCtorEq, Nat.reduceBEq, forall_const, implies_true, exists_const, ne_eq, Int.reduceAdd, Int.reduceSub, Int.reduceMul, Int.reduceBEq, Int.reduceEq, Int.reduceLT, Int.reduceLE, Int.reduceToNat, Int.reduceNeg, Int.reduceBNe, hn, hs]
    refine ⟨by omega, by omega, ?_⟩
    refine rangeB n (fun i σ => ∃ g, σ.slot 7 = vI n ∧ σ.slot 8 = vI 2 ∧ σ.slot 9 = vI 2 ∧ σ.slot 1 = .c (.s (.pv (.int .u8 b))) ∧ σ.slot 10 = .c (.own 26 g) ∧ σ.h.gen 26 = g ∧ σ.h.blk 26 = .row 3 1 ((ow n i).map encI) ∧ σ.slot 28 = vI n ∧ σ.slot 29 = vI i) ?_ ?_ ?_
    · simp -implicitDefEqProofs only [↓aP, aQ, ↓reduceIte, Nat.reduceEqDiff, Nat.reduceAdd, Nat.reduceSub, Nat.reduceMul, Nat.reduceLT, Nat.reduceLeDiff, reduceCtorEq, Nat.reduceBEq, forall_const, implies_true, exists_const, ne_eq, Int.reduceAdd, Int.reduceSub, Int.reduceMul, Int.reduceBEq, Int.reduceEq, Int.reduceLT, Int.reduceLE, Int.reduceToNat, Int.reduceNeg, Int.reduceBNe, ow_len, ow_zero]
      exact ⟨1, rfl, rfl, by rw [List.length_replicate]⟩
    · rintro i m σ him hi hlt ⟨g, s7, s8, s9, s1, s10, g26, b26, s28, s29⟩
      have hil : i < (ow n i).length := by rw [ow_len]; exact hi
      simp -implicitDefEqProofs only [↓aP, aQ, ↓reduceIte, Nat.reduceEqDiff, Nat.reduceAdd, Nat.reduceSub, Nat.reduceMul, Nat.reduceLT, Nat.reduceLeDiff, reduceCtorEq, Nat.reduceBEq, forall_const, implies_true, exists_const, ne_eq, Int.reduceAdd, Int.reduceSub, Int.reduceMul, Int.reduceBEq, Int.reduceEq, Int.reduceLT, Int.reduceLE, Int.reduceToNat, Int.reduceNeg, Int.reduceBNe, hlt, s7, s8, s9, s1, s10, g26, b26, s28, s29, List.length_map, hil, Int.toNat_natCast, wrapS (show i < 4611686018427387904 by omega)]
      refine nextR hi him ⟨g, ?_⟩
      simp -implicitDefEqProofs only [↓aP, aQ, ↓reduceIte, Nat.reduceEqDiff, Nat.reduceAdd, Nat.reduceSub, Nat.reduceMul, Nat.reduceLT, Nat.reduceLeDiff, reduceCtorEq, Nat.reduceBEq, forall_const, implies_true, exists_const, ne_eq, Int.reduceAdd, Int.reduceSub, Int.reduceMul, Int.reduceBEq, Int.reduceEq, Int.reduceLT, Int.reduceLE, Int.reduceToNat, Int.reduceNeg, Int.reduceBNe, s7, s8, s9, s1, s10, g26, b26, s28, s29, encI, ow_set]
    · rintro m σ hlt ⟨g, s7, s8, s9, s1, s10, g26, b26, s28, s29⟩
      rw [ow_end] at b26
      obtain ⟨GG, hGG⟩ : ∃ G, σ.h.gen 12 = G := ⟨_, rfl⟩
      simp -implicitDefEqProofs only [↓aP, aQ, ↓reduceIte, Nat.reduceEqDiff, Nat.reduceAdd, Nat.reduceSub, Nat.reduceMul, Nat.reduceLT, Nat.reduceLeDiff, reduceCtorEq, Nat.reduceBEq, forall_const, implies_true, exists_const, ne_eq, Int.reduceAdd, Int.reduceSub, Int.reduceMul, Int.reduceBEq, Int.reduceEq, Int.reduceLT, Int.reduceLE, Int.reduceToNat, Int.reduceNeg, Int.reduceBNe, hlt, s7, s8, s9, s1, s10, g26, b26, s28, s29]
      have hnw := lNew_spec (List.replicate n 1) (by simp; omega)
      rw [ps_new (c := 2) hn26] at hnw
      refine ask hnw ?_
      simp -implicitDefEqProofs only [↓aP, aQ, ↓reduceIte, Nat.reduceEqDiff, Nat.reduceAdd, Nat.reduceSub, Nat.reduceMul, Nat.reduceLT, Nat.reduceLeDiff, reduceCtorEq, Nat.reduceBEq, forall_const, implies_true, exists_const, ne_eq, Int.reduceAdd, Int.reduceSub, Int.reduceMul, Int.reduceBEq, Int.reduceEq, Int.reduceLT, Int.reduceLE, Int.reduceToNat, Int.reduceNeg, Int.reduceBNe, encR, encLs, s7, s8, s9, s1, s10, g26, b26, s28, s29, hGG]
      refine rangeB n (fun i σ => σ.slot 7 = vI n ∧ σ.slot 8 = vI 2 ∧ σ.slot 9 = vI 2 ∧ σ.slot 1 = .c (.s (.pv (.int .u8 b))) ∧ σ.slot 12 = .c (.ptr 12 (GG + 1) 0 0) ∧ σ.h.gen 12 = GG + 1 ∧ σ.h.blk 12 = .box 25 3 [(encLs (pS n 2 i 0)).map AC.s] ∧ σ.slot 13 = vI 0 ∧ σ.slot 41 = vI n ∧ σ.slot 42 = vI i) ?_ ?_ ?_
      · simp -implicitDefEqProofs only [↓aP, aQ, ↓reduceIte, Nat.reduceEqDiff, Nat.reduceAdd, Nat.reduceSub, Nat.reduceMul, Nat.reduceLT, Nat.reduceLeDiff, reduceCtorEq, Nat.reduceBEq, forall_const, implies_true, exists_const, ne_eq, Int.reduceAdd, Int.reduceSub, Int.reduceMul, Int.reduceBEq, Int.reduceEq, Int.reduceLT, Int.reduceLE, Int.reduceToNat, Int.reduceNeg, Int.reduceBNe, s7, s8, s9, s1, s10, g26, b26, s28, s29, encLs, hGG]
      · clear hlt s7 s8 s9 s1 s10 g26 b26 s28 s29 hnw
        rintro i m σ him hi hlt ⟨s7, s8, s9, s1, s12, g12, b12, s13, s41, s42⟩
        simp -implicitDefEqProofs only [↓aP, aQ, ↓reduceIte, Nat.reduceEqDiff, Nat.reduceAdd, Nat.reduceSub, Nat.reduceMul, Nat.reduceLT, Nat.reduceLeDiff, reduceCtorEq, Nat.reduceBEq, forall_const, implies_true, exists_const, ne_eq, Int.reduceAdd, Int.reduceSub, Int.reduceMul, Int.reduceBEq, Int.reduceEq, Int.reduceLT, Int.reduceLE, Int.reduceToNat, Int.reduceNeg, Int.reduceBNe, hlt, s7, s8, s9, s1, s12, g12, b12, s13, s41, s42, encLs]
        refine rangeB 60 (fun k σ => σ.slot 7 = vI n ∧ σ.slot 8 = vI 2 ∧ σ.slot 9 = vI 2 ∧ σ.slot 1 = .c (.s (.pv (.int .u8 b))) ∧ σ.slot 12 = .c (.ptr 12 (GG + 1) 0 0) ∧ σ.h.gen 12 = GG + 1 ∧ σ.h.blk 12 = .box 25 3 [(encLs (pS n 2 i k)).map AC.s] ∧ σ.slot 13 = vI 0 ∧ σ.slot 41 = vI n ∧ σ.slot 42 = vI i ∧ σ.slot 14 = vI i ∧ σ.slot 45 = vI k) ?_ ?_ ?_
        · simp -implicitDefEqProofs only [↓aP, aQ, ↓reduceIte, Nat.reduceEqDiff, Nat.reduceAdd, Nat.reduceSub, Nat.reduceMul, Nat.reduceLT, Nat.reduceLeDiff, reduceCtorEq, Nat.reduceBEq, forall_const, implies_true, exists_const, ne_eq, Int.reduceAdd, Int.reduceSub, Int.reduceMul, Int.reduceBEq, Int.reduceEq, Int.reduceLT, Int.reduceLE, Int.reduceToNat, Int.reduceNeg, Int.reduceBNe, s7, s8, s9, s1, s12, g12, b12, s13, s41, s42, encLs]
        · clear hlt s7 s8 s9 s1 s12 g12 b12 s13 s41 s42
          rintro k m2 σ hkm hk hlt ⟨s7, s8, s9, s1, s12, g12, b12, s13, s41, s42, s14, s45⟩
          have hk60 : decide ((k : Int) < 60) = true := by simp; omega
          have hsp := lPush_spec (pS n 2 i k) i 2 (right_small (ps_right hn26 (by omega) (by decide)))
          simp -implicitDefEqProofs only [↓aP, aQ, ↓reduceIte, Nat.reduceEqDiff, Nat.reduceAdd, Nat.reduceSub, Nat.reduceMul, Nat.reduceLT, Nat.reduceLeDiff, reduceCtorEq, Nat.reduceBEq, forall_const, implies_true, exists_const, ne_eq, Int.reduceAdd, Int.reduceSub, Int.reduceMul, Int.reduceBEq, Int.reduceEq, Int.reduceLT, Int.reduceLE, Int.reduceToNat, Int.reduceNeg, Int.reduceBNe, hk60, s7, s8, s9, s1, s12, g12, b12, s13, s41, s42, s14, s45, encLs]
          refine ask hsp ?_
          simp -implicitDefEqProofs only [↓aP, aQ, ↓reduceIte, Nat.reduceEqDiff, Nat.reduceAdd, Nat.reduceSub, Nat.reduceMul, Nat.reduceLT, Nat.reduceLeDiff, reduceCtorEq, Nat.reduceBEq, forall_const, implies_true, exists_const, ne_eq, Int.reduceAdd, Int.reduceSub, Int.reduceMul, Int.reduceBEq, Int.reduceEq, Int.reduceLT, Int.reduceLE, Int.reduceToNat, Int.reduceNeg, Int.reduceBNe, encR, encLs, ps_push hn26 hi hk (show okC 2 = true by decide), s7, s8, s9, s1, s12, g12, b12, s13, s41, s42, s14, s45, wrapS (show k < 4611686018427387904 by omega)]
          refine nextR hk hkm ?_
          simp -implicitDefEqProofs only [↓aP, aQ, ↓reduceIte, Nat.reduceEqDiff, Nat.reduceAdd, Nat.reduceSub, Nat.reduceMul, Nat.reduceLT, Nat.reduceLeDiff, reduceCtorEq, Nat.reduceBEq, forall_const, implies_true, exists_const, ne_eq, Int.reduceAdd, Int.reduceSub, Int.reduceMul, Int.reduceBEq, Int.reduceEq, Int.reduceLT, Int.reduceLE, Int.reduceToNat, Int.reduceNeg, Int.reduceBNe, s7, s8, s9, s1, s12, g12, b12, s13, s41, s42, s14, s45, encLs]
        · clear hlt s7 s8 s9 s1 s12 g12 b12 s13 s41 s42
          rintro m2 σ hlt ⟨s7, s8, s9, s1, s12, g12, b12, s13, s41, s42, s14, s45⟩
          rw [ps_next] at b12
          simp -implicitDefEqProofs only [↓aP, aQ, ↓reduceIte, Nat.reduceEqDiff, Nat.reduceAdd, Nat.reduceSub, Nat.reduceMul, Nat.reduceLT, Nat.reduceLeDiff, reduceCtorEq, Nat.reduceBEq, forall_const, implies_true, exists_const, ne_eq, Int.reduceAdd, Int.reduceSub, Int.reduceMul, Int.reduceBEq, Int.reduceEq, Int.reduceLT, Int.reduceLE, Int.reduceToNat, Int.reduceNeg, Int.reduceBNe, s7, s8, s9, s1, s12, g12, b12, s13, s41, s42, s14, s45, show decide (((60 : Nat) : Int) < 60) = false by decide, wrapS (show i < 4611686018427387904 by omega)]
          refine nextR hi him ?_
          simp -implicitDefEqProofs only [↓aP, aQ, ↓reduceIte, Nat.reduceEqDiff, Nat.reduceAdd, Nat.reduceSub, Nat.reduceMul, Nat.reduceLT, Nat.reduceLeDiff, reduceCtorEq, Nat.reduceBEq, forall_const, implies_true, exists_const, ne_eq, Int.reduceAdd, Int.reduceSub, Int.reduceMul, Int.reduceBEq, Int.reduceEq, Int.reduceLT, Int.reduceLE, Int.reduceToNat, Int.reduceNeg, Int.reduceBNe, s7, s8, s9, s1, s12, g12, b12, s13, s41, s42, s14, s45, encLs]
      · clear hlt s7 s8 s9 s1 s10 g26 b26 s28 s29 hnw
        rintro m σ hlt ⟨s7, s8, s9, s1, s12, g12, b12, s13, s41, s42⟩
        simp -implicitDefEqProofs only [↓aP, aQ, ↓reduceIte, Nat.reduceEqDiff, Nat.reduceAdd, Nat.reduceSub, Nat.reduceMul, Nat.reduceLT, Nat.reduceLeDiff, reduceCtorEq, Nat.reduceBEq, forall_const, implies_true, exists_const, ne_eq, Int.reduceAdd, Int.reduceSub, Int.reduceMul, Int.reduceBEq, Int.reduceEq, Int.reduceLT, Int.reduceLE, Int.reduceToNat, Int.reduceNeg, Int.reduceBNe, hlt, s7, s8, s9, s1, s12, g12, b12, s13, s41, s42, hs]
        refine rangeB s (fun i σ => σ.slot 7 = vI n ∧ σ.slot 8 = vI 2 ∧ σ.slot 9 = vI 2 ∧ σ.slot 1 = .c (.s (.pv (.int .u8 b))) ∧ σ.slot 12 = .c (.ptr 12 (GG + 1) 0 0) ∧ σ.h.gen 12 = GG + 1 ∧ σ.h.blk 12 = .box 25 3 [(encLs (itN (pS n 2 n 0) i)).map AC.s] ∧ σ.slot 13 = vI 0 ∧ σ.slot 58 = vI s ∧ σ.slot 59 = vI i) ?_ ?_ ?_
        · simp -implicitDefEqProofs only [↓aP, aQ, ↓reduceIte, Nat.reduceEqDiff, Nat.reduceAdd, Nat.reduceSub, Nat.reduceMul, Nat.reduceLT, Nat.reduceLeDiff, reduceCtorEq, Nat.reduceBEq, forall_const, implies_true, exists_const, ne_eq, Int.reduceAdd, Int.reduceSub, Int.reduceMul, Int.reduceBEq, Int.reduceEq, Int.reduceLT, Int.reduceLE, Int.reduceToNat, Int.reduceNeg, Int.reduceBNe, s7, s8, s9, s1, s12, g12, b12, s13, s41, s42, itN]
        · clear hlt s7 s8 s9 s1 s12 g12 b12 s13 s41 s42
          rintro i m σ him hi hlt ⟨s7, s8, s9, s1, s12, g12, b12, s13, s58, s59⟩
          obtain ⟨q1, q2, q3⟩ := leC_at 60 0 _ hle i (by omega)
          rw [Nat.zero_add] at q2
          have hsp := lNext_spec (itN (pS n 2 n 0) i) (right_small (next_right q1))
          have hst : (nextI (itN (pS n 2 n 0) i)).1 = itN (pS n 2 n 0) (i + 1) := rfl
          simp -implicitDefEqProofs only [↓aP, aQ, ↓reduceIte, Nat.reduceEqDiff, Nat.reduceAdd, Nat.reduceSub, Nat.reduceMul, Nat.reduceLT, Nat.reduceLeDiff, reduceCtorEq, Nat.reduceBEq, forall_const, implies_true, exists_const, ne_eq, Int.reduceAdd, Int.reduceSub, Int.reduceMul, Int.reduceBEq, Int.reduceEq, Int.reduceLT, Int.reduceLE, Int.reduceToNat, Int.reduceNeg, Int.reduceBNe, hlt, s7, s8, s9, s1, s12, g12, b12, s13, s58, s59, encLs]
          refine ask hsp ?_
          have hdv : (IntKind.i64.wrap ((i : Int).tdiv 2)).tmod (n : Int) = ((i / 2 % n : Nat) : Int) := by
            have h0 : (i : Int).tdiv 2 = ((i / 2 : Nat) : Int) := by rw [Int.tdiv_eq_ediv_of_nonneg (by omega)]; omega
            rw [h0, wrapI (by omega), Int.tmod_eq_emod_of_nonneg (by omega)]
            first | exact (Int.natCast_emod _ _).symm | exact (Int.ofNat_emod _ _).symm | rfl
          simp -implicitDefEqProofs only [↓aP, aQ, ↓reduceIte, Nat.reduceEqDiff, Nat.reduceAdd, Nat.reduceSub, Nat.reduceMul, Nat.reduceLT, Nat.reduceLeDiff, reduceCtorEq, Nat.reduceBEq, forall_const, implies_true, exists_const, ne_eq, Int.reduceAdd, Int.reduceSub, Int.reduceMul, Int.reduceBEq, Int.reduceEq, Int.reduceLT, Int.reduceLE, Int.reduceToNat, Int.reduceNeg, Int.reduceBNe, encN, encLs, q1, q2, q3, hst, s7, s8, s9, s1, s12, g12, b12, s13, s58, s59, hdv, bne_self_eq_false, wrapS (show i < 4611686018427387904 by omega)]
          refine ⟨by omega, ?_⟩
          try simp -implicitDefEqProofs only [↓aP, aQ, ↓reduceIte, Nat.reduceEqDiff, Nat.reduceAdd, Nat.reduceSub, Nat.reduceMul, Nat.reduceLT, Nat.reduceLeDiff, reduceCtorEq, Nat.reduceBEq, forall_const, implies_true, exists_const, ne_eq, Int.reduceAdd, Int.reduceSub, Int.reduceMul, Int.reduceBEq, Int.reduceEq, Int.reduceLT, Int.reduceLE, Int.reduceToNat, Int.reduceNeg, Int.reduceBNe, s7, s8, s9, s1, s12, g12, b12, s13, s58, s59, encLs, hst, hdv, bne_self_eq_false]
          refine nextR hi him ?_
          simp -implicitDefEqProofs only [↓aP, aQ, ↓reduceIte, Nat.reduceEqDiff, Nat.reduceAdd, Nat.reduceSub, Nat.reduceMul, Nat.reduceLT, Nat.reduceLeDiff, reduceCtorEq, Nat.reduceBEq, forall_const, implies_true, exists_const, ne_eq, Int.reduceAdd, Int.reduceSub, Int.reduceMul, Int.reduceBEq, Int.reduceEq, Int.reduceLT, Int.reduceLE, Int.reduceToNat, Int.reduceNeg, Int.reduceBNe, s7, s8, s9, s1, s12, g12, b12, s13, s58, s59, encLs]
        · clear hlt s7 s8 s9 s1 s12 g12 b12 s13 s41 s42
          rintro m σ hlt ⟨s7, s8, s9, s1, s12, g12, b12, s13, s58, s59⟩
          simp -implicitDefEqProofs only [↓aP, aQ, ↓reduceIte, Nat.reduceEqDiff, Nat.reduceAdd, Nat.reduceSub, Nat.reduceMul, Nat.reduceLT, Nat.reduceLeDiff, reduceCtorEq, Nat.reduceBEq, forall_const, implies_true, exists_const, ne_eq, Int.reduceAdd, Int.reduceSub, Int.reduceMul, Int.reduceBEq, Int.reduceEq, Int.reduceLT, Int.reduceLE, Int.reduceToNat, Int.reduceNeg, Int.reduceBNe, hlt, s7, s8, s9, s1, s12, g12, b12, s13, s58, s59, beq_self_eq_true]
          refine ask awake_spec ?_
          simp -implicitDefEqProofs only [↓aP, aQ, ↓reduceIte, Nat.reduceEqDiff, Nat.reduceAdd, Nat.reduceSub, Nat.reduceMul, Nat.reduceLT, Nat.reduceLeDiff, reduceCtorEq, Nat.reduceBEq, forall_const, implies_true, exists_const, ne_eq, Int.reduceAdd, Int.reduceSub, Int.reduceMul, Int.reduceBEq, Int.reduceEq, Int.reduceLT, Int.reduceLE, Int.reduceToNat, Int.reduceNeg, Int.reduceBNe]
theorem lanesEqual_walk {w : World} (a : Int) (ha : (Lit.int .u8 a).wf = true) (b : Int) (hb : (Lit.int .u8 b).wf = true) (h : Bool) :
    Calls Try.prog 8 #[.int .u8 a, .int .u8 b, .bool h] w fun e w' => e = .returned (.bool true) ∧ Below w.heap.size w w' := by
  exact (law_equal a b (u8_of ha) (u8_of hb) h).plain (us := [.int .u8 a, .int .u8 b, .bool h]) (.cons (.pv rfl) (.cons (.pv rfl) (.cons (.pv rfl) .nil)))
end Go.Proofs.Ytfmbfgoofiojcaa
