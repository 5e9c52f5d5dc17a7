/- layer 5: the contracts: the document's Same; how lanes are handed to it. -/
import Derived.Test.YtfmbfgoofiojcaaL7
namespace Go.Proofs.Ytfmbfgoofiojcaa
open Go.RowKit Lk
set_option linter.unusedVariables false
set_option linter.unusedSimpArgs false
set_option maxRecDepth 4000
theorem list_ext {α : Type} {l m : List α} (hl : l.length = m.length) (h : ∀ j < l.length, l[j]? = m[j]?) : l = m := by
  apply List.ext_getElem?
  intro j
  by_cases hj : j < l.length
  · exact h j hj
  · rw [List.getElem?_eq_none (by omega), List.getElem?_eq_none (by omega)]
theorem ln_ext {p q : Ln} (h1 : p.w = q.w) (h2 : p.d = q.d) (h3 : p.cs = q.cs) : p = q := by
  cases p; cases q
  simp only at h1 h2 h3
  subst h1 h2 h3
  rfl
theorem ls_ext {x z : Ls} (h1 : x.l = z.l) (h2 : x.at' = z.at') (h3 : x.g = z.g) : x = z := by
  cases x; cases z
  simp only at h1 h2 h3
  subst h1 h2 h3
  rfl


theorem rSame_spec (x z : Ls) (hx : Small x) (hz : Small z) : Spec Try.prog 19 [.agg (encLs x), .agg (encLs z)] (.val (rB (decide (x = z)))) := by
  refine spec_val mixed fn19 (by simp) ?_
  unfold ac19
  have hl := hx.1
  simp -implicitDefEqProofs only [↓aP, aQ, ↓reduceIte, Nat.reduceEqDiff, Nat.reduceAdd, Nat.reduceSub, Nat.reduceMul, Nat.reduceLT, Nat.reduceLeDiff, reduceCtorEq, Nat.reduceBEq, forall_const, implies_true, exists_const, ne_eq, Int.reduceAdd, Int.reduceSub, Int.reduceMul, Int.reduceBEq, Int.reduceEq, Int.reduceLT, Int.reduceLE, Int.reduceToNat, Int.reduceNeg, Int.reduceBNe, encLs]
  by_cases hin : x.l.length = z.l.length ∧ x.at' = z.at' ∧ x.g = z.g
  case neg =>
    have hr : decide (x = z) = false := decide_eq_false (fun e => hin (by rw [e]; exact ⟨rfl, rfl, rfl⟩))
    rw [hr]
    repeat' ((first | ((first | with_reducible refine fork ?_ ?_ | with_reducible refine gcase ?_ ?_ | with_reducible refine gcaseD ?_ ?_) <;> intro hc <;> (have hp := hc) <;> (try simp only [aB] at hp)) | (have hc := True.intro; first | with_reducible refine askM (by omega) ?_ | with_reducible refine And.intro (by first | omega | decide +kernel) ?_ | fail)) <;> (try simp -implicitDefEqProofs only [↓aP, aQ, ↓reduceIte, Nat.reduceEqDiff, Nat.reduceAdd, Nat.reduceSub, Nat.reduceMul, Nat.reduceLT, Nat.reduceLeDiff, reduceCtorEq, Nat.reduceBEq, forall_const, implies_true, exists_const, ne_eq, Int.reduceAdd, Int.reduceSub, Int.reduceMul, Int.reduceBEq, Int.reduceEq, Int.reduceLT, Int.reduceLE, Int.reduceToNat, Int.reduceNeg, Int.reduceBNe, hc, encLs]))
    all_goals (exfalso; simp_all; try omega)
  obtain ⟨h1, h2, h3⟩ := hin
  have d1 : ((x.l.length : Int) != (z.l.length : Int)) = false := by rw [h1]; simp
  have d2 : (x.at' != z.at') = false := by rw [h2]; simp
  have d3 : (!(x.g == z.g)) = false := by rw [h3]; simp
  simp -implicitDefEqProofs only [↓aP, aQ, ↓reduceIte, Nat.reduceEqDiff, Nat.reduceAdd, Nat.reduceSub, Nat.reduceMul, Nat.reduceLT, Nat.reduceLeDiff, reduceCtorEq, Nat.reduceBEq, forall_const, implies_true, exists_const, ne_eq, Int.reduceAdd, Int.reduceSub, Int.reduceMul, Int.reduceBEq, Int.reduceEq, Int.reduceLT, Int.reduceLE, Int.reduceToNat, Int.reduceNeg, Int.reduceBNe, d1, d2, d3]
  refine rangeB x.l.length (fun i σ => (∀ j < i, x.l[j]? = z.l[j]?) ∧ σ.slot 2 = .c (.ptr 2 1 0 0) ∧ σ.h.gen 2 = 1 ∧ σ.h.blk 2 = .box 28 3 [(encLs x).map AC.s] ∧ σ.slot 3 = .c (.ptr 3 1 0 0) ∧ σ.h.gen 3 = 1 ∧ σ.h.blk 3 = .box 28 3 [(encLs z).map AC.s] ∧ σ.slot 5 = vI i) ?_ ?_ ?_
  · simp -implicitDefEqProofs only [↓aP, aQ, ↓reduceIte, Nat.reduceEqDiff, Nat.reduceAdd, Nat.reduceSub, Nat.reduceMul, Nat.reduceLT, Nat.reduceLeDiff, reduceCtorEq, Nat.reduceBEq, forall_const, implies_true, exists_const, ne_eq, Int.reduceAdd, Int.reduceSub, Int.reduceMul, Int.reduceBEq, Int.reduceEq, Int.reduceLT, Int.reduceLE, Int.reduceToNat, Int.reduceNeg, Int.reduceBNe, encLs]
    intro j hj
    omega
  · rintro i m σ him hi hlt ⟨ha, s2, g2, b2, s3, g3, b3, s5⟩
    have hi2 : i < z.l.length := by omega
    obtain ⟨p, ep⟩ : ∃ p, x.l[i] = p := ⟨_, rfl⟩
    obtain ⟨q, eq⟩ : ∃ q, z.l[i] = q := ⟨_, rfl⟩
    have hbad : p ≠ q → decide (x = z) = false := fun h => decide_eq_false (fun e => h (by subst e; rw [← ep, ← eq]))
    obtain ⟨G, hG⟩ : ∃ G, σ.h.gen 6 = G := ⟨_, rfl⟩
    obtain ⟨H, hH⟩ : ∃ H, σ.h.gen 7 = H := ⟨_, rfl⟩
    simp -implicitDefEqProofs only [↓aP, aQ, ↓reduceIte, Nat.reduceEqDiff, Nat.reduceAdd, Nat.reduceSub, Nat.reduceMul, Nat.reduceLT, Nat.reduceLeDiff, reduceCtorEq, Nat.reduceBEq, forall_const, implies_true, exists_const, ne_eq, Int.reduceAdd, Int.reduceSub, Int.reduceMul, Int.reduceBEq, Int.reduceEq, Int.reduceLT, Int.reduceLE, Int.reduceToNat, Int.reduceNeg, Int.reduceBNe, hlt, s2, g2, b2, s3, g3, b3, s5, askIdx_map, hi, hi2, encLn, encLs, List.length_map, hG, hH, ep, eq]
    refine ⟨by decide +kernel, ?_⟩
    have hpl : p.cs.length < 4611686018427387904 := by rw [← ep]; exact hx.2 _ (List.getElem_mem hi)
    repeat' ((first | ((first | with_reducible refine fork ?_ ?_ | with_reducible refine gcase ?_ ?_ | with_reducible refine gcaseD ?_ ?_) <;> intro hc <;> (have hp := hc) <;> (try simp only [aB] at hp)) | (have hc := True.intro; first | with_reducible refine askM (by omega) ?_ | with_reducible refine And.intro (by first | omega | decide +kernel) ?_ | fail)) <;> (try simp -implicitDefEqProofs only [↓aP, aQ, ↓reduceIte, Nat.reduceEqDiff, Nat.reduceAdd, Nat.reduceSub, Nat.reduceMul, Nat.reduceLT, Nat.reduceLeDiff, reduceCtorEq, Nat.reduceBEq, forall_const, implies_true, exists_const, ne_eq, Int.reduceAdd, Int.reduceSub, Int.reduceMul, Int.reduceBEq, Int.reduceEq, Int.reduceLT, Int.reduceLE, Int.reduceToNat, Int.reduceNeg, Int.reduceBNe, hc, encLn]))
    all_goals first
      | exact (hbad (fun e => absurd (congrArg Ln.w e) (by assumption))).symm
      | exact (hbad (fun e => absurd (congrArg Ln.d e) (by assumption))).symm
      | exact (hbad (fun e => absurd (congrArg (fun y : Ln => (y.cs.length : Int)) e) (by assumption))).symm
      | skip
    all_goals
      have hw : p.w = q.w ∧ p.d = q.d ∧ p.cs.length = q.cs.length := by
        refine ⟨?_, ?_, ?_⟩ <;> first | assumption | omega
      obtain ⟨w1, w2, w3⟩ := hw
      refine rangeB p.cs.length (fun k σ => (∀ j < k, p.cs[j]? = q.cs[j]?) ∧ σ.slot 2 = .c (.ptr 2 1 0 0) ∧ σ.h.gen 2 = 1 ∧ σ.h.blk 2 = .box 28 3 [(encLs x).map AC.s] ∧ σ.slot 3 = .c (.ptr 3 1 0 0) ∧ σ.h.gen 3 = 1 ∧ σ.h.blk 3 = .box 28 3 [(encLs z).map AC.s] ∧ σ.slot 5 = vI i ∧ σ.slot 6 = .c (.ptr 6 (G + 1) 0 0) ∧ σ.h.gen 6 = G + 1 ∧ σ.h.blk 6 = .box 36 3 [(encLn p).map AC.s] ∧ σ.slot 7 = .c (.ptr 7 (H + 1) 0 0) ∧ σ.h.gen 7 = H + 1 ∧ σ.h.blk 7 = .box 36 3 [(encLn q).map AC.s] ∧ σ.slot 8 = vI k) ?_ ?_ ?_
      · simp -implicitDefEqProofs only [↓aP, aQ, ↓reduceIte, Nat.reduceEqDiff, Nat.reduceAdd, Nat.reduceSub, Nat.reduceMul, Nat.reduceLT, Nat.reduceLeDiff, reduceCtorEq, Nat.reduceBEq, forall_const, implies_true, exists_const, ne_eq, Int.reduceAdd, Int.reduceSub, Int.reduceMul, Int.reduceBEq, Int.reduceEq, Int.reduceLT, Int.reduceLE, Int.reduceToNat, Int.reduceNeg, Int.reduceBNe, s2, g2, b2, s3, g3, b3, s5, encLs, encLn, hG, hH]
        intro j hj
        omega
      · rintro k m2 σ2 hkm hk hklt ⟨hcs, s2, g2, b2, s3, g3, b3, s5, s6, g6, b6, s7, g7, b7, s8⟩
        have hk2 : k < q.cs.length := by omega
        simp -implicitDefEqProofs only [↓aP, aQ, ↓reduceIte, Nat.reduceEqDiff, Nat.reduceAdd, Nat.reduceSub, Nat.reduceMul, Nat.reduceLT, Nat.reduceLeDiff, reduceCtorEq, Nat.reduceBEq, forall_const, implies_true, exists_const, ne_eq, Int.reduceAdd, Int.reduceSub, Int.reduceMul, Int.reduceBEq, Int.reduceEq, Int.reduceLT, Int.reduceLE, Int.reduceToNat, Int.reduceNeg, Int.reduceBNe, hklt, s2, g2, b2, s3, g3, b3, s5, s6, g6, b6, s7, g7, b7, s8, askIdx_map, hk, hk2, encI, encLn, List.length_map]
        refine ⟨by decide +kernel, ?_⟩
        refine fork ?_ ?_ <;> intro hne
        · rw [hbad (fun e => by subst e; simp at hne)]
          simp -implicitDefEqProofs only [↓aP, aQ, ↓reduceIte, Nat.reduceEqDiff, Nat.reduceAdd, Nat.reduceSub, Nat.reduceMul, Nat.reduceLT, Nat.reduceLeDiff, reduceCtorEq, Nat.reduceBEq, forall_const, implies_true, exists_const, ne_eq, Int.reduceAdd, Int.reduceSub, Int.reduceMul, Int.reduceBEq, Int.reduceEq, Int.reduceLT, Int.reduceLE, Int.reduceToNat, Int.reduceNeg, Int.reduceBNe, s2, g2, b2, s3, g3, b3, s5, s6, g6, b6, s7, g7, b7, s8]
        · simp -implicitDefEqProofs only [↓aP, aQ, ↓reduceIte, Nat.reduceEqDiff, Nat.reduceAdd, Nat.reduceSub, Nat.reduceMul, Nat.reduceLT, Nat.reduceLeDiff, reduceCtorEq, Nat.reduceBEq, forall_const, implies_true, exists_const, ne_eq, Int.reduceAdd, Int.reduceSub, Int.reduceMul, Int.reduceBEq, Int.reduceEq, Int.reduceLT, Int.reduceLE, Int.reduceToNat, Int.reduceNeg, Int.reduceBNe, s2, g2, b2, s3, g3, b3, s5, s6, g6, b6, s7, g7, b7, s8, wrapS (show k < 4611686018427387904 by omega)]
          refine nextR hk hkm ?_
          simp -implicitDefEqProofs only [↓aP, aQ, ↓reduceIte, Nat.reduceEqDiff, Nat.reduceAdd, Nat.reduceSub, Nat.reduceMul, Nat.reduceLT, Nat.reduceLeDiff, reduceCtorEq, Nat.reduceBEq, forall_const, implies_true, exists_const, ne_eq, Int.reduceAdd, Int.reduceSub, Int.reduceMul, Int.reduceBEq, Int.reduceEq, Int.reduceLT, Int.reduceLE, Int.reduceToNat, Int.reduceNeg, Int.reduceBNe, s2, g2, b2, s3, g3, b3, s5, s6, g6, b6, s7, g7, b7, s8, encLs, encLn]
          intro j hj
          rcases Nat.lt_or_eq_of_le (Nat.le_of_lt_succ hj) with h | h
          · exact hcs j h
          · subst h
            rw [List.getElem?_eq_getElem hk, List.getElem?_eq_getElem hk2, t_nf hne]
      · rintro m2 σ2 hklt ⟨hcs, s2, g2, b2, s3, g3, b3, s5, s6, g6, b6, s7, g7, b7, s8⟩
        have hpq : p = q := ln_ext w1 w2 (list_ext w3 hcs)
        simp -implicitDefEqProofs only [↓aP, aQ, ↓reduceIte, Nat.reduceEqDiff, Nat.reduceAdd, Nat.reduceSub, Nat.reduceMul, Nat.reduceLT, Nat.reduceLeDiff, reduceCtorEq, Nat.reduceBEq, forall_const, implies_true, exists_const, ne_eq, Int.reduceAdd, Int.reduceSub, Int.reduceMul, Int.reduceBEq, Int.reduceEq, Int.reduceLT, Int.reduceLE, Int.reduceToNat, Int.reduceNeg, Int.reduceBNe, hklt, s2, g2, b2, s3, g3, b3, s5, s6, g6, b6, s7, g7, b7, s8, encLn, List.length_map, wrapS (show i < 4611686018427387904 by omega)]
        refine nextR hi him ?_
        simp -implicitDefEqProofs only [↓aP, aQ, ↓reduceIte, Nat.reduceEqDiff, Nat.reduceAdd, Nat.reduceSub, Nat.reduceMul, Nat.reduceLT, Nat.reduceLeDiff, reduceCtorEq, Nat.reduceBEq, forall_const, implies_true, exists_const, ne_eq, Int.reduceAdd, Int.reduceSub, Int.reduceMul, Int.reduceBEq, Int.reduceEq, Int.reduceLT, Int.reduceLE, Int.reduceToNat, Int.reduceNeg, Int.reduceBNe, s2, g2, b2, s3, g3, b3, s5, s6, g6, b6, s7, g7, b7, s8, encLs]
        intro j hj
        rcases Nat.lt_or_eq_of_le (Nat.le_of_lt_succ hj) with h | h
        · exact ha j h
        · subst h
          rw [List.getElem?_eq_getElem hi, List.getElem?_eq_getElem hi2, ep, eq, hpq]
  · rintro m σ hlt ⟨ha, s2, g2, b2, s3, g3, b3, s5⟩
    have hr : decide (x = z) = true := decide_eq_true (ls_ext (list_ext h1 ha) h2 h3)
    simp -implicitDefEqProofs only [↓aP, aQ, ↓reduceIte, Nat.reduceEqDiff, Nat.reduceAdd, Nat.reduceSub, Nat.reduceMul, Nat.reduceLT, Nat.reduceLeDiff, reduceCtorEq, Nat.reduceBEq, forall_const, implies_true, exists_const, ne_eq, Int.reduceAdd, Int.reduceSub, Int.reduceMul, Int.reduceBEq, Int.reduceEq, Int.reduceLT, Int.reduceLE, Int.reduceToNat, Int.reduceNeg, Int.reduceBNe, hlt, s2, g2, b2, s3, g3, b3, s5, encLs, hr, List.length_map]
end Go.Proofs.Ytfmbfgoofiojcaa
