/- layer 5: the contracts: the document's Right and Same; how lanes are handed to it. -/
import Derived.Test.YtfmbfgoofiojcaaLB
namespace Go.Proofs.Ytfmbfgoofiojcaa
open Go.RowKit Lk
set_option linter.unusedVariables false
set_option linter.unusedSimpArgs false
set_option maxRecDepth 4000


theorem rRight_spec (x : Ls) (hx : Small x) : Spec Try.prog 18 [.agg (encLs x)] (.val (rB (right x))) := by
  refine spec_val mixed fn18 (by simp) ?_
  unfold ac18
  have hl := hx.1
  simp -implicitDefEqProofs only [↓aP, aQ, ↓reduceIte, Nat.reduceEqDiff, Nat.reduceAdd, Nat.reduceSub, Nat.reduceMul, Nat.reduceLT, Nat.reduceLeDiff, reduceCtorEq, Nat.reduceBEq, forall_const, implies_true, exists_const, ne_eq, Int.reduceAdd, Int.reduceSub, Int.reduceMul, Int.reduceBEq, Int.reduceEq, Int.reduceLT, Int.reduceLE, Int.reduceToNat, Int.reduceNeg, Int.reduceBNe, encLs]
  by_cases hin : x.l.length ≤ 6 ∧ 0 ≤ x.at' ∧ x.at' < x.l.length
  case neg =>
    have hr := right_out hin
    repeat' ((first | ((first | with_reducible refine fork ?_ ?_ | with_reducible refine gcase ?_ ?_ | with_reducible refine gcaseD ?_ ?_) <;> intro hc <;> (have hp := hc) <;> (try simp only [aB] at hp)) | (have hc := True.intro; first | with_reducible refine askM (by omega) ?_ | with_reducible refine And.intro (by first | omega | decide +kernel) ?_ | fail)) <;> (try simp -implicitDefEqProofs only [↓aP, aQ, ↓reduceIte, Nat.reduceEqDiff, Nat.reduceAdd, Nat.reduceSub, Nat.reduceMul, Nat.reduceLT, Nat.reduceLeDiff, reduceCtorEq, Nat.reduceBEq, forall_const, implies_true, exists_const, ne_eq, Int.reduceAdd, Int.reduceSub, Int.reduceMul, Int.reduceBEq, Int.reduceEq, Int.reduceLT, Int.reduceLE, Int.reduceToNat, Int.reduceNeg, Int.reduceBNe, hc, hr, encLs]))
    all_goals (exfalso; simp only [decide_eq_false_iff_not, decide_eq_true_eq] at *; omega)
  have d0 : decide ((x.l.length : Int) < 1) = false := by simp; omega
  have d1 : decide ((6 : Int) < (x.l.length : Int)) = false := by simp; omega
  have d2 : decide (x.at' < 0) = false := by simp; omega
  have d3 : decide ((x.l.length : Int) ≤ x.at') = false := by simp; omega
  simp -implicitDefEqProofs only [↓aP, aQ, ↓reduceIte, Nat.reduceEqDiff, Nat.reduceAdd, Nat.reduceSub, Nat.reduceMul, Nat.reduceLT, Nat.reduceLeDiff, reduceCtorEq, Nat.reduceBEq, forall_const, implies_true, exists_const, ne_eq, Int.reduceAdd, Int.reduceSub, Int.reduceMul, Int.reduceBEq, Int.reduceEq, Int.reduceLT, Int.reduceLE, Int.reduceToNat, Int.reduceNeg, Int.reduceBNe, d0, d1, d2, d3]
  refine rangeB x.l.length (fun i σ => (∀ j < i, okAt x j = true) ∧ σ.slot 1 = .c (.ptr 1 1 0 0) ∧ σ.h.gen 1 = 1 ∧ σ.h.blk 1 = .box 28 3 [(encLs x).map AC.s] ∧ σ.slot 3 = vI i) ?_ ?_ ?_
  · simp -implicitDefEqProofs only [↓aP, aQ, ↓reduceIte, Nat.reduceEqDiff, Nat.reduceAdd, Nat.reduceSub, Nat.reduceMul, Nat.reduceLT, Nat.reduceLeDiff, reduceCtorEq, Nat.reduceBEq, forall_const, implies_true, exists_const, ne_eq, Int.reduceAdd, Int.reduceSub, Int.reduceMul, Int.reduceBEq, Int.reduceEq, Int.reduceLT, Int.reduceLE, Int.reduceToNat, Int.reduceNeg, Int.reduceBNe, encLs]
    intro j hj
    omega
  · rintro i m σ him hi hlt ⟨ha, s1, g1, b1, s3⟩
    have hg := okAt_get hi
    have hbad : okAt x i = false → right x = false := right_bad hi
    obtain ⟨G, hG⟩ : ∃ G, σ.h.gen 4 = G := ⟨_, rfl⟩
    simp -implicitDefEqProofs only [↓aP, aQ, ↓reduceIte, Nat.reduceEqDiff, Nat.reduceAdd, Nat.reduceSub, Nat.reduceMul, Nat.reduceLT, Nat.reduceLeDiff, reduceCtorEq, Nat.reduceBEq, forall_const, implies_true, exists_const, ne_eq, Int.reduceAdd, Int.reduceSub, Int.reduceMul, Int.reduceBEq, Int.reduceEq, Int.reduceLT, Int.reduceLE, Int.reduceToNat, Int.reduceNeg, Int.reduceBNe, hlt, s1, g1, b1, s3, askIdx_map, hi, encLn, encLs, List.length_map, hG]
    have hm1 : x.g = true → (x.at' == (i : Int)) = true → most x i = 39 := fun h1 h2 => if_pos ⟨h1, (by simpa using h2 : x.at' = (i : Int)).symm⟩
    have hm2 : x.g = true → (x.at' == (i : Int)) = false → most x i = 7 := fun h1 h2 => if_neg (fun h => by simp [h.2] at h2)
    have hm3 : x.g = false → most x i = 7 := fun h1 => if_neg (fun h => by simp [h1] at h)
    repeat' ((first | ((first | with_reducible refine fork ?_ ?_ | with_reducible refine gcase ?_ ?_ | with_reducible refine gcaseD ?_ ?_) <;> intro hc <;> (have hp := hc) <;> (try simp only [aB] at hp)) | (have hc := True.intro; first | with_reducible refine askM (by omega) ?_ | with_reducible refine And.intro (by first | omega | decide +kernel) ?_ | fail)) <;> (try simp -implicitDefEqProofs only [↓aP, aQ, ↓reduceIte, Nat.reduceEqDiff, Nat.reduceAdd, Nat.reduceSub, Nat.reduceMul, Nat.reduceLT, Nat.reduceLeDiff, reduceCtorEq, Nat.reduceBEq, forall_const, implies_true, exists_const, ne_eq, Int.reduceAdd, Int.reduceSub, Int.reduceMul, Int.reduceBEq, Int.reduceEq, Int.reduceLT, Int.reduceLE, Int.reduceToNat, Int.reduceNeg, Int.reduceBNe, hc, s1, g1, b1, s3, encLs, encLn, hG, List.length_map, hlt]))
    all_goals first
      | (refine (hbad ?_).symm
         rw [hg]
         first
           | rw [hm1 (by assumption) (by assumption)]
           | rw [hm2 (by assumption) (by assumption)]
           | rw [hm3 (by assumption)]
         exact okL_no (fun ⟨a, b, c, d⟩ => by
           rw [okW_iff] at a
           omega))
      | skip
    all_goals
      have hD : okW x.l[i].w = true ∧ (0 ≤ x.l[i].d ∧ x.l[i].d ≤ most x i) ∧ x.l[i].cs.length ≤ 200 := by
        refine ⟨okW_iff.2 (by omega), ?_, by omega⟩
        first
          | rw [hm1 (by assumption) (by assumption)]; constructor <;> assumption
          | rw [hm2 (by assumption) (by assumption)]; constructor <;> assumption
          | rw [hm3 (by assumption)]; constructor <;> assumption
    all_goals
      clear hm1 hm2 hm3
      refine rangeB x.l[i].cs.length (fun k σ => (∀ c ∈ x.l[i].cs.take k, okC c = true) ∧ σ.slot 1 = .c (.ptr 1 1 0 0) ∧ σ.h.gen 1 = 1 ∧ σ.h.blk 1 = .box 28 3 [(encLs x).map AC.s] ∧ σ.slot 3 = vI i ∧ σ.slot 4 = .c (.ptr 4 (G + 1) 0 0) ∧ σ.h.gen 4 = G + 1 ∧ σ.h.blk 4 = .box 36 3 [(encLn x.l[i]).map AC.s] ∧ σ.slot 6 = vI k) ?_ ?_ ?_
      · simp -implicitDefEqProofs only [↓aP, aQ, ↓reduceIte, Nat.reduceEqDiff, Nat.reduceAdd, Nat.reduceSub, Nat.reduceMul, Nat.reduceLT, Nat.reduceLeDiff, reduceCtorEq, Nat.reduceBEq, forall_const, implies_true, exists_const, ne_eq, Int.reduceAdd, Int.reduceSub, Int.reduceMul, Int.reduceBEq, Int.reduceEq, Int.reduceLT, Int.reduceLE, Int.reduceToNat, Int.reduceNeg, Int.reduceBNe, s1, g1, b1, s3, encLs, encLn, hG]
        simp
      · rintro k m2 σ2 hkm hk hklt ⟨hcs, s1, g1, b1, s3, s4, g4, b4, s6⟩
        simp -implicitDefEqProofs only [↓aP, aQ, ↓reduceIte, Nat.reduceEqDiff, Nat.reduceAdd, Nat.reduceSub, Nat.reduceMul, Nat.reduceLT, Nat.reduceLeDiff, reduceCtorEq, Nat.reduceBEq, forall_const, implies_true, exists_const, ne_eq, Int.reduceAdd, Int.reduceSub, Int.reduceMul, Int.reduceBEq, Int.reduceEq, Int.reduceLT, Int.reduceLE, Int.reduceToNat, Int.reduceNeg, Int.reduceBNe, hklt, s1, g1, b1, s3, s4, g4, b4, s6, askIdx_map, hk, encI, encLn, List.length_map]
        repeat' ((first | ((first | with_reducible refine fork ?_ ?_ | with_reducible refine gcase ?_ ?_ | with_reducible refine gcaseD ?_ ?_) <;> intro hc <;> (have hp := hc) <;> (try simp only [aB] at hp)) | (have hc := True.intro; first | with_reducible refine askM (by omega) ?_ | with_reducible refine And.intro (by first | omega | decide +kernel) ?_ | fail)) <;> (try simp -implicitDefEqProofs only [↓aP, aQ, ↓reduceIte, Nat.reduceEqDiff, Nat.reduceAdd, Nat.reduceSub, Nat.reduceMul, Nat.reduceLT, Nat.reduceLeDiff, reduceCtorEq, Nat.reduceBEq, forall_const, implies_true, exists_const, ne_eq, Int.reduceAdd, Int.reduceSub, Int.reduceMul, Int.reduceBEq, Int.reduceEq, Int.reduceLT, Int.reduceLE, Int.reduceToNat, Int.reduceNeg, Int.reduceBNe, hc, s1, g1, b1, s3, s4, g4, b4, s6, encLn, encI, encLs, askIdx_map, hk, wrapS (show k < 4611686018427387904 by omega)]))
        all_goals first
          | (refine (hbad ?_).symm
             rw [hg]
             refine okL_no (fun ⟨a, b, c, d⟩ => ?_)
             rw [List.all_eq_true] at d
             have := d _ (List.getElem_mem hk)
             simp only [okC, decide_eq_true_eq] at this
             omega)
          | skip
        all_goals
          have hcc : okC x.l[i].cs[k] = true := by
            simp only [okC, decide_eq_true_eq]
            omega
          refine nextR hk hkm ?_
          simp -implicitDefEqProofs only [↓aP, aQ, ↓reduceIte, Nat.reduceEqDiff, Nat.reduceAdd, Nat.reduceSub, Nat.reduceMul, Nat.reduceLT, Nat.reduceLeDiff, reduceCtorEq, Nat.reduceBEq, forall_const, implies_true, exists_const, ne_eq, Int.reduceAdd, Int.reduceSub, Int.reduceMul, Int.reduceBEq, Int.reduceEq, Int.reduceLT, Int.reduceLE, Int.reduceToNat, Int.reduceNeg, Int.reduceBNe, s1, g1, b1, s3, s4, g4, b4, s6, encLs, encLn]
          rw [take_snoc hk]
          intro c hcm
          rcases List.mem_append.1 hcm with h | h
          · exact hcs c h
          · rw [List.mem_singleton.1 h]; exact hcc
      · rintro m2 σ2 hklt ⟨hcs, s1, g1, b1, s3, s4, g4, b4, s6⟩
        rw [List.take_length] at hcs
        have hok : okAt x i = true := by rw [hg]; exact okL_iff.2 ⟨hD.1, hD.2.1, hD.2.2, List.all_eq_true.2 hcs⟩
        simp -implicitDefEqProofs only [↓aP, aQ, ↓reduceIte, Nat.reduceEqDiff, Nat.reduceAdd, Nat.reduceSub, Nat.reduceMul, Nat.reduceLT, Nat.reduceLeDiff, reduceCtorEq, Nat.reduceBEq, forall_const, implies_true, exists_const, ne_eq, Int.reduceAdd, Int.reduceSub, Int.reduceMul, Int.reduceBEq, Int.reduceEq, Int.reduceLT, Int.reduceLE, Int.reduceToNat, Int.reduceNeg, Int.reduceBNe, hklt, s1, g1, b1, s3, s4, g4, b4, s6, encLn, List.length_map, wrapS (show i < 4611686018427387904 by omega)]
        refine nextR hi him ?_
        simp -implicitDefEqProofs only [↓aP, aQ, ↓reduceIte, Nat.reduceEqDiff, Nat.reduceAdd, Nat.reduceSub, Nat.reduceMul, Nat.reduceLT, Nat.reduceLeDiff, reduceCtorEq, Nat.reduceBEq, forall_const, implies_true, exists_const, ne_eq, Int.reduceAdd, Int.reduceSub, Int.reduceMul, Int.reduceBEq, Int.reduceEq, Int.reduceLT, Int.reduceLE, Int.reduceToNat, Int.reduceNeg, Int.reduceBNe, s1, g1, b1, s3, s4, g4, b4, s6, encLs]
        first
          | refine ⟨?_, by rw [show x.g = true by assumption]⟩
          | refine ⟨?_, by rw [show x.g = false by assumption]⟩
        intro j hj
        rcases Nat.lt_or_eq_of_le (Nat.le_of_lt_succ hj) with h | h
        · exact ha j h
        · rw [h]; exact hok
  · rintro m σ hlt ⟨ha, s1, g1, b1, s3⟩
    have hr := right_all hin ha
    simp -implicitDefEqProofs only [↓aP, aQ, ↓reduceIte, Nat.reduceEqDiff, Nat.reduceAdd, Nat.reduceSub, Nat.reduceMul, Nat.reduceLT, Nat.reduceLeDiff, reduceCtorEq, Nat.reduceBEq, forall_const, implies_true, exists_const, ne_eq, Int.reduceAdd, Int.reduceSub, Int.reduceMul, Int.reduceBEq, Int.reduceEq, Int.reduceLT, Int.reduceLE, Int.reduceToNat, Int.reduceNeg, Int.reduceBNe, hlt, s1, g1, b1, s3, encLs, hr, List.length_map]
end Go.Proofs.Ytfmbfgoofiojcaa
namespace Go.Proofs.Ytfmbfgoofiojcaa
open Go.RowKit Lk
set_option linter.unusedVariables false
set_option linter.unusedSimpArgs false
set_option maxRecDepth 4000
theorem list_ext {α : Type} {l m : List α} (hl : l.length = m.length) (h : ∀ j < l.length, l[j]? = m[j]?) : l = m := by
  apply List.ext_getElem?
  intro j
  by_cases hj : j < l.length
  · exact h j hj
  · rw [List.getElem?_eq_none (by omega), List.getElem?_eq_none (by omega)]
theorem ln_ext {p q : Ln} (h1 : p.w = q.w) (h2 : p.d = q.d) (h3 : p.cs = q.cs) : p = q := by
  cases p; cases q
  simp only at h1 h2 h3
  subst h1 h2 h3
  rfl
theorem ls_ext {x z : Ls} (h1 : x.l = z.l) (h2 : x.at' = z.at') (h3 : x.g = z.g) : x = z := by
  cases x; cases z
  simp only at h1 h2 h3
  subst h1 h2 h3
  rfl


theorem rSame_spec (x z : Ls) (hx : Small x) (hz : Small z) : Spec Try.prog 19 [.agg (encLs x), .agg (encLs z)] (.val (rB (decide (x = z)))) := by
  refine spec_val mixed fn19 (by simp) ?_
  unfold ac19
  have hl := hx.1
  simp -implicitDefEqProofs only [↓aP, aQ, ↓reduceIte, Nat.reduceEqDiff, Nat.reduceAdd, Nat.reduceSub, Nat.reduceMul, Nat.reduceLT, Nat.reduceLeDiff, reduceCtorEq, Nat.reduceBEq, forall_const, implies_true, exists_const, ne_eq, Int.reduceAdd, Int.reduceSub, Int.reduceMul, Int.reduceBEq, Int.reduceEq, Int.reduceLT, Int.reduceLE, Int.reduceToNat, Int.reduceNeg, Int.reduceBNe, encLs]
  by_cases hin : x.l.length = z.l.length ∧ x.at' = z.at' ∧ x.g = z.g
  case neg =>
    have hr : decide (x = z) = false := decide_eq_false (fun e => hin (by rw [e]; exact ⟨rfl, rfl, rfl⟩))
    rw [hr]
    repeat' ((first | ((first | with_reducible refine fork ?_ ?_ | with_reducible refine gcase ?_ ?_ | with_reducible refine gcaseD ?_ ?_) <;> intro hc <;> (have hp := hc) <;> (try simp only [aB] at hp)) | (have hc := True.intro; first | with_reducible refine askM (by omega) ?_ | with_reducible refine And.intro (by first | omega | decide +kernel) ?_ | fail)) <;> (try simp -implicitDefEqProofs only [↓aP, aQ, ↓reduceIte, Nat.reduceEqDiff, Nat.reduceAdd, Nat.reduceSub, Nat.reduceMul, Nat.reduceLT, Nat.reduceLeDiff, reduceCtorEq, Nat.reduceBEq, forall_const, implies_true, exists_const, ne_eq, Int.reduceAdd, Int.reduceSub, Int.reduceMul, Int.reduceBEq, Int.reduceEq, Int.reduceLT, Int.reduceLE, Int.reduceToNat, Int.reduceNeg, Int.reduceBNe, hc, encLs]))
    all_goals (exfalso; simp_all; try omega)
  obtain ⟨h1, h2, h3⟩ := hin
  have d1 : ((x.l.length : Int) != (z.l.length : Int)) = false := by rw [h1]; simp
  have d2 : (x.at' != z.at') = false := by rw [h2]; simp
  have d3 : (!(x.g == z.g)) = false := by rw [h3]; simp
  simp -implicitDefEqProofs only [↓aP, aQ, ↓reduceIte, Nat.reduceEqDiff, Nat.reduceAdd, Nat.reduceSub, Nat.reduceMul, Nat.reduceLT, Nat.reduceLeDiff, reduceCtorEq, Nat.reduceBEq, forall_const, implies_true, exists_const, ne_eq, Int.reduceAdd, Int.reduceSub, Int.reduceMul, Int.reduceBEq, Int.reduceEq, Int.reduceLT, Int.reduceLE, Int.reduceToNat, Int.reduceNeg, Int.reduceBNe, d1, d2, d3]
  refine rangeB x.l.length (fun i σ => (∀ j < i, x.l[j]? = z.l[j]?) ∧ σ.slot 2 = .c (.ptr 2 1 0 0) ∧ σ.h.gen 2 = 1 ∧ σ.h.blk 2 = .box 28 3 [(encLs x).map AC.s] ∧ σ.slot 3 = .c (.ptr 3 1 0 0) ∧ σ.h.gen 3 = 1 ∧ σ.h.blk 3 = .box 28 3 [(encLs z).map AC.s] ∧ σ.slot 5 = vI i) ?_ ?_ ?_
  · simp -implicitDefEqProofs only [↓aP, aQ, ↓reduceIte, Nat.reduceEqDiff, Nat.reduceAdd, Nat.reduceSub, Nat.reduceMul, Nat.reduceLT, Nat.reduceLeDiff, reduceCtorEq, Nat.reduceBEq, forall_const, implies_true, exists_const, ne_eq, Int.reduceAdd, Int.reduceSub, Int.reduceMul, Int.reduceBEq, Int.reduceEq, Int.reduceLT, Int.reduceLE, Int.reduceToNat, Int.reduceNeg, Int.reduceBNe, encLs]
    intro j hj
    omega
  · rintro i m σ him hi hlt ⟨ha, s2, g2, b2, s3, g3, b3, s5⟩
    have hi2 : i < z.l.length := by omega
    obtain ⟨p, ep⟩ : ∃ p, x.l[i] = p := ⟨_, rfl⟩
    obtain ⟨q, eq⟩ : ∃ q, z.l[i] = q := ⟨_, rfl⟩
    have hbad : p ≠ q → decide (x = z) = false := fun h => decide_eq_false (fun e => h (by subst e; rw [← ep, ← eq]))
    obtain ⟨G, hG⟩ : ∃ G, σ.h.gen 6 = G := ⟨_, rfl⟩
    obtain ⟨H, hH⟩ : ∃ H, σ.h.gen 7 = H := ⟨_, rfl⟩
    simp -implicitDefEqProofs only [↓aP, aQ, ↓reduceIte, Nat.reduceEqDiff, Nat.reduceAdd, Nat.reduceSub, Nat.reduceMul, Nat.reduceLT, Nat.reduceLeDiff, reduceCtorEq, Nat.reduceBEq, forall_const, implies_true, exists_const, ne_eq, Int.reduceAdd, Int.reduceSub, Int.reduceMul, Int.reduceBEq, Int.reduceEq, Int.reduceLT, Int.reduceLE, Int.reduceToNat, Int.reduceNeg, Int.reduceBNe, hlt, s2, g2, b2, s3, g3, b3, s5, askIdx_map, hi, hi2, encLn, encLs, List.length_map, hG, hH, ep, eq]
    refine ⟨by decide +kernel, ?_⟩
    have hpl : p.cs.length < 4611686018427387904 := by rw [← ep]; exact hx.2 _ (List.getElem_mem hi)
    repeat' ((first | ((first | with_reducible refine fork ?_ ?_ | with_reducible refine gcase ?_ ?_ | with_reducible refine gcaseD ?_ ?_) <;> intro hc <;> (have hp := hc) <;> (try simp only [aB] at hp)) | (have hc := True.intro; first | with_reducible refine askM (by omega) ?_ | with_reducible refine And.intro (by first | omega | decide +kernel) ?_ | fail)) <;> (try simp -implicitDefEqProofs only [↓aP, aQ, ↓reduceIte, Nat.reduceEqDiff, Nat.reduceAdd, Nat.reduceSub, Nat.reduceMul, Nat.reduceLT, Nat.reduceLeDiff, reduceCtorEq, Nat.reduceBEq, forall_const, implies_true, exists_const, ne_eq, Int.reduceAdd, Int.reduceSub, Int.reduceMul, Int.reduceBEq, Int.reduceEq, Int.reduceLT, Int.reduceLE, Int.reduceToNat, Int.reduceNeg, Int.reduceBNe, hc, encLn]))
    all_goals first
      | exact (hbad (fun e => absurd (congrArg Ln.w e) (by assumption))).symm
      | exact (hbad (fun e => absurd (congrArg Ln.d e) (by assumption))).symm
      | exact (hbad (fun e => absurd (congrArg (fun y : Ln => (y.cs.length : Int)) e) (by assumption))).symm
      | skip
    all_goals
      have hw : p.w = q.w ∧ p.d = q.d ∧ p.cs.length = q.cs.length := by
        refine ⟨?_, ?_, ?_⟩ <;> first | assumption | omega
      obtain ⟨w1, w2, w3⟩ := hw
      refine rangeB p.cs.length (fun k σ => (∀ j < k, p.cs[j]? = q.cs[j]?) ∧ σ.slot 2 = .c (.ptr 2 1 0 0) ∧ σ.h.gen 2 = 1 ∧ σ.h.blk 2 = .box 28 3 [(encLs x).map AC.s] ∧ σ.slot 3 = .c (.ptr 3 1 0 0) ∧ σ.h.gen 3 = 1 ∧ σ.h.blk 3 = .box 28 3 [(encLs z).map AC.s] ∧ σ.slot 5 = vI i ∧ σ.slot 6 = .c (.ptr 6 (G + 1) 0 0) ∧ σ.h.gen 6 = G + 1 ∧ σ.h.blk 6 = .box 36 3 [(encLn p).map AC.s] ∧ σ.slot 7 = .c (.ptr 7 (H + 1) 0 0) ∧ σ.h.gen 7 = H + 1 ∧ σ.h.blk 7 = .box 36 3 [(encLn q).map AC.s] ∧ σ.slot 8 = vI k) ?_ ?_ ?_
      · simp -implicitDefEqProofs only [↓aP, aQ, ↓reduceIte, Nat.reduceEqDiff, Nat.reduceAdd, Nat.reduceSub, Nat.reduceMul, Nat.reduceLT, Nat.reduceLeDiff, reduceCtorEq, Nat.reduceBEq, forall_const, implies_true, exists_const, ne_eq, Int.reduceAdd, Int.reduceSub, Int.reduceMul, Int.reduceBEq, Int.reduceEq, Int.reduceLT, Int.reduceLE, Int.reduceToNat, Int.reduceNeg, Int.reduceBNe, s2, g2, b2, s3, g3, b3, s5, encLs, encLn, hG, hH]
        intro j hj
        omega
      · rintro k m2 σ2 hkm hk hklt ⟨hcs, s2, g2, b2, s3, g3, b3, s5, s6, g6, b6, s7, g7, b7, s8⟩
        have hk2 : k < q.cs.length := by omega
        simp -implicitDefEqProofs only [↓aP, aQ, ↓reduceIte, Nat.reduceEqDiff, Nat.reduceAdd, Nat.reduceSub, Nat.reduceMul, Nat.reduceLT, Nat.reduceLeDiff, reduceCtorEq, Nat.reduceBEq, forall_const, implies_true, exists_const, ne_eq, Int.reduceAdd, Int.reduceSub, Int.reduceMul, Int.reduceBEq, Int.reduceEq, Int.reduceLT, Int.reduceLE, Int.reduceToNat, Int.reduceNeg, Int.reduceBNe, hklt, s2, g2, b2, s3, g3, b3, s5, s6, g6, b6, s7, g7, b7, s8, askIdx_map, hk, hk2, encI, encLn, List.length_map]
        refine ⟨by decide +kernel, ?_⟩
        refine fork ?_ ?_ <;> intro hne
        · rw [hbad (fun e => by subst e; simp at hne)]
          simp -implicitDefEqProofs only [↓aP, aQ, ↓reduceIte, Nat.reduceEqDiff, Nat.reduceAdd, Nat.reduceSub, Nat.reduceMul, Nat.reduceLT, Nat.reduceLeDiff, reduceCtorEq, Nat.reduceBEq, forall_const, implies_true, exists_const, ne_eq, Int.reduceAdd, Int.reduceSub, Int.reduceMul, Int.reduceBEq, Int.reduceEq, Int.reduceLT, Int.reduceLE, Int.reduceToNat, Int.reduceNeg, Int.reduceBNe, s2, g2, b2, s3, g3, b3, s5, s6, g6, b6, s7, g7, b7, s8]
        · simp -implicitDefEqProofs only [↓aP, aQ, ↓reduceIte, Nat.reduceEqDiff, Nat.reduceAdd, Nat.reduceSub, Nat.reduceMul, Nat.reduceLT, Nat.reduceLeDiff, reduceCtorEq, Nat.reduceBEq, forall_const, implies_true, exists_const, ne_eq, Int.reduceAdd, Int.reduceSub, Int.reduceMul, Int.reduceBEq, Int.reduceEq, Int.reduceLT, Int.reduceLE, Int.reduceToNat, Int.reduceNeg, Int.reduceBNe, s2, g2, b2, s3, g3, b3, s5, s6, g6, b6, s7, g7, b7, s8, wrapS (show k < 4611686018427387904 by omega)]
          refine nextR hk hkm ?_
          simp -implicitDefEqProofs only [↓aP, aQ, ↓reduceIte, Nat.reduceEqDiff, Nat.reduceAdd, Nat.reduceSub, Nat.reduceMul, Nat.reduceLT, Nat.reduceLeDiff, reduceCtorEq, Nat.reduceBEq, forall_const, implies_true, exists_const, ne_eq, Int.reduceAdd, Int.reduceSub, Int.reduceMul, Int.reduceBEq, Int.reduceEq, Int.reduceLT, Int.reduceLE, Int.reduceToNat, Int.reduceNeg, Int.reduceBNe, s2, g2, b2, s3, g3, b3, s5, s6, g6, b6, s7, g7, b7, s8, encLs, encLn]
          intro j hj
          rcases Nat.lt_or_eq_of_le (Nat.le_of_lt_succ hj) with h | h
          · exact hcs j h
          · subst h
            rw [List.getElem?_eq_getElem hk, List.getElem?_eq_getElem hk2, t_nf hne]
      · rintro m2 σ2 hklt ⟨hcs, s2, g2, b2, s3, g3, b3, s5, s6, g6, b6, s7, g7, b7, s8⟩
        have hpq : p = q := ln_ext w1 w2 (list_ext w3 hcs)
        simp -implicitDefEqProofs only [↓aP, aQ, ↓reduceIte, Nat.reduceEqDiff, Nat.reduceAdd, Nat.reduceSub, Nat.reduceMul, Nat.reduceLT, Nat.reduceLeDiff, reduceCtorEq, Nat.reduceBEq, forall_const, implies_true, exists_const, ne_eq, Int.reduceAdd, Int.reduceSub, Int.reduceMul, Int.reduceBEq, Int.reduceEq, Int.reduceLT, Int.reduceLE, Int.reduceToNat, Int.reduceNeg, Int.reduceBNe, hklt, s2, g2, b2, s3, g3, b3, s5, s6, g6, b6, s7, g7, b7, s8, encLn, List.length_map, wrapS (show i < 4611686018427387904 by omega)]
        refine nextR hi him ?_
        simp -implicitDefEqProofs only [↓aP, aQ, ↓reduceIte, Nat.reduceEqDiff, Nat.reduceAdd, Nat.reduceSub, Nat.reduceMul, Nat.reduceLT, Nat.reduceLeDiff, reduceCtorEq, Nat.reduceBEq, forall_const, implies_true, exists_const, ne_eq, Int.reduceAdd, Int.reduceSub, Int.reduceMul, Int.reduceBEq, Int.reduceEq, Int.reduceLT, Int.reduceLE, Int.reduceToNat, Int.reduceNeg, Int.reduceBNe, s2, g2, b2, s3, g3, b3, s5, s6, g6, b6, s7, g7, b7, s8, encLs]
        intro j hj
        rcases Nat.lt_or_eq_of_le (Nat.le_of_lt_succ hj) with h | h
        · exact ha j h
        · subst h
          rw [List.getElem?_eq_getElem hi, List.getElem?_eq_getElem hi2, ep, eq, hpq]
  · rintro m σ hlt ⟨ha, s2, g2, b2, s3, g3, b3, s5⟩
    have hr : decide (x = z) = true := decide_eq_true (ls_ext (list_ext h1 ha) h2 h3)
    simp -implicitDefEqProofs only [↓aP, aQ, ↓reduceIte, Nat.reduceEqDiff, Nat.reduceAdd, Nat.reduceSub, Nat.reduceMul, Nat.reduceLT, Nat.reduceLeDiff, reduceCtorEq, Nat.reduceBEq, forall_const, implies_true, exists_const, ne_eq, Int.reduceAdd, Int.reduceSub, Int.reduceMul, Int.reduceBEq, Int.reduceEq, Int.reduceLT, Int.reduceLE, Int.reduceToNat, Int.reduceNeg, Int.reduceBNe, hlt, s2, g2, b2, s3, g3, b3, s5, encLs, hr, List.length_map]
end Go.Proofs.Ytfmbfgoofiojcaa
