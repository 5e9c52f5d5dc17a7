/- layer 6: the contracts of cost, has, isNew, waitsRight, flightRight, Right. -/
import Derived.Test.YtfmbfgoofiojcaaCodeS
import Derived.Test.YtfmbfgoofiojcaaSA
import Derived.Test.YtfmbfgoofiojcaaLB
import Derived.Test.YtfmbfgoofiojcaaVA
namespace Go.Proofs.Ytfmbfgoofiojcaa
open Go.RowKit Lk
set_option linter.unusedVariables false
set_option linter.unusedSimpArgs false
theorem scost_spec (k : Int) : Spec Try.prog 50 [rI k] (.val (rI (Sc.costI k))) := by
  refine spec_val mixed fn50 (by simp) ?_
  unfold ac50
  by_cases h1 : k = 1
  · subst h1; simp -implicitDefEqProofs only [↓aP, aQ, ↓reduceIte, Nat.reduceEqDiff, Nat.reduceAdd, Nat.reduceSub, Nat.reduceMul, Nat.reduceLT, Nat.reduceLeDiff, reduceCtorEq, Nat.reduceBEq, forall_const, implies_true, exists_const, ne_eq, Int.reduceAdd, Int.reduceSub, Int.reduceMul, Int.reduceBEq, Int.reduceEq, Int.reduceLT, Int.reduceLE, Int.reduceToNat, Int.reduceNeg, Int.reduceBNe, beq_self_eq_true, show Sc.costI 1 = 2 from rfl]
  by_cases h2 : k = 2
  · subst h2; simp -implicitDefEqProofs only [↓aP, aQ, ↓reduceIte, Nat.reduceEqDiff, Nat.reduceAdd, Nat.reduceSub, Nat.reduceMul, Nat.reduceLT, Nat.reduceLeDiff, reduceCtorEq, Nat.reduceBEq, forall_const, implies_true, exists_const, ne_eq, Int.reduceAdd, Int.reduceSub, Int.reduceMul, Int.reduceBEq, Int.reduceEq, Int.reduceLT, Int.reduceLE, Int.reduceToNat, Int.reduceNeg, Int.reduceBNe, beq_self_eq_true, show ((2 : Int) == 1) = false by decide, show Sc.costI 2 = 4 from rfl]
  by_cases h3 : k = 3
  · subst h3; simp -implicitDefEqProofs only [↓aP, aQ, ↓reduceIte, Nat.reduceEqDiff, Nat.reduceAdd, Nat.reduceSub, Nat.reduceMul, Nat.reduceLT, Nat.reduceLeDiff, reduceCtorEq, Nat.reduceBEq, forall_const, implies_true, exists_const, ne_eq, Int.reduceAdd, Int.reduceSub, Int.reduceMul, Int.reduceBEq, Int.reduceEq, Int.reduceLT, Int.reduceLE, Int.reduceToNat, Int.reduceNeg, Int.reduceBNe, beq_self_eq_true, show ((3 : Int) == 1) = false by decide, show ((3 : Int) == 2) = false by decide, show Sc.costI 3 = 1 from rfl]
  simp -implicitDefEqProofs only [↓aP, aQ, ↓reduceIte, Nat.reduceEqDiff, Nat.reduceAdd, Nat.reduceSub, Nat.reduceMul, Nat.reduceLT, Nat.reduceLeDiff, reduceCtorEq, Nat.reduceBEq, forall_const, implies_true, exists_const, ne_eq, Int.reduceAdd, Int.reduceSub, Int.reduceMul, Int.reduceBEq, Int.reduceEq, Int.reduceLT, Int.reduceLE, Int.reduceToNat, Int.reduceNeg, Int.reduceBNe, show (k == 1) = false from beq_eq_false_iff_ne.2 h1, show (k == 2) = false from beq_eq_false_iff_ne.2 h2, show (k == 3) = false from beq_eq_false_iff_ne.2 h3, show Sc.costI k = 0 by unfold Sc.costI; rw [if_neg h1, if_neg h2, if_neg h3]]
theorem shas_spec (s : Sd) (n : Int) : Spec Try.prog 48 [.agg (encSd s), rI n] (.val (rB (Sc.hasL s n))) := by
  refine spec_val mixed fn48 (by simp) ?_
  unfold ac48
  by_cases h : 0 ≤ n
  · simp -implicitDefEqProofs only [↓aP, aQ, ↓reduceIte, Nat.reduceEqDiff, Nat.reduceAdd, Nat.reduceSub, Nat.reduceMul, Nat.reduceLT, Nat.reduceLeDiff, reduceCtorEq, Nat.reduceBEq, forall_const, implies_true, exists_const, ne_eq, Int.reduceAdd, Int.reduceSub, Int.reduceMul, Int.reduceBEq, Int.reduceEq, Int.reduceLT, Int.reduceLE, Int.reduceToNat, Int.reduceNeg, Int.reduceBNe, encSd, decide_eq_true h, List.length_map, Sc.hasL, h, true_and]
  · simp -implicitDefEqProofs only [↓aP, aQ, ↓reduceIte, Nat.reduceEqDiff, Nat.reduceAdd, Nat.reduceSub, Nat.reduceMul, Nat.reduceLT, Nat.reduceLeDiff, reduceCtorEq, Nat.reduceBEq, forall_const, implies_true, exists_const, ne_eq, Int.reduceAdd, Int.reduceSub, Int.reduceMul, Int.reduceBEq, Int.reduceEq, Int.reduceLT, Int.reduceLE, Int.reduceToNat, Int.reduceNeg, Int.reduceBNe, encSd, decide_eq_false h, List.length_map, Sc.hasL, h, false_and, decide_false]
theorem snew_spec (d : Dv) (j : Jb) : Spec Try.prog 49 [.agg (encDv d), .agg (encJb j)] (.val (rB (Sc.newB d.disk j))) := by
  refine spec_val mixed fn49 (by simp) ?_
  unfold ac49
  simp -implicitDefEqProofs only [↓aP, aQ, ↓reduceIte, Nat.reduceEqDiff, Nat.reduceAdd, Nat.reduceSub, Nat.reduceMul, Nat.reduceLT, Nat.reduceLeDiff, reduceCtorEq, Nat.reduceBEq, forall_const, implies_true, exists_const, ne_eq, Int.reduceAdd, Int.reduceSub, Int.reduceMul, Int.reduceBEq, Int.reduceEq, Int.reduceLT, Int.reduceLE, Int.reduceToNat, Int.reduceNeg, Int.reduceBNe, encDv, encJb]
  have c := submit_spec ⟨d.disk, 0, []⟩ j.kind j.page j.data
  rw [encDv, encSub, encDv, List.map_nil] at c
  refine askS c (by simp [asim, tsim, encDv, simL]; exact ⟨Sim.refl _, Sim.refl _, Sim.refl _⟩) ?_
  simp -implicitDefEqProofs only [↓aP, aQ, ↓reduceIte, Nat.reduceEqDiff, Nat.reduceAdd, Nat.reduceSub, Nat.reduceMul, Nat.reduceLT, Nat.reduceLeDiff, reduceCtorEq, Nat.reduceBEq, forall_const, implies_true, exists_const, ne_eq, Int.reduceAdd, Int.reduceSub, Int.reduceMul, Int.reduceBEq, Int.reduceEq, Int.reduceLT, Int.reduceLE, Int.reduceToNat, Int.reduceNeg, Int.reduceBNe, encDv, encSub]
  by_cases h : j.tries = 0
  · simp -implicitDefEqProofs only [↓aP, aQ, ↓reduceIte, Nat.reduceEqDiff, Nat.reduceAdd, Nat.reduceSub, Nat.reduceMul, Nat.reduceLT, Nat.reduceLeDiff, reduceCtorEq, Nat.reduceBEq, forall_const, implies_true, exists_const, ne_eq, Int.reduceAdd, Int.reduceSub, Int.reduceMul, Int.reduceBEq, Int.reduceEq, Int.reduceLT, Int.reduceLE, Int.reduceToNat, Int.reduceNeg, Int.reduceBNe, h, beq_self_eq_true, Sc.newB, Bool.true_and]
  · simp -implicitDefEqProofs only [↓aP, aQ, ↓reduceIte, Nat.reduceEqDiff, Nat.reduceAdd, Nat.reduceSub, Nat.reduceMul, Nat.reduceLT, Nat.reduceLeDiff, reduceCtorEq, Nat.reduceBEq, forall_const, implies_true, exists_const, ne_eq, Int.reduceAdd, Int.reduceSub, Int.reduceMul, Int.reduceBEq, Int.reduceEq, Int.reduceLT, Int.reduceLE, Int.reduceToNat, Int.reduceNeg, Int.reduceBNe, show (j.tries == 0) = false from beq_eq_false_iff_ne.2 h, Sc.newB, Bool.false_and]


set_option maxRecDepth 100000 in
set_option maxHeartbeats 4000000 in
theorem swaits_spec (s : Sd) (hl : s.js.length < 4611686018427387904 ∧ ∀ l ∈ s.js, l.length < 4611686018427387904) : Spec Try.prog 70 [.agg (encSd s)] (.val (rB (Sc.waitsR s))) := by
  refine spec_val mixed fn70 (by simp) ?_
  unfold ac70
  by_cases hn : s.js.length = s.l.l.length
  case neg =>
    have e : Sc.waitsR s = false := by unfold Sc.waitsR; rw [decide_eq_false hn, Bool.false_and]
    simp -implicitDefEqProofs only [↓aP, aQ, ↓reduceIte, Nat.reduceEqDiff, Nat.reduceAdd, Nat.reduceSub, Nat.reduceMul, Nat.reduceLT, Nat.reduceLeDiff, reduceCtorEq, Nat.reduceBEq, forall_const, implies_true, exists_const, ne_eq, Int.reduceAdd, Int.reduceSub, Int.reduceMul, Int.reduceBEq, Int.reduceEq, Int.reduceLT, Int.reduceLE, Int.reduceToNat, Int.reduceNeg, Int.reduceBNe, encSd, List.length_map, show ((s.js.length : Int) != (s.l.l.length : Int)) = true by rw [bne_iff_ne]; omega, e]
  have bad : ∀ i, i < s.js.length → Sc.laneR s.dv.disk i (s.js.getD i []) ((s.l.l.getD i default).cs) = false → Sc.waitsR s = false := fun i hi h => by
    unfold Sc.waitsR
    rw [Bool.and_eq_false_iff]
    right
    rw [List.all_eq_false]
    exact ⟨i, List.mem_range.2 hi, by rw [h]; decide⟩
  simp -implicitDefEqProofs only [↓aP, aQ, ↓reduceIte, Nat.reduceEqDiff, Nat.reduceAdd, Nat.reduceSub, Nat.reduceMul, Nat.reduceLT, Nat.reduceLeDiff, reduceCtorEq, Nat.reduceBEq, forall_const, implies_true, exists_const, ne_eq, Int.reduceAdd, Int.reduceSub, Int.reduceMul, Int.reduceBEq, Int.reduceEq, Int.reduceLT, Int.reduceLE, Int.reduceToNat, Int.reduceNeg, Int.reduceBNe, encSd, List.length_map, show ((s.js.length : Int) != (s.l.l.length : Int)) = false by rw [hn]; exact bne_self_eq_false _]
  refine rangeB s.js.length (fun i σ => (∀ k, k < i → Sc.laneR s.dv.disk k (s.js.getD k []) ((s.l.l.getD k default).cs) = true) ∧ σ.slot 1 = .c (.ptr 1 1 0 0) ∧ σ.h.gen 1 = 1 ∧ σ.h.blk 1 = .box 68 9 [(encSd s).map AC.s] ∧ σ.slot 17 = vL 1 (s.js.map encJs) ∧ σ.slot 18 = vI s.js.length ∧ σ.slot 19 = vI i) ?_ ?_ ?_
  · simp -implicitDefEqProofs only [↓aP, aQ, ↓reduceIte, Nat.reduceEqDiff, Nat.reduceAdd, Nat.reduceSub, Nat.reduceMul, Nat.reduceLT, Nat.reduceLeDiff, reduceCtorEq, Nat.reduceBEq, forall_const, implies_true, exists_const, ne_eq, Int.reduceAdd, Int.reduceSub, Int.reduceMul, Int.reduceBEq, Int.reduceEq, Int.reduceLT, Int.reduceLE, Int.reduceToNat, Int.reduceNeg, Int.reduceBNe, encSd]
    intro k hk; omega
  · rintro i m σ him hi hlt ⟨hg, s1, g1, b1, s17, s18, s19⟩
    have hi2 : i < s.l.l.length := by omega
    obtain ⟨l, el⟩ : ∃ l, l = s.js[i] := ⟨_, rfl⟩
    obtain ⟨cs, ecs⟩ : ∃ cs, cs = s.l.l[i].cs := ⟨_, rfl⟩
    have hll : l.length < 4611686018427387904 := by rw [el]; exact hl.2 _ (List.getElem_mem hi)
    have eL : Sc.laneR s.dv.disk i (s.js.getD i []) ((s.l.l.getD i default).cs) = Sc.laneR s.dv.disk i l cs := by
      rw [List.getD_eq_getElem?_getD, List.getD_eq_getElem?_getD, List.getElem?_eq_getElem hi, List.getElem?_eq_getElem hi2, el, ecs]; rfl
    simp -implicitDefEqProofs only [↓aP, aQ, ↓reduceIte, Nat.reduceEqDiff, Nat.reduceAdd, Nat.reduceSub, Nat.reduceMul, Nat.reduceLT, Nat.reduceLeDiff, reduceCtorEq, Nat.reduceBEq, forall_const, implies_true, exists_const, ne_eq, Int.reduceAdd, Int.reduceSub, Int.reduceMul, Int.reduceBEq, Int.reduceEq, Int.reduceLT, Int.reduceLE, Int.reduceToNat, Int.reduceNeg, Int.reduceBNe, hlt, s1, g1, b1, s17, s18, s19, askIdx_map, hi, hi2, encJs, encLn, encSd, List.length_map, ← el, ← ecs]
    by_cases hc : l.length = cs.length
    case neg =>
      have e := bad i hi (by rw [eL]; unfold Sc.laneR; rw [decide_eq_false (fun e => hc (by have := congrArg List.length e; simpa using this)), Bool.false_and])
      simp -implicitDefEqProofs only [↓aP, aQ, ↓reduceIte, Nat.reduceEqDiff, Nat.reduceAdd, Nat.reduceSub, Nat.reduceMul, Nat.reduceLT, Nat.reduceLeDiff, reduceCtorEq, Nat.reduceBEq, forall_const, implies_true, exists_const, ne_eq, Int.reduceAdd, Int.reduceSub, Int.reduceMul, Int.reduceBEq, Int.reduceEq, Int.reduceLT, Int.reduceLE, Int.reduceToNat, Int.reduceNeg, Int.reduceBNe, show ((l.length : Int) != (cs.length : Int)) = true by rw [bne_iff_ne]; omega, e]
    simp -implicitDefEqProofs only [↓aP, aQ, ↓reduceIte, Nat.reduceEqDiff, Nat.reduceAdd, Nat.reduceSub, Nat.reduceMul, Nat.reduceLT, Nat.reduceLeDiff, reduceCtorEq, Nat.reduceBEq, forall_const, implies_true, exists_const, ne_eq, Int.reduceAdd, Int.reduceSub, Int.reduceMul, Int.reduceBEq, Int.reduceEq, Int.reduceLT, Int.reduceLE, Int.reduceToNat, Int.reduceNeg, Int.reduceBNe, show ((l.length : Int) != (cs.length : Int)) = false by rw [hc]; exact bne_self_eq_false _, s1, g1, b1, s17, s18, s19, List.length_map]
    refine rangeB l.length (fun k σ => ((l.take k).map (fun j => Sc.costI j.kind) = cs.take k ∧ ∀ j ∈ l.take k, j.who = (i : Int) ∧ Sc.newB s.dv.disk j = true) ∧ σ.slot 1 = .c (.ptr 1 1 0 0) ∧ σ.h.gen 1 = 1 ∧ σ.h.blk 1 = .box 68 9 [(encSd s).map AC.s] ∧ σ.slot 17 = vL 1 (s.js.map encJs) ∧ σ.slot 18 = vI s.js.length ∧ σ.slot 19 = vI i ∧ σ.slot 3 = vI i ∧ σ.slot 5 = vL 1 (cs.map encI) ∧ σ.slot 36 = vL 5 (l.map encJb) ∧ σ.slot 37 = vI l.length ∧ σ.slot 38 = vI k) ?_ ?_ ?_
    · simp -implicitDefEqProofs only [↓aP, aQ, ↓reduceIte, Nat.reduceEqDiff, Nat.reduceAdd, Nat.reduceSub, Nat.reduceMul, Nat.reduceLT, Nat.reduceLeDiff, reduceCtorEq, Nat.reduceBEq, forall_const, implies_true, exists_const, ne_eq, Int.reduceAdd, Int.reduceSub, Int.reduceMul, Int.reduceBEq, Int.reduceEq, Int.reduceLT, Int.reduceLE, Int.reduceToNat, Int.reduceNeg, Int.reduceBNe, s1, g1, b1, s17, s18, s19, encSd, List.take_zero, List.map_nil]
      simp
    · clear hlt s1 g1 b1 s17 s18 s19
      rintro k m2 σ hkm hk hlt ⟨⟨hf1, hf2⟩, s1, g1, b1, s17, s18, s19, s3, s5, s36, s37, s38⟩
      have hkc : k < cs.length := by omega
      have no : ¬ (l.map (fun j => Sc.costI j.kind) = cs ∧ ∀ j ∈ l, j.who = (i : Int) ∧ Sc.newB s.dv.disk j = true) → Sc.waitsR s = false := fun h => bad i hi (by
        rw [eL]
        unfold Sc.laneR
        cases e1 : decide (l.map (fun j => Sc.costI j.kind) = cs)
        · rfl
        · rw [Bool.true_and, List.all_eq_false]
          rw [decide_eq_true_iff] at e1
          refine Classical.byContradiction fun hne => h ⟨e1, fun j hj => ?_⟩
          have := Classical.byContradiction fun hx => hne ⟨j, hj, hx⟩
          rw [Bool.and_eq_true, beq_iff_eq] at this
          exact this)
      simp -implicitDefEqProofs only [↓aP, aQ, ↓reduceIte, Nat.reduceEqDiff, Nat.reduceAdd, Nat.reduceSub, Nat.reduceMul, Nat.reduceLT, Nat.reduceLeDiff, reduceCtorEq, Nat.reduceBEq, forall_const, implies_true, exists_const, ne_eq, Int.reduceAdd, Int.reduceSub, Int.reduceMul, Int.reduceBEq, Int.reduceEq, Int.reduceLT, Int.reduceLE, Int.reduceToNat, Int.reduceNeg, Int.reduceBNe, hlt, s1, g1, b1, s17, s18, s19, s3, s5, s36, s37, s38, askIdx_map, hk, encJb, List.length_map]
      by_cases e1 : l[k].who = (i : Int)
      case neg =>
        simp -implicitDefEqProofs only [↓aP, aQ, ↓reduceIte, Nat.reduceEqDiff, Nat.reduceAdd, Nat.reduceSub, Nat.reduceMul, Nat.reduceLT, Nat.reduceLeDiff, reduceCtorEq, Nat.reduceBEq, forall_const, implies_true, exists_const, ne_eq, Int.reduceAdd, Int.reduceSub, Int.reduceMul, Int.reduceBEq, Int.reduceEq, Int.reduceLT, Int.reduceLE, Int.reduceToNat, Int.reduceNeg, Int.reduceBNe, show (l[k].who != (i : Int)) = true from bne_iff_ne.2 e1, no (fun h => e1 (h.2 _ (List.getElem_mem hk)).1), s1, g1, b1, s17, s18, s19, s3, s5, s36, s37, s38]
        decide +kernel
      simp -implicitDefEqProofs only [↓aP, aQ, ↓reduceIte, Nat.reduceEqDiff, Nat.reduceAdd, Nat.reduceSub, Nat.reduceMul, Nat.reduceLT, Nat.reduceLeDiff, reduceCtorEq, Nat.reduceBEq, forall_const, implies_true, exists_const, ne_eq, Int.reduceAdd, Int.reduceSub, Int.reduceMul, Int.reduceBEq, Int.reduceEq, Int.reduceLT, Int.reduceLE, Int.reduceToNat, Int.reduceNeg, Int.reduceBNe, e1, bne_self_eq_false, s1, g1, b1, s17, s18, s19, s3, s5, s36, s37, s38, encSd]
      refine ask (scost_spec l[k].kind) ?_
      simp -implicitDefEqProofs only [↓aP, aQ, ↓reduceIte, Nat.reduceEqDiff, Nat.reduceAdd, Nat.reduceSub, Nat.reduceMul, Nat.reduceLT, Nat.reduceLeDiff, reduceCtorEq, Nat.reduceBEq, forall_const, implies_true, exists_const, ne_eq, Int.reduceAdd, Int.reduceSub, Int.reduceMul, Int.reduceBEq, Int.reduceEq, Int.reduceLT, Int.reduceLE, Int.reduceToNat, Int.reduceNeg, Int.reduceBNe, askIdx_map, hkc, encI, s1, g1, b1, s17, s18, s19, s3, s5, s36, s37, s38, encSd]
      by_cases e2 : Sc.costI l[k].kind = cs[k]
      case neg =>
        have e := no (fun h => e2 (by have := h.1; simp only [← this, List.getElem_map]))
        simp -implicitDefEqProofs only [↓aP, aQ, ↓reduceIte, Nat.reduceEqDiff, Nat.reduceAdd, Nat.reduceSub, Nat.reduceMul, Nat.reduceLT, Nat.reduceLeDiff, reduceCtorEq, Nat.reduceBEq, forall_const, implies_true, exists_const, ne_eq, Int.reduceAdd, Int.reduceSub, Int.reduceMul, Int.reduceBEq, Int.reduceEq, Int.reduceLT, Int.reduceLE, Int.reduceToNat, Int.reduceNeg, Int.reduceBNe, show (Sc.costI l[k].kind != cs[k]) = true from bne_iff_ne.2 e2, e, s1, g1, b1, s17, s18, s19, s3, s5, s36, s37, s38]
        decide +kernel
      simp -implicitDefEqProofs only [↓aP, aQ, ↓reduceIte, Nat.reduceEqDiff, Nat.reduceAdd, Nat.reduceSub, Nat.reduceMul, Nat.reduceLT, Nat.reduceLeDiff, reduceCtorEq, Nat.reduceBEq, forall_const, implies_true, exists_const, ne_eq, Int.reduceAdd, Int.reduceSub, Int.reduceMul, Int.reduceBEq, Int.reduceEq, Int.reduceLT, Int.reduceLE, Int.reduceToNat, Int.reduceNeg, Int.reduceBNe, e2, bne_self_eq_false, s1, g1, b1, s17, s18, s19, s3, s5, s36, s37, s38, encSd]
      refine ask (by have := snew_spec s.dv l[k]; rw [encDv, encJb, e1] at this; exact this) ?_
      cases e3 : Sc.newB s.dv.disk l[k]
      · have e := no (fun h => by have := (h.2 _ (List.getElem_mem hk)).2; rw [e3] at this; exact Bool.noConfusion this)
        simp -implicitDefEqProofs only [↓aP, aQ, ↓reduceIte, Nat.reduceEqDiff, Nat.reduceAdd, Nat.reduceSub, Nat.reduceMul, Nat.reduceLT, Nat.reduceLeDiff, reduceCtorEq, Nat.reduceBEq, forall_const, implies_true, exists_const, ne_eq, Int.reduceAdd, Int.reduceSub, Int.reduceMul, Int.reduceBEq, Int.reduceEq, Int.reduceLT, Int.reduceLE, Int.reduceToNat, Int.reduceNeg, Int.reduceBNe, s1, g1, b1, s17, s18, s19, s3, s5, s36, s37, s38, e]
        decide +kernel
      · simp -implicitDefEqProofs only [↓aP, aQ, ↓reduceIte, Nat.reduceEqDiff, Nat.reduceAdd, Nat.reduceSub, Nat.reduceMul, Nat.reduceLT, Nat.reduceLeDiff, reduceCtorEq, Nat.reduceBEq, forall_const, implies_true, exists_const, ne_eq, Int.reduceAdd, Int.reduceSub, Int.reduceMul, Int.reduceBEq, Int.reduceEq, Int.reduceLT, Int.reduceLE, Int.reduceToNat, Int.reduceNeg, Int.reduceBNe, s1, g1, b1, s17, s18, s19, s3, s5, s36, s37, s38, wrapS (show k < 4611686018427387904 by omega)]
        refine ⟨by decide +kernel, ?_⟩
        refine nextR hk hkm ⟨⟨?_, ?_⟩, ?_⟩
        · rw [take_snoc hk, take_snoc hkc, List.map_append, hf1]
          simp [e2]
        · rw [take_snoc hk]
          intro j hj
          rcases List.mem_append.1 hj with h | h
          · exact hf2 j h
          · rw [List.mem_singleton.1 h]; exact ⟨e1, e3⟩
        · simp -implicitDefEqProofs only [↓aP, aQ, ↓reduceIte, Nat.reduceEqDiff, Nat.reduceAdd, Nat.reduceSub, Nat.reduceMul, Nat.reduceLT, Nat.reduceLeDiff, reduceCtorEq, Nat.reduceBEq, forall_const, implies_true, exists_const, ne_eq, Int.reduceAdd, Int.reduceSub, Int.reduceMul, Int.reduceBEq, Int.reduceEq, Int.reduceLT, Int.reduceLE, Int.reduceToNat, Int.reduceNeg, Int.reduceBNe, s1, g1, b1, s17, s18, s19, s3, s5, s36, s37, s38, encSd]
    · clear hlt s1 g1 b1 s17 s18 s19
      rintro m2 σ hlt ⟨⟨hf1, hf2⟩, s1, g1, b1, s17, s18, s19, s3, s5, s36, s37, s38⟩
      rw [List.take_length] at hf1 hf2
      rw [hc, List.take_length] at hf1
      simp -implicitDefEqProofs only [↓aP, aQ, ↓reduceIte, Nat.reduceEqDiff, Nat.reduceAdd, Nat.reduceSub, Nat.reduceMul, Nat.reduceLT, Nat.reduceLeDiff, reduceCtorEq, Nat.reduceBEq, forall_const, implies_true, exists_const, ne_eq, Int.reduceAdd, Int.reduceSub, Int.reduceMul, Int.reduceBEq, Int.reduceEq, Int.reduceLT, Int.reduceLE, Int.reduceToNat, Int.reduceNeg, Int.reduceBNe, hlt, s1, g1, b1, s17, s18, s19, s3, s5, s36, s37, s38, wrapS (show i < 4611686018427387904 by omega)]
      refine nextR hi him ⟨fun q hq => ?_, ?_⟩
      · by_cases eq : q = i
        · subst eq
          rw [eL]
          unfold Sc.laneR
          rw [decide_eq_true hf1, Bool.true_and, List.all_eq_true]
          intro j hj
          rw [Bool.and_eq_true, beq_iff_eq]
          exact hf2 j hj
        · exact hg q (by omega)
      · simp -implicitDefEqProofs only [↓aP, aQ, ↓reduceIte, Nat.reduceEqDiff, Nat.reduceAdd, Nat.reduceSub, Nat.reduceMul, Nat.reduceLT, Nat.reduceLeDiff, reduceCtorEq, Nat.reduceBEq, forall_const, implies_true, exists_const, ne_eq, Int.reduceAdd, Int.reduceSub, Int.reduceMul, Int.reduceBEq, Int.reduceEq, Int.reduceLT, Int.reduceLE, Int.reduceToNat, Int.reduceNeg, Int.reduceBNe, s1, g1, b1, s17, s18, s19, s3, s5, s36, s37, s38, encSd]
  · rintro m σ hlt ⟨hg, s1, g1, b1, s17, s18, s19⟩
    have e : Sc.waitsR s = true := by
      unfold Sc.waitsR
      rw [decide_eq_true hn, Bool.true_and, List.all_eq_true]
      exact fun k hk => hg k (List.mem_range.1 hk)
    simp -implicitDefEqProofs only [↓aP, aQ, ↓reduceIte, Nat.reduceEqDiff, Nat.reduceAdd, Nat.reduceSub, Nat.reduceMul, Nat.reduceLT, Nat.reduceLeDiff, reduceCtorEq, Nat.reduceBEq, forall_const, implies_true, exists_const, ne_eq, Int.reduceAdd, Int.reduceSub, Int.reduceMul, Int.reduceBEq, Int.reduceEq, Int.reduceLT, Int.reduceLE, Int.reduceToNat, Int.reduceNeg, Int.reduceBNe, hlt, s1, g1, b1, s17, s18, s19, e]

set_option maxRecDepth 100000 in
set_option maxHeartbeats 4000000 in
theorem sflight_spec (s : Sd) (hl : s.out.length < 4611686018427387904) : Spec Try.prog 71 [.agg (encSd s)] (.val (rB (Sc.flightR s))) := by
  refine spec_val mixed fn71 (by simp) ?_
  unfold ac71
  by_cases hn : s.out.length = s.dv.flight.length
  case neg =>
    have e : Sc.flightR s = false := by unfold Sc.flightR; rw [decide_eq_false hn, Bool.false_and]
    simp -implicitDefEqProofs only [↓aP, aQ, ↓reduceIte, Nat.reduceEqDiff, Nat.reduceAdd, Nat.reduceSub, Nat.reduceMul, Nat.reduceLT, Nat.reduceLeDiff, reduceCtorEq, Nat.reduceBEq, forall_const, implies_true, exists_const, ne_eq, Int.reduceAdd, Int.reduceSub, Int.reduceMul, Int.reduceBEq, Int.reduceEq, Int.reduceLT, Int.reduceLE, Int.reduceToNat, Int.reduceNeg, Int.reduceBNe, encSd, List.length_map, show ((s.out.length : Int) != (s.dv.flight.length : Int)) = true by rw [bne_iff_ne]; omega, e]
  simp -implicitDefEqProofs only [↓aP, aQ, ↓reduceIte, Nat.reduceEqDiff, Nat.reduceAdd, Nat.reduceSub, Nat.reduceMul, Nat.reduceLT, Nat.reduceLeDiff, reduceCtorEq, Nat.reduceBEq, forall_const, implies_true, exists_const, ne_eq, Int.reduceAdd, Int.reduceSub, Int.reduceMul, Int.reduceBEq, Int.reduceEq, Int.reduceLT, Int.reduceLE, Int.reduceToNat, Int.reduceNeg, Int.reduceBNe, encSd, List.length_map, show ((s.out.length : Int) != (s.dv.flight.length : Int)) = false by rw [hn]; exact bne_self_eq_false _]
  refine rangeB s.out.length (fun i σ => (∀ k, k < i → Sc.fitJ s (s.out.getD k zJ) (s.dv.flight.getD k noRq) = true) ∧ σ.slot 1 = .c (.ptr 1 1 0 0) ∧ σ.h.gen 1 = 1 ∧ σ.h.blk 1 = .box 68 9 [(encSd s).map AC.s] ∧ σ.slot 15 = vL 5 (s.out.map encJb) ∧ σ.slot 16 = vI s.out.length ∧ σ.slot 17 = vI i) ?_ ?_ ?_
  · simp -implicitDefEqProofs only [↓aP, aQ, ↓reduceIte, Nat.reduceEqDiff, Nat.reduceAdd, Nat.reduceSub, Nat.reduceMul, Nat.reduceLT, Nat.reduceLeDiff, reduceCtorEq, Nat.reduceBEq, forall_const, implies_true, exists_const, ne_eq, Int.reduceAdd, Int.reduceSub, Int.reduceMul, Int.reduceBEq, Int.reduceEq, Int.reduceLT, Int.reduceLE, Int.reduceToNat, Int.reduceNeg, Int.reduceBNe, encSd]
    intro k hk; omega
  · rintro i m σ him hi hlt ⟨hg, s1, g1, b1, s15, s16, s17⟩
    have hi2 : i < s.dv.flight.length := by omega
    have eL : Sc.fitJ s (s.out.getD i zJ) (s.dv.flight.getD i noRq) = Sc.fitJ s s.out[i] s.dv.flight[i] := by
      rw [List.getD_eq_getElem?_getD, List.getD_eq_getElem?_getD, List.getElem?_eq_getElem hi, List.getElem?_eq_getElem hi2]; rfl
    have no : Sc.fitJ s s.out[i] s.dv.flight[i] = false → Sc.flightR s = false := fun h => by
      unfold Sc.flightR
      rw [Bool.and_eq_false_iff]
      right
      rw [List.all_eq_false]
      exact ⟨i, List.mem_range.2 hi, by rw [eL, h]; decide⟩
    have no1 : ¬ (s.out[i].kind = s.dv.flight[i].kind ∧ s.out[i].page = s.dv.flight[i].page ∧ s.out[i].data = s.dv.flight[i].data) → Sc.flightR s = false := fun h => no (by unfold Sc.fitJ; rw [decide_eq_false h, Bool.false_and])
    simp -implicitDefEqProofs only [↓aP, aQ, ↓reduceIte, Nat.reduceEqDiff, Nat.reduceAdd, Nat.reduceSub, Nat.reduceMul, Nat.reduceLT, Nat.reduceLeDiff, reduceCtorEq, Nat.reduceBEq, forall_const, implies_true, exists_const, ne_eq, Int.reduceAdd, Int.reduceSub, Int.reduceMul, Int.reduceBEq, Int.reduceEq, Int.reduceLT, Int.reduceLE, Int.reduceToNat, Int.reduceNeg, Int.reduceBNe, hlt, s1, g1, b1, s15, s16, s17, askIdx_map, hi, hi2, encJb, encRq, encSd, List.length_map]
    by_cases e1 : s.out[i].kind = s.dv.flight[i].kind
    case neg => simp -implicitDefEqProofs only [↓aP, aQ, ↓reduceIte, Nat.reduceEqDiff, Nat.reduceAdd, Nat.reduceSub, Nat.reduceMul, Nat.reduceLT, Nat.reduceLeDiff, reduceCtorEq, Nat.reduceBEq, forall_const, implies_true, exists_const, ne_eq, Int.reduceAdd, Int.reduceSub, Int.reduceMul, Int.reduceBEq, Int.reduceEq, Int.reduceLT, Int.reduceLE, Int.reduceToNat, Int.reduceNeg, Int.reduceBNe, show (s.out[i].kind != s.dv.flight[i].kind) = true from bne_iff_ne.2 e1, no1 (fun h => e1 h.1), s1, g1, b1, s15, s16, s17]
    by_cases e2 : s.out[i].page = s.dv.flight[i].page
    case neg => simp -implicitDefEqProofs only [↓aP, aQ, ↓reduceIte, Nat.reduceEqDiff, Nat.reduceAdd, Nat.reduceSub, Nat.reduceMul, Nat.reduceLT, Nat.reduceLeDiff, reduceCtorEq, Nat.reduceBEq, forall_const, implies_true, exists_const, ne_eq, Int.reduceAdd, Int.reduceSub, Int.reduceMul, Int.reduceBEq, Int.reduceEq, Int.reduceLT, Int.reduceLE, Int.reduceToNat, Int.reduceNeg, Int.reduceBNe, e1, bne_self_eq_false, show (s.out[i].page != s.dv.flight[i].page) = true from bne_iff_ne.2 e2, no1 (fun h => e2 h.2.1), s1, g1, b1, s15, s16, s17]
    by_cases e3 : s.out[i].data = s.dv.flight[i].data
    case neg => simp -implicitDefEqProofs only [↓aP, aQ, ↓reduceIte, Nat.reduceEqDiff, Nat.reduceAdd, Nat.reduceSub, Nat.reduceMul, Nat.reduceLT, Nat.reduceLeDiff, reduceCtorEq, Nat.reduceBEq, forall_const, implies_true, exists_const, ne_eq, Int.reduceAdd, Int.reduceSub, Int.reduceMul, Int.reduceBEq, Int.reduceEq, Int.reduceLT, Int.reduceLE, Int.reduceToNat, Int.reduceNeg, Int.reduceBNe, e1, e2, bne_self_eq_false, show (s.out[i].data.toList == s.dv.flight[i].data.toList) = false from beq_eq_false_iff_ne.2 (fun e => e3 (toL_inj e)), Bool.not_false, no1 (fun h => e3 h.2.2), s1, g1, b1, s15, s16, s17]
    simp -implicitDefEqProofs only [↓aP, aQ, ↓reduceIte, Nat.reduceEqDiff, Nat.reduceAdd, Nat.reduceSub, Nat.reduceMul, Nat.reduceLT, Nat.reduceLeDiff, reduceCtorEq, Nat.reduceBEq, forall_const, implies_true, exists_const, ne_eq, Int.reduceAdd, Int.reduceSub, Int.reduceMul, Int.reduceBEq, Int.reduceEq, Int.reduceLT, Int.reduceLE, Int.reduceToNat, Int.reduceNeg, Int.reduceBNe, e1, e2, e3, bne_self_eq_false, s1, g1, b1, s15, s16, s17, encSd]
    refine ask (by have := shas_spec s s.out[i].who; rw [encSd] at this; exact this) ?_
    have eF : Sc.fitJ s s.out[i] s.dv.flight[i] = (Sc.hasL s s.out[i].who && decide (1 ≤ s.out[i].tries ∧ s.out[i].tries ≤ 3)) := by unfold Sc.fitJ; rw [decide_eq_true ⟨e1, e2, e3⟩, Bool.true_and]
    cases e4 : Sc.hasL s s.out[i].who
    · simp -implicitDefEqProofs only [↓aP, aQ, ↓reduceIte, Nat.reduceEqDiff, Nat.reduceAdd, Nat.reduceSub, Nat.reduceMul, Nat.reduceLT, Nat.reduceLeDiff, reduceCtorEq, Nat.reduceBEq, forall_const, implies_true, exists_const, ne_eq, Int.reduceAdd, Int.reduceSub, Int.reduceMul, Int.reduceBEq, Int.reduceEq, Int.reduceLT, Int.reduceLE, Int.reduceToNat, Int.reduceNeg, Int.reduceBNe, s1, g1, b1, s15, s16, s17, no (by rw [eF, e4, Bool.false_and])]
    by_cases e5 : s.out[i].tries < 1
    · simp -implicitDefEqProofs only [↓aP, aQ, ↓reduceIte, Nat.reduceEqDiff, Nat.reduceAdd, Nat.reduceSub, Nat.reduceMul, Nat.reduceLT, Nat.reduceLeDiff, reduceCtorEq, Nat.reduceBEq, forall_const, implies_true, exists_const, ne_eq, Int.reduceAdd, Int.reduceSub, Int.reduceMul, Int.reduceBEq, Int.reduceEq, Int.reduceLT, Int.reduceLE, Int.reduceToNat, Int.reduceNeg, Int.reduceBNe, s1, g1, b1, s15, s16, s17, decide_eq_true e5, no (by rw [eF, e4, decide_eq_false (by omega)]; rfl)]
    by_cases e6 : 3 < s.out[i].tries
    · simp -implicitDefEqProofs only [↓aP, aQ, ↓reduceIte, Nat.reduceEqDiff, Nat.reduceAdd, Nat.reduceSub, Nat.reduceMul, Nat.reduceLT, Nat.reduceLeDiff, reduceCtorEq, Nat.reduceBEq, forall_const, implies_true, exists_const, ne_eq, Int.reduceAdd, Int.reduceSub, Int.reduceMul, Int.reduceBEq, Int.reduceEq, Int.reduceLT, Int.reduceLE, Int.reduceToNat, Int.reduceNeg, Int.reduceBNe, s1, g1, b1, s15, s16, s17, decide_eq_false e5, decide_eq_true e6, no (by rw [eF, e4, decide_eq_false (by omega)]; rfl)]
    simp -implicitDefEqProofs only [↓aP, aQ, ↓reduceIte, Nat.reduceEqDiff, Nat.reduceAdd, Nat.reduceSub, Nat.reduceMul, Nat.reduceLT, Nat.reduceLeDiff, reduceCtorEq, Nat.reduceBEq, forall_const, implies_true, exists_const, ne_eq, Int.reduceAdd, Int.reduceSub, Int.reduceMul, Int.reduceBEq, Int.reduceEq, Int.reduceLT, Int.reduceLE, Int.reduceToNat, Int.reduceNeg, Int.reduceBNe, s1, g1, b1, s15, s16, s17, decide_eq_false e5, decide_eq_false e6, wrapS (show i < 4611686018427387904 by omega)]
    refine nextR hi him ⟨fun q hq => ?_, ?_⟩
    · by_cases eq : q = i
      · subst eq
        rw [eL, eF, e4, decide_eq_true (by omega)]; rfl
      · exact hg q (by omega)
    · simp -implicitDefEqProofs only [↓aP, aQ, ↓reduceIte, Nat.reduceEqDiff, Nat.reduceAdd, Nat.reduceSub, Nat.reduceMul, Nat.reduceLT, Nat.reduceLeDiff, reduceCtorEq, Nat.reduceBEq, forall_const, implies_true, exists_const, ne_eq, Int.reduceAdd, Int.reduceSub, Int.reduceMul, Int.reduceBEq, Int.reduceEq, Int.reduceLT, Int.reduceLE, Int.reduceToNat, Int.reduceNeg, Int.reduceBNe, s1, g1, b1, s15, s16, s17, encSd]
  · rintro m σ hlt ⟨hg, s1, g1, b1, s15, s16, s17⟩
    have e : Sc.flightR s = true := by
      unfold Sc.flightR
      rw [decide_eq_true hn, Bool.true_and, List.all_eq_true]
      exact fun k hk => hg k (List.mem_range.1 hk)
    simp -implicitDefEqProofs only [↓aP, aQ, ↓reduceIte, Nat.reduceEqDiff, Nat.reduceAdd, Nat.reduceSub, Nat.reduceMul, Nat.reduceLT, Nat.reduceLeDiff, reduceCtorEq, Nat.reduceBEq, forall_const, implies_true, exists_const, ne_eq, Int.reduceAdd, Int.reduceSub, Int.reduceMul, Int.reduceBEq, Int.reduceEq, Int.reduceLT, Int.reduceLE, Int.reduceToNat, Int.reduceNeg, Int.reduceBNe, hlt, s1, g1, b1, s15, s16, s17, e]
/-- short enough to be gone through -/
def Shs (s : Sd) : Prop := Small s.l ∧ s.js.length < 4611686018427387904 ∧ (∀ l ∈ s.js, l.length < 4611686018427387904) ∧ s.out.length < 4611686018427387904
theorem sright_spec (s : Sd) (h : Shs s) : Spec Try.prog 37 [.agg (encSd s)] (.val (rB (Sc.rightS s))) := by
  refine spec_val mixed fn37 (by simp) ?_
  unfold ac37
  simp -implicitDefEqProofs only [↓aP, aQ, ↓reduceIte, Nat.reduceEqDiff, Nat.reduceAdd, Nat.reduceSub, Nat.reduceMul, Nat.reduceLT, Nat.reduceLeDiff, reduceCtorEq, Nat.reduceBEq, forall_const, implies_true, exists_const, ne_eq, Int.reduceAdd, Int.reduceSub, Int.reduceMul, Int.reduceBEq, Int.reduceEq, Int.reduceLT, Int.reduceLE, Int.reduceToNat, Int.reduceNeg, Int.reduceBNe, encSd]
  refine ask (by have := lRight_spec s.l h.1; rw [encLs] at this; exact this) ?_
  cases r1 : right s.l
  · simp -implicitDefEqProofs only [↓aP, aQ, ↓reduceIte, Nat.reduceEqDiff, Nat.reduceAdd, Nat.reduceSub, Nat.reduceMul, Nat.reduceLT, Nat.reduceLeDiff, reduceCtorEq, Nat.reduceBEq, forall_const, implies_true, exists_const, ne_eq, Int.reduceAdd, Int.reduceSub, Int.reduceMul, Int.reduceBEq, Int.reduceEq, Int.reduceLT, Int.reduceLE, Int.reduceToNat, Int.reduceNeg, Int.reduceBNe, Sc.rightS, r1, Bool.false_and]
  simp -implicitDefEqProofs only [↓aP, aQ, ↓reduceIte, Nat.reduceEqDiff, Nat.reduceAdd, Nat.reduceSub, Nat.reduceMul, Nat.reduceLT, Nat.reduceLeDiff, reduceCtorEq, Nat.reduceBEq, forall_const, implies_true, exists_const, ne_eq, Int.reduceAdd, Int.reduceSub, Int.reduceMul, Int.reduceBEq, Int.reduceEq, Int.reduceLT, Int.reduceLE, Int.reduceToNat, Int.reduceNeg, Int.reduceBNe, encSd]
  refine ask (by have := dvRight_spec s.dv; rw [encDv] at this; exact this) ?_
  cases r2 : rightV s.dv
  · simp -implicitDefEqProofs only [↓aP, aQ, ↓reduceIte, Nat.reduceEqDiff, Nat.reduceAdd, Nat.reduceSub, Nat.reduceMul, Nat.reduceLT, Nat.reduceLeDiff, reduceCtorEq, Nat.reduceBEq, forall_const, implies_true, exists_const, ne_eq, Int.reduceAdd, Int.reduceSub, Int.reduceMul, Int.reduceBEq, Int.reduceEq, Int.reduceLT, Int.reduceLE, Int.reduceToNat, Int.reduceNeg, Int.reduceBNe, Sc.rightS, r1, r2, Bool.false_and, Bool.and_false]
  simp -implicitDefEqProofs only [↓aP, aQ, ↓reduceIte, Nat.reduceEqDiff, Nat.reduceAdd, Nat.reduceSub, Nat.reduceMul, Nat.reduceLT, Nat.reduceLeDiff, reduceCtorEq, Nat.reduceBEq, forall_const, implies_true, exists_const, ne_eq, Int.reduceAdd, Int.reduceSub, Int.reduceMul, Int.reduceBEq, Int.reduceEq, Int.reduceLT, Int.reduceLE, Int.reduceToNat, Int.reduceNeg, Int.reduceBNe, encSd]
  refine ask (by have := swaits_spec s ⟨h.2.1, h.2.2.1⟩; rw [encSd] at this; exact this) ?_
  cases r3 : Sc.waitsR s
  · simp -implicitDefEqProofs only [↓aP, aQ, ↓reduceIte, Nat.reduceEqDiff, Nat.reduceAdd, Nat.reduceSub, Nat.reduceMul, Nat.reduceLT, Nat.reduceLeDiff, reduceCtorEq, Nat.reduceBEq, forall_const, implies_true, exists_const, ne_eq, Int.reduceAdd, Int.reduceSub, Int.reduceMul, Int.reduceBEq, Int.reduceEq, Int.reduceLT, Int.reduceLE, Int.reduceToNat, Int.reduceNeg, Int.reduceBNe, Sc.rightS, r1, r2, r3, Bool.false_and, Bool.and_false]
  simp -implicitDefEqProofs only [↓aP, aQ, ↓reduceIte, Nat.reduceEqDiff, Nat.reduceAdd, Nat.reduceSub, Nat.reduceMul, Nat.reduceLT, Nat.reduceLeDiff, reduceCtorEq, Nat.reduceBEq, forall_const, implies_true, exists_const, ne_eq, Int.reduceAdd, Int.reduceSub, Int.reduceMul, Int.reduceBEq, Int.reduceEq, Int.reduceLT, Int.reduceLE, Int.reduceToNat, Int.reduceNeg, Int.reduceBNe, encSd]
  refine ask (by have := sflight_spec s h.2.2.2; rw [encSd] at this; exact this) ?_
  simp -implicitDefEqProofs only [↓aP, aQ, ↓reduceIte, Nat.reduceEqDiff, Nat.reduceAdd, Nat.reduceSub, Nat.reduceMul, Nat.reduceLT, Nat.reduceLeDiff, reduceCtorEq, Nat.reduceBEq, forall_const, implies_true, exists_const, ne_eq, Int.reduceAdd, Int.reduceSub, Int.reduceMul, Int.reduceBEq, Int.reduceEq, Int.reduceLT, Int.reduceLE, Int.reduceToNat, Int.reduceNeg, Int.reduceBNe, Sc.rightS, r1, r2, r3, Bool.true_and]
end Go.Proofs.Ytfmbfgoofiojcaa
