/- layer 11: the document's words: Begin, Pin, Unpin, End, Same; the law's ref. -/
import Derived.Test.YteghmlafodkfpaaA13
import Derived.Laws.StructEq
namespace Go.Proofs.Yteghmlafodkfpaa
open Go.RowKit
set_option linter.unusedVariables false
set_option linter.unusedSimpArgs false

theorem more_spec (h : Ha) (who d : Int) (hl : h.cl.length ≤ 1000) (hd : ∀ c ∈ h.cl, -1000 ≤ c.held + d ∧ c.held + d ≤ 1000) : Spec Try.prog 73 [.agg (encHa h), rI who, rI d] (.val (.agg (encHa ⟨h.fr, h.bu, h.cl.map (Ad.addTo who d), h.q⟩))) := by
  refine spec_val mixed fn73 (by simp) ?_
  unfold ac73
  simp -implicitDefEqProofs only [↓aP, aQ, ↓reduceIte, Nat.reduceEqDiff, Nat.reduceAdd, Nat.reduceSub, Nat.reduceMul, Nat.reduceLT, Nat.reduceLeDiff, reduceCtorEq, Nat.reduceBEq, forall_const, implies_true, exists_const, ne_eq, Int.reduceAdd, Int.reduceSub, Int.reduceMul, Int.reduceBEq, Int.reduceEq, Int.reduceLT, Int.reduceLE, Int.reduceToNat, Int.reduceNeg, Int.reduceBNe, encHa]
  refine shift (sub_cell (p := 7) (i := 0) (j := 2) 42 100 3 rfl (by exact Nat.succ_pos _) (by rfl) (by decide) (by decide)) ?_
  refine rangeB h.cl.length (fun i σ => ∃ g, σ.slot 1 = vI who ∧ σ.slot 2 = vI d ∧ σ.slot 3 = .c (.ptr 3 1 0 0) ∧ σ.h.gen 3 = 1 ∧ σ.h.blk 3 = .box 29 4 [(encHa h).map AC.s] ∧ σ.slot 6 = .c (.ptr 6 1 0 0) ∧ σ.h.gen 6 = 1 ∧ σ.h.blk 6 = .box 29 4 [[.s (.pv (.int .i64 0)), .s (.pv (.int .i64 0)), .zc, .zc]] ∧ σ.slot 7 = .c (.ptr 7 1 0 0) ∧ σ.h.gen 7 = 1 ∧ σ.h.blk 7 = .box 29 4 [[.s (.pv (.int .i64 h.fr)), .s (.pv (.int .i64 h.bu)), .own 42 g, .s (.sl 2 (h.q.map encTk))]] ∧ σ.h.gen 42 = g ∧ σ.h.blk 42 = .row 100 3 (((h.cl.take i).map (Ad.addTo who d)).map encCl) ∧ σ.slot 8 = vI i) ?_ ?_ ?_
  · simp -implicitDefEqProofs only [↓aP, aQ, ↓reduceIte, Nat.reduceEqDiff, Nat.reduceAdd, Nat.reduceSub, Nat.reduceMul, Nat.reduceLT, Nat.reduceLeDiff, reduceCtorEq, Nat.reduceBEq, forall_const, implies_true, exists_const, ne_eq, Int.reduceAdd, Int.reduceSub, Int.reduceMul, Int.reduceBEq, Int.reduceEq, Int.reduceLT, Int.reduceLE, Int.reduceToNat, Int.reduceNeg, Int.reduceBNe, encHa, List.take_zero, List.map_nil]
    exact ⟨_, rfl, rfl⟩
  · rintro i m σ him hi hlt ⟨g, s1, s2, s3, g3, b3, s6, g6, b6, s7, g7, b7, g42, b42, s8⟩
    have hc := hd _ (List.getElem_mem hi)
    have hts : (((h.cl.take (i + 1)).map (Ad.addTo who d)).map encCl) = (((h.cl.take i).map (Ad.addTo who d)).map encCl) ++ [encCl (Ad.addTo who d h.cl[i])] := by rw [take_snoc hi, List.map_append, List.map_append]; rfl
    have w : IntKind.i64.wrap (h.cl[i].held + d) = h.cl[i].held + d := wrapI (by omega)
    by_cases he : h.cl[i].who = who
    · have ea : Ad.addTo who d h.cl[i] = ⟨h.cl[i].who, h.cl[i].claim, h.cl[i].held + d⟩ := by unfold Ad.addTo; rw [if_pos he]
      simp -implicitDefEqProofs only [↓aP, aQ, ↓reduceIte, Nat.reduceEqDiff, Nat.reduceAdd, Nat.reduceSub, Nat.reduceMul, Nat.reduceLT, Nat.reduceLeDiff, reduceCtorEq, Nat.reduceBEq, forall_const, implies_true, exists_const, ne_eq, Int.reduceAdd, Int.reduceSub, Int.reduceMul, Int.reduceBEq, Int.reduceEq, Int.reduceLT, Int.reduceLE, Int.reduceToNat, Int.reduceNeg, Int.reduceBNe, hlt, s1, s2, s3, g3, b3, s6, g6, b6, s7, g7, b7, g42, b42, s8, encHa, askIdx_map, hi, encCl, List.length_map, List.length_take, show (h.cl[i].who == who) = true by simpa using he, w, wrapS (show i < 4611686018427387904 by omega)]
      refine ⟨by omega, by omega, ?_⟩
      refine nextR hi him ⟨g + 1, ?_⟩
      simp -implicitDefEqProofs only [↓aP, aQ, ↓reduceIte, Nat.reduceEqDiff, Nat.reduceAdd, Nat.reduceSub, Nat.reduceMul, Nat.reduceLT, Nat.reduceLeDiff, reduceCtorEq, Nat.reduceBEq, forall_const, implies_true, exists_const, ne_eq, Int.reduceAdd, Int.reduceSub, Int.reduceMul, Int.reduceBEq, Int.reduceEq, Int.reduceLT, Int.reduceLE, Int.reduceToNat, Int.reduceNeg, Int.reduceBNe, s1, s2, s3, g3, b3, s6, g6, b6, s7, g7, b7, g42, b42, s8, encHa, hts, ea, encCl]
    · have ea : Ad.addTo who d h.cl[i] = h.cl[i] := by unfold Ad.addTo; rw [if_neg he]
      simp -implicitDefEqProofs only [↓aP, aQ, ↓reduceIte, Nat.reduceEqDiff, Nat.reduceAdd, Nat.reduceSub, Nat.reduceMul, Nat.reduceLT, Nat.reduceLeDiff, reduceCtorEq, Nat.reduceBEq, forall_const, implies_true, exists_const, ne_eq, Int.reduceAdd, Int.reduceSub, Int.reduceMul, Int.reduceBEq, Int.reduceEq, Int.reduceLT, Int.reduceLE, Int.reduceToNat, Int.reduceNeg, Int.reduceBNe, hlt, s1, s2, s3, g3, b3, s6, g6, b6, s7, g7, b7, g42, b42, s8, encHa, askIdx_map, hi, encCl, List.length_map, List.length_take, show (h.cl[i].who == who) = false by simpa using he, wrapS (show i < 4611686018427387904 by omega)]
      refine ⟨by omega, by omega, ?_⟩
      refine nextR hi him ⟨g + 1, ?_⟩
      simp -implicitDefEqProofs only [↓aP, aQ, ↓reduceIte, Nat.reduceEqDiff, Nat.reduceAdd, Nat.reduceSub, Nat.reduceMul, Nat.reduceLT, Nat.reduceLeDiff, reduceCtorEq, Nat.reduceBEq, forall_const, implies_true, exists_const, ne_eq, Int.reduceAdd, Int.reduceSub, Int.reduceMul, Int.reduceBEq, Int.reduceEq, Int.reduceLT, Int.reduceLE, Int.reduceToNat, Int.reduceNeg, Int.reduceBNe, s1, s2, s3, g3, b3, s6, g6, b6, s7, g7, b7, g42, b42, s8, encHa, hts, ea, encCl]
  · rintro m σ hlt ⟨g, s1, s2, s3, g3, b3, s6, g6, b6, s7, g7, b7, g42, b42, s8⟩
    rw [List.take_length] at b42
    simp -implicitDefEqProofs only [↓aP, aQ, ↓reduceIte, Nat.reduceEqDiff, Nat.reduceAdd, Nat.reduceSub, Nat.reduceMul, Nat.reduceLT, Nat.reduceLeDiff, reduceCtorEq, Nat.reduceBEq, forall_const, implies_true, exists_const, ne_eq, Int.reduceAdd, Int.reduceSub, Int.reduceMul, Int.reduceBEq, Int.reduceEq, Int.reduceLT, Int.reduceLE, Int.reduceToNat, Int.reduceNeg, Int.reduceBNe, hlt, s1, s2, s3, g3, b3, s6, g6, b6, s7, g7, b7, g42, b42, s8, encHa, List.length_map]
theorem rBegin_spec (h : Ha) (who claim : Int) (hl : h.cl.length + h.q.length ≤ 1000000) : Spec Try.prog 18 [.agg (encHa h), rI who, rI claim] (.val (encEd ((Ad.beginM h who claim).1, if (Ad.beginM h who claim).2.2 = 0 then Ad.came ⟨h.fr, h.bu, h.cl, h.q ++ [⟨who, claim⟩]⟩ else [], (Ad.beginM h who claim).2.2))) := by
  refine spec_val mixed fn18 (by simp) ?_
  unfold ac18
  simp -implicitDefEqProofs only [↓aP, aQ, ↓reduceIte, Nat.reduceEqDiff, Nat.reduceAdd, Nat.reduceSub, Nat.reduceMul, Nat.reduceLT, Nat.reduceLeDiff, reduceCtorEq, Nat.reduceBEq, forall_const, implies_true, exists_const, ne_eq, Int.reduceAdd, Int.reduceSub, Int.reduceMul, Int.reduceBEq, Int.reduceEq, Int.reduceLT, Int.reduceLE, Int.reduceToNat, Int.reduceNeg, Int.reduceBNe, encHa]
  refine ask (rRight_spec h hl) ?_
  cases hr : Ad.right h
  · simp -implicitDefEqProofs only [↓aP, aQ, ↓reduceIte, Nat.reduceEqDiff, Nat.reduceAdd, Nat.reduceSub, Nat.reduceMul, Nat.reduceLT, Nat.reduceLeDiff, reduceCtorEq, Nat.reduceBEq, forall_const, implies_true, exists_const, ne_eq, Int.reduceAdd, Int.reduceSub, Int.reduceMul, Int.reduceBEq, Int.reduceEq, Int.reduceLT, Int.reduceLE, Int.reduceToNat, Int.reduceNeg, Int.reduceBNe, encEd, Ad.beginM, hr, true_or, if_true, encHa, show ¬ ((1 : Int) = 0) by decide, if_false, List.map_nil]
  have e1 : Ad.okWho who = false → Ad.beginM h who claim = (h, false, 1) := fun hw => by unfold Ad.beginM; rw [if_pos (.inr hw)]
  by_cases y1 : who < 0
  · have e := e1 (by unfold Ad.okWho; rw [decide_eq_false_iff_not]; omega)
    simp -implicitDefEqProofs only [↓aP, aQ, ↓reduceIte, Nat.reduceEqDiff, Nat.reduceAdd, Nat.reduceSub, Nat.reduceMul, Nat.reduceLT, Nat.reduceLeDiff, reduceCtorEq, Nat.reduceBEq, forall_const, implies_true, exists_const, ne_eq, Int.reduceAdd, Int.reduceSub, Int.reduceMul, Int.reduceBEq, Int.reduceEq, Int.reduceLT, Int.reduceLE, Int.reduceToNat, Int.reduceNeg, Int.reduceBNe, decide_eq_true y1, encEd, e, encHa, show ¬ ((1 : Int) = 0) by decide, if_false, List.map_nil]
  by_cases y2 : (2147483647 : Int) < who
  · have e := e1 (by unfold Ad.okWho; rw [decide_eq_false_iff_not]; omega)
    simp -implicitDefEqProofs only [↓aP, aQ, ↓reduceIte, Nat.reduceEqDiff, Nat.reduceAdd, Nat.reduceSub, Nat.reduceMul, Nat.reduceLT, Nat.reduceLeDiff, reduceCtorEq, Nat.reduceBEq, forall_const, implies_true, exists_const, ne_eq, Int.reduceAdd, Int.reduceSub, Int.reduceMul, Int.reduceBEq, Int.reduceEq, Int.reduceLT, Int.reduceLE, Int.reduceToNat, Int.reduceNeg, Int.reduceBNe, decide_eq_false y1, decide_eq_true y2, encEd, e, encHa, show ¬ ((1 : Int) = 0) by decide, if_false, List.map_nil]
  have hw : Ad.okWho who = true := by unfold Ad.okWho; rw [decide_eq_true_iff]; omega
  have g0 : ¬ (Ad.right h = false ∨ Ad.okWho who = false) := by simp [hr, hw]
  have e2 : Ad.okClaim h.fr h.bu claim = false → Ad.beginM h who claim = (h, false, 11) := fun hc => by unfold Ad.beginM; rw [if_neg g0, if_pos hc]
  by_cases x1 : claim < 1
  · have e := e2 (by unfold Ad.okClaim; rw [decide_eq_false_iff_not]; omega)
    simp -implicitDefEqProofs only [↓aP, aQ, ↓reduceIte, Nat.reduceEqDiff, Nat.reduceAdd, Nat.reduceSub, Nat.reduceMul, Nat.reduceLT, Nat.reduceLeDiff, reduceCtorEq, Nat.reduceBEq, forall_const, implies_true, exists_const, ne_eq, Int.reduceAdd, Int.reduceSub, Int.reduceMul, Int.reduceBEq, Int.reduceEq, Int.reduceLT, Int.reduceLE, Int.reduceToNat, Int.reduceNeg, Int.reduceBNe, decide_eq_false y1, decide_eq_false y2, decide_eq_true x1, encEd, e, encHa, show ¬ ((11 : Int) = 0) by decide, if_false, List.map_nil]
  simp -implicitDefEqProofs only [↓aP, aQ, ↓reduceIte, Nat.reduceEqDiff, Nat.reduceAdd, Nat.reduceSub, Nat.reduceMul, Nat.reduceLT, Nat.reduceLeDiff, reduceCtorEq, Nat.reduceBEq, forall_const, implies_true, exists_const, ne_eq, Int.reduceAdd, Int.reduceSub, Int.reduceMul, Int.reduceBEq, Int.reduceEq, Int.reduceLT, Int.reduceLE, Int.reduceToNat, Int.reduceNeg, Int.reduceBNe, decide_eq_false y1, decide_eq_false y2, decide_eq_false x1, encHa]
  refine ask (least_spec h) ?_
  by_cases x2 : min h.fr h.bu < claim
  · have e := e2 (by unfold Ad.okClaim; rw [decide_eq_false_iff_not]; omega)
    simp -implicitDefEqProofs only [↓aP, aQ, ↓reduceIte, Nat.reduceEqDiff, Nat.reduceAdd, Nat.reduceSub, Nat.reduceMul, Nat.reduceLT, Nat.reduceLeDiff, reduceCtorEq, Nat.reduceBEq, forall_const, implies_true, exists_const, ne_eq, Int.reduceAdd, Int.reduceSub, Int.reduceMul, Int.reduceBEq, Int.reduceEq, Int.reduceLT, Int.reduceLE, Int.reduceToNat, Int.reduceNeg, Int.reduceBNe, decide_eq_true x2, encEd, e, encHa, show ¬ ((11 : Int) = 0) by decide, if_false, List.map_nil]
  have hc : Ad.okClaim h.fr h.bu claim = true := by unfold Ad.okClaim; rw [decide_eq_true_iff]; omega
  have g1 : ¬ (Ad.okClaim h.fr h.bu claim = false) := by simp [hc]
  simp -implicitDefEqProofs only [↓aP, aQ, ↓reduceIte, Nat.reduceEqDiff, Nat.reduceAdd, Nat.reduceSub, Nat.reduceMul, Nat.reduceLT, Nat.reduceLeDiff, reduceCtorEq, Nat.reduceBEq, forall_const, implies_true, exists_const, ne_eq, Int.reduceAdd, Int.reduceSub, Int.reduceMul, Int.reduceBEq, Int.reduceEq, Int.reduceLT, Int.reduceLE, Int.reduceToNat, Int.reduceNeg, Int.reduceBNe, decide_eq_false x2, encHa]
  refine ask (in_spec h who hl) ?_
  by_cases h2 : who ∈ Ad.whos h
  · have e : Ad.beginM h who claim = (h, false, 4) := by unfold Ad.beginM; rw [if_neg g0, if_neg g1, if_pos h2]
    have hp : 0 < Ad.inN h who := List.count_pos_iff.2 h2
    simp -implicitDefEqProofs only [↓aP, aQ, ↓reduceIte, Nat.reduceEqDiff, Nat.reduceAdd, Nat.reduceSub, Nat.reduceMul, Nat.reduceLT, Nat.reduceLeDiff, reduceCtorEq, Nat.reduceBEq, forall_const, implies_true, exists_const, ne_eq, Int.reduceAdd, Int.reduceSub, Int.reduceMul, Int.reduceBEq, Int.reduceEq, Int.reduceLT, Int.reduceLE, Int.reduceToNat, Int.reduceNeg, Int.reduceBNe, show decide ((0 : Int) < ((Ad.inN h who : Nat) : Int)) = true by simp; omega, encEd, e, encHa, show ¬ ((4 : Int) = 0) by decide, if_false, List.map_nil]
  have hp : Ad.inN h who = 0 := List.count_eq_zero_of_not_mem h2
  have w : IntKind.i64.wrap ((h.cl.length : Int) + (h.q.length : Int)) = ((h.cl.length + h.q.length : Nat) : Int) := by rw [wrapI (by omega)]; omega
  simp -implicitDefEqProofs only [↓aP, aQ, ↓reduceIte, Nat.reduceEqDiff, Nat.reduceAdd, Nat.reduceSub, Nat.reduceMul, Nat.reduceLT, Nat.reduceLeDiff, reduceCtorEq, Nat.reduceBEq, forall_const, implies_true, exists_const, ne_eq, Int.reduceAdd, Int.reduceSub, Int.reduceMul, Int.reduceBEq, Int.reduceEq, Int.reduceLT, Int.reduceLE, Int.reduceToNat, Int.reduceNeg, Int.reduceBNe, hp, encHa, List.length_map, w]
  by_cases h3 : h.cl.length + h.q.length = 40
  · have e : Ad.beginM h who claim = (h, false, 7) := by unfold Ad.beginM; rw [if_neg g0, if_neg g1, if_neg h2, if_pos h3]
    simp -implicitDefEqProofs only [↓aP, aQ, ↓reduceIte, Nat.reduceEqDiff, Nat.reduceAdd, Nat.reduceSub, Nat.reduceMul, Nat.reduceLT, Nat.reduceLeDiff, reduceCtorEq, Nat.reduceBEq, forall_const, implies_true, exists_const, ne_eq, Int.reduceAdd, Int.reduceSub, Int.reduceMul, Int.reduceBEq, Int.reduceEq, Int.reduceLT, Int.reduceLE, Int.reduceToNat, Int.reduceNeg, Int.reduceBNe, show (((h.cl.length + h.q.length : Nat) : Int) == 40) = true by simp; omega, encEd, e, encHa, show ¬ ((7 : Int) = 0) by decide, if_false, List.map_nil]
  have hpre := Ad.pre_begin (claim := claim) hr hw hc h2 h3
  obtain ⟨h40, h8⟩ := right_len hr
  simp -implicitDefEqProofs only [↓aP, aQ, ↓reduceIte, Nat.reduceEqDiff, Nat.reduceAdd, Nat.reduceSub, Nat.reduceMul, Nat.reduceLT, Nat.reduceLeDiff, reduceCtorEq, Nat.reduceBEq, forall_const, implies_true, exists_const, ne_eq, Int.reduceAdd, Int.reduceSub, Int.reduceMul, Int.reduceBEq, Int.reduceEq, Int.reduceLT, Int.reduceLE, Int.reduceToNat, Int.reduceNeg, Int.reduceBNe, show (((h.cl.length + h.q.length : Nat) : Int) == 40) = false by rw [beq_eq_false_iff_ne]; omega, encHa, List.length_map]
  refine ⟨by omega, by omega, by omega, by omega, ?_⟩
  have he := let_spec _ hpre
  simp only [encHa_eq, List.map_append, List.map_cons, List.map_nil, encTk] at he
  refine ask he ?_
  have eB : (Ad.beginM h who claim).1 = Ad.entH ⟨h.fr, h.bu, h.cl, h.q ++ [⟨who, claim⟩]⟩ ∧ (Ad.beginM h who claim).2.2 = 0 := by
    unfold Ad.beginM
    rw [if_neg g0, if_neg g1, if_neg h2, if_neg h3]
    exact ⟨rfl, rfl⟩
  simp -implicitDefEqProofs only [↓aP, aQ, ↓reduceIte, Nat.reduceEqDiff, Nat.reduceAdd, Nat.reduceSub, Nat.reduceMul, Nat.reduceLT, Nat.reduceLeDiff, reduceCtorEq, Nat.reduceBEq, forall_const, implies_true, exists_const, ne_eq, Int.reduceAdd, Int.reduceSub, Int.reduceMul, Int.reduceBEq, Int.reduceEq, Int.reduceLT, Int.reduceLE, Int.reduceToNat, Int.reduceNeg, Int.reduceBNe, encEn, encHa]
  simp -implicitDefEqProofs only [↓aP, aQ, ↓reduceIte, Nat.reduceEqDiff, Nat.reduceAdd, Nat.reduceSub, Nat.reduceMul, Nat.reduceLT, Nat.reduceLeDiff, reduceCtorEq, Nat.reduceBEq, forall_const, implies_true, exists_const, ne_eq, Int.reduceAdd, Int.reduceSub, Int.reduceMul, Int.reduceBEq, Int.reduceEq, Int.reduceLT, Int.reduceLE, Int.reduceToNat, Int.reduceNeg, Int.reduceBNe, encEd, eB.1, eB.2, if_true, encHa]
  first | done | decide +kernel
theorem rPin_spec (h : Ha) (who : Int) (hl : h.cl.length + h.q.length ≤ 1000000) : Spec Try.prog 28 [.agg (encHa h), rI who] (.val (encPn (Ad.pinM h who))) := by
  refine spec_val mixed fn28 (by simp) ?_
  unfold ac28
  simp -implicitDefEqProofs only [↓aP, aQ, ↓reduceIte, Nat.reduceEqDiff, Nat.reduceAdd, Nat.reduceSub, Nat.reduceMul, Nat.reduceLT, Nat.reduceLeDiff, reduceCtorEq, Nat.reduceBEq, forall_const, implies_true, exists_const, ne_eq, Int.reduceAdd, Int.reduceSub, Int.reduceMul, Int.reduceBEq, Int.reduceEq, Int.reduceLT, Int.reduceLE, Int.reduceToNat, Int.reduceNeg, Int.reduceBNe, encHa]
  refine ask (rRight_spec h hl) ?_
  cases hr : Ad.right h
  · simp -implicitDefEqProofs only [↓aP, aQ, ↓reduceIte, Nat.reduceEqDiff, Nat.reduceAdd, Nat.reduceSub, Nat.reduceMul, Nat.reduceLT, Nat.reduceLeDiff, reduceCtorEq, Nat.reduceBEq, forall_const, implies_true, exists_const, ne_eq, Int.reduceAdd, Int.reduceSub, Int.reduceMul, Int.reduceBEq, Int.reduceEq, Int.reduceLT, Int.reduceLE, Int.reduceToNat, Int.reduceNeg, Int.reduceBNe, encPn, Ad.pinM, hr, if_true, encHa]
  obtain ⟨h40, h8⟩ := right_len hr
  have g0 : ¬ (Ad.right h = false) := by simp [hr]
  simp -implicitDefEqProofs only [↓aP, aQ, ↓reduceIte, Nat.reduceEqDiff, Nat.reduceAdd, Nat.reduceSub, Nat.reduceMul, Nat.reduceLT, Nat.reduceLeDiff, reduceCtorEq, Nat.reduceBEq, forall_const, implies_true, exists_const, ne_eq, Int.reduceAdd, Int.reduceSub, Int.reduceMul, Int.reduceBEq, Int.reduceEq, Int.reduceLT, Int.reduceLE, Int.reduceToNat, Int.reduceNeg, Int.reduceBNe, encHa]
  refine ask (rClient_spec h who hl) ?_
  by_cases h1 : Ad.cAt h who < h.cl.length
  case neg =>
    have ec : clM h who = (⟨0, 0, 0⟩, false) := by unfold clM; rw [if_neg h1]
    simp -implicitDefEqProofs only [↓aP, aQ, ↓reduceIte, Nat.reduceEqDiff, Nat.reduceAdd, Nat.reduceSub, Nat.reduceMul, Nat.reduceLT, Nat.reduceLeDiff, reduceCtorEq, Nat.reduceBEq, forall_const, implies_true, exists_const, ne_eq, Int.reduceAdd, Int.reduceSub, Int.reduceMul, Int.reduceBEq, Int.reduceEq, Int.reduceLT, Int.reduceLE, Int.reduceToNat, Int.reduceNeg, Int.reduceBNe, ec, encCl, encPn, Ad.pinM, g0, if_false, show h.cl.length ≤ Ad.cAt h who by omega, if_true, encHa]
  have g1 : ¬ (h.cl.length ≤ Ad.cAt h who) := by omega
  have hp := (Ad.right_pre.1 hr).1
  have hgood := Bk.good_of_right hp.2.1
  have hg := hgood.1 _ (List.getElem_mem h1)
  have ec : clM h who = (h.cl[Ad.cAt h who], true) := by unfold clM; rw [if_pos h1, Ad.getD_at h1]
  simp -implicitDefEqProofs only [↓aP, aQ, ↓reduceIte, Nat.reduceEqDiff, Nat.reduceAdd, Nat.reduceSub, Nat.reduceMul, Nat.reduceLT, Nat.reduceLeDiff, reduceCtorEq, Nat.reduceBEq, forall_const, implies_true, exists_const, ne_eq, Int.reduceAdd, Int.reduceSub, Int.reduceMul, Int.reduceBEq, Int.reduceEq, Int.reduceLT, Int.reduceLE, Int.reduceToNat, Int.reduceNeg, Int.reduceBNe, ec, encCl, encHa]
  by_cases h2 : h.cl[Ad.cAt h who].held = h.cl[Ad.cAt h who].claim
  · simp -implicitDefEqProofs only [↓aP, aQ, ↓reduceIte, Nat.reduceEqDiff, Nat.reduceAdd, Nat.reduceSub, Nat.reduceMul, Nat.reduceLT, Nat.reduceLeDiff, reduceCtorEq, Nat.reduceBEq, forall_const, implies_true, exists_const, ne_eq, Int.reduceAdd, Int.reduceSub, Int.reduceMul, Int.reduceBEq, Int.reduceEq, Int.reduceLT, Int.reduceLE, Int.reduceToNat, Int.reduceNeg, Int.reduceBNe, show (h.cl[Ad.cAt h who].held == h.cl[Ad.cAt h who].claim) = true by simpa using h2, encPn, Ad.pinM, g0, g1, if_false, Ad.getD_at h1, h2, if_true, encHa]
  have g2 : ¬ ((h.cl.getD (Ad.cAt h who) default).held = (h.cl.getD (Ad.cAt h who) default).claim) := by rw [Ad.getD_at h1]; exact h2
  simp -implicitDefEqProofs only [↓aP, aQ, ↓reduceIte, Nat.reduceEqDiff, Nat.reduceAdd, Nat.reduceSub, Nat.reduceMul, Nat.reduceLT, Nat.reduceLeDiff, reduceCtorEq, Nat.reduceBEq, forall_const, implies_true, exists_const, ne_eq, Int.reduceAdd, Int.reduceSub, Int.reduceMul, Int.reduceBEq, Int.reduceEq, Int.reduceLT, Int.reduceLE, Int.reduceToNat, Int.reduceNeg, Int.reduceBNe, show (h.cl[Ad.cAt h who].held == h.cl[Ad.cAt h who].claim) = false by simpa using h2, encHa]
  refine ask (more_spec h who 1 (by omega) (fun c hc => by have := hgood.1 c hc; omega)) ?_
  have hnd : (h.cl.map Cl.who).Nodup := (List.nodup_append.1 hp.2.2.2.2.2.1).1
  have hh : (⟨h.fr, h.bu, h.cl.map (Ad.addTo who 1), h.q⟩ : Ha) = Ad.holdM h (Ad.cAt h who) 1 := by
    unfold Ad.holdM
    rw [Ad.add_set hnd h1]; rfl
  rw [hh]
  have hlen : (Ad.holdM h (Ad.cAt h who) 1).cl.length = h.cl.length := by simp [Ad.holdM]
  have hfine : FineH (Ad.holdM h (Ad.cAt h who) 1) := by
    have hf := fine_pre hp
    refine ⟨hf.1, hf.2.1, by rw [hlen]; exact hf.2.2.1, fun c hc => ?_, hf.2.2.2.2⟩
    rcases List.mem_or_eq_of_mem_set hc with hc | hc
    · exact hf.2.2.2.1 c hc
    · rw [hc, Ad.getD_at h1]; simp only; omega
  have hbr : Bk.right (Ad.holdM h (Ad.cAt h who) 1).cl = true := by
    refine Ad.bkright_set hp.2.1 h1 (by rw [Ad.getD_at h1]) ?_
    have h0g := ((Bk.right_iff _).1 hp.2.1).2.1 _ (List.getElem_mem h1)
    unfold Bk.good at h0g ⊢
    rw [decide_eq_true_iff] at h0g ⊢
    rw [Ad.getD_at h1]
    simp only
    omega
  simp -implicitDefEqProofs only [↓aP, aQ, ↓reduceIte, Nat.reduceEqDiff, Nat.reduceAdd, Nat.reduceSub, Nat.reduceMul, Nat.reduceLT, Nat.reduceLeDiff, reduceCtorEq, Nat.reduceBEq, forall_const, implies_true, exists_const, ne_eq, Int.reduceAdd, Int.reduceSub, Int.reduceMul, Int.reduceBEq, Int.reduceEq, Int.reduceLT, Int.reduceLE, Int.reduceToNat, Int.reduceNeg, Int.reduceBNe, encHa]
  refine ask (by have := rSafe_spec _ hfine hbr; rw [encHa_eq] at this; exact this) ?_
  cases hs : Bk.safe ((Ad.holdM h (Ad.cAt h who) 1).fr - Ad.heldS (Ad.holdM h (Ad.cAt h who) 1).cl) (Ad.holdM h (Ad.cAt h who) 1).cl
  · simp -implicitDefEqProofs only [↓aP, aQ, ↓reduceIte, Nat.reduceEqDiff, Nat.reduceAdd, Nat.reduceSub, Nat.reduceMul, Nat.reduceLT, Nat.reduceLeDiff, reduceCtorEq, Nat.reduceBEq, forall_const, implies_true, exists_const, ne_eq, Int.reduceAdd, Int.reduceSub, Int.reduceMul, Int.reduceBEq, Int.reduceEq, Int.reduceLT, Int.reduceLE, Int.reduceToNat, Int.reduceNeg, Int.reduceBNe, encPn, Ad.pinM, g0, g1, g2, if_false, hs, if_true, encHa]
  · simp -implicitDefEqProofs only [↓aP, aQ, ↓reduceIte, Nat.reduceEqDiff, Nat.reduceAdd, Nat.reduceSub, Nat.reduceMul, Nat.reduceLT, Nat.reduceLeDiff, reduceCtorEq, Nat.reduceBEq, forall_const, implies_true, exists_const, ne_eq, Int.reduceAdd, Int.reduceSub, Int.reduceMul, Int.reduceBEq, Int.reduceEq, Int.reduceLT, Int.reduceLE, Int.reduceToNat, Int.reduceNeg, Int.reduceBNe, encPn, Ad.pinM, g0, g1, g2, if_false, hs, Bool.true_eq_false, encHa]
theorem rUnpin_spec (h : Ha) (who : Int) (hl : h.cl.length + h.q.length ≤ 1000000) : Spec Try.prog 30 [.agg (encHa h), rI who] (.val (encPn (Ad.unpinM h who))) := by
  refine spec_val mixed fn30 (by simp) ?_
  unfold ac30
  simp -implicitDefEqProofs only [↓aP, aQ, ↓reduceIte, Nat.reduceEqDiff, Nat.reduceAdd, Nat.reduceSub, Nat.reduceMul, Nat.reduceLT, Nat.reduceLeDiff, reduceCtorEq, Nat.reduceBEq, forall_const, implies_true, exists_const, ne_eq, Int.reduceAdd, Int.reduceSub, Int.reduceMul, Int.reduceBEq, Int.reduceEq, Int.reduceLT, Int.reduceLE, Int.reduceToNat, Int.reduceNeg, Int.reduceBNe, encHa]
  refine ask (rRight_spec h hl) ?_
  cases hr : Ad.right h
  · simp -implicitDefEqProofs only [↓aP, aQ, ↓reduceIte, Nat.reduceEqDiff, Nat.reduceAdd, Nat.reduceSub, Nat.reduceMul, Nat.reduceLT, Nat.reduceLeDiff, reduceCtorEq, Nat.reduceBEq, forall_const, implies_true, exists_const, ne_eq, Int.reduceAdd, Int.reduceSub, Int.reduceMul, Int.reduceBEq, Int.reduceEq, Int.reduceLT, Int.reduceLE, Int.reduceToNat, Int.reduceNeg, Int.reduceBNe, encPn, Ad.unpinM, hr, if_true, encHa]
  obtain ⟨h40, h8⟩ := right_len hr
  have g0 : ¬ (Ad.right h = false) := by simp [hr]
  simp -implicitDefEqProofs only [↓aP, aQ, ↓reduceIte, Nat.reduceEqDiff, Nat.reduceAdd, Nat.reduceSub, Nat.reduceMul, Nat.reduceLT, Nat.reduceLeDiff, reduceCtorEq, Nat.reduceBEq, forall_const, implies_true, exists_const, ne_eq, Int.reduceAdd, Int.reduceSub, Int.reduceMul, Int.reduceBEq, Int.reduceEq, Int.reduceLT, Int.reduceLE, Int.reduceToNat, Int.reduceNeg, Int.reduceBNe, encHa]
  refine ask (rClient_spec h who hl) ?_
  by_cases h1 : Ad.cAt h who < h.cl.length
  case neg =>
    have ec : clM h who = (⟨0, 0, 0⟩, false) := by unfold clM; rw [if_neg h1]
    simp -implicitDefEqProofs only [↓aP, aQ, ↓reduceIte, Nat.reduceEqDiff, Nat.reduceAdd, Nat.reduceSub, Nat.reduceMul, Nat.reduceLT, Nat.reduceLeDiff, reduceCtorEq, Nat.reduceBEq, forall_const, implies_true, exists_const, ne_eq, Int.reduceAdd, Int.reduceSub, Int.reduceMul, Int.reduceBEq, Int.reduceEq, Int.reduceLT, Int.reduceLE, Int.reduceToNat, Int.reduceNeg, Int.reduceBNe, ec, encCl, encPn, Ad.unpinM, g0, if_false, show h.cl.length ≤ Ad.cAt h who by omega, if_true, encHa]
  have g1 : ¬ (h.cl.length ≤ Ad.cAt h who) := by omega
  have hp := (Ad.right_pre.1 hr).1
  have hgood := Bk.good_of_right hp.2.1
  have ec : clM h who = (h.cl[Ad.cAt h who], true) := by unfold clM; rw [if_pos h1, Ad.getD_at h1]
  simp -implicitDefEqProofs only [↓aP, aQ, ↓reduceIte, Nat.reduceEqDiff, Nat.reduceAdd, Nat.reduceSub, Nat.reduceMul, Nat.reduceLT, Nat.reduceLeDiff, reduceCtorEq, Nat.reduceBEq, forall_const, implies_true, exists_const, ne_eq, Int.reduceAdd, Int.reduceSub, Int.reduceMul, Int.reduceBEq, Int.reduceEq, Int.reduceLT, Int.reduceLE, Int.reduceToNat, Int.reduceNeg, Int.reduceBNe, ec, encCl, encHa]
  by_cases h2 : h.cl[Ad.cAt h who].held = 0
  · simp -implicitDefEqProofs only [↓aP, aQ, ↓reduceIte, Nat.reduceEqDiff, Nat.reduceAdd, Nat.reduceSub, Nat.reduceMul, Nat.reduceLT, Nat.reduceLeDiff, reduceCtorEq, Nat.reduceBEq, forall_const, implies_true, exists_const, ne_eq, Int.reduceAdd, Int.reduceSub, Int.reduceMul, Int.reduceBEq, Int.reduceEq, Int.reduceLT, Int.reduceLE, Int.reduceToNat, Int.reduceNeg, Int.reduceBNe, show (h.cl[Ad.cAt h who].held == 0) = true by simpa using h2, encPn, Ad.unpinM, g0, g1, if_false, Ad.getD_at h1, h2, if_true, encHa]
  have g2 : ¬ ((h.cl.getD (Ad.cAt h who) default).held = 0) := by rw [Ad.getD_at h1]; exact h2
  simp -implicitDefEqProofs only [↓aP, aQ, ↓reduceIte, Nat.reduceEqDiff, Nat.reduceAdd, Nat.reduceSub, Nat.reduceMul, Nat.reduceLT, Nat.reduceLeDiff, reduceCtorEq, Nat.reduceBEq, forall_const, implies_true, exists_const, ne_eq, Int.reduceAdd, Int.reduceSub, Int.reduceMul, Int.reduceBEq, Int.reduceEq, Int.reduceLT, Int.reduceLE, Int.reduceToNat, Int.reduceNeg, Int.reduceBNe, show (h.cl[Ad.cAt h who].held == 0) = false by simpa using h2, encHa]
  refine ask (more_spec h who (-1) (by omega) (fun c hc => by have := hgood.1 c hc; omega)) ?_
  have hnd : (h.cl.map Cl.who).Nodup := (List.nodup_append.1 hp.2.2.2.2.2.1).1
  have hh : (⟨h.fr, h.bu, h.cl.map (Ad.addTo who (-1)), h.q⟩ : Ha) = Ad.holdM h (Ad.cAt h who) (-1) := by
    unfold Ad.holdM
    rw [Ad.add_set hnd h1]; rfl
  rw [hh]
  simp -implicitDefEqProofs only [↓aP, aQ, ↓reduceIte, Nat.reduceEqDiff, Nat.reduceAdd, Nat.reduceSub, Nat.reduceMul, Nat.reduceLT, Nat.reduceLeDiff, reduceCtorEq, Nat.reduceBEq, forall_const, implies_true, exists_const, ne_eq, Int.reduceAdd, Int.reduceSub, Int.reduceMul, Int.reduceBEq, Int.reduceEq, Int.reduceLT, Int.reduceLE, Int.reduceToNat, Int.reduceNeg, Int.reduceBNe, encPn, Ad.unpinM, g0, g1, g2, if_false, encHa]


theorem rEnd_spec (h : Ha) (who : Int) (hl : h.cl.length + h.q.length ≤ 1000000) : Spec Try.prog 20 [.agg (encHa h), rI who] (.val (encEd (Ad.endM h who))) := by
  refine spec_val mixed fn20 (by simp) ?_
  unfold ac20
  simp -implicitDefEqProofs only [↓aP, aQ, ↓reduceIte, Nat.reduceEqDiff, Nat.reduceAdd, Nat.reduceSub, Nat.reduceMul, Nat.reduceLT, Nat.reduceLeDiff, reduceCtorEq, Nat.reduceBEq, forall_const, implies_true, exists_const, ne_eq, Int.reduceAdd, Int.reduceSub, Int.reduceMul, Int.reduceBEq, Int.reduceEq, Int.reduceLT, Int.reduceLE, Int.reduceToNat, Int.reduceNeg, Int.reduceBNe, encHa]
  refine ask (rRight_spec h hl) ?_
  cases hr : Ad.right h
  · simp -implicitDefEqProofs only [↓aP, aQ, ↓reduceIte, Nat.reduceEqDiff, Nat.reduceAdd, Nat.reduceSub, Nat.reduceMul, Nat.reduceLT, Nat.reduceLeDiff, reduceCtorEq, Nat.reduceBEq, forall_const, implies_true, exists_const, ne_eq, Int.reduceAdd, Int.reduceSub, Int.reduceMul, Int.reduceBEq, Int.reduceEq, Int.reduceLT, Int.reduceLE, Int.reduceToNat, Int.reduceNeg, Int.reduceBNe, encEd, Ad.endM, hr, if_true, encHa, List.map_nil]
  obtain ⟨h40, h8⟩ := right_len hr
  have g0 : ¬ (Ad.right h = false) := by simp [hr]
  have hp := (Ad.right_pre.1 hr).1
  have hnd := hp.2.2.2.2.2.1
  simp -implicitDefEqProofs only [↓aP, aQ, ↓reduceIte, Nat.reduceEqDiff, Nat.reduceAdd, Nat.reduceSub, Nat.reduceMul, Nat.reduceLT, Nat.reduceLeDiff, reduceCtorEq, Nat.reduceBEq, forall_const, implies_true, exists_const, ne_eq, Int.reduceAdd, Int.reduceSub, Int.reduceMul, Int.reduceBEq, Int.reduceEq, Int.reduceLT, Int.reduceLE, Int.reduceToNat, Int.reduceNeg, Int.reduceBNe, encHa]
  refine ask (in_spec h who hl) ?_
  by_cases h2 : who ∈ Ad.whos h
  case neg =>
    have hi0 : Ad.inN h who = 0 := List.count_eq_zero_of_not_mem h2
    have h1 : ¬ Ad.cAt h who < h.cl.length := fun hx => h2 (List.mem_append_left _ (Ad.cAt_lt.1 hx))
    have h3 : ¬ Ad.tAt h who < h.q.length := fun hx => h2 (List.mem_append_right _ (Ad.tAt_lt.1 hx))
    simp -implicitDefEqProofs only [↓aP, aQ, ↓reduceIte, Nat.reduceEqDiff, Nat.reduceAdd, Nat.reduceSub, Nat.reduceMul, Nat.reduceLT, Nat.reduceLeDiff, reduceCtorEq, Nat.reduceBEq, forall_const, implies_true, exists_const, ne_eq, Int.reduceAdd, Int.reduceSub, Int.reduceMul, Int.reduceBEq, Int.reduceEq, Int.reduceLT, Int.reduceLE, Int.reduceToNat, Int.reduceNeg, Int.reduceBNe, hi0, encEd, Ad.endM, g0, h1, h3, if_false, encHa, List.map_nil]
  have hi0 : 0 < Ad.inN h who := List.count_pos_iff.2 h2
  have fc := Ad.filter_out (l := h.cl) (f := Cl.who) (x := who) (List.nodup_append.1 hnd).1
  have fq := Ad.filter_out (l := h.q) (f := Tk.who) (x := who) (List.nodup_append.1 hnd).2.1
  simp -implicitDefEqProofs only [↓aP, aQ, ↓reduceIte, Nat.reduceEqDiff, Nat.reduceAdd, Nat.reduceSub, Nat.reduceMul, Nat.reduceLT, Nat.reduceLeDiff, reduceCtorEq, Nat.reduceBEq, forall_const, implies_true, exists_const, ne_eq, Int.reduceAdd, Int.reduceSub, Int.reduceMul, Int.reduceBEq, Int.reduceEq, Int.reduceLT, Int.reduceLE, Int.reduceToNat, Int.reduceNeg, Int.reduceBNe, show (((Ad.inN h who : Nat) : Int) == 0) = false by rw [beq_eq_false_iff_ne]; omega, encHa]
  refine shift (sub_cell (p := 7) (i := 0) (j := 2) 49 100 3 rfl (by exact Nat.succ_pos _) (by rfl) (by decide) (by decide)) ?_
  refine shift (sub_cell (p := 7) (i := 0) (j := 3) 74 63 2 rfl (by exact Nat.succ_pos _) (by rfl) (by decide) (by decide)) ?_
  refine rangeB h.cl.length (fun i σ => ∃ g, σ.slot 1 = vI who ∧ σ.slot 2 = .c (.ptr 2 1 0 0) ∧ σ.h.gen 2 = 1 ∧ σ.h.blk 2 = .box 29 4 [(encHa h).map AC.s] ∧ σ.slot 4 = .c (.ptr 4 1 0 0) ∧ σ.h.gen 4 = 1 ∧ σ.h.blk 4 = .box 29 4 [[.s (.pv (.int .i64 0)), .s (.pv (.int .i64 0)), .zc, .zc]] ∧ σ.slot 7 = .c (.ptr 7 1 0 0) ∧ σ.h.gen 7 = 1 ∧ σ.h.blk 7 = .box 29 4 [[.s (.pv (.int .i64 h.fr)), .s (.pv (.int .i64 h.bu)), .own 49 g, .own 74 1]] ∧ σ.h.gen 49 = g ∧ σ.h.blk 49 = .row 100 3 (((h.cl.take i).filter fun c => c.who != who).map encCl) ∧ σ.h.gen 74 = 1 ∧ σ.h.blk 74 = .row 63 2 [] ∧ σ.slot 8 = vI i) ?_ ?_ ?_
  · simp -implicitDefEqProofs only [↓aP, aQ, ↓reduceIte, Nat.reduceEqDiff, Nat.reduceAdd, Nat.reduceSub, Nat.reduceMul, Nat.reduceLT, Nat.reduceLeDiff, reduceCtorEq, Nat.reduceBEq, forall_const, implies_true, exists_const, ne_eq, Int.reduceAdd, Int.reduceSub, Int.reduceMul, Int.reduceBEq, Int.reduceEq, Int.reduceLT, Int.reduceLE, Int.reduceToNat, Int.reduceNeg, Int.reduceBNe, encHa, List.take_zero, List.filter_nil, List.map_nil]
    exact ⟨_, rfl, rfl⟩
  · rintro i m σ him hi hlt ⟨g, s1, s2, g2, b2, s4, g4, b4, s7, g7, b7, g49, b49, g74, b74, s8⟩
    have hfl : ((h.cl.take i).filter fun c => c.who != who).length ≤ i := Nat.le_trans (List.length_filter_le _ _) (by rw [List.length_take]; omega)
    have hts : ((h.cl.take (i + 1)).filter fun c => c.who != who) = ((h.cl.take i).filter fun c => c.who != who) ++ (if h.cl[i].who != who then [h.cl[i]] else []) := by
      rw [take_snoc hi, List.filter_append]; congr 1; simp only [List.filter_cons, List.filter_nil]
    cases he : (h.cl[i].who != who)
    · rw [he] at hts
      simp only [Bool.false_eq_true, if_false, List.append_nil] at hts
      simp -implicitDefEqProofs only [↓aP, aQ, ↓reduceIte, Nat.reduceEqDiff, Nat.reduceAdd, Nat.reduceSub, Nat.reduceMul, Nat.reduceLT, Nat.reduceLeDiff, reduceCtorEq, Nat.reduceBEq, forall_const, implies_true, exists_const, ne_eq, Int.reduceAdd, Int.reduceSub, Int.reduceMul, Int.reduceBEq, Int.reduceEq, Int.reduceLT, Int.reduceLE, Int.reduceToNat, Int.reduceNeg, Int.reduceBNe, hlt, s1, s2, g2, b2, s4, g4, b4, s7, g7, b7, g49, b49, g74, b74, s8, encHa, askIdx_map, hi, encCl, List.length_map, he, wrapS (show i < 4611686018427387904 by omega)]
      refine nextR hi him ⟨g, ?_⟩
      simp -implicitDefEqProofs only [↓aP, aQ, ↓reduceIte, Nat.reduceEqDiff, Nat.reduceAdd, Nat.reduceSub, Nat.reduceMul, Nat.reduceLT, Nat.reduceLeDiff, reduceCtorEq, Nat.reduceBEq, forall_const, implies_true, exists_const, ne_eq, Int.reduceAdd, Int.reduceSub, Int.reduceMul, Int.reduceBEq, Int.reduceEq, Int.reduceLT, Int.reduceLE, Int.reduceToNat, Int.reduceNeg, Int.reduceBNe, s1, s2, g2, b2, s4, g4, b4, s7, g7, b7, g49, b49, g74, b74, s8, encHa, hts]
    · rw [he] at hts
      simp only [if_true] at hts
      simp -implicitDefEqProofs only [↓aP, aQ, ↓reduceIte, Nat.reduceEqDiff, Nat.reduceAdd, Nat.reduceSub, Nat.reduceMul, Nat.reduceLT, Nat.reduceLeDiff, reduceCtorEq, Nat.reduceBEq, forall_const, implies_true, exists_const, ne_eq, Int.reduceAdd, Int.reduceSub, Int.reduceMul, Int.reduceBEq, Int.reduceEq, Int.reduceLT, Int.reduceLE, Int.reduceToNat, Int.reduceNeg, Int.reduceBNe, hlt, s1, s2, g2, b2, s4, g4, b4, s7, g7, b7, g49, b49, g74, b74, s8, encHa, askIdx_map, hi, encCl, List.length_map, he, wrapS (show i < 4611686018427387904 by omega)]
      refine ⟨by omega, by omega, by decide +kernel, ?_⟩
      refine nextR hi him ⟨g + 1, ?_⟩
      simp -implicitDefEqProofs only [↓aP, aQ, ↓reduceIte, Nat.reduceEqDiff, Nat.reduceAdd, Nat.reduceSub, Nat.reduceMul, Nat.reduceLT, Nat.reduceLeDiff, reduceCtorEq, Nat.reduceBEq, forall_const, implies_true, exists_const, ne_eq, Int.reduceAdd, Int.reduceSub, Int.reduceMul, Int.reduceBEq, Int.reduceEq, Int.reduceLT, Int.reduceLE, Int.reduceToNat, Int.reduceNeg, Int.reduceBNe, s1, s2, g2, b2, s4, g4, b4, s7, g7, b7, g49, b49, g74, b74, s8, encHa, hts, List.map_append, List.map_cons, List.map_nil, encCl]
  · rintro m σ hlt ⟨g, s1, s2, g2, b2, s4, g4, b4, s7, g7, b7, g49, b49, g74, b74, s8⟩
    rw [List.take_length] at b49
    simp -implicitDefEqProofs only [↓aP, aQ, ↓reduceIte, Nat.reduceEqDiff, Nat.reduceAdd, Nat.reduceSub, Nat.reduceMul, Nat.reduceLT, Nat.reduceLeDiff, reduceCtorEq, Nat.reduceBEq, forall_const, implies_true, exists_const, ne_eq, Int.reduceAdd, Int.reduceSub, Int.reduceMul, Int.reduceBEq, Int.reduceEq, Int.reduceLT, Int.reduceLE, Int.reduceToNat, Int.reduceNeg, Int.reduceBNe, hlt, s1, s2, g2, b2, s4, g4, b4, s7, g7, b7, g49, b49, g74, b74, s8, encHa, List.length_map]
    refine rangeB h.q.length (fun i σ => ∃ g G, σ.slot 1 = vI who ∧ σ.slot 2 = .c (.ptr 2 1 0 0) ∧ σ.h.gen 2 = 1 ∧ σ.h.blk 2 = .box 29 4 [(encHa h).map AC.s] ∧ σ.slot 4 = .c (.ptr 4 1 0 0) ∧ σ.h.gen 4 = 1 ∧ σ.h.blk 4 = .box 29 4 [[.s (.pv (.int .i64 0)), .s (.pv (.int .i64 0)), .zc, .zc]] ∧ σ.slot 7 = .c (.ptr 7 1 0 0) ∧ σ.h.gen 7 = 1 ∧ σ.h.blk 7 = .box 29 4 [[.s (.pv (.int .i64 h.fr)), .s (.pv (.int .i64 h.bu)), .own 49 G, .own 74 g]] ∧ σ.h.gen 49 = G ∧ σ.h.blk 49 = .row 100 3 ((h.cl.filter fun c => c.who != who).map encCl) ∧ σ.h.gen 74 = g ∧ σ.h.blk 74 = .row 63 2 (((h.q.take i).filter fun c => c.who != who).map encTk) ∧ σ.slot 9 = vI i) ?_ ?_ ?_
    · simp -implicitDefEqProofs only [↓aP, aQ, ↓reduceIte, Nat.reduceEqDiff, Nat.reduceAdd, Nat.reduceSub, Nat.reduceMul, Nat.reduceLT, Nat.reduceLeDiff, reduceCtorEq, Nat.reduceBEq, forall_const, implies_true, exists_const, ne_eq, Int.reduceAdd, Int.reduceSub, Int.reduceMul, Int.reduceBEq, Int.reduceEq, Int.reduceLT, Int.reduceLE, Int.reduceToNat, Int.reduceNeg, Int.reduceBNe, s1, s2, g2, b2, s4, g4, b4, s7, g7, b7, g49, b49, g74, b74, s8, encHa, List.take_zero, List.filter_nil, List.map_nil]
      exact ⟨_, _, rfl, rfl, rfl⟩
    · clear hlt s1 s2 g2 b2 s4 g4 b4 s7 g7 b7 g49 b49 g74 b74 s8
      rintro i k σ him hi hlt ⟨g, G, s1, s2, g2, b2, s4, g4, b4, s7, g7, b7, g49, b49, g74, b74, s9⟩
      have hfl : ((h.q.take i).filter fun c => c.who != who).length ≤ i := Nat.le_trans (List.length_filter_le _ _) (by rw [List.length_take]; omega)
      have hts : ((h.q.take (i + 1)).filter fun c => c.who != who) = ((h.q.take i).filter fun c => c.who != who) ++ (if h.q[i].who != who then [h.q[i]] else []) := by
        rw [take_snoc hi, List.filter_append]; congr 1; simp only [List.filter_cons, List.filter_nil]
      cases he : (h.q[i].who != who)
      · rw [he] at hts
        simp only [Bool.false_eq_true, if_false, List.append_nil] at hts
        simp -implicitDefEqProofs only [↓aP, aQ, ↓reduceIte, Nat.reduceEqDiff, Nat.reduceAdd, Nat.reduceSub, Nat.reduceMul, Nat.reduceLT, Nat.reduceLeDiff, reduceCtorEq, Nat.reduceBEq, forall_const, implies_true, exists_const, ne_eq, Int.reduceAdd, Int.reduceSub, Int.reduceMul, Int.reduceBEq, Int.reduceEq, Int.reduceLT, Int.reduceLE, Int.reduceToNat, Int.reduceNeg, Int.reduceBNe, hlt, s1, s2, g2, b2, s4, g4, b4, s7, g7, b7, g49, b49, g74, b74, s9, encHa, askIdx_map, hi, encTk, List.length_map, he, wrapS (show i < 4611686018427387904 by omega)]
        refine nextR hi him ⟨g, G, ?_⟩
        simp -implicitDefEqProofs only [↓aP, aQ, ↓reduceIte, Nat.reduceEqDiff, Nat.reduceAdd, Nat.reduceSub, Nat.reduceMul, Nat.reduceLT, Nat.reduceLeDiff, reduceCtorEq, Nat.reduceBEq, forall_const, implies_true, exists_const, ne_eq, Int.reduceAdd, Int.reduceSub, Int.reduceMul, Int.reduceBEq, Int.reduceEq, Int.reduceLT, Int.reduceLE, Int.reduceToNat, Int.reduceNeg, Int.reduceBNe, s1, s2, g2, b2, s4, g4, b4, s7, g7, b7, g49, b49, g74, b74, s9, encHa, hts]
      · rw [he] at hts
        simp only [if_true] at hts
        simp -implicitDefEqProofs only [↓aP, aQ, ↓reduceIte, Nat.reduceEqDiff, Nat.reduceAdd, Nat.reduceSub, Nat.reduceMul, Nat.reduceLT, Nat.reduceLeDiff, reduceCtorEq, Nat.reduceBEq, forall_const, implies_true, exists_const, ne_eq, Int.reduceAdd, Int.reduceSub, Int.reduceMul, Int.reduceBEq, Int.reduceEq, Int.reduceLT, Int.reduceLE, Int.reduceToNat, Int.reduceNeg, Int.reduceBNe, hlt, s1, s2, g2, b2, s4, g4, b4, s7, g7, b7, g49, b49, g74, b74, s9, encHa, askIdx_map, hi, encTk, List.length_map, he, wrapS (show i < 4611686018427387904 by omega)]
        refine ⟨by omega, by omega, by decide +kernel, ?_⟩
        refine nextR hi him ⟨g + 1, G, ?_⟩
        simp -implicitDefEqProofs only [↓aP, aQ, ↓reduceIte, Nat.reduceEqDiff, Nat.reduceAdd, Nat.reduceSub, Nat.reduceMul, Nat.reduceLT, Nat.reduceLeDiff, reduceCtorEq, Nat.reduceBEq, forall_const, implies_true, exists_const, ne_eq, Int.reduceAdd, Int.reduceSub, Int.reduceMul, Int.reduceBEq, Int.reduceEq, Int.reduceLT, Int.reduceLE, Int.reduceToNat, Int.reduceNeg, Int.reduceBNe, s1, s2, g2, b2, s4, g4, b4, s7, g7, b7, g49, b49, g74, b74, s9, encHa, hts, List.map_append, List.map_cons, List.map_nil, encTk]
    · clear hlt s1 s2 g2 b2 s4 g4 b4 s7 g7 b7 g49 b49 g74 b74 s8
      rintro k σ hlt ⟨g, G, s1, s2, g2, b2, s4, g4, b4, s7, g7, b7, g49, b49, g74, b74, s9⟩
      rw [List.take_length] at b74
      simp -implicitDefEqProofs only [↓aP, aQ, ↓reduceIte, Nat.reduceEqDiff, Nat.reduceAdd, Nat.reduceSub, Nat.reduceMul, Nat.reduceLT, Nat.reduceLeDiff, reduceCtorEq, Nat.reduceBEq, forall_const, implies_true, exists_const, ne_eq, Int.reduceAdd, Int.reduceSub, Int.reduceMul, Int.reduceBEq, Int.reduceEq, Int.reduceLT, Int.reduceLE, Int.reduceToNat, Int.reduceNeg, Int.reduceBNe, hlt, s1, s2, g2, b2, s4, g4, b4, s7, g7, b7, g49, b49, g74, b74, s9, encHa, List.length_map]
      have hpre : Ad.Pre ⟨h.fr, h.bu, h.cl.filter fun c => c.who != who, h.q.filter fun c => c.who != who⟩ ∧ Ad.endM h who = (Ad.entH ⟨h.fr, h.bu, h.cl.filter fun c => c.who != who, h.q.filter fun c => c.who != who⟩, Ad.came ⟨h.fr, h.bu, h.cl.filter fun c => c.who != who, h.q.filter fun c => c.who != who⟩, 0) := by
        rw [fc, fq]
        unfold Ad.endM
        rw [if_neg g0]
        by_cases h1 : Ad.cAt h who < h.cl.length
        · have h3 : ¬ Ad.tAt h who < h.q.length := fun hx => by
            have m1 := Ad.cAt_lt.1 h1
            have m2 := Ad.tAt_lt.1 hx
            exact (List.nodup_append.1 hnd).2.2 _ m1 _ m2 rfl
          rw [if_pos h1, show (List.findIdx (fun c => decide (Cl.who c = who)) h.cl) = Ad.cAt h who from rfl, if_pos h1, show (List.findIdx (fun c => decide (Tk.who c = who)) h.q) = Ad.tAt h who from rfl, if_neg h3]
          exact ⟨Ad.pre_endC hr h1, rfl⟩
        · have h3 : Ad.tAt h who < h.q.length := by
            rcases List.mem_append.1 h2 with hx | hx
            · exact absurd (Ad.cAt_lt.2 hx) h1
            · exact Ad.tAt_lt.2 hx
          rw [if_neg h1, show (List.findIdx (fun c => decide (Cl.who c = who)) h.cl) = Ad.cAt h who from rfl, if_neg h1, show (List.findIdx (fun c => decide (Tk.who c = who)) h.q) = Ad.tAt h who from rfl, if_pos h3]
          exact ⟨Ad.pre_endQ hr, by rw [if_pos h3]⟩
      refine ask (by have := let_spec _ hpre.1; rw [encHa_eq] at this; exact this) ?_
      simp -implicitDefEqProofs only [↓aP, aQ, ↓reduceIte, Nat.reduceEqDiff, Nat.reduceAdd, Nat.reduceSub, Nat.reduceMul, Nat.reduceLT, Nat.reduceLeDiff, reduceCtorEq, Nat.reduceBEq, forall_const, implies_true, exists_const, ne_eq, Int.reduceAdd, Int.reduceSub, Int.reduceMul, Int.reduceBEq, Int.reduceEq, Int.reduceLT, Int.reduceLE, Int.reduceToNat, Int.reduceNeg, Int.reduceBNe, encEn, encHa, s1, s2, g2, b2, s4, g4, b4, s7, g7, b7, g49, b49, g74, b74, s9]
      simp -implicitDefEqProofs only [↓aP, aQ, ↓reduceIte, Nat.reduceEqDiff, Nat.reduceAdd, Nat.reduceSub, Nat.reduceMul, Nat.reduceLT, Nat.reduceLeDiff, reduceCtorEq, Nat.reduceBEq, forall_const, implies_true, exists_const, ne_eq, Int.reduceAdd, Int.reduceSub, Int.reduceMul, Int.reduceBEq, Int.reduceEq, Int.reduceLT, Int.reduceLE, Int.reduceToNat, Int.reduceNeg, Int.reduceBNe, encEd, hpre.2, encHa]
theorem fields_rc : Try.prog.underlying 100 = some (.struct (Try.prog.fieldsOf 100)) := by kernel_rfl
theorem held_rc : Try.prog.stoodInHeld 100 = false := by kernel_rfl
theorem fieldsL_rc : ((Try.prog.fieldsOf 100).toList.map fun f => (f.type, f.offset)) = [(3, 0), (3, 1), (3, 2)] := by kernel_rfl
set_option maxRecDepth 100000 in
theorem eq_rc (x : Cl) : EqRun Try.prog 100 [.int .i64 x.who, .int .i64 x.claim, .int .i64 x.held] [.int .i64 x.who, .int .i64 x.claim, .int .i64 x.held] true := by
  intro w
  rw [run_eql_struct, run_equalIn_agg w 9999 _ _ _ fields_rc held_rc]
  go_simp
theorem fields_rt : Try.prog.underlying 63 = some (.struct (Try.prog.fieldsOf 63)) := by kernel_rfl
theorem held_rt : Try.prog.stoodInHeld 63 = false := by kernel_rfl
theorem fieldsL_rt : ((Try.prog.fieldsOf 63).toList.map fun f => (f.type, f.offset)) = [(3, 0), (3, 1)] := by kernel_rfl
set_option maxRecDepth 100000 in
theorem eq_rt (x : Tk) : EqRun Try.prog 63 [.int .i64 x.who, .int .i64 x.claim] [.int .i64 x.who, .int .i64 x.claim] true := by
  intro w
  rw [run_eql_struct, run_equalIn_agg w 9999 _ _ _ fields_rt held_rt]
  go_simp

theorem rSame_spec (l : Ha) (hl : l.cl.length + l.q.length < 4611686018427387904) : Spec Try.prog 23 [.agg (encHa l), .agg (encHa l)] (.val (rB true)) := by
  refine spec_val mixed fn23 (by simp) ?_
  unfold ac23
  simp -implicitDefEqProofs only [↓aP, aQ, ↓reduceIte, Nat.reduceEqDiff, Nat.reduceAdd, Nat.reduceSub, Nat.reduceMul, Nat.reduceLT, Nat.reduceLeDiff, reduceCtorEq, Nat.reduceBEq, forall_const, implies_true, exists_const, ne_eq, Int.reduceAdd, Int.reduceSub, Int.reduceMul, Int.reduceBEq, Int.reduceEq, Int.reduceLT, Int.reduceLE, Int.reduceToNat, Int.reduceNeg, Int.reduceBNe, encHa, bne_self_eq_false]
  refine rangeB l.cl.length (fun i σ => σ.slot 2 = .c (.ptr 2 1 0 0) ∧ σ.h.gen 2 = 1 ∧ σ.h.blk 2 = .box 29 4 [(encHa l).map AC.s] ∧ σ.slot 3 = .c (.ptr 3 1 0 0) ∧ σ.h.gen 3 = 1 ∧ σ.h.blk 3 = .box 29 4 [(encHa l).map AC.s] ∧ σ.slot 5 = vI i) ?_ ?_ ?_
  · simp -implicitDefEqProofs only [↓aP, aQ, ↓reduceIte, Nat.reduceEqDiff, Nat.reduceAdd, Nat.reduceSub, Nat.reduceMul, Nat.reduceLT, Nat.reduceLeDiff, reduceCtorEq, Nat.reduceBEq, forall_const, implies_true, exists_const, ne_eq, Int.reduceAdd, Int.reduceSub, Int.reduceMul, Int.reduceBEq, Int.reduceEq, Int.reduceLT, Int.reduceLE, Int.reduceToNat, Int.reduceNeg, Int.reduceBNe, encHa]
  · rintro i m σ him hi hlt ⟨s2, g2, b2, s3, g3, b3, s5⟩
    simp -implicitDefEqProofs only [↓aP, aQ, ↓reduceIte, Nat.reduceEqDiff, Nat.reduceAdd, Nat.reduceSub, Nat.reduceMul, Nat.reduceLT, Nat.reduceLeDiff, reduceCtorEq, Nat.reduceBEq, forall_const, implies_true, exists_const, ne_eq, Int.reduceAdd, Int.reduceSub, Int.reduceMul, Int.reduceBEq, Int.reduceEq, Int.reduceLT, Int.reduceLE, Int.reduceToNat, Int.reduceNeg, Int.reduceBNe, hlt, s2, g2, b2, s3, g3, b3, s5, encHa, askIdx_map, hi, encCl, List.length_map]
    refine askEq (eq_rc l.cl[i]) ?_
    simp -implicitDefEqProofs only [↓aP, aQ, ↓reduceIte, Nat.reduceEqDiff, Nat.reduceAdd, Nat.reduceSub, Nat.reduceMul, Nat.reduceLT, Nat.reduceLeDiff, reduceCtorEq, Nat.reduceBEq, forall_const, implies_true, exists_const, ne_eq, Int.reduceAdd, Int.reduceSub, Int.reduceMul, Int.reduceBEq, Int.reduceEq, Int.reduceLT, Int.reduceLE, Int.reduceToNat, Int.reduceNeg, Int.reduceBNe, s2, g2, b2, s3, g3, b3, s5, encHa, wrapS (show i < 4611686018427387904 by omega)]
    refine ⟨by decide +kernel, ?_⟩
    refine nextR hi him ?_
    simp -implicitDefEqProofs only [↓aP, aQ, ↓reduceIte, Nat.reduceEqDiff, Nat.reduceAdd, Nat.reduceSub, Nat.reduceMul, Nat.reduceLT, Nat.reduceLeDiff, reduceCtorEq, Nat.reduceBEq, forall_const, implies_true, exists_const, ne_eq, Int.reduceAdd, Int.reduceSub, Int.reduceMul, Int.reduceBEq, Int.reduceEq, Int.reduceLT, Int.reduceLE, Int.reduceToNat, Int.reduceNeg, Int.reduceBNe, s2, g2, b2, s3, g3, b3, encHa]
  · rintro m σ hlt ⟨s2, g2, b2, s3, g3, b3, s5⟩
    simp -implicitDefEqProofs only [↓aP, aQ, ↓reduceIte, Nat.reduceEqDiff, Nat.reduceAdd, Nat.reduceSub, Nat.reduceMul, Nat.reduceLT, Nat.reduceLeDiff, reduceCtorEq, Nat.reduceBEq, forall_const, implies_true, exists_const, ne_eq, Int.reduceAdd, Int.reduceSub, Int.reduceMul, Int.reduceBEq, Int.reduceEq, Int.reduceLT, Int.reduceLE, Int.reduceToNat, Int.reduceNeg, Int.reduceBNe, hlt, s2, g2, b2, s3, g3, b3, s5, encHa, List.length_map]
    refine rangeB l.q.length (fun i σ => σ.slot 2 = .c (.ptr 2 1 0 0) ∧ σ.h.gen 2 = 1 ∧ σ.h.blk 2 = .box 29 4 [(encHa l).map AC.s] ∧ σ.slot 3 = .c (.ptr 3 1 0 0) ∧ σ.h.gen 3 = 1 ∧ σ.h.blk 3 = .box 29 4 [(encHa l).map AC.s] ∧ σ.slot 6 = vI i) ?_ ?_ ?_
    · simp -implicitDefEqProofs only [↓aP, aQ, ↓reduceIte, Nat.reduceEqDiff, Nat.reduceAdd, Nat.reduceSub, Nat.reduceMul, Nat.reduceLT, Nat.reduceLeDiff, reduceCtorEq, Nat.reduceBEq, forall_const, implies_true, exists_const, ne_eq, Int.reduceAdd, Int.reduceSub, Int.reduceMul, Int.reduceBEq, Int.reduceEq, Int.reduceLT, Int.reduceLE, Int.reduceToNat, Int.reduceNeg, Int.reduceBNe, s2, g2, b2, s3, g3, b3, encHa]
    · clear hlt s5 s2 g2 b2 s3 g3 b3
      rintro i m σ him hi hlt ⟨s2, g2, b2, s3, g3, b3, s6⟩
      simp -implicitDefEqProofs only [↓aP, aQ, ↓reduceIte, Nat.reduceEqDiff, Nat.reduceAdd, Nat.reduceSub, Nat.reduceMul, Nat.reduceLT, Nat.reduceLeDiff, reduceCtorEq, Nat.reduceBEq, forall_const, implies_true, exists_const, ne_eq, Int.reduceAdd, Int.reduceSub, Int.reduceMul, Int.reduceBEq, Int.reduceEq, Int.reduceLT, Int.reduceLE, Int.reduceToNat, Int.reduceNeg, Int.reduceBNe, hlt, s2, g2, b2, s3, g3, b3, s6, encHa, askIdx_map, hi, encTk, List.length_map]
      refine askEq (eq_rt l.q[i]) ?_
      simp -implicitDefEqProofs only [↓aP, aQ, ↓reduceIte, Nat.reduceEqDiff, Nat.reduceAdd, Nat.reduceSub, Nat.reduceMul, Nat.reduceLT, Nat.reduceLeDiff, reduceCtorEq, Nat.reduceBEq, forall_const, implies_true, exists_const, ne_eq, Int.reduceAdd, Int.reduceSub, Int.reduceMul, Int.reduceBEq, Int.reduceEq, Int.reduceLT, Int.reduceLE, Int.reduceToNat, Int.reduceNeg, Int.reduceBNe, s2, g2, b2, s3, g3, b3, s6, encHa, wrapS (show i < 4611686018427387904 by omega)]
      refine ⟨by decide +kernel, ?_⟩
      refine nextR hi him ?_
      simp -implicitDefEqProofs only [↓aP, aQ, ↓reduceIte, Nat.reduceEqDiff, Nat.reduceAdd, Nat.reduceSub, Nat.reduceMul, Nat.reduceLT, Nat.reduceLeDiff, reduceCtorEq, Nat.reduceBEq, forall_const, implies_true, exists_const, ne_eq, Int.reduceAdd, Int.reduceSub, Int.reduceMul, Int.reduceBEq, Int.reduceEq, Int.reduceLT, Int.reduceLE, Int.reduceToNat, Int.reduceNeg, Int.reduceBNe, s2, g2, b2, s3, g3, b3, encHa]
    · clear hlt s5 s2 g2 b2 s3 g3 b3
      rintro m σ hlt ⟨s2, g2, b2, s3, g3, b3, s6⟩
      simp -implicitDefEqProofs only [↓aP, aQ, ↓reduceIte, Nat.reduceEqDiff, Nat.reduceAdd, Nat.reduceSub, Nat.reduceMul, Nat.reduceLT, Nat.reduceLeDiff, reduceCtorEq, Nat.reduceBEq, forall_const, implies_true, exists_const, ne_eq, Int.reduceAdd, Int.reduceSub, Int.reduceMul, Int.reduceBEq, Int.reduceEq, Int.reduceLT, Int.reduceLE, Int.reduceToNat, Int.reduceNeg, Int.reduceBNe, hlt, s2, g2, b2, s3, g3, b3, s6, encHa, List.length_map]
/-- what the law's ref tells -/
def smallH (h : Ha) : Bool := decide (h.cl.length ≤ 40 ∧ h.q.length ≤ 60)
def refM (h : Ha) : Ha × Bool := if smallH h = true then (h, true) else (⟨h.fr, h.bu, [], []⟩, false)


theorem ref_spec (h : Ha) : Spec Try.prog 15 [.agg (encHa h)] (.val (.tup [(true, encHa (refM h).1), (false, [.pv (.bool (refM h).2)])])) := by
  refine spec_val mixed fn15 (by simp) ?_
  unfold ac15
  by_cases h1 : 40 < h.cl.length
  · have e : refM h = (⟨h.fr, h.bu, [], []⟩, false) := by unfold refM smallH; rw [if_neg (by simp; omega)]
    simp -implicitDefEqProofs only [↓aP, aQ, ↓reduceIte, Nat.reduceEqDiff, Nat.reduceAdd, Nat.reduceSub, Nat.reduceMul, Nat.reduceLT, Nat.reduceLeDiff, reduceCtorEq, Nat.reduceBEq, forall_const, implies_true, exists_const, ne_eq, Int.reduceAdd, Int.reduceSub, Int.reduceMul, Int.reduceBEq, Int.reduceEq, Int.reduceLT, Int.reduceLE, Int.reduceToNat, Int.reduceNeg, Int.reduceBNe, encHa, List.length_map, show decide ((40 : Int) < (h.cl.length : Int)) = true by simp; omega, e, List.map_nil]
  by_cases h2 : 60 < h.q.length
  · have e : refM h = (⟨h.fr, h.bu, [], []⟩, false) := by unfold refM smallH; rw [if_neg (by simp; omega)]
    simp -implicitDefEqProofs only [↓aP, aQ, ↓reduceIte, Nat.reduceEqDiff, Nat.reduceAdd, Nat.reduceSub, Nat.reduceMul, Nat.reduceLT, Nat.reduceLeDiff, reduceCtorEq, Nat.reduceBEq, forall_const, implies_true, exists_const, ne_eq, Int.reduceAdd, Int.reduceSub, Int.reduceMul, Int.reduceBEq, Int.reduceEq, Int.reduceLT, Int.reduceLE, Int.reduceToNat, Int.reduceNeg, Int.reduceBNe, encHa, List.length_map, show decide ((40 : Int) < (h.cl.length : Int)) = false by simp; omega, show decide ((60 : Int) < (h.q.length : Int)) = true by simp; omega, e, List.map_nil]
  have e : refM h = (h, true) := by unfold refM smallH; rw [if_pos (by simp; omega)]
  simp -implicitDefEqProofs only [↓aP, aQ, ↓reduceIte, Nat.reduceEqDiff, Nat.reduceAdd, Nat.reduceSub, Nat.reduceMul, Nat.reduceLT, Nat.reduceLeDiff, reduceCtorEq, Nat.reduceBEq, forall_const, implies_true, exists_const, ne_eq, Int.reduceAdd, Int.reduceSub, Int.reduceMul, Int.reduceBEq, Int.reduceEq, Int.reduceLT, Int.reduceLE, Int.reduceToNat, Int.reduceNeg, Int.reduceBNe, encHa, List.length_map, show decide ((40 : Int) < (h.cl.length : Int)) = false by simp; omega, show decide ((60 : Int) < (h.q.length : Int)) = false by simp; omega]
  refine shift (sub_slot (s := 5) 37 100 3 rfl (by exact Nat.succ_pos _)) ?_
  refine rangeB h.cl.length (fun i σ => ∃ g, σ.slot 1 = .c (.ptr 1 1 0 0) ∧ σ.h.gen 1 = 1 ∧ σ.h.blk 1 = .box 25 4 [(encHa h).map AC.s] ∧ σ.slot 2 = .c (.ptr 2 1 0 0) ∧ σ.h.gen 2 = 1 ∧ σ.h.blk 2 = .box 29 4 [[.s (.pv (.int .i64 0)), .s (.pv (.int .i64 0)), .zc, .zc]] ∧ σ.slot 4 = .c (.ptr 4 1 0 0) ∧ σ.h.gen 4 = 1 ∧ σ.h.blk 4 = .box 29 4 [[.s (.pv (.int .i64 h.fr)), .s (.pv (.int .i64 h.bu)), .zc, .zc]] ∧ σ.slot 5 = .c (.own 37 g) ∧ σ.h.gen 37 = g ∧ σ.h.blk 37 = .row 100 3 ((h.cl.take i).map encCl) ∧ σ.slot 28 = vL 3 (h.cl.map encCl) ∧ σ.slot 29 = vI h.cl.length ∧ σ.slot 30 = vI i) ?_ ?_ ?_
  · simp -implicitDefEqProofs only [↓aP, aQ, ↓reduceIte, Nat.reduceEqDiff, Nat.reduceAdd, Nat.reduceSub, Nat.reduceMul, Nat.reduceLT, Nat.reduceLeDiff, reduceCtorEq, Nat.reduceBEq, forall_const, implies_true, exists_const, ne_eq, Int.reduceAdd, Int.reduceSub, Int.reduceMul, Int.reduceBEq, Int.reduceEq, Int.reduceLT, Int.reduceLE, Int.reduceToNat, Int.reduceNeg, Int.reduceBNe, encHa, List.take_zero, List.map_nil, List.length_map]
    exact ⟨_, rfl, rfl⟩
  · rintro i m σ him hi hlt ⟨g, s1, g1, b1, s2, g2, b2, s4, g4, b4, s5, g37, b37, s28, s29, s30⟩
    simp -implicitDefEqProofs only [↓aP, aQ, ↓reduceIte, Nat.reduceEqDiff, Nat.reduceAdd, Nat.reduceSub, Nat.reduceMul, Nat.reduceLT, Nat.reduceLeDiff, reduceCtorEq, Nat.reduceBEq, forall_const, implies_true, exists_const, ne_eq, Int.reduceAdd, Int.reduceSub, Int.reduceMul, Int.reduceBEq, Int.reduceEq, Int.reduceLT, Int.reduceLE, Int.reduceToNat, Int.reduceNeg, Int.reduceBNe, hlt, s1, g1, b1, s2, g2, b2, s4, g4, b4, s5, g37, b37, s28, s29, s30, encHa, askIdx_map, hi, encCl, List.length_map, List.length_take, wrapS (show i < 4611686018427387904 by omega)]
    refine ⟨by omega, by omega, ?_⟩
    refine nextR hi him ⟨g + 1, ?_⟩
    simp -implicitDefEqProofs only [↓aP, aQ, ↓reduceIte, Nat.reduceEqDiff, Nat.reduceAdd, Nat.reduceSub, Nat.reduceMul, Nat.reduceLT, Nat.reduceLeDiff, reduceCtorEq, Nat.reduceBEq, forall_const, implies_true, exists_const, ne_eq, Int.reduceAdd, Int.reduceSub, Int.reduceMul, Int.reduceBEq, Int.reduceEq, Int.reduceLT, Int.reduceLE, Int.reduceToNat, Int.reduceNeg, Int.reduceBNe, s1, g1, b1, s2, g2, b2, s4, g4, b4, s5, g37, b37, s28, s29, s30, encHa, take_snoc hi, List.map_append, List.map_cons, List.map_nil, encCl]
  · rintro m σ hlt ⟨g, s1, g1, b1, s2, g2, b2, s4, g4, b4, s5, g37, b37, s28, s29, s30⟩
    rw [List.take_length] at b37
    simp -implicitDefEqProofs only [↓aP, aQ, ↓reduceIte, Nat.reduceEqDiff, Nat.reduceAdd, Nat.reduceSub, Nat.reduceMul, Nat.reduceLT, Nat.reduceLeDiff, reduceCtorEq, Nat.reduceBEq, forall_const, implies_true, exists_const, ne_eq, Int.reduceAdd, Int.reduceSub, Int.reduceMul, Int.reduceBEq, Int.reduceEq, Int.reduceLT, Int.reduceLE, Int.reduceToNat, Int.reduceNeg, Int.reduceBNe, hlt, s1, g1, b1, s2, g2, b2, s4, g4, b4, s5, g37, b37, s28, s29, s30, encHa, List.length_map]
    refine shift (sub_slot (s := 8) 49 63 2 rfl (by exact Nat.succ_pos _)) ?_
    refine rangeB h.q.length (fun i σ => ∃ g G, σ.slot 1 = .c (.ptr 1 1 0 0) ∧ σ.h.gen 1 = 1 ∧ σ.h.blk 1 = .box 25 4 [(encHa h).map AC.s] ∧ σ.slot 2 = .c (.ptr 2 1 0 0) ∧ σ.h.gen 2 = 1 ∧ σ.h.blk 2 = .box 29 4 [[.s (.pv (.int .i64 0)), .s (.pv (.int .i64 0)), .zc, .zc]] ∧ σ.slot 4 = .c (.ptr 4 1 0 0) ∧ σ.h.gen 4 = 1 ∧ σ.h.blk 4 = .box 29 4 [[.s (.pv (.int .i64 h.fr)), .s (.pv (.int .i64 h.bu)), .zc, .zc]] ∧ σ.slot 5 = .c (.own 37 G) ∧ σ.h.gen 37 = G ∧ σ.h.blk 37 = .row 100 3 (h.cl.map encCl) ∧ σ.slot 8 = .c (.own 49 g) ∧ σ.h.gen 49 = g ∧ σ.h.blk 49 = .row 63 2 ((h.q.take i).map encTk) ∧ σ.slot 40 = vL 2 (h.q.map encTk) ∧ σ.slot 41 = vI h.q.length ∧ σ.slot 42 = vI i) ?_ ?_ ?_
    · simp -implicitDefEqProofs only [↓aP, aQ, ↓reduceIte, Nat.reduceEqDiff, Nat.reduceAdd, Nat.reduceSub, Nat.reduceMul, Nat.reduceLT, Nat.reduceLeDiff, reduceCtorEq, Nat.reduceBEq, forall_const, implies_true, exists_const, ne_eq, Int.reduceAdd, Int.reduceSub, Int.reduceMul, Int.reduceBEq, Int.reduceEq, Int.reduceLT, Int.reduceLE, Int.reduceToNat, Int.reduceNeg, Int.reduceBNe, s1, g1, b1, s2, g2, b2, s4, g4, b4, s5, g37, b37, s28, s29, s30, encHa, List.take_zero, List.map_nil, List.length_map]
      exact ⟨_, _, rfl, rfl, rfl, rfl⟩
    · clear hlt s1 g1 b1 s2 g2 b2 s4 g4 b4 s5 g37 b37 s28 s29 s30
      rintro i k σ him hi hlt ⟨g, G, s1, g1, b1, s2, g2, b2, s4, g4, b4, s5, g37, b37, s8, g49, b49, s40, s41, s42⟩
      simp -implicitDefEqProofs only [↓aP, aQ, ↓reduceIte, Nat.reduceEqDiff, Nat.reduceAdd, Nat.reduceSub, Nat.reduceMul, Nat.reduceLT, Nat.reduceLeDiff, reduceCtorEq, Nat.reduceBEq, forall_const, implies_true, exists_const, ne_eq, Int.reduceAdd, Int.reduceSub, Int.reduceMul, Int.reduceBEq, Int.reduceEq, Int.reduceLT, Int.reduceLE, Int.reduceToNat, Int.reduceNeg, Int.reduceBNe, hlt, s1, g1, b1, s2, g2, b2, s4, g4, b4, s5, g37, b37, s8, g49, b49, s40, s41, s42, encHa, askIdx_map, hi, encTk, List.length_map, List.length_take, wrapS (show i < 4611686018427387904 by omega)]
      refine ⟨by omega, by omega, ?_⟩
      refine nextR hi him ⟨g + 1, G, ?_⟩
      simp -implicitDefEqProofs only [↓aP, aQ, ↓reduceIte, Nat.reduceEqDiff, Nat.reduceAdd, Nat.reduceSub, Nat.reduceMul, Nat.reduceLT, Nat.reduceLeDiff, reduceCtorEq, Nat.reduceBEq, forall_const, implies_true, exists_const, ne_eq, Int.reduceAdd, Int.reduceSub, Int.reduceMul, Int.reduceBEq, Int.reduceEq, Int.reduceLT, Int.reduceLE, Int.reduceToNat, Int.reduceNeg, Int.reduceBNe, s1, g1, b1, s2, g2, b2, s4, g4, b4, s5, g37, b37, s8, g49, b49, s40, s41, s42, encHa, take_snoc hi, List.map_append, List.map_cons, List.map_nil, encTk]
    · clear hlt s1 g1 b1 s2 g2 b2 s4 g4 b4 s5 g37 b37 s28 s29 s30
      rintro k σ hlt ⟨g, G, s1, g1, b1, s2, g2, b2, s4, g4, b4, s5, g37, b37, s8, g49, b49, s40, s41, s42⟩
      rw [List.take_length] at b49
      simp -implicitDefEqProofs only [↓aP, aQ, ↓reduceIte, Nat.reduceEqDiff, Nat.reduceAdd, Nat.reduceSub, Nat.reduceMul, Nat.reduceLT, Nat.reduceLeDiff, reduceCtorEq, Nat.reduceBEq, forall_const, implies_true, exists_const, ne_eq, Int.reduceAdd, Int.reduceSub, Int.reduceMul, Int.reduceBEq, Int.reduceEq, Int.reduceLT, Int.reduceLE, Int.reduceToNat, Int.reduceNeg, Int.reduceBNe, hlt, s1, g1, b1, s2, g2, b2, s4, g4, b4, s5, g37, b37, s8, g49, b49, s40, s41, s42, encHa, e]
end Go.Proofs.Yteghmlafodkfpaa
