/- layer 11: the contracts: Begin, Pin, Unpin, End, Free. -/
import Derived.Test.YteghmlafodkfpaaA5
import Derived.Test.YteghmlafodkfpaaA2d
namespace Go.Proofs.Yteghmlafodkfpaa
open Go.RowKit
set_option linter.unusedVariables false
set_option linter.unusedSimpArgs false
theorem encHa_eq (h : Ha) : encHa h = [.pv (.int .i64 h.fr), .pv (.int .i64 h.bu), .sl 3 (h.cl.map encCl), .sl 2 (h.q.map encTk)] := rfl
theorem erase_map {α β : Type} {f : α → β} {l : List α} {k : Nat} : (l.map f).eraseIdx k = (l.eraseIdx k).map f := by
  rw [List.eraseIdx_eq_take_drop_succ, List.eraseIdx_eq_take_drop_succ, List.map_append, List.map_take, List.map_drop]
theorem fst_cAt {h : Ha} {who : Int} : fst? (fun x : Cl => x.who == who) h.cl = if Ad.cAt h who < h.cl.length then ((Ad.cAt h who : Nat) : Int) else -1 := by
  rw [fst_idx]
  have e : (fun x : Cl => x.who == who) = (fun x : Cl => decide (x.who = who)) := by funext x; exact Bool.eq_iff_iff.2 (by simp)
  rw [e]; rfl
theorem fst_tAt {h : Ha} {who : Int} : fst? (fun x : Tk => x.who == who) h.q = if Ad.tAt h who < h.q.length then ((Ad.tAt h who : Nat) : Int) else -1 := by
  rw [fst_idx]
  have e : (fun x : Tk => x.who == who) = (fun x : Tk => decide (x.who = who)) := by funext x; exact Bool.eq_iff_iff.2 (by simp)
  rw [e]; rfl
def encBg (x : Ha × Bool × Int) : TV SC := .tup [(true, encHa x.1), (false, [.pv (.bool x.2.1)]), (false, [.pv (.int .i64 x.2.2)])]
def encPn (x : Ha × Int) : TV SC := .tup [(true, encHa x.1), (false, [.pv (.int .i64 x.2)])]
def encEd (x : Ha × List Int × Int) : TV SC := .tup [(true, encHa x.1), (false, [.sl 1 (x.2.1.map encI)]), (false, [.pv (.int .i64 x.2.2)])]
theorem right_len {h : Ha} (hr : Ad.right h = true) : h.cl.length + h.q.length ≤ 40 ∧ h.cl.length ≤ 8 := by
  have hp := (Ad.right_pre.1 hr).1
  exact ⟨hp.2.2.1, (fine_pre hp).2.2.1⟩
theorem adFree_spec (h : Ha) (hl : h.cl.length + h.q.length ≤ 1000000) : Spec Try.prog 26 [.agg (encHa h)] (.val (rI (Ad.freeM h))) := by
  refine spec_val mixed fn26 (by simp) ?_
  unfold ac26
  simp -implicitDefEqProofs only [↓aP, aQ, ↓reduceIte, Nat.reduceEqDiff, Nat.reduceAdd, Nat.reduceSub, Nat.reduceMul, Nat.reduceLT, Nat.reduceLeDiff, reduceCtorEq, Nat.reduceBEq, forall_const, implies_true, exists_const, ne_eq, Int.reduceAdd, Int.reduceSub, Int.reduceMul, Int.reduceBEq, Int.reduceEq, Int.reduceLT, Int.reduceLE, Int.reduceToNat, Int.reduceNeg, Int.reduceBNe, encHa]
  refine ask (adRight_spec h hl) ?_
  cases hr : Ad.right h
  · simp -implicitDefEqProofs only [↓aP, aQ, ↓reduceIte, Nat.reduceEqDiff, Nat.reduceAdd, Nat.reduceSub, Nat.reduceMul, Nat.reduceLT, Nat.reduceLeDiff, reduceCtorEq, Nat.reduceBEq, forall_const, implies_true, exists_const, ne_eq, Int.reduceAdd, Int.reduceSub, Int.reduceMul, Int.reduceBEq, Int.reduceEq, Int.reduceLT, Int.reduceLE, Int.reduceToNat, Int.reduceNeg, Int.reduceBNe, Ad.freeM, hr, Bool.false_eq_true, if_false]
  simp -implicitDefEqProofs only [↓aP, aQ, ↓reduceIte, Nat.reduceEqDiff, Nat.reduceAdd, Nat.reduceSub, Nat.reduceMul, Nat.reduceLT, Nat.reduceLeDiff, reduceCtorEq, Nat.reduceBEq, forall_const, implies_true, exists_const, ne_eq, Int.reduceAdd, Int.reduceSub, Int.reduceMul, Int.reduceBEq, Int.reduceEq, Int.reduceLT, Int.reduceLE, Int.reduceToNat, Int.reduceNeg, Int.reduceBNe, encHa]
  refine ask (free_spec h (fine_pre (Ad.right_pre.1 hr).1)) ?_
  simp -implicitDefEqProofs only [↓aP, aQ, ↓reduceIte, Nat.reduceEqDiff, Nat.reduceAdd, Nat.reduceSub, Nat.reduceMul, Nat.reduceLT, Nat.reduceLeDiff, reduceCtorEq, Nat.reduceBEq, forall_const, implies_true, exists_const, ne_eq, Int.reduceAdd, Int.reduceSub, Int.reduceMul, Int.reduceBEq, Int.reduceEq, Int.reduceLT, Int.reduceLE, Int.reduceToNat, Int.reduceNeg, Int.reduceBNe, Ad.freeM, hr, if_true]
theorem adBegin_spec (h : Ha) (who claim : Int) (hl : h.cl.length + h.q.length ≤ 1000000) : Spec Try.prog 17 [.agg (encHa h), rI who, rI claim] (.val (encBg (Ad.beginM h who claim))) := by
  refine spec_val mixed fn17 (by simp) ?_
  unfold ac17
  simp -implicitDefEqProofs only [↓aP, aQ, ↓reduceIte, Nat.reduceEqDiff, Nat.reduceAdd, Nat.reduceSub, Nat.reduceMul, Nat.reduceLT, Nat.reduceLeDiff, reduceCtorEq, Nat.reduceBEq, forall_const, implies_true, exists_const, ne_eq, Int.reduceAdd, Int.reduceSub, Int.reduceMul, Int.reduceBEq, Int.reduceEq, Int.reduceLT, Int.reduceLE, Int.reduceToNat, Int.reduceNeg, Int.reduceBNe, encHa]
  refine ask (adRight_spec h hl) ?_
  cases hr : Ad.right h
  · simp -implicitDefEqProofs only [↓aP, aQ, ↓reduceIte, Nat.reduceEqDiff, Nat.reduceAdd, Nat.reduceSub, Nat.reduceMul, Nat.reduceLT, Nat.reduceLeDiff, reduceCtorEq, Nat.reduceBEq, forall_const, implies_true, exists_const, ne_eq, Int.reduceAdd, Int.reduceSub, Int.reduceMul, Int.reduceBEq, Int.reduceEq, Int.reduceLT, Int.reduceLE, Int.reduceToNat, Int.reduceNeg, Int.reduceBNe, encBg, Ad.beginM, hr, true_or, if_true, encHa]
  simp -implicitDefEqProofs only [↓aP, aQ, ↓reduceIte, Nat.reduceEqDiff, Nat.reduceAdd, Nat.reduceSub, Nat.reduceMul, Nat.reduceLT, Nat.reduceLeDiff, reduceCtorEq, Nat.reduceBEq, forall_const, implies_true, exists_const, ne_eq, Int.reduceAdd, Int.reduceSub, Int.reduceMul, Int.reduceBEq, Int.reduceEq, Int.reduceLT, Int.reduceLE, Int.reduceToNat, Int.reduceNeg, Int.reduceBNe, encHa]
  refine ask (who_spec who) ?_
  cases hw : Ad.okWho who
  · simp -implicitDefEqProofs only [↓aP, aQ, ↓reduceIte, Nat.reduceEqDiff, Nat.reduceAdd, Nat.reduceSub, Nat.reduceMul, Nat.reduceLT, Nat.reduceLeDiff, reduceCtorEq, Nat.reduceBEq, forall_const, implies_true, exists_const, ne_eq, Int.reduceAdd, Int.reduceSub, Int.reduceMul, Int.reduceBEq, Int.reduceEq, Int.reduceLT, Int.reduceLE, Int.reduceToNat, Int.reduceNeg, Int.reduceBNe, encBg, Ad.beginM, hr, hw, or_true, if_true, encHa]
  simp -implicitDefEqProofs only [↓aP, aQ, ↓reduceIte, Nat.reduceEqDiff, Nat.reduceAdd, Nat.reduceSub, Nat.reduceMul, Nat.reduceLT, Nat.reduceLeDiff, reduceCtorEq, Nat.reduceBEq, forall_const, implies_true, exists_const, ne_eq, Int.reduceAdd, Int.reduceSub, Int.reduceMul, Int.reduceBEq, Int.reduceEq, Int.reduceLT, Int.reduceLE, Int.reduceToNat, Int.reduceNeg, Int.reduceBNe, encHa]
  refine ask (claim_spec h claim) ?_
  have g0 : ¬ (Ad.right h = false ∨ Ad.okWho who = false) := by simp [hr, hw]
  cases hc : Ad.okClaim h.fr h.bu claim
  · simp -implicitDefEqProofs only [↓aP, aQ, ↓reduceIte, Nat.reduceEqDiff, Nat.reduceAdd, Nat.reduceSub, Nat.reduceMul, Nat.reduceLT, Nat.reduceLeDiff, reduceCtorEq, Nat.reduceBEq, forall_const, implies_true, exists_const, ne_eq, Int.reduceAdd, Int.reduceSub, Int.reduceMul, Int.reduceBEq, Int.reduceEq, Int.reduceLT, Int.reduceLE, Int.reduceToNat, Int.reduceNeg, Int.reduceBNe, encBg, Ad.beginM, g0, hc, if_true, if_false, encHa]
  have g1 : ¬ (Ad.okClaim h.fr h.bu claim = false) := by simp [hc]
  obtain ⟨h40, h8⟩ := right_len hr
  simp -implicitDefEqProofs only [↓aP, aQ, ↓reduceIte, Nat.reduceEqDiff, Nat.reduceAdd, Nat.reduceSub, Nat.reduceMul, Nat.reduceLT, Nat.reduceLeDiff, reduceCtorEq, Nat.reduceBEq, forall_const, implies_true, exists_const, ne_eq, Int.reduceAdd, Int.reduceSub, Int.reduceMul, Int.reduceBEq, Int.reduceEq, Int.reduceLT, Int.reduceLE, Int.reduceToNat, Int.reduceNeg, Int.reduceBNe, encHa]
  refine ask (client_spec h who (by omega)) ?_
  have hmem : who ∈ Ad.whos h ↔ Ad.cAt h who < h.cl.length ∨ Ad.tAt h who < h.q.length := by unfold Ad.whos; rw [List.mem_append, Ad.cAt_lt, Ad.tAt_lt]
  by_cases h1 : Ad.cAt h who < h.cl.length
  · have g2 : who ∈ Ad.whos h := hmem.2 (.inl h1)
    simp -implicitDefEqProofs only [↓aP, aQ, ↓reduceIte, Nat.reduceEqDiff, Nat.reduceAdd, Nat.reduceSub, Nat.reduceMul, Nat.reduceLT, Nat.reduceLeDiff, reduceCtorEq, Nat.reduceBEq, forall_const, implies_true, exists_const, ne_eq, Int.reduceAdd, Int.reduceSub, Int.reduceMul, Int.reduceBEq, Int.reduceEq, Int.reduceLT, Int.reduceLE, Int.reduceToNat, Int.reduceNeg, Int.reduceBNe, fst_cAt, h1, if_true, show decide ((0 : Int) ≤ ((Ad.cAt h who : Nat) : Int)) = true by simp, encBg, Ad.beginM, g0, g1, if_false, g2, encHa]
  simp -implicitDefEqProofs only [↓aP, aQ, ↓reduceIte, Nat.reduceEqDiff, Nat.reduceAdd, Nat.reduceSub, Nat.reduceMul, Nat.reduceLT, Nat.reduceLeDiff, reduceCtorEq, Nat.reduceBEq, forall_const, implies_true, exists_const, ne_eq, Int.reduceAdd, Int.reduceSub, Int.reduceMul, Int.reduceBEq, Int.reduceEq, Int.reduceLT, Int.reduceLE, Int.reduceToNat, Int.reduceNeg, Int.reduceBNe, fst_cAt, h1, if_false, show decide ((0 : Int) ≤ -1) = false by decide, encHa]
  refine ask (ticket_spec h who (by omega)) ?_
  have w : IntKind.i64.wrap ((h.cl.length : Int) + (h.q.length : Int)) = ((h.cl.length + h.q.length : Nat) : Int) := by rw [wrapI (by omega)]; omega
  by_cases h2 : Ad.tAt h who < h.q.length
  · have g2 : who ∈ Ad.whos h := hmem.2 (.inr h2)
    simp -implicitDefEqProofs only [↓aP, aQ, ↓reduceIte, Nat.reduceEqDiff, Nat.reduceAdd, Nat.reduceSub, Nat.reduceMul, Nat.reduceLT, Nat.reduceLeDiff, reduceCtorEq, Nat.reduceBEq, forall_const, implies_true, exists_const, ne_eq, Int.reduceAdd, Int.reduceSub, Int.reduceMul, Int.reduceBEq, Int.reduceEq, Int.reduceLT, Int.reduceLE, Int.reduceToNat, Int.reduceNeg, Int.reduceBNe, fst_tAt, h2, if_true, show decide ((0 : Int) ≤ ((Ad.tAt h who : Nat) : Int)) = true by simp, encBg, Ad.beginM, g0, g1, if_false, g2, encHa]
  have g2 : who ∉ Ad.whos h := fun hx => by rcases hmem.1 hx with h | h <;> contradiction
  simp -implicitDefEqProofs only [↓aP, aQ, ↓reduceIte, Nat.reduceEqDiff, Nat.reduceAdd, Nat.reduceSub, Nat.reduceMul, Nat.reduceLT, Nat.reduceLeDiff, reduceCtorEq, Nat.reduceBEq, forall_const, implies_true, exists_const, ne_eq, Int.reduceAdd, Int.reduceSub, Int.reduceMul, Int.reduceBEq, Int.reduceEq, Int.reduceLT, Int.reduceLE, Int.reduceToNat, Int.reduceNeg, Int.reduceBNe, fst_tAt, h2, if_false, show decide ((0 : Int) ≤ -1) = false by decide, encHa, List.length_map, w]
  by_cases h3 : h.cl.length + h.q.length = 40
  · simp -implicitDefEqProofs only [↓aP, aQ, ↓reduceIte, Nat.reduceEqDiff, Nat.reduceAdd, Nat.reduceSub, Nat.reduceMul, Nat.reduceLT, Nat.reduceLeDiff, reduceCtorEq, Nat.reduceBEq, forall_const, implies_true, exists_const, ne_eq, Int.reduceAdd, Int.reduceSub, Int.reduceMul, Int.reduceBEq, Int.reduceEq, Int.reduceLT, Int.reduceLE, Int.reduceToNat, Int.reduceNeg, Int.reduceBNe, show (((h.cl.length + h.q.length : Nat) : Int) == 40) = true by simp; omega, encBg, Ad.beginM, g0, g1, if_false, g2, h3, if_true, encHa]
  simp -implicitDefEqProofs only [↓aP, aQ, ↓reduceIte, Nat.reduceEqDiff, Nat.reduceAdd, Nat.reduceSub, Nat.reduceMul, Nat.reduceLT, Nat.reduceLeDiff, reduceCtorEq, Nat.reduceBEq, forall_const, implies_true, exists_const, ne_eq, Int.reduceAdd, Int.reduceSub, Int.reduceMul, Int.reduceBEq, Int.reduceEq, Int.reduceLT, Int.reduceLE, Int.reduceToNat, Int.reduceNeg, Int.reduceBNe, show (((h.cl.length + h.q.length : Nat) : Int) == 40) = false by rw [beq_eq_false_iff_ne]; omega, encHa, List.length_map]
  refine ask (cloneTk (h.q.map encTk) (by simp; omega)) ?_
  have hpre := Ad.pre_begin (claim := claim) hr hw hc g2 h3
  simp -implicitDefEqProofs only [↓aP, aQ, ↓reduceIte, Nat.reduceEqDiff, Nat.reduceAdd, Nat.reduceSub, Nat.reduceMul, Nat.reduceLT, Nat.reduceLeDiff, reduceCtorEq, Nat.reduceBEq, forall_const, implies_true, exists_const, ne_eq, Int.reduceAdd, Int.reduceSub, Int.reduceMul, Int.reduceBEq, Int.reduceEq, Int.reduceLT, Int.reduceLE, Int.reduceToNat, Int.reduceNeg, Int.reduceBNe, encHa, List.length_map]
  refine ⟨by omega, by omega, ?_⟩
  have he := enter_spec _ hpre
  simp only [encHa_eq, List.map_append, List.map_cons, List.map_nil, encTk] at he
  refine ask he ?_
  simp -implicitDefEqProofs only [↓aP, aQ, ↓reduceIte, Nat.reduceEqDiff, Nat.reduceAdd, Nat.reduceSub, Nat.reduceMul, Nat.reduceLT, Nat.reduceLeDiff, reduceCtorEq, Nat.reduceBEq, forall_const, implies_true, exists_const, ne_eq, Int.reduceAdd, Int.reduceSub, Int.reduceMul, Int.reduceBEq, Int.reduceEq, Int.reduceLT, Int.reduceLE, Int.reduceToNat, Int.reduceNeg, Int.reduceBNe, encEn, encHa]
  generalize hx : Ad.entH ⟨h.fr, h.bu, h.cl, h.q ++ [⟨who, claim⟩]⟩ = x
  have hxr : Ad.right x = true := by rw [← hx]; exact Ad.entH_right hpre
  obtain ⟨x40, x8⟩ := right_len hxr
  have eB : Ad.beginM h who claim = (x, decide (Ad.cAt x who < x.cl.length), 0) := by
    unfold Ad.beginM
    rw [if_neg g0, if_neg g1, if_neg g2, if_neg h3, hx]
    congr 2
    rw [decide_eq_decide, Ad.cAt_lt]
  refine ask (by have := client_spec x who (by omega); rw [encHa_eq] at this; exact this) ?_
  by_cases h4 : Ad.cAt x who < x.cl.length
  · simp -implicitDefEqProofs only [↓aP, aQ, ↓reduceIte, Nat.reduceEqDiff, Nat.reduceAdd, Nat.reduceSub, Nat.reduceMul, Nat.reduceLT, Nat.reduceLeDiff, reduceCtorEq, Nat.reduceBEq, forall_const, implies_true, exists_const, ne_eq, Int.reduceAdd, Int.reduceSub, Int.reduceMul, Int.reduceBEq, Int.reduceEq, Int.reduceLT, Int.reduceLE, Int.reduceToNat, Int.reduceNeg, Int.reduceBNe, fst_cAt, h4, if_true, show decide ((0 : Int) ≤ ((Ad.cAt x who : Nat) : Int)) = true by simp, encBg, eB, decide_true, encHa]
    decide +kernel
  · simp -implicitDefEqProofs only [↓aP, aQ, ↓reduceIte, Nat.reduceEqDiff, Nat.reduceAdd, Nat.reduceSub, Nat.reduceMul, Nat.reduceLT, Nat.reduceLeDiff, reduceCtorEq, Nat.reduceBEq, forall_const, implies_true, exists_const, ne_eq, Int.reduceAdd, Int.reduceSub, Int.reduceMul, Int.reduceBEq, Int.reduceEq, Int.reduceLT, Int.reduceLE, Int.reduceToNat, Int.reduceNeg, Int.reduceBNe, fst_cAt, h4, if_false, show decide ((0 : Int) ≤ -1) = false by decide, encBg, eB, decide_false, encHa]
    decide +kernel
theorem hold_spec (h : Ha) (i : Nat) (d : Int) (hi : i < h.cl.length) (hl : h.cl.length ≤ 1000) (hd : -1000 ≤ h.cl[i].held + d ∧ h.cl[i].held + d ≤ 1000) : Spec Try.prog 71 [.agg (encHa h), rI i, rI d] (.val (.agg (encHa (Ad.holdM h i d)))) := by
  refine spec_val mixed fn71 (by simp) ?_
  unfold ac71
  simp -implicitDefEqProofs only [↓aP, aQ, ↓reduceIte, Nat.reduceEqDiff, Nat.reduceAdd, Nat.reduceSub, Nat.reduceMul, Nat.reduceLT, Nat.reduceLeDiff, reduceCtorEq, Nat.reduceBEq, forall_const, implies_true, exists_const, ne_eq, Int.reduceAdd, Int.reduceSub, Int.reduceMul, Int.reduceBEq, Int.reduceEq, Int.reduceLT, Int.reduceLE, Int.reduceToNat, Int.reduceNeg, Int.reduceBNe, encHa]
  refine ask (cloneCl (h.cl.map encCl) (by simp; omega)) ?_
  have w : IntKind.i64.wrap (h.cl[i].held + d) = h.cl[i].held + d := wrapI (by omega)
  have e : (h.cl.map encCl).set i [.pv (.int .i64 h.cl[i].who), .pv (.int .i64 h.cl[i].claim), .pv (.int .i64 (h.cl[i].held + d))] = (Ad.holdM h i d).cl.map encCl := by
    unfold Ad.holdM
    simp only [List.map_set, Ad.getD_at hi]; rfl
  simp -implicitDefEqProofs only [↓aP, aQ, ↓reduceIte, Nat.reduceEqDiff, Nat.reduceAdd, Nat.reduceSub, Nat.reduceMul, Nat.reduceLT, Nat.reduceLeDiff, reduceCtorEq, Nat.reduceBEq, forall_const, implies_true, exists_const, ne_eq, Int.reduceAdd, Int.reduceSub, Int.reduceMul, Int.reduceBEq, Int.reduceEq, Int.reduceLT, Int.reduceLE, Int.reduceToNat, Int.reduceNeg, Int.reduceBNe, encHa, askIdx_map, hi, encCl, List.length_map, w]
  rw [e]
  exact ⟨rfl, rfl, Sim.refl _, Sim.refl _⟩
theorem adPin_spec (h : Ha) (who : Int) (hl : h.cl.length + h.q.length ≤ 1000000) : Spec Try.prog 27 [.agg (encHa h), rI who] (.val (encPn (Ad.pinM h who))) := by
  refine spec_val mixed fn27 (by simp) ?_
  unfold ac27
  simp -implicitDefEqProofs only [↓aP, aQ, ↓reduceIte, Nat.reduceEqDiff, Nat.reduceAdd, Nat.reduceSub, Nat.reduceMul, Nat.reduceLT, Nat.reduceLeDiff, reduceCtorEq, Nat.reduceBEq, forall_const, implies_true, exists_const, ne_eq, Int.reduceAdd, Int.reduceSub, Int.reduceMul, Int.reduceBEq, Int.reduceEq, Int.reduceLT, Int.reduceLE, Int.reduceToNat, Int.reduceNeg, Int.reduceBNe, encHa]
  refine ask (adRight_spec h hl) ?_
  cases hr : Ad.right h
  · simp -implicitDefEqProofs only [↓aP, aQ, ↓reduceIte, Nat.reduceEqDiff, Nat.reduceAdd, Nat.reduceSub, Nat.reduceMul, Nat.reduceLT, Nat.reduceLeDiff, reduceCtorEq, Nat.reduceBEq, forall_const, implies_true, exists_const, ne_eq, Int.reduceAdd, Int.reduceSub, Int.reduceMul, Int.reduceBEq, Int.reduceEq, Int.reduceLT, Int.reduceLE, Int.reduceToNat, Int.reduceNeg, Int.reduceBNe, encPn, Ad.pinM, hr, if_true, encHa]
  obtain ⟨h40, h8⟩ := right_len hr
  have g0 : ¬ (Ad.right h = false) := by simp [hr]
  simp -implicitDefEqProofs only [↓aP, aQ, ↓reduceIte, Nat.reduceEqDiff, Nat.reduceAdd, Nat.reduceSub, Nat.reduceMul, Nat.reduceLT, Nat.reduceLeDiff, reduceCtorEq, Nat.reduceBEq, forall_const, implies_true, exists_const, ne_eq, Int.reduceAdd, Int.reduceSub, Int.reduceMul, Int.reduceBEq, Int.reduceEq, Int.reduceLT, Int.reduceLE, Int.reduceToNat, Int.reduceNeg, Int.reduceBNe, encHa]
  refine ask (client_spec h who (by omega)) ?_
  by_cases h1 : Ad.cAt h who < h.cl.length
  case neg =>
    simp -implicitDefEqProofs only [↓aP, aQ, ↓reduceIte, Nat.reduceEqDiff, Nat.reduceAdd, Nat.reduceSub, Nat.reduceMul, Nat.reduceLT, Nat.reduceLeDiff, reduceCtorEq, Nat.reduceBEq, forall_const, implies_true, exists_const, ne_eq, Int.reduceAdd, Int.reduceSub, Int.reduceMul, Int.reduceBEq, Int.reduceEq, Int.reduceLT, Int.reduceLE, Int.reduceToNat, Int.reduceNeg, Int.reduceBNe, fst_cAt, h1, if_false, show decide ((-1 : Int) < 0) = true by decide, encPn, Ad.pinM, hr, g0, show h.cl.length ≤ Ad.cAt h who by omega, if_true, encHa]
  have g1 : ¬ (h.cl.length ≤ Ad.cAt h who) := by omega
  have hg := (Bk.good_of_right (Ad.right_pre.1 hr).1.2.1).1 _ (List.getElem_mem h1)
  simp -implicitDefEqProofs only [↓aP, aQ, ↓reduceIte, Nat.reduceEqDiff, Nat.reduceAdd, Nat.reduceSub, Nat.reduceMul, Nat.reduceLT, Nat.reduceLeDiff, reduceCtorEq, Nat.reduceBEq, forall_const, implies_true, exists_const, ne_eq, Int.reduceAdd, Int.reduceSub, Int.reduceMul, Int.reduceBEq, Int.reduceEq, Int.reduceLT, Int.reduceLE, Int.reduceToNat, Int.reduceNeg, Int.reduceBNe, fst_cAt, h1, if_true, show decide (((Ad.cAt h who : Nat) : Int) < 0) = false by simp, askIdx_map, encCl, List.length_map, encHa]
  by_cases h2 : h.cl[Ad.cAt h who].held = h.cl[Ad.cAt h who].claim
  · simp -implicitDefEqProofs only [↓aP, aQ, ↓reduceIte, Nat.reduceEqDiff, Nat.reduceAdd, Nat.reduceSub, Nat.reduceMul, Nat.reduceLT, Nat.reduceLeDiff, reduceCtorEq, Nat.reduceBEq, forall_const, implies_true, exists_const, ne_eq, Int.reduceAdd, Int.reduceSub, Int.reduceMul, Int.reduceBEq, Int.reduceEq, Int.reduceLT, Int.reduceLE, Int.reduceToNat, Int.reduceNeg, Int.reduceBNe, show (h.cl[Ad.cAt h who].held == h.cl[Ad.cAt h who].claim) = true by simpa using h2, encPn, Ad.pinM, g0, g1, if_false, Ad.getD_at h1, h2, if_true, encHa]
    decide +kernel
  have g2 : ¬ ((h.cl.getD (Ad.cAt h who) default).held = (h.cl.getD (Ad.cAt h who) default).claim) := by rw [Ad.getD_at h1]; exact h2
  simp -implicitDefEqProofs only [↓aP, aQ, ↓reduceIte, Nat.reduceEqDiff, Nat.reduceAdd, Nat.reduceSub, Nat.reduceMul, Nat.reduceLT, Nat.reduceLeDiff, reduceCtorEq, Nat.reduceBEq, forall_const, implies_true, exists_const, ne_eq, Int.reduceAdd, Int.reduceSub, Int.reduceMul, Int.reduceBEq, Int.reduceEq, Int.reduceLT, Int.reduceLE, Int.reduceToNat, Int.reduceNeg, Int.reduceBNe, show (h.cl[Ad.cAt h who].held == h.cl[Ad.cAt h who].claim) = false by simpa using h2, encHa]
  refine ⟨by decide +kernel, ?_⟩
  refine ask (hold_spec h (Ad.cAt h who) 1 h1 (by omega) (by omega)) ?_
  have hlen : (Ad.holdM h (Ad.cAt h who) 1).cl.length = h.cl.length := by simp [Ad.holdM]
  have hfine : FineH (Ad.holdM h (Ad.cAt h who) 1) := by
    have hf := fine_pre (Ad.right_pre.1 hr).1
    refine ⟨hf.1, hf.2.1, by rw [hlen]; exact hf.2.2.1, fun c hc => ?_, hf.2.2.2.2⟩
    rcases List.mem_or_eq_of_mem_set hc with hc | hc
    · exact hf.2.2.2.1 c hc
    · rw [hc, Ad.getD_at h1]; simp only; omega
  simp -implicitDefEqProofs only [↓aP, aQ, ↓reduceIte, Nat.reduceEqDiff, Nat.reduceAdd, Nat.reduceSub, Nat.reduceMul, Nat.reduceLT, Nat.reduceLeDiff, reduceCtorEq, Nat.reduceBEq, forall_const, implies_true, exists_const, ne_eq, Int.reduceAdd, Int.reduceSub, Int.reduceMul, Int.reduceBEq, Int.reduceEq, Int.reduceLT, Int.reduceLE, Int.reduceToNat, Int.reduceNeg, Int.reduceBNe, encHa]
  refine ask (by have := free_spec _ hfine; rw [encHa_eq] at this; exact this) ?_
  simp -implicitDefEqProofs only [↓aP, aQ, ↓reduceIte, Nat.reduceEqDiff, Nat.reduceAdd, Nat.reduceSub, Nat.reduceMul, Nat.reduceLT, Nat.reduceLeDiff, reduceCtorEq, Nat.reduceBEq, forall_const, implies_true, exists_const, ne_eq, Int.reduceAdd, Int.reduceSub, Int.reduceMul, Int.reduceBEq, Int.reduceEq, Int.reduceLT, Int.reduceLE, Int.reduceToNat, Int.reduceNeg, Int.reduceBNe, encHa]
  refine ask (bkSafe_spec ((Ad.holdM h (Ad.cAt h who) 1).fr - Ad.heldS (Ad.holdM h (Ad.cAt h who) 1).cl) (Ad.holdM h (Ad.cAt h who) 1).cl (by omega)) ?_
  cases hs : Bk.safe ((Ad.holdM h (Ad.cAt h who) 1).fr - Ad.heldS (Ad.holdM h (Ad.cAt h who) 1).cl) (Ad.holdM h (Ad.cAt h who) 1).cl
  · simp -implicitDefEqProofs only [↓aP, aQ, ↓reduceIte, Nat.reduceEqDiff, Nat.reduceAdd, Nat.reduceSub, Nat.reduceMul, Nat.reduceLT, Nat.reduceLeDiff, reduceCtorEq, Nat.reduceBEq, forall_const, implies_true, exists_const, ne_eq, Int.reduceAdd, Int.reduceSub, Int.reduceMul, Int.reduceBEq, Int.reduceEq, Int.reduceLT, Int.reduceLE, Int.reduceToNat, Int.reduceNeg, Int.reduceBNe, encPn, Ad.pinM, g0, g1, g2, if_false, hs, if_true, encHa]
    first | done | decide +kernel
  · simp -implicitDefEqProofs only [↓aP, aQ, ↓reduceIte, Nat.reduceEqDiff, Nat.reduceAdd, Nat.reduceSub, Nat.reduceMul, Nat.reduceLT, Nat.reduceLeDiff, reduceCtorEq, Nat.reduceBEq, forall_const, implies_true, exists_const, ne_eq, Int.reduceAdd, Int.reduceSub, Int.reduceMul, Int.reduceBEq, Int.reduceEq, Int.reduceLT, Int.reduceLE, Int.reduceToNat, Int.reduceNeg, Int.reduceBNe, encPn, Ad.pinM, g0, g1, g2, if_false, hs, Bool.true_eq_false, encHa]
    first | done | decide +kernel
theorem adUnpin_spec (h : Ha) (who : Int) (hl : h.cl.length + h.q.length ≤ 1000000) : Spec Try.prog 29 [.agg (encHa h), rI who] (.val (encPn (Ad.unpinM h who))) := by
  refine spec_val mixed fn29 (by simp) ?_
  unfold ac29
  simp -implicitDefEqProofs only [↓aP, aQ, ↓reduceIte, Nat.reduceEqDiff, Nat.reduceAdd, Nat.reduceSub, Nat.reduceMul, Nat.reduceLT, Nat.reduceLeDiff, reduceCtorEq, Nat.reduceBEq, forall_const, implies_true, exists_const, ne_eq, Int.reduceAdd, Int.reduceSub, Int.reduceMul, Int.reduceBEq, Int.reduceEq, Int.reduceLT, Int.reduceLE, Int.reduceToNat, Int.reduceNeg, Int.reduceBNe, encHa]
  refine ask (adRight_spec h hl) ?_
  cases hr : Ad.right h
  · simp -implicitDefEqProofs only [↓aP, aQ, ↓reduceIte, Nat.reduceEqDiff, Nat.reduceAdd, Nat.reduceSub, Nat.reduceMul, Nat.reduceLT, Nat.reduceLeDiff, reduceCtorEq, Nat.reduceBEq, forall_const, implies_true, exists_const, ne_eq, Int.reduceAdd, Int.reduceSub, Int.reduceMul, Int.reduceBEq, Int.reduceEq, Int.reduceLT, Int.reduceLE, Int.reduceToNat, Int.reduceNeg, Int.reduceBNe, encPn, Ad.unpinM, hr, if_true, encHa]
  obtain ⟨h40, h8⟩ := right_len hr
  have g0 : ¬ (Ad.right h = false) := by simp [hr]
  simp -implicitDefEqProofs only [↓aP, aQ, ↓reduceIte, Nat.reduceEqDiff, Nat.reduceAdd, Nat.reduceSub, Nat.reduceMul, Nat.reduceLT, Nat.reduceLeDiff, reduceCtorEq, Nat.reduceBEq, forall_const, implies_true, exists_const, ne_eq, Int.reduceAdd, Int.reduceSub, Int.reduceMul, Int.reduceBEq, Int.reduceEq, Int.reduceLT, Int.reduceLE, Int.reduceToNat, Int.reduceNeg, Int.reduceBNe, encHa]
  refine ask (client_spec h who (by omega)) ?_
  by_cases h1 : Ad.cAt h who < h.cl.length
  case neg =>
    simp -implicitDefEqProofs only [↓aP, aQ, ↓reduceIte, Nat.reduceEqDiff, Nat.reduceAdd, Nat.reduceSub, Nat.reduceMul, Nat.reduceLT, Nat.reduceLeDiff, reduceCtorEq, Nat.reduceBEq, forall_const, implies_true, exists_const, ne_eq, Int.reduceAdd, Int.reduceSub, Int.reduceMul, Int.reduceBEq, Int.reduceEq, Int.reduceLT, Int.reduceLE, Int.reduceToNat, Int.reduceNeg, Int.reduceBNe, fst_cAt, h1, if_false, show decide ((-1 : Int) < 0) = true by decide, encPn, Ad.unpinM, hr, g0, show h.cl.length ≤ Ad.cAt h who by omega, if_true, encHa]
  have g1 : ¬ (h.cl.length ≤ Ad.cAt h who) := by omega
  have hg := (Bk.good_of_right (Ad.right_pre.1 hr).1.2.1).1 _ (List.getElem_mem h1)
  simp -implicitDefEqProofs only [↓aP, aQ, ↓reduceIte, Nat.reduceEqDiff, Nat.reduceAdd, Nat.reduceSub, Nat.reduceMul, Nat.reduceLT, Nat.reduceLeDiff, reduceCtorEq, Nat.reduceBEq, forall_const, implies_true, exists_const, ne_eq, Int.reduceAdd, Int.reduceSub, Int.reduceMul, Int.reduceBEq, Int.reduceEq, Int.reduceLT, Int.reduceLE, Int.reduceToNat, Int.reduceNeg, Int.reduceBNe, fst_cAt, h1, if_true, show decide (((Ad.cAt h who : Nat) : Int) < 0) = false by simp, askIdx_map, encCl, List.length_map, encHa]
  by_cases h2 : h.cl[Ad.cAt h who].held = 0
  · simp -implicitDefEqProofs only [↓aP, aQ, ↓reduceIte, Nat.reduceEqDiff, Nat.reduceAdd, Nat.reduceSub, Nat.reduceMul, Nat.reduceLT, Nat.reduceLeDiff, reduceCtorEq, Nat.reduceBEq, forall_const, implies_true, exists_const, ne_eq, Int.reduceAdd, Int.reduceSub, Int.reduceMul, Int.reduceBEq, Int.reduceEq, Int.reduceLT, Int.reduceLE, Int.reduceToNat, Int.reduceNeg, Int.reduceBNe, show (h.cl[Ad.cAt h who].held == 0) = true by simpa using h2, encPn, Ad.unpinM, g0, g1, if_false, Ad.getD_at h1, h2, if_true, encHa]
  have g2 : ¬ ((h.cl.getD (Ad.cAt h who) default).held = 0) := by rw [Ad.getD_at h1]; exact h2
  simp -implicitDefEqProofs only [↓aP, aQ, ↓reduceIte, Nat.reduceEqDiff, Nat.reduceAdd, Nat.reduceSub, Nat.reduceMul, Nat.reduceLT, Nat.reduceLeDiff, reduceCtorEq, Nat.reduceBEq, forall_const, implies_true, exists_const, ne_eq, Int.reduceAdd, Int.reduceSub, Int.reduceMul, Int.reduceBEq, Int.reduceEq, Int.reduceLT, Int.reduceLE, Int.reduceToNat, Int.reduceNeg, Int.reduceBNe, show (h.cl[Ad.cAt h who].held == 0) = false by simpa using h2, encHa]
  refine ask (hold_spec h (Ad.cAt h who) (-1) h1 (by omega) (by omega)) ?_
  simp -implicitDefEqProofs only [↓aP, aQ, ↓reduceIte, Nat.reduceEqDiff, Nat.reduceAdd, Nat.reduceSub, Nat.reduceMul, Nat.reduceLT, Nat.reduceLeDiff, reduceCtorEq, Nat.reduceBEq, forall_const, implies_true, exists_const, ne_eq, Int.reduceAdd, Int.reduceSub, Int.reduceMul, Int.reduceBEq, Int.reduceEq, Int.reduceLT, Int.reduceLE, Int.reduceToNat, Int.reduceNeg, Int.reduceBNe, encPn, Ad.unpinM, g0, g1, g2, if_false, encHa]
theorem adEnd_spec (h : Ha) (who : Int) (hl : h.cl.length + h.q.length ≤ 1000000) : Spec Try.prog 19 [.agg (encHa h), rI who] (.val (encEd (Ad.endM h who))) := by
  refine spec_val mixed fn19 (by simp) ?_
  unfold ac19
  simp -implicitDefEqProofs only [↓aP, aQ, ↓reduceIte, Nat.reduceEqDiff, Nat.reduceAdd, Nat.reduceSub, Nat.reduceMul, Nat.reduceLT, Nat.reduceLeDiff, reduceCtorEq, Nat.reduceBEq, forall_const, implies_true, exists_const, ne_eq, Int.reduceAdd, Int.reduceSub, Int.reduceMul, Int.reduceBEq, Int.reduceEq, Int.reduceLT, Int.reduceLE, Int.reduceToNat, Int.reduceNeg, Int.reduceBNe, encHa]
  refine ask (adRight_spec h hl) ?_
  cases hr : Ad.right h
  · simp -implicitDefEqProofs only [↓aP, aQ, ↓reduceIte, Nat.reduceEqDiff, Nat.reduceAdd, Nat.reduceSub, Nat.reduceMul, Nat.reduceLT, Nat.reduceLeDiff, reduceCtorEq, Nat.reduceBEq, forall_const, implies_true, exists_const, ne_eq, Int.reduceAdd, Int.reduceSub, Int.reduceMul, Int.reduceBEq, Int.reduceEq, Int.reduceLT, Int.reduceLE, Int.reduceToNat, Int.reduceNeg, Int.reduceBNe, encEd, Ad.endM, hr, if_true, encHa, List.map_nil]
  obtain ⟨h40, h8⟩ := right_len hr
  have g0 : ¬ (Ad.right h = false) := by simp [hr]
  simp -implicitDefEqProofs only [↓aP, aQ, ↓reduceIte, Nat.reduceEqDiff, Nat.reduceAdd, Nat.reduceSub, Nat.reduceMul, Nat.reduceLT, Nat.reduceLeDiff, reduceCtorEq, Nat.reduceBEq, forall_const, implies_true, exists_const, ne_eq, Int.reduceAdd, Int.reduceSub, Int.reduceMul, Int.reduceBEq, Int.reduceEq, Int.reduceLT, Int.reduceLE, Int.reduceToNat, Int.reduceNeg, Int.reduceBNe, encHa]
  refine ask (client_spec h who (by omega)) ?_
  by_cases h1 : Ad.cAt h who < h.cl.length
  · have hpre := Ad.pre_endC hr h1
    simp -implicitDefEqProofs only [↓aP, aQ, ↓reduceIte, Nat.reduceEqDiff, Nat.reduceAdd, Nat.reduceSub, Nat.reduceMul, Nat.reduceLT, Nat.reduceLeDiff, reduceCtorEq, Nat.reduceBEq, forall_const, implies_true, exists_const, ne_eq, Int.reduceAdd, Int.reduceSub, Int.reduceMul, Int.reduceBEq, Int.reduceEq, Int.reduceLT, Int.reduceLE, Int.reduceToNat, Int.reduceNeg, Int.reduceBNe, fst_cAt, h1, if_true, show decide ((0 : Int) ≤ ((Ad.cAt h who : Nat) : Int)) = true by simp, encHa, List.length_map]
    refine ask (cloneCl (h.cl.map encCl) (by simp; omega)) ?_
    simp -implicitDefEqProofs only [↓aP, aQ, ↓reduceIte, Nat.reduceEqDiff, Nat.reduceAdd, Nat.reduceSub, Nat.reduceMul, Nat.reduceLT, Nat.reduceLeDiff, reduceCtorEq, Nat.reduceBEq, forall_const, implies_true, exists_const, ne_eq, Int.reduceAdd, Int.reduceSub, Int.reduceMul, Int.reduceBEq, Int.reduceEq, Int.reduceLT, Int.reduceLE, Int.reduceToNat, Int.reduceNeg, Int.reduceBNe, encHa, List.length_map, wrapS (show Ad.cAt h who < 4611686018427387904 by omega)]
    refine askX2 (delCl_spec (h.cl.map encCl) (Ad.cAt h who) (by simpa using h1) (by simp; omega)) (by simp -implicitDefEqProofs only [↓aP, aQ, ↓reduceIte, Nat.reduceEqDiff, Nat.reduceAdd, Nat.reduceSub, Nat.reduceMul, Nat.reduceLT, Nat.reduceLeDiff, reduceCtorEq, Nat.reduceBEq, forall_const, implies_true, exists_const, ne_eq, Int.reduceAdd, Int.reduceSub, Int.reduceMul, Int.reduceBEq, Int.reduceEq, Int.reduceLT, Int.reduceLE, Int.reduceToNat, Int.reduceNeg, Int.reduceBNe]; rfl) ?_
    simp -implicitDefEqProofs only [↓aP, aQ, ↓reduceIte, Nat.reduceEqDiff, Nat.reduceAdd, Nat.reduceSub, Nat.reduceMul, Nat.reduceLT, Nat.reduceLeDiff, reduceCtorEq, Nat.reduceBEq, forall_const, implies_true, exists_const, ne_eq, Int.reduceAdd, Int.reduceSub, Int.reduceMul, Int.reduceBEq, Int.reduceEq, Int.reduceLT, Int.reduceLE, Int.reduceToNat, Int.reduceNeg, Int.reduceBNe, XR.lb, encHa, List.length_map, show (h.cl.map encCl).eraseIdx (Ad.cAt h who) = (h.cl.eraseIdx (Ad.cAt h who)).map encCl from erase_map]
    refine ask (by have := enter_spec _ hpre; rw [encHa_eq] at this; exact this) ?_
    simp -implicitDefEqProofs only [↓aP, aQ, ↓reduceIte, Nat.reduceEqDiff, Nat.reduceAdd, Nat.reduceSub, Nat.reduceMul, Nat.reduceLT, Nat.reduceLeDiff, reduceCtorEq, Nat.reduceBEq, forall_const, implies_true, exists_const, ne_eq, Int.reduceAdd, Int.reduceSub, Int.reduceMul, Int.reduceBEq, Int.reduceEq, Int.reduceLT, Int.reduceLE, Int.reduceToNat, Int.reduceNeg, Int.reduceBNe, encEn, encHa]
    simp -implicitDefEqProofs only [↓aP, aQ, ↓reduceIte, Nat.reduceEqDiff, Nat.reduceAdd, Nat.reduceSub, Nat.reduceMul, Nat.reduceLT, Nat.reduceLeDiff, reduceCtorEq, Nat.reduceBEq, forall_const, implies_true, exists_const, ne_eq, Int.reduceAdd, Int.reduceSub, Int.reduceMul, Int.reduceBEq, Int.reduceEq, Int.reduceLT, Int.reduceLE, Int.reduceToNat, Int.reduceNeg, Int.reduceBNe, encEd, Ad.endM, g0, if_false, h1, if_true, encHa]
  simp -implicitDefEqProofs only [↓aP, aQ, ↓reduceIte, Nat.reduceEqDiff, Nat.reduceAdd, Nat.reduceSub, Nat.reduceMul, Nat.reduceLT, Nat.reduceLeDiff, reduceCtorEq, Nat.reduceBEq, forall_const, implies_true, exists_const, ne_eq, Int.reduceAdd, Int.reduceSub, Int.reduceMul, Int.reduceBEq, Int.reduceEq, Int.reduceLT, Int.reduceLE, Int.reduceToNat, Int.reduceNeg, Int.reduceBNe, fst_cAt, h1, if_false, show decide ((0 : Int) ≤ -1) = false by decide, encHa]
  refine ask (ticket_spec h who (by omega)) ?_
  by_cases h2 : Ad.tAt h who < h.q.length
  · have hpre := Ad.pre_endQ (k := Ad.tAt h who) hr
    simp -implicitDefEqProofs only [↓aP, aQ, ↓reduceIte, Nat.reduceEqDiff, Nat.reduceAdd, Nat.reduceSub, Nat.reduceMul, Nat.reduceLT, Nat.reduceLeDiff, reduceCtorEq, Nat.reduceBEq, forall_const, implies_true, exists_const, ne_eq, Int.reduceAdd, Int.reduceSub, Int.reduceMul, Int.reduceBEq, Int.reduceEq, Int.reduceLT, Int.reduceLE, Int.reduceToNat, Int.reduceNeg, Int.reduceBNe, fst_tAt, h2, if_true, show decide ((0 : Int) ≤ ((Ad.tAt h who : Nat) : Int)) = true by simp, encHa, List.length_map]
    refine ask (cloneTk (h.q.map encTk) (by simp; omega)) ?_
    simp -implicitDefEqProofs only [↓aP, aQ, ↓reduceIte, Nat.reduceEqDiff, Nat.reduceAdd, Nat.reduceSub, Nat.reduceMul, Nat.reduceLT, Nat.reduceLeDiff, reduceCtorEq, Nat.reduceBEq, forall_const, implies_true, exists_const, ne_eq, Int.reduceAdd, Int.reduceSub, Int.reduceMul, Int.reduceBEq, Int.reduceEq, Int.reduceLT, Int.reduceLE, Int.reduceToNat, Int.reduceNeg, Int.reduceBNe, encHa, List.length_map, wrapS (show Ad.tAt h who < 4611686018427387904 by omega)]
    refine askX2 (delTk_spec (h.q.map encTk) (Ad.tAt h who) (by simpa using h2) (by simp; omega)) (by simp -implicitDefEqProofs only [↓aP, aQ, ↓reduceIte, Nat.reduceEqDiff, Nat.reduceAdd, Nat.reduceSub, Nat.reduceMul, Nat.reduceLT, Nat.reduceLeDiff, reduceCtorEq, Nat.reduceBEq, forall_const, implies_true, exists_const, ne_eq, Int.reduceAdd, Int.reduceSub, Int.reduceMul, Int.reduceBEq, Int.reduceEq, Int.reduceLT, Int.reduceLE, Int.reduceToNat, Int.reduceNeg, Int.reduceBNe]; rfl) ?_
    simp -implicitDefEqProofs only [↓aP, aQ, ↓reduceIte, Nat.reduceEqDiff, Nat.reduceAdd, Nat.reduceSub, Nat.reduceMul, Nat.reduceLT, Nat.reduceLeDiff, reduceCtorEq, Nat.reduceBEq, forall_const, implies_true, exists_const, ne_eq, Int.reduceAdd, Int.reduceSub, Int.reduceMul, Int.reduceBEq, Int.reduceEq, Int.reduceLT, Int.reduceLE, Int.reduceToNat, Int.reduceNeg, Int.reduceBNe, XR.lb, encHa, List.length_map, show (h.q.map encTk).eraseIdx (Ad.tAt h who) = (h.q.eraseIdx (Ad.tAt h who)).map encTk from erase_map]
    refine ask (by have := enter_spec _ hpre; rw [encHa_eq] at this; exact this) ?_
    simp -implicitDefEqProofs only [↓aP, aQ, ↓reduceIte, Nat.reduceEqDiff, Nat.reduceAdd, Nat.reduceSub, Nat.reduceMul, Nat.reduceLT, Nat.reduceLeDiff, reduceCtorEq, Nat.reduceBEq, forall_const, implies_true, exists_const, ne_eq, Int.reduceAdd, Int.reduceSub, Int.reduceMul, Int.reduceBEq, Int.reduceEq, Int.reduceLT, Int.reduceLE, Int.reduceToNat, Int.reduceNeg, Int.reduceBNe, encEn, encHa]
    simp -implicitDefEqProofs only [↓aP, aQ, ↓reduceIte, Nat.reduceEqDiff, Nat.reduceAdd, Nat.reduceSub, Nat.reduceMul, Nat.reduceLT, Nat.reduceLeDiff, reduceCtorEq, Nat.reduceBEq, forall_const, implies_true, exists_const, ne_eq, Int.reduceAdd, Int.reduceSub, Int.reduceMul, Int.reduceBEq, Int.reduceEq, Int.reduceLT, Int.reduceLE, Int.reduceToNat, Int.reduceNeg, Int.reduceBNe, encEd, Ad.endM, g0, if_false, h1, h2, if_true, encHa]
  · simp -implicitDefEqProofs only [↓aP, aQ, ↓reduceIte, Nat.reduceEqDiff, Nat.reduceAdd, Nat.reduceSub, Nat.reduceMul, Nat.reduceLT, Nat.reduceLeDiff, reduceCtorEq, Nat.reduceBEq, forall_const, implies_true, exists_const, ne_eq, Int.reduceAdd, Int.reduceSub, Int.reduceMul, Int.reduceBEq, Int.reduceEq, Int.reduceLT, Int.reduceLE, Int.reduceToNat, Int.reduceNeg, Int.reduceBNe, fst_tAt, h2, if_false, show decide ((0 : Int) ≤ -1) = false by decide, encEd, Ad.endM, g0, h1, encHa, List.map_nil]
end Go.Proofs.Yteghmlafodkfpaa
