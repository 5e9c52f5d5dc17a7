/- layer 6: the contract of Done. -/
import Derived.Test.YtfmbfgoofiojcaaSD
namespace Go.Proofs.Ytfmbfgoofiojcaa
open Go.RowKit Lk
set_option linter.unusedVariables false
set_option linter.unusedSimpArgs false
def encDn (x : Sd × Jb × Int × Bool) : TV SC := .tup [(true, encSd x.1), (true, encJb x.2.1), (false, [.pv (.int .i64 x.2.2.1)]), (false, [.pv (.bool x.2.2.2)])]
theorem encSx_eq (s : Sd) : encSx s (.sl 1 (s.js.map encJs)) = encSd s := rfl
set_option maxRecDepth 100000 in
set_option maxHeartbeats 4000000 in
theorem sdone_spec (s : Sd) (i : Int) (fault : Bool) (h : Shs s) : Spec Try.prog 31 [.agg (encSd s), rI i, rB fault] (.val (encDn (Sc.doneS s i fault))) := by
  refine spec_val mixed fn31 (by simp) ?_
  unfold ac31
  simp -implicitDefEqProofs only [↓aP, aQ, ↓reduceIte, Nat.reduceEqDiff, Nat.reduceAdd, Nat.reduceSub, Nat.reduceMul, Nat.reduceLT, Nat.reduceLeDiff, reduceCtorEq, Nat.reduceBEq, forall_const, implies_true, exists_const, ne_eq, Int.reduceAdd, Int.reduceSub, Int.reduceMul, Int.reduceBEq, Int.reduceEq, Int.reduceLT, Int.reduceLE, Int.reduceToNat, Int.reduceNeg, Int.reduceBNe, encSd, encDn]
  refine ask (by have := sright_spec s h; rw [encSd] at this; exact this) ?_
  have bad : (Sc.rightS s = false ∨ i < 0 ∨ (s.out.length : Int) ≤ i) → Sc.doneS s i fault = (s, zJ, 1, false) := fun h => by unfold Sc.doneS; rw [if_pos h]
  cases r1 : Sc.rightS s
  · simp -implicitDefEqProofs only [↓aP, aQ, ↓reduceIte, Nat.reduceEqDiff, Nat.reduceAdd, Nat.reduceSub, Nat.reduceMul, Nat.reduceLT, Nat.reduceLeDiff, reduceCtorEq, Nat.reduceBEq, forall_const, implies_true, exists_const, ne_eq, Int.reduceAdd, Int.reduceSub, Int.reduceMul, Int.reduceBEq, Int.reduceEq, Int.reduceLT, Int.reduceLE, Int.reduceToNat, Int.reduceNeg, Int.reduceBNe, bad (.inl r1), encSd, encJb, zJ]
  by_cases h0 : i < 0
  · simp -implicitDefEqProofs only [↓aP, aQ, ↓reduceIte, Nat.reduceEqDiff, Nat.reduceAdd, Nat.reduceSub, Nat.reduceMul, Nat.reduceLT, Nat.reduceLeDiff, reduceCtorEq, Nat.reduceBEq, forall_const, implies_true, exists_const, ne_eq, Int.reduceAdd, Int.reduceSub, Int.reduceMul, Int.reduceBEq, Int.reduceEq, Int.reduceLT, Int.reduceLE, Int.reduceToNat, Int.reduceNeg, Int.reduceBNe, encSd, decide_eq_true h0, bad (.inr (.inl h0)), encJb, zJ]
  by_cases h1 : (s.out.length : Int) ≤ i
  · simp -implicitDefEqProofs only [↓aP, aQ, ↓reduceIte, Nat.reduceEqDiff, Nat.reduceAdd, Nat.reduceSub, Nat.reduceMul, Nat.reduceLT, Nat.reduceLeDiff, reduceCtorEq, Nat.reduceBEq, forall_const, implies_true, exists_const, ne_eq, Int.reduceAdd, Int.reduceSub, Int.reduceMul, Int.reduceBEq, Int.reduceEq, Int.reduceLT, Int.reduceLE, Int.reduceToNat, Int.reduceNeg, Int.reduceBNe, encSd, decide_eq_false h0, List.length_map, decide_eq_true h1, bad (.inr (.inr h1)), encJb, zJ]
  obtain ⟨k, rfl⟩ : ∃ k : Nat, i = k := ⟨i.toNat, by omega⟩
  have hr := Sc.rs_iff.1 r1
  have hlen := hr.len
  have hk : k < s.out.length := by omega
  have hkf : k < s.dv.flight.length := by have := hr.m; omega
  have hfit := hr.fl k hk hkf
  unfold Sc.fitJ at hfit
  rw [Bool.and_eq_true, Bool.and_eq_true, decide_eq_true_iff, decide_eq_true_iff] at hfit
  obtain ⟨_, _, ht⟩ := hfit
  have eo : s.out.getD (k : Int).toNat zJ = s.out[k] := by rw [Int.toNat_natCast, List.getD_eq_getElem?_getD, List.getElem?_eq_getElem hk]; rfl
  have her : (s.out.map encJb).eraseIdx k = (s.out.eraseIdx k).map encJb := by simp [List.eraseIdx_eq_take_drop_succ, List.map_take, List.map_drop]
  simp -implicitDefEqProofs only [↓aP, aQ, ↓reduceIte, Nat.reduceEqDiff, Nat.reduceAdd, Nat.reduceSub, Nat.reduceMul, Nat.reduceLT, Nat.reduceLeDiff, reduceCtorEq, Nat.reduceBEq, forall_const, implies_true, exists_const, ne_eq, Int.reduceAdd, Int.reduceSub, Int.reduceMul, Int.reduceBEq, Int.reduceEq, Int.reduceLT, Int.reduceLE, Int.reduceToNat, Int.reduceNeg, Int.reduceBNe, encSd, decide_eq_false h0, List.length_map, decide_eq_false h1]
  refine ask (by have := finish_spec s.dv (k : Int) fault; rw [encDv] at this; exact this) ?_
  have hd : Sc.doneS s k fault = if (finishV s.dv k fault).2.2 = 8 ∧ s.out[k].tries < 3 ∧ (finishV s.dv k fault).1.next < 2147483647 then (Sc.submS ⟨s.l, s.js, (finishV s.dv k fault).1, s.out.eraseIdx k⟩ s.out[k], zJ, 0, false)
      else (⟨s.l, s.js, (finishV s.dv k fault).1, s.out.eraseIdx k⟩, ⟨s.out[k].who, s.out[k].kind, s.out[k].page, (finishV s.dv k fault).2.1.data, s.out[k].tries⟩, (finishV s.dv k fault).2.2, true) := by
    have hno : ¬ (Sc.rightS s = false ∨ (k : Int) < 0 ∨ (s.out.length : Int) ≤ (k : Int)) := by rw [r1]; simp; omega
    unfold Sc.doneS
    rw [if_neg hno, eo, Int.toNat_natCast]
  rw [hd]
  generalize hj : s.out[k] = j at ht
  generalize finishV s.dv k fault = F
  obtain ⟨D, Rr, E⟩ := F
  simp -implicitDefEqProofs only [↓aP, aQ, ↓reduceIte, Nat.reduceEqDiff, Nat.reduceAdd, Nat.reduceSub, Nat.reduceMul, Nat.reduceLT, Nat.reduceLeDiff, reduceCtorEq, Nat.reduceBEq, forall_const, implies_true, exists_const, ne_eq, Int.reduceAdd, Int.reduceSub, Int.reduceMul, Int.reduceBEq, Int.reduceEq, Int.reduceLT, Int.reduceLE, Int.reduceToNat, Int.reduceNeg, Int.reduceBNe, encFin, encDv, encRq, encSd, askIdx_map, hk, hj, encJb, wrapI (show -9223372036854775808 ≤ (k : Int) + 1 ∧ (k : Int) + 1 ≤ 9223372036854775807 by omega)]
  refine ask (cloneJb _ (by simp; omega)) ?_
  simp -implicitDefEqProofs only [↓aP, aQ, ↓reduceIte, Nat.reduceEqDiff, Nat.reduceAdd, Nat.reduceSub, Nat.reduceMul, Nat.reduceLT, Nat.reduceLeDiff, reduceCtorEq, Nat.reduceBEq, forall_const, implies_true, exists_const, ne_eq, Int.reduceAdd, Int.reduceSub, Int.reduceMul, Int.reduceBEq, Int.reduceEq, Int.reduceLT, Int.reduceLE, Int.reduceToNat, Int.reduceNeg, Int.reduceBNe, encSd, wrapI (show -9223372036854775808 ≤ (k : Int) + 1 ∧ (k : Int) + 1 ≤ 9223372036854775807 by omega)]
  refine askX2 (delJb_spec (s.out.map encJb) k (by simpa using hk) (by simp; omega)) (by simp -implicitDefEqProofs only [↓aP, aQ, ↓reduceIte, Nat.reduceEqDiff, Nat.reduceAdd, Nat.reduceSub, Nat.reduceMul, Nat.reduceLT, Nat.reduceLeDiff, reduceCtorEq, Nat.reduceBEq, forall_const, implies_true, exists_const, ne_eq, Int.reduceAdd, Int.reduceSub, Int.reduceMul, Int.reduceBEq, Int.reduceEq, Int.reduceLT, Int.reduceLE, Int.reduceToNat, Int.reduceNeg, Int.reduceBNe]) ?_
  simp -implicitDefEqProofs only [↓aP, aQ, ↓reduceIte, Nat.reduceEqDiff, Nat.reduceAdd, Nat.reduceSub, Nat.reduceMul, Nat.reduceLT, Nat.reduceLeDiff, reduceCtorEq, Nat.reduceBEq, forall_const, implies_true, exists_const, ne_eq, Int.reduceAdd, Int.reduceSub, Int.reduceMul, Int.reduceBEq, Int.reduceEq, Int.reduceLT, Int.reduceLE, Int.reduceToNat, Int.reduceNeg, Int.reduceBNe, her]
  have nx : ¬ (E = 8 ∧ j.tries < 3 ∧ D.next < 2147483647) → (if E = 8 ∧ j.tries < 3 ∧ D.next < 2147483647 then (Sc.submS ⟨s.l, s.js, D, s.out.eraseIdx k⟩ j, zJ, (0 : Int), false) else (⟨s.l, s.js, D, s.out.eraseIdx k⟩, ⟨j.who, j.kind, j.page, Rr.data, j.tries⟩, E, true)) = (⟨s.l, s.js, D, s.out.eraseIdx k⟩, ⟨j.who, j.kind, j.page, Rr.data, j.tries⟩, E, true) := fun h => if_neg h
  by_cases e1 : E = 8
  case neg =>
    rw [nx (fun h => e1 h.1)]
    simp -implicitDefEqProofs only [↓aP, aQ, ↓reduceIte, Nat.reduceEqDiff, Nat.reduceAdd, Nat.reduceSub, Nat.reduceMul, Nat.reduceLT, Nat.reduceLeDiff, reduceCtorEq, Nat.reduceBEq, forall_const, implies_true, exists_const, ne_eq, Int.reduceAdd, Int.reduceSub, Int.reduceMul, Int.reduceBEq, Int.reduceEq, Int.reduceLT, Int.reduceLE, Int.reduceToNat, Int.reduceNeg, Int.reduceBNe, show (E == 8) = false from beq_eq_false_iff_ne.2 e1, encSd, encJb]
    decide +kernel
  by_cases e2 : j.tries < 3
  case neg =>
    rw [nx (fun h => e2 h.2.1)]
    simp -implicitDefEqProofs only [↓aP, aQ, ↓reduceIte, Nat.reduceEqDiff, Nat.reduceAdd, Nat.reduceSub, Nat.reduceMul, Nat.reduceLT, Nat.reduceLeDiff, reduceCtorEq, Nat.reduceBEq, forall_const, implies_true, exists_const, ne_eq, Int.reduceAdd, Int.reduceSub, Int.reduceMul, Int.reduceBEq, Int.reduceEq, Int.reduceLT, Int.reduceLE, Int.reduceToNat, Int.reduceNeg, Int.reduceBNe, e1, beq_self_eq_true, decide_eq_false e2, encSd, encJb]
    decide +kernel
  by_cases e3 : D.next < 2147483647
  case neg =>
    rw [nx (fun h => e3 h.2.2)]
    simp -implicitDefEqProofs only [↓aP, aQ, ↓reduceIte, Nat.reduceEqDiff, Nat.reduceAdd, Nat.reduceSub, Nat.reduceMul, Nat.reduceLT, Nat.reduceLeDiff, reduceCtorEq, Nat.reduceBEq, forall_const, implies_true, exists_const, ne_eq, Int.reduceAdd, Int.reduceSub, Int.reduceMul, Int.reduceBEq, Int.reduceEq, Int.reduceLT, Int.reduceLE, Int.reduceToNat, Int.reduceNeg, Int.reduceBNe, e1, beq_self_eq_true, decide_eq_true e2, decide_eq_false e3, encSd, encJb]
    decide +kernel
  rw [if_pos ⟨e1, e2, e3⟩]
  simp -implicitDefEqProofs only [↓aP, aQ, ↓reduceIte, Nat.reduceEqDiff, Nat.reduceAdd, Nat.reduceSub, Nat.reduceMul, Nat.reduceLT, Nat.reduceLeDiff, reduceCtorEq, Nat.reduceBEq, forall_const, implies_true, exists_const, ne_eq, Int.reduceAdd, Int.reduceSub, Int.reduceMul, Int.reduceBEq, Int.reduceEq, Int.reduceLT, Int.reduceLE, Int.reduceToNat, Int.reduceNeg, Int.reduceBNe, e1, beq_self_eq_true, decide_eq_true e2, decide_eq_true e3, encSd, encJb]
  have cs := ssubm_spec ⟨s.l, s.js, D, s.out.eraseIdx k⟩ (.sl 1 (s.js.map encJs)) j (by show (s.out.eraseIdx k).length ≤ 1000000; have := List.length_eraseIdx_of_lt hk; omega) (by omega)
  simp only [encSx, encJb] at cs
  refine ask cs ?_
  simp -implicitDefEqProofs only [↓aP, aQ, ↓reduceIte, Nat.reduceEqDiff, Nat.reduceAdd, Nat.reduceSub, Nat.reduceMul, Nat.reduceLT, Nat.reduceLeDiff, reduceCtorEq, Nat.reduceBEq, forall_const, implies_true, exists_const, ne_eq, Int.reduceAdd, Int.reduceSub, Int.reduceMul, Int.reduceBEq, Int.reduceEq, Int.reduceLT, Int.reduceLE, Int.reduceToNat, Int.reduceNeg, Int.reduceBNe, encSd, encJb, zJ, Sc.submS]
end Go.Proofs.Ytfmbfgoofiojcaa
