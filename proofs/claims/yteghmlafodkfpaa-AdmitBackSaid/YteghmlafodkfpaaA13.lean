/- layer 11: the document's words: let, and what is done. -/
import Derived.Test.YteghmlafodkfpaaA12
namespace Go.Proofs.Yteghmlafodkfpaa
open Go.RowKit
set_option linter.unusedVariables false
set_option linter.unusedSimpArgs false

set_option maxRecDepth 100000 in
set_option maxHeartbeats 4000000 in
theorem let_spec (h : Ha) (hp : Ad.Pre h) : Spec Try.prog 60 [.agg (encHa h)] (.val (encEn (Ad.entH h) (Ad.came h))) := by
  refine spec_val mixed fn60 (by simp) ?_
  unfold ac60
  simp -implicitDefEqProofs only [↓aP, aQ, ↓reduceIte, Nat.reduceEqDiff, Nat.reduceAdd, Nat.reduceSub, Nat.reduceMul, Nat.reduceLT, Nat.reduceLeDiff, reduceCtorEq, Nat.reduceBEq, forall_const, implies_true, exists_const, ne_eq, Int.reduceAdd, Int.reduceSub, Int.reduceMul, Int.reduceBEq, Int.reduceEq, Int.reduceLT, Int.reduceLE, Int.reduceToNat, Int.reduceNeg, Int.reduceBNe, encHa, encEn]
  refine shift (sub_slot (s := 4) 19 3 1 rfl (by exact Nat.succ_pos _)) ?_
  refine loopA (fun m σ => ∃ cl q ws g, Ad.Pre ⟨h.fr, h.bu, cl, q⟩ ∧ m = q.length ∧ ws.length + q.length ≤ 40 ∧ Ad.ent h.fr h.cl h.q = ((Ad.ent h.fr cl q).1, ws ++ (Ad.ent h.fr cl q).2) ∧ ((σ.h.blk 1 = .box 29 4 [(encHa ⟨h.fr, h.bu, cl, q⟩).map AC.s]) ∨ (∃ g1, σ.h.gen 11 = g1 ∧ σ.h.blk 11 = .row 100 3 (cl.map encCl) ∧ σ.h.blk 1 = .box 29 4 [[.s (.pv (.int .i64 h.fr)), .s (.pv (.int .i64 h.bu)), .own 11 g1, .s (.sl 2 (q.map encTk))]])) ∧ σ.slot 1 = .c (.ptr 1 1 0 0) ∧ σ.h.gen 1 = 1 ∧ σ.slot 2 = .c (.ptr 2 1 0 0) ∧ σ.h.gen 2 = 1 ∧ σ.h.blk 2 = .box 29 4 [[.s (.pv (.int .i64 0)), .s (.pv (.int .i64 0)), .zc, .zc]] ∧ σ.slot 4 = .c (.own 19 g) ∧ σ.h.gen 19 = g ∧ σ.h.blk 19 = .row 3 1 (ws.map encI)) h.q.length ?_ ?_
  · simp -implicitDefEqProofs only [↓aP, aQ, ↓reduceIte, Nat.reduceEqDiff, Nat.reduceAdd, Nat.reduceSub, Nat.reduceMul, Nat.reduceLT, Nat.reduceLeDiff, reduceCtorEq, Nat.reduceBEq, forall_const, implies_true, exists_const, ne_eq, Int.reduceAdd, Int.reduceSub, Int.reduceMul, Int.reduceBEq, Int.reduceEq, Int.reduceLT, Int.reduceLE, Int.reduceToNat, Int.reduceNeg, Int.reduceBNe, encHa]
    refine ⟨h.cl, h.q, [], 1, hp, rfl, ?_, rfl, ?_⟩
    · have := hp.2.2.1; simp; omega
    · simp -implicitDefEqProofs only [↓aP, aQ, ↓reduceIte, Nat.reduceEqDiff, Nat.reduceAdd, Nat.reduceSub, Nat.reduceMul, Nat.reduceLT, Nat.reduceLeDiff, reduceCtorEq, Nat.reduceBEq, forall_const, implies_true, exists_const, ne_eq, Int.reduceAdd, Int.reduceSub, Int.reduceMul, Int.reduceBEq, Int.reduceEq, Int.reduceLT, Int.reduceLE, Int.reduceToNat, Int.reduceNeg, Int.reduceBNe, encHa]
  · rintro m σ ⟨cl, q, ws, g, hx, hm, hlen, hent, hb1, s1, g1, s2, g2, b2, s4, g19, b19⟩
    have hx1 := hx.2.2.1
    have hf := fine_pre hx
    simp only at hx1
    cases hmay : Ad.may ⟨h.fr, h.bu, cl, q⟩
    · have en := ent_no hmay
      rw [en] at hent
      have e1 : Ad.entH h = ⟨h.fr, h.bu, cl, q⟩ := by unfold Ad.entH; rw [hent]
      have e2 : Ad.came h = ws := by unfold Ad.came; rw [hent, List.append_nil]
      rcases hb1 with b1 | ⟨g11, hg11, b11, b1⟩
      · simp -implicitDefEqProofs only [↓aP, aQ, ↓reduceIte, Nat.reduceEqDiff, Nat.reduceAdd, Nat.reduceSub, Nat.reduceMul, Nat.reduceLT, Nat.reduceLeDiff, reduceCtorEq, Nat.reduceBEq, forall_const, implies_true, exists_const, ne_eq, Int.reduceAdd, Int.reduceSub, Int.reduceMul, Int.reduceBEq, Int.reduceEq, Int.reduceLT, Int.reduceLE, Int.reduceToNat, Int.reduceNeg, Int.reduceBNe, s1, g1, s2, g2, b2, s4, g19, b19, b1, encHa]
        refine ask (rmay_spec ⟨h.fr, h.bu, cl, q⟩ hf) ?_
        simp -implicitDefEqProofs only [↓aP, aQ, ↓reduceIte, Nat.reduceEqDiff, Nat.reduceAdd, Nat.reduceSub, Nat.reduceMul, Nat.reduceLT, Nat.reduceLeDiff, reduceCtorEq, Nat.reduceBEq, forall_const, implies_true, exists_const, ne_eq, Int.reduceAdd, Int.reduceSub, Int.reduceMul, Int.reduceBEq, Int.reduceEq, Int.reduceLT, Int.reduceLE, Int.reduceToNat, Int.reduceNeg, Int.reduceBNe, hmay, s1, g1, s2, g2, b2, s4, g19, b19, b1, encHa, e1, e2]
      · simp -implicitDefEqProofs only [↓aP, aQ, ↓reduceIte, Nat.reduceEqDiff, Nat.reduceAdd, Nat.reduceSub, Nat.reduceMul, Nat.reduceLT, Nat.reduceLeDiff, reduceCtorEq, Nat.reduceBEq, forall_const, implies_true, exists_const, ne_eq, Int.reduceAdd, Int.reduceSub, Int.reduceMul, Int.reduceBEq, Int.reduceEq, Int.reduceLT, Int.reduceLE, Int.reduceToNat, Int.reduceNeg, Int.reduceBNe, s1, g1, s2, g2, b2, s4, g19, b19, b1, hg11, b11]
        refine ask (rmay_spec ⟨h.fr, h.bu, cl, q⟩ hf) ?_
        simp -implicitDefEqProofs only [↓aP, aQ, ↓reduceIte, Nat.reduceEqDiff, Nat.reduceAdd, Nat.reduceSub, Nat.reduceMul, Nat.reduceLT, Nat.reduceLeDiff, reduceCtorEq, Nat.reduceBEq, forall_const, implies_true, exists_const, ne_eq, Int.reduceAdd, Int.reduceSub, Int.reduceMul, Int.reduceBEq, Int.reduceEq, Int.reduceLT, Int.reduceLE, Int.reduceToNat, Int.reduceNeg, Int.reduceBNe, hmay, s1, g1, s2, g2, b2, s4, g19, b19, b1, hg11, b11, encHa, e1, e2]
    · cases q with
      | nil => cases hmay
      | cons t q =>
      have p1 := Ad.pre_next hx hmay
      have en := ent_yes hmay
      rw [en] at hent
      simp only [List.length_cons] at hm hlen hx1
      have h8 := hf.2.2.1
      simp only at h8
      have tk : (q.map encTk).take q.length = q.map encTk := List.take_of_length_le (by simp)
      rcases hb1 with b1 | ⟨g11, hg11, b11, b1⟩
      · simp -implicitDefEqProofs only [↓aP, aQ, ↓reduceIte, Nat.reduceEqDiff, Nat.reduceAdd, Nat.reduceSub, Nat.reduceMul, Nat.reduceLT, Nat.reduceLeDiff, reduceCtorEq, Nat.reduceBEq, forall_const, implies_true, exists_const, ne_eq, Int.reduceAdd, Int.reduceSub, Int.reduceMul, Int.reduceBEq, Int.reduceEq, Int.reduceLT, Int.reduceLE, Int.reduceToNat, Int.reduceNeg, Int.reduceBNe, s1, g1, s2, g2, b2, s4, g19, b19, b1, encHa]
        refine ask (rmay_spec ⟨h.fr, h.bu, cl, t :: q⟩ hf) ?_
        simp -implicitDefEqProofs only [↓aP, aQ, ↓reduceIte, Nat.reduceEqDiff, Nat.reduceAdd, Nat.reduceSub, Nat.reduceMul, Nat.reduceLT, Nat.reduceLeDiff, reduceCtorEq, Nat.reduceBEq, forall_const, implies_true, exists_const, ne_eq, Int.reduceAdd, Int.reduceSub, Int.reduceMul, Int.reduceBEq, Int.reduceEq, Int.reduceLT, Int.reduceLE, Int.reduceToNat, Int.reduceNeg, Int.reduceBNe, hmay, s1, g1, s2, g2, b2, s4, g19, b19, b1, encHa, encTk, List.map_cons, List.length_map, tk]
        refine ⟨by omega, by omega, by omega, by omega, by omega, by omega, by omega, by decide +kernel, q.length, by omega, cl ++ [Ad.mk t], q, ws ++ [t.who], g + 1, p1, rfl, by simp; omega, ?_, .inr ⟨_, rfl, ?_, rfl⟩, rfl, rfl, ?_⟩
        · rw [hent]; simp
        · simp [encCl, Ad.mk]
        · simp [encI]
      · simp -implicitDefEqProofs only [↓aP, aQ, ↓reduceIte, Nat.reduceEqDiff, Nat.reduceAdd, Nat.reduceSub, Nat.reduceMul, Nat.reduceLT, Nat.reduceLeDiff, reduceCtorEq, Nat.reduceBEq, forall_const, implies_true, exists_const, ne_eq, Int.reduceAdd, Int.reduceSub, Int.reduceMul, Int.reduceBEq, Int.reduceEq, Int.reduceLT, Int.reduceLE, Int.reduceToNat, Int.reduceNeg, Int.reduceBNe, s1, g1, s2, g2, b2, s4, g19, b19, b1, hg11, b11]
        refine ask (rmay_spec ⟨h.fr, h.bu, cl, t :: q⟩ hf) ?_
        simp -implicitDefEqProofs only [↓aP, aQ, ↓reduceIte, Nat.reduceEqDiff, Nat.reduceAdd, Nat.reduceSub, Nat.reduceMul, Nat.reduceLT, Nat.reduceLeDiff, reduceCtorEq, Nat.reduceBEq, forall_const, implies_true, exists_const, ne_eq, Int.reduceAdd, Int.reduceSub, Int.reduceMul, Int.reduceBEq, Int.reduceEq, Int.reduceLT, Int.reduceLE, Int.reduceToNat, Int.reduceNeg, Int.reduceBNe, hmay, s1, g1, s2, g2, b2, s4, g19, b19, b1, hg11, b11, encHa, encTk, List.map_cons, List.length_map, tk]
        refine ⟨by omega, by omega, by omega, by omega, by omega, by omega, by omega, by decide +kernel, q.length, by omega, cl ++ [Ad.mk t], q, ws ++ [t.who], g + 1, p1, rfl, by simp; omega, ?_, .inr ⟨_, rfl, ?_, rfl⟩, rfl, rfl, ?_⟩
        · rw [hent]; simp
        · simp [encCl, Ad.mk]
        · simp [encI]

def clM (h : Ha) (who : Int) : Cl × Bool := if Ad.cAt h who < h.cl.length then (h.cl.getD (Ad.cAt h who) default, true) else (⟨0, 0, 0⟩, false)
theorem rClient_spec (h : Ha) (who : Int) (hl : h.cl.length + h.q.length ≤ 1000000) : Spec Try.prog 72 [.agg (encHa h), rI who] (.val (.tup [(true, encCl (clM h who).1), (false, [.pv (.bool (clM h who).2)])])) := by
  refine spec_val mixed fn72 (by simp) ?_
  unfold ac72
  simp -implicitDefEqProofs only [↓aP, aQ, ↓reduceIte, Nat.reduceEqDiff, Nat.reduceAdd, Nat.reduceSub, Nat.reduceMul, Nat.reduceLT, Nat.reduceLeDiff, reduceCtorEq, Nat.reduceBEq, forall_const, implies_true, exists_const, ne_eq, Int.reduceAdd, Int.reduceSub, Int.reduceMul, Int.reduceBEq, Int.reduceEq, Int.reduceLT, Int.reduceLE, Int.reduceToNat, Int.reduceNeg, Int.reduceBNe, encHa]
  refine rangeB h.cl.length (fun i σ => (∀ k (hk : k < h.cl.length), k < i → h.cl[k].who ≠ who) ∧ σ.slot 1 = vI who ∧ σ.slot 2 = .c (.ptr 2 1 0 0) ∧ σ.h.gen 2 = 1 ∧ σ.h.blk 2 = .box 29 4 [(encHa h).map AC.s] ∧ σ.slot 4 = .c (.ptr 4 1 0 0) ∧ σ.h.gen 4 = 1 ∧ σ.h.blk 4 = .box 100 3 [[.s (.pv (.int .i64 0)), .s (.pv (.int .i64 0)), .s (.pv (.int .i64 0))]] ∧ σ.slot 6 = vI i) ?_ ?_ ?_
  · simp -implicitDefEqProofs only [↓aP, aQ, ↓reduceIte, Nat.reduceEqDiff, Nat.reduceAdd, Nat.reduceSub, Nat.reduceMul, Nat.reduceLT, Nat.reduceLeDiff, reduceCtorEq, Nat.reduceBEq, forall_const, implies_true, exists_const, ne_eq, Int.reduceAdd, Int.reduceSub, Int.reduceMul, Int.reduceBEq, Int.reduceEq, Int.reduceLT, Int.reduceLE, Int.reduceToNat, Int.reduceNeg, Int.reduceBNe, encHa]
    exact fun k _ hk => by omega
  · rintro i m σ him hi hlt ⟨hno, s1, s2, g2, b2, s4, g4, b4, s6⟩
    by_cases he : h.cl[i].who = who
    · have hat : Ad.cAt h who = i := by
        unfold Ad.cAt
        rw [List.findIdx_eq hi]
        exact ⟨by simpa using he, fun j hj => by simpa using hno j (by omega) hj⟩
      have e1 : clM h who = (h.cl[i], true) := by unfold clM; rw [hat, if_pos hi, Ad.getD_at hi]
      simp -implicitDefEqProofs only [↓aP, aQ, ↓reduceIte, Nat.reduceEqDiff, Nat.reduceAdd, Nat.reduceSub, Nat.reduceMul, Nat.reduceLT, Nat.reduceLeDiff, reduceCtorEq, Nat.reduceBEq, forall_const, implies_true, exists_const, ne_eq, Int.reduceAdd, Int.reduceSub, Int.reduceMul, Int.reduceBEq, Int.reduceEq, Int.reduceLT, Int.reduceLE, Int.reduceToNat, Int.reduceNeg, Int.reduceBNe, hlt, s1, s2, g2, b2, s4, g4, b4, s6, encHa, askIdx_map, hi, encCl, List.length_map, show (h.cl[i].who == who) = true by simpa using he, e1]
    · simp -implicitDefEqProofs only [↓aP, aQ, ↓reduceIte, Nat.reduceEqDiff, Nat.reduceAdd, Nat.reduceSub, Nat.reduceMul, Nat.reduceLT, Nat.reduceLeDiff, reduceCtorEq, Nat.reduceBEq, forall_const, implies_true, exists_const, ne_eq, Int.reduceAdd, Int.reduceSub, Int.reduceMul, Int.reduceBEq, Int.reduceEq, Int.reduceLT, Int.reduceLE, Int.reduceToNat, Int.reduceNeg, Int.reduceBNe, hlt, s1, s2, g2, b2, s4, g4, b4, s6, encHa, askIdx_map, hi, encCl, List.length_map, show (h.cl[i].who == who) = false by simpa using he, wrapS (show i < 4611686018427387904 by omega)]
      refine nextR hi him ⟨fun k hk hki => ?_, ?_⟩
      · by_cases e : k = i
        · subst e; exact he
        · exact hno k hk (by omega)
      · simp -implicitDefEqProofs only [↓aP, aQ, ↓reduceIte, Nat.reduceEqDiff, Nat.reduceAdd, Nat.reduceSub, Nat.reduceMul, Nat.reduceLT, Nat.reduceLeDiff, reduceCtorEq, Nat.reduceBEq, forall_const, implies_true, exists_const, ne_eq, Int.reduceAdd, Int.reduceSub, Int.reduceMul, Int.reduceBEq, Int.reduceEq, Int.reduceLT, Int.reduceLE, Int.reduceToNat, Int.reduceNeg, Int.reduceBNe, s1, s2, g2, b2, s4, g4, b4, s6, encHa]
  · rintro m σ hlt ⟨hno, s1, s2, g2, b2, s4, g4, b4, s6⟩
    have e1 : clM h who = (⟨0, 0, 0⟩, false) := by
      unfold clM
      rw [if_neg]
      intro hx
      exact hno _ hx hx (Ad.cAt_who hx)
    simp -implicitDefEqProofs only [↓aP, aQ, ↓reduceIte, Nat.reduceEqDiff, Nat.reduceAdd, Nat.reduceSub, Nat.reduceMul, Nat.reduceLT, Nat.reduceLeDiff, reduceCtorEq, Nat.reduceBEq, forall_const, implies_true, exists_const, ne_eq, Int.reduceAdd, Int.reduceSub, Int.reduceMul, Int.reduceBEq, Int.reduceEq, Int.reduceLT, Int.reduceLE, Int.reduceToNat, Int.reduceNeg, Int.reduceBNe, hlt, s1, s2, g2, b2, s4, g4, b4, s6, encHa, List.length_map, e1, encCl]
end Go.Proofs.Yteghmlafodkfpaa
