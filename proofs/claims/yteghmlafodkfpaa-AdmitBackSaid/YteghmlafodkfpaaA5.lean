/- layer 11: the contract of enter. -/
import Derived.Test.YteghmlafodkfpaaA4
namespace Go.Proofs.Yteghmlafodkfpaa
open Go.RowKit
set_option linter.unusedVariables false
set_option linter.unusedSimpArgs false
def encEn (h : Ha) (c : List Int) : TV SC := .tup [(true, encHa h), (false, [.sl 1 (c.map encI)])]
theorem ent_yes {fr bu : Int} {cl : List Cl} {t : Tk} {q : List Tk} (hm : Ad.may ⟨fr, bu, cl, t :: q⟩ = true) : Ad.ent fr cl (t :: q) = ((Ad.ent fr (cl ++ [Ad.mk t]) q).1, t.who :: (Ad.ent fr (cl ++ [Ad.mk t]) q).2) := by
  conv => lhs; unfold Ad.ent
  rw [if_pos (show Ad.may ⟨fr, 0, cl, t :: q⟩ = true from hm)]
theorem ent_no {fr bu : Int} {cl : List Cl} {q : List Tk} (hm : Ad.may ⟨fr, bu, cl, q⟩ = false) : Ad.ent fr cl q = ((cl, q), []) := by
  cases q with
  | nil => rfl
  | cons t q =>
    conv => lhs; unfold Ad.ent
    rw [if_neg (show ¬ Ad.may ⟨fr, 0, cl, t :: q⟩ = true by rw [show Ad.may ⟨fr, 0, cl, t :: q⟩ = false from hm]; simp)]

theorem enter_spec (h : Ha) (hp : Ad.Pre h) : Spec Try.prog 57 [.agg (encHa h)] (.val (encEn (Ad.entH h) (Ad.came h))) := by
  refine spec_val mixed fn57 (by simp) ?_
  unfold ac57
  simp -implicitDefEqProofs only [↓aP, aQ, ↓reduceIte, Nat.reduceEqDiff, Nat.reduceAdd, Nat.reduceSub, Nat.reduceMul, Nat.reduceLT, Nat.reduceLeDiff, reduceCtorEq, Nat.reduceBEq, forall_const, implies_true, exists_const, ne_eq, Int.reduceAdd, Int.reduceSub, Int.reduceMul, Int.reduceBEq, Int.reduceEq, Int.reduceLT, Int.reduceLE, Int.reduceToNat, Int.reduceNeg, Int.reduceBNe, encHa, encEn]
  refine shift (sub_slot (s := 4) 32 3 1 rfl (by exact Nat.succ_pos _)) ?_
  refine loopA (fun m σ => ∃ cl q ws g, Ad.Pre ⟨h.fr, h.bu, cl, q⟩ ∧ m = q.length ∧ ws.length + q.length ≤ 40 ∧ Ad.ent h.fr h.cl h.q = ((Ad.ent h.fr cl q).1, ws ++ (Ad.ent h.fr cl q).2) ∧ ((σ.h.blk 1 = .box 25 4 [(encHa ⟨h.fr, h.bu, cl, q⟩).map AC.s]) ∨ (∃ g1 g2, σ.h.gen 19 = g1 ∧ σ.h.blk 19 = .row 59 3 (cl.map encCl) ∧ σ.h.gen 15 = g2 ∧ σ.h.blk 15 = .row 101 2 (q.map encTk) ∧ σ.h.blk 1 = .box 25 4 [[.s (.pv (.int .i64 h.fr)), .s (.pv (.int .i64 h.bu)), .own 19 g1, .own 15 g2]])) ∧ σ.slot 1 = .c (.ptr 1 1 0 0) ∧ σ.h.gen 1 = 1 ∧ σ.slot 2 = .c (.ptr 2 1 0 0) ∧ σ.h.gen 2 = 1 ∧ σ.h.blk 2 = .box 25 4 [[.s (.pv (.int .i64 0)), .s (.pv (.int .i64 0)), .zc, .zc]] ∧ σ.slot 4 = .c (.own 32 g) ∧ σ.h.gen 32 = g ∧ σ.h.blk 32 = .row 3 1 (ws.map encI)) h.q.length ?_ ?_
  · simp -implicitDefEqProofs only [↓aP, aQ, ↓reduceIte, Nat.reduceEqDiff, Nat.reduceAdd, Nat.reduceSub, Nat.reduceMul, Nat.reduceLT, Nat.reduceLeDiff, reduceCtorEq, Nat.reduceBEq, forall_const, implies_true, exists_const, ne_eq, Int.reduceAdd, Int.reduceSub, Int.reduceMul, Int.reduceBEq, Int.reduceEq, Int.reduceLT, Int.reduceLE, Int.reduceToNat, Int.reduceNeg, Int.reduceBNe, encHa]
    refine ⟨h.cl, h.q, [], 1, hp, rfl, ?_, rfl, ?_⟩
    · have := hp.2.2.1; simp; omega
    · simp -implicitDefEqProofs only [↓aP, aQ, ↓reduceIte, Nat.reduceEqDiff, Nat.reduceAdd, Nat.reduceSub, Nat.reduceMul, Nat.reduceLT, Nat.reduceLeDiff, reduceCtorEq, Nat.reduceBEq, forall_const, implies_true, exists_const, ne_eq, Int.reduceAdd, Int.reduceSub, Int.reduceMul, Int.reduceBEq, Int.reduceEq, Int.reduceLT, Int.reduceLE, Int.reduceToNat, Int.reduceNeg, Int.reduceBNe, encHa]
  · rintro m σ ⟨cl, q, ws, g, hx, hm, hlen, hent, hb1, s1, g1, s2, g2, b2, s4, g32, b32⟩
    have hx1 := hx.2.2.1
    have hf := fine_pre hx
    simp only at hx1
    cases hmay : Ad.may ⟨h.fr, h.bu, cl, q⟩
    · have en := ent_no hmay
      rw [en] at hent
      have e1 : Ad.entH h = ⟨h.fr, h.bu, cl, q⟩ := by unfold Ad.entH; rw [hent]
      have e2 : Ad.came h = ws := by unfold Ad.came; rw [hent, List.append_nil]
      rcases hb1 with b1 | ⟨g19, g15, hg19, b19, hg15, b15, b1⟩
      · simp -implicitDefEqProofs only [↓aP, aQ, ↓reduceIte, Nat.reduceEqDiff, Nat.reduceAdd, Nat.reduceSub, Nat.reduceMul, Nat.reduceLT, Nat.reduceLeDiff, reduceCtorEq, Nat.reduceBEq, forall_const, implies_true, exists_const, ne_eq, Int.reduceAdd, Int.reduceSub, Int.reduceMul, Int.reduceBEq, Int.reduceEq, Int.reduceLT, Int.reduceLE, Int.reduceToNat, Int.reduceNeg, Int.reduceBNe, s1, g1, s2, g2, b2, s4, g32, b32, b1, encHa]
        refine ask (may_spec ⟨h.fr, h.bu, cl, q⟩ hf) ?_
        simp -implicitDefEqProofs only [↓aP, aQ, ↓reduceIte, Nat.reduceEqDiff, Nat.reduceAdd, Nat.reduceSub, Nat.reduceMul, Nat.reduceLT, Nat.reduceLeDiff, reduceCtorEq, Nat.reduceBEq, forall_const, implies_true, exists_const, ne_eq, Int.reduceAdd, Int.reduceSub, Int.reduceMul, Int.reduceBEq, Int.reduceEq, Int.reduceLT, Int.reduceLE, Int.reduceToNat, Int.reduceNeg, Int.reduceBNe, hmay, s1, g1, s2, g2, b2, s4, g32, b32, b1, encHa, e1, e2]
      · simp -implicitDefEqProofs only [↓aP, aQ, ↓reduceIte, Nat.reduceEqDiff, Nat.reduceAdd, Nat.reduceSub, Nat.reduceMul, Nat.reduceLT, Nat.reduceLeDiff, reduceCtorEq, Nat.reduceBEq, forall_const, implies_true, exists_const, ne_eq, Int.reduceAdd, Int.reduceSub, Int.reduceMul, Int.reduceBEq, Int.reduceEq, Int.reduceLT, Int.reduceLE, Int.reduceToNat, Int.reduceNeg, Int.reduceBNe, s1, g1, s2, g2, b2, s4, g32, b32, b1, hg19, b19, hg15, b15]
        refine ask (may_spec ⟨h.fr, h.bu, cl, q⟩ hf) ?_
        simp -implicitDefEqProofs only [↓aP, aQ, ↓reduceIte, Nat.reduceEqDiff, Nat.reduceAdd, Nat.reduceSub, Nat.reduceMul, Nat.reduceLT, Nat.reduceLeDiff, reduceCtorEq, Nat.reduceBEq, forall_const, implies_true, exists_const, ne_eq, Int.reduceAdd, Int.reduceSub, Int.reduceMul, Int.reduceBEq, Int.reduceEq, Int.reduceLT, Int.reduceLE, Int.reduceToNat, Int.reduceNeg, Int.reduceBNe, hmay, s1, g1, s2, g2, b2, s4, g32, b32, b1, hg19, b19, hg15, b15, encHa, e1, e2]
    · cases q with
      | nil => cases hmay
      | cons t q =>
      have p1 := Ad.pre_next hx hmay
      have en := ent_yes hmay
      rw [en] at hent
      simp only [List.length_cons] at hm hlen hx1
      have h8 := hf.2.2.1
      simp only at h8
      have tk : (q.map encTk).take q.length = q.map encTk := List.take_of_length_le (by simp)
      rcases hb1 with b1 | ⟨g19, g15, hg19, b19, hg15, b15, b1⟩
      · simp -implicitDefEqProofs only [↓aP, aQ, ↓reduceIte, Nat.reduceEqDiff, Nat.reduceAdd, Nat.reduceSub, Nat.reduceMul, Nat.reduceLT, Nat.reduceLeDiff, reduceCtorEq, Nat.reduceBEq, forall_const, implies_true, exists_const, ne_eq, Int.reduceAdd, Int.reduceSub, Int.reduceMul, Int.reduceBEq, Int.reduceEq, Int.reduceLT, Int.reduceLE, Int.reduceToNat, Int.reduceNeg, Int.reduceBNe, s1, g1, s2, g2, b2, s4, g32, b32, b1, encHa]
        refine ask (may_spec ⟨h.fr, h.bu, cl, t :: q⟩ hf) ?_
        simp -implicitDefEqProofs only [↓aP, aQ, ↓reduceIte, Nat.reduceEqDiff, Nat.reduceAdd, Nat.reduceSub, Nat.reduceMul, Nat.reduceLT, Nat.reduceLeDiff, reduceCtorEq, Nat.reduceBEq, forall_const, implies_true, exists_const, ne_eq, Int.reduceAdd, Int.reduceSub, Int.reduceMul, Int.reduceBEq, Int.reduceEq, Int.reduceLT, Int.reduceLE, Int.reduceToNat, Int.reduceNeg, Int.reduceBNe, hmay, s1, g1, s2, g2, b2, s4, g32, b32, b1, encHa, encTk, List.map_cons, List.length_map, tk]
        refine ⟨by omega, ?_⟩
        refine ask (cloneTk (q.map encTk) (by simp; omega)) ?_
        simp -implicitDefEqProofs only [↓aP, aQ, ↓reduceIte, Nat.reduceEqDiff, Nat.reduceAdd, Nat.reduceSub, Nat.reduceMul, Nat.reduceLT, Nat.reduceLeDiff, reduceCtorEq, Nat.reduceBEq, forall_const, implies_true, exists_const, ne_eq, Int.reduceAdd, Int.reduceSub, Int.reduceMul, Int.reduceBEq, Int.reduceEq, Int.reduceLT, Int.reduceLE, Int.reduceToNat, Int.reduceNeg, Int.reduceBNe, s1, g1, s2, g2, b2, s4, g32, b32, b1, encHa, encTk, List.map_cons, List.length_map]
        refine ask (cloneCl (cl.map encCl) (by simp; omega)) ?_
        simp -implicitDefEqProofs only [↓aP, aQ, ↓reduceIte, Nat.reduceEqDiff, Nat.reduceAdd, Nat.reduceSub, Nat.reduceMul, Nat.reduceLT, Nat.reduceLeDiff, reduceCtorEq, Nat.reduceBEq, forall_const, implies_true, exists_const, ne_eq, Int.reduceAdd, Int.reduceSub, Int.reduceMul, Int.reduceBEq, Int.reduceEq, Int.reduceLT, Int.reduceLE, Int.reduceToNat, Int.reduceNeg, Int.reduceBNe, s1, g1, s2, g2, b2, s4, g32, b32, b1, encHa, encTk, List.map_cons, List.length_map]
        refine ⟨by omega, by omega, by decide +kernel, by omega, by omega, q.length, by omega, cl ++ [Ad.mk t], q, ws ++ [t.who], g + 1, p1, rfl, by simp; omega, ?_, .inr ⟨_, _, rfl, ?_, rfl, rfl, rfl⟩, rfl, rfl, ?_⟩
        · rw [hent]; simp
        · simp [encCl, Ad.mk]
        · simp [encI]
      · simp -implicitDefEqProofs only [↓aP, aQ, ↓reduceIte, Nat.reduceEqDiff, Nat.reduceAdd, Nat.reduceSub, Nat.reduceMul, Nat.reduceLT, Nat.reduceLeDiff, reduceCtorEq, Nat.reduceBEq, forall_const, implies_true, exists_const, ne_eq, Int.reduceAdd, Int.reduceSub, Int.reduceMul, Int.reduceBEq, Int.reduceEq, Int.reduceLT, Int.reduceLE, Int.reduceToNat, Int.reduceNeg, Int.reduceBNe, s1, g1, s2, g2, b2, s4, g32, b32, b1, hg19, b19, hg15, b15]
        refine ask (may_spec ⟨h.fr, h.bu, cl, t :: q⟩ hf) ?_
        simp -implicitDefEqProofs only [↓aP, aQ, ↓reduceIte, Nat.reduceEqDiff, Nat.reduceAdd, Nat.reduceSub, Nat.reduceMul, Nat.reduceLT, Nat.reduceLeDiff, reduceCtorEq, Nat.reduceBEq, forall_const, implies_true, exists_const, ne_eq, Int.reduceAdd, Int.reduceSub, Int.reduceMul, Int.reduceBEq, Int.reduceEq, Int.reduceLT, Int.reduceLE, Int.reduceToNat, Int.reduceNeg, Int.reduceBNe, hmay, s1, g1, s2, g2, b2, s4, g32, b32, b1, hg19, b19, hg15, b15, encHa, encTk, List.map_cons, List.length_map, tk]
        refine ⟨by first | omega | decide +kernel, by omega, ?_⟩
        refine ask (cloneTk (q.map encTk) (by simp; omega)) ?_
        simp -implicitDefEqProofs only [↓aP, aQ, ↓reduceIte, Nat.reduceEqDiff, Nat.reduceAdd, Nat.reduceSub, Nat.reduceMul, Nat.reduceLT, Nat.reduceLeDiff, reduceCtorEq, Nat.reduceBEq, forall_const, implies_true, exists_const, ne_eq, Int.reduceAdd, Int.reduceSub, Int.reduceMul, Int.reduceBEq, Int.reduceEq, Int.reduceLT, Int.reduceLE, Int.reduceToNat, Int.reduceNeg, Int.reduceBNe, s1, g1, s2, g2, b2, s4, g32, b32, b1, hg19, b19, hg15, b15, encHa, encTk, List.map_cons, List.length_map]
        refine ask (cloneCl (cl.map encCl) (by simp; omega)) ?_
        simp -implicitDefEqProofs only [↓aP, aQ, ↓reduceIte, Nat.reduceEqDiff, Nat.reduceAdd, Nat.reduceSub, Nat.reduceMul, Nat.reduceLT, Nat.reduceLeDiff, reduceCtorEq, Nat.reduceBEq, forall_const, implies_true, exists_const, ne_eq, Int.reduceAdd, Int.reduceSub, Int.reduceMul, Int.reduceBEq, Int.reduceEq, Int.reduceLT, Int.reduceLE, Int.reduceToNat, Int.reduceNeg, Int.reduceBNe, s1, g1, s2, g2, b2, s4, g32, b32, b1, hg19, b19, hg15, b15, encHa, encTk, List.map_cons, List.length_map]
        refine ⟨by omega, by omega, by decide +kernel, by omega, by omega, q.length, by omega, cl ++ [Ad.mk t], q, ws ++ [t.who], g + 1, p1, rfl, by simp; omega, ?_, .inr ⟨_, _, rfl, ?_, rfl, rfl, rfl⟩, rfl, rfl, ?_⟩
        · rw [hent]; simp
        · simp [encCl, Ad.mk]
        · simp [encI]
end Go.Proofs.Yteghmlafodkfpaa
