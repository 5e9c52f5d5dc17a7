/- layer 8: the contract of enter. -/
import Derived.Test.YtkiddlkmodclhaaK4
namespace Go.Proofs.Ytkiddlkmodclhaa
open Go.RowKit La
set_option linter.unusedVariables false
set_option linter.unusedSimpArgs false

theorem enter_spec (l : Lt) (hp : Pre l) : Spec Try.prog 50 [.agg (encLt l)] (.val (encEn (ent l.h l.ex l.q))) := by
  refine spec_val mixed fn50 (by simp) ?_
  unfold ac50
  simp -implicitDefEqProofs only [↓aP, aQ, ↓reduceIte, Nat.reduceEqDiff, Nat.reduceAdd, Nat.reduceSub, Nat.reduceMul, Nat.reduceLT, Nat.reduceLeDiff, reduceCtorEq, Nat.reduceBEq, forall_const, implies_true, exists_const, ne_eq, Int.reduceAdd, Int.reduceSub, Int.reduceMul, Int.reduceBEq, Int.reduceEq, Int.reduceLT, Int.reduceLE, Int.reduceToNat, Int.reduceNeg, Int.reduceBNe, encLt, encEn]
  refine shift (sub_slot (s := 4) 43 3 1 rfl (by exact Nat.succ_pos _)) ?_
  refine loopA (fun m σ => ∃ x ws g, Pre x ∧ m = x.q.length ∧ ws.length + x.q.length ≤ 64 ∧ ent l.h l.ex l.q = ((ent x.h x.ex x.q).1, ws ++ (ent x.h x.ex x.q).2) ∧ ((σ.h.blk 1 = .box 54 3 [(encLt x).map AC.s]) ∨ (∃ g1 g2, σ.h.gen 32 = g1 ∧ σ.h.blk 32 = .row 3 1 (x.h.map encI) ∧ σ.h.gen 17 = g2 ∧ σ.h.blk 17 = .row 88 2 (x.q.map encWt) ∧ σ.h.blk 1 = .box 54 3 [[.own 32 g1, .s (.pv (.bool x.ex)), .own 17 g2]])) ∧ σ.slot 1 = .c (.ptr 1 1 0 0) ∧ σ.h.gen 1 = 1 ∧ σ.slot 2 = .c (.ptr 2 1 0 0) ∧ σ.h.gen 2 = 1 ∧ σ.h.blk 2 = .box 54 3 [[.zc, .s (.pv (.bool false)), .zc]] ∧ σ.slot 4 = .c (.own 43 g) ∧ σ.h.gen 43 = g ∧ σ.h.blk 43 = .row 3 1 (ws.map encI)) l.q.length ?_ ?_
  · simp -implicitDefEqProofs only [↓aP, aQ, ↓reduceIte, Nat.reduceEqDiff, Nat.reduceAdd, Nat.reduceSub, Nat.reduceMul, Nat.reduceLT, Nat.reduceLeDiff, reduceCtorEq, Nat.reduceBEq, forall_const, implies_true, exists_const, ne_eq, Int.reduceAdd, Int.reduceSub, Int.reduceMul, Int.reduceBEq, Int.reduceEq, Int.reduceLT, Int.reduceLE, Int.reduceToNat, Int.reduceNeg, Int.reduceBNe, encLt]
    refine ⟨l, [], 1, hp, rfl, ?_, rfl, ?_⟩
    · have := hp.1; simp; omega
    · simp -implicitDefEqProofs only [↓aP, aQ, ↓reduceIte, Nat.reduceEqDiff, Nat.reduceAdd, Nat.reduceSub, Nat.reduceMul, Nat.reduceLT, Nat.reduceLeDiff, reduceCtorEq, Nat.reduceBEq, forall_const, implies_true, exists_const, ne_eq, Int.reduceAdd, Int.reduceSub, Int.reduceMul, Int.reduceBEq, Int.reduceEq, Int.reduceLT, Int.reduceLE, Int.reduceToNat, Int.reduceNeg, Int.reduceBNe, encLt]
  · rintro m σ ⟨x, ws, g, hx, hm, hlen, hent, hb1, s1, g1, s2, g2, b2, s4, g43, b43⟩
    have hx1 := hx.1
    cases hmay : may x
    · have en := ent_no (h := x.h) (ex := x.ex) (q := x.q) hmay
      rw [en] at hent
      rw [hent]
      rcases hb1 with b1 | ⟨g37, g17, hg37, b37, hg17, b17, b1⟩
      · simp -implicitDefEqProofs only [↓aP, aQ, ↓reduceIte, Nat.reduceEqDiff, Nat.reduceAdd, Nat.reduceSub, Nat.reduceMul, Nat.reduceLT, Nat.reduceLeDiff, reduceCtorEq, Nat.reduceBEq, forall_const, implies_true, exists_const, ne_eq, Int.reduceAdd, Int.reduceSub, Int.reduceMul, Int.reduceBEq, Int.reduceEq, Int.reduceLT, Int.reduceLE, Int.reduceToNat, Int.reduceNeg, Int.reduceBNe, s1, g1, s2, g2, b2, s4, g43, b43, b1, encLt]
        refine ask (may_spec x) ?_
        simp -implicitDefEqProofs only [↓aP, aQ, ↓reduceIte, Nat.reduceEqDiff, Nat.reduceAdd, Nat.reduceSub, Nat.reduceMul, Nat.reduceLT, Nat.reduceLeDiff, reduceCtorEq, Nat.reduceBEq, forall_const, implies_true, exists_const, ne_eq, Int.reduceAdd, Int.reduceSub, Int.reduceMul, Int.reduceBEq, Int.reduceEq, Int.reduceLT, Int.reduceLE, Int.reduceToNat, Int.reduceNeg, Int.reduceBNe, hmay, s1, g1, s2, g2, b2, s4, g43, b43, b1, encLt, List.append_nil]
      · simp -implicitDefEqProofs only [↓aP, aQ, ↓reduceIte, Nat.reduceEqDiff, Nat.reduceAdd, Nat.reduceSub, Nat.reduceMul, Nat.reduceLT, Nat.reduceLeDiff, reduceCtorEq, Nat.reduceBEq, forall_const, implies_true, exists_const, ne_eq, Int.reduceAdd, Int.reduceSub, Int.reduceMul, Int.reduceBEq, Int.reduceEq, Int.reduceLT, Int.reduceLE, Int.reduceToNat, Int.reduceNeg, Int.reduceBNe, s1, g1, s2, g2, b2, s4, g43, b43, b1, hg37, b37, hg17, b17]
        refine ask (may_spec x) ?_
        simp -implicitDefEqProofs only [↓aP, aQ, ↓reduceIte, Nat.reduceEqDiff, Nat.reduceAdd, Nat.reduceSub, Nat.reduceMul, Nat.reduceLT, Nat.reduceLeDiff, reduceCtorEq, Nat.reduceBEq, forall_const, implies_true, exists_const, ne_eq, Int.reduceAdd, Int.reduceSub, Int.reduceMul, Int.reduceBEq, Int.reduceEq, Int.reduceLT, Int.reduceLE, Int.reduceToNat, Int.reduceNeg, Int.reduceBNe, hmay, s1, g1, s2, g2, b2, s4, g43, b43, b1, hg37, b37, hg17, b17, encLt, List.append_nil]
    · obtain ⟨h, ex, q0⟩ := x
      cases q0 with
      | nil => cases hmay
      | cons w q =>
      obtain ⟨p1, p2⟩ := pre_next hx hmay
      have en := ent_yes hmay
      simp only at hent hm hlen hx1 hb1 p1
      rw [en] at hent
      have hle : h.Pairwise (· ≤ ·) := hx.2.2.1.imp (fun x => by omega)
      simp only [List.length_cons] at hm hlen hx1
      have tk : (q.map encWt).take q.length = q.map encWt := List.take_of_length_le (by simp)
      rcases hb1 with b1 | ⟨g37, g17, hg37, b37, hg17, b17, b1⟩
      · simp -implicitDefEqProofs only [↓aP, aQ, ↓reduceIte, Nat.reduceEqDiff, Nat.reduceAdd, Nat.reduceSub, Nat.reduceMul, Nat.reduceLT, Nat.reduceLeDiff, reduceCtorEq, Nat.reduceBEq, forall_const, implies_true, exists_const, ne_eq, Int.reduceAdd, Int.reduceSub, Int.reduceMul, Int.reduceBEq, Int.reduceEq, Int.reduceLT, Int.reduceLE, Int.reduceToNat, Int.reduceNeg, Int.reduceBNe, s1, g1, s2, g2, b2, s4, g43, b43, b1, encLt]
        refine ask (may_spec ⟨h, ex, w :: q⟩) ?_
        simp -implicitDefEqProofs only [↓aP, aQ, ↓reduceIte, Nat.reduceEqDiff, Nat.reduceAdd, Nat.reduceSub, Nat.reduceMul, Nat.reduceLT, Nat.reduceLeDiff, reduceCtorEq, Nat.reduceBEq, forall_const, implies_true, exists_const, ne_eq, Int.reduceAdd, Int.reduceSub, Int.reduceMul, Int.reduceBEq, Int.reduceEq, Int.reduceLT, Int.reduceLE, Int.reduceToNat, Int.reduceNeg, Int.reduceBNe, hmay, s1, g1, s2, g2, b2, s4, g43, b43, b1, encLt, encWt, List.map_cons, List.length_map, tk]
        refine ⟨by omega, ?_⟩
        refine ask (cloneWt (q.map encWt) (by simp; omega)) ?_
        simp -implicitDefEqProofs only [↓aP, aQ, ↓reduceIte, Nat.reduceEqDiff, Nat.reduceAdd, Nat.reduceSub, Nat.reduceMul, Nat.reduceLT, Nat.reduceLeDiff, reduceCtorEq, Nat.reduceBEq, forall_const, implies_true, exists_const, ne_eq, Int.reduceAdd, Int.reduceSub, Int.reduceMul, Int.reduceBEq, Int.reduceEq, Int.reduceLT, Int.reduceLE, Int.reduceToNat, Int.reduceNeg, Int.reduceBNe, s1, g1, s2, g2, b2, s4, g43, b43, b1, encLt, encWt, List.map_cons, List.length_map]
        refine ask (bs_spec h w.who hle (by omega)) ?_
        simp -implicitDefEqProofs only [↓aP, aQ, ↓reduceIte, Nat.reduceEqDiff, Nat.reduceAdd, Nat.reduceSub, Nat.reduceMul, Nat.reduceLT, Nat.reduceLeDiff, reduceCtorEq, Nat.reduceBEq, forall_const, implies_true, exists_const, ne_eq, Int.reduceAdd, Int.reduceSub, Int.reduceMul, Int.reduceBEq, Int.reduceEq, Int.reduceLT, Int.reduceLE, Int.reduceToNat, Int.reduceNeg, Int.reduceBNe, s1, g1, s2, g2, b2, s4, g43, b43, b1, encLt, encWt, List.map_cons, List.length_map]
        refine ask (cloneIn (h.map encI) (by simp; omega)) ?_
        simp -implicitDefEqProofs only [↓aP, aQ, ↓reduceIte, Nat.reduceEqDiff, Nat.reduceAdd, Nat.reduceSub, Nat.reduceMul, Nat.reduceLT, Nat.reduceLeDiff, reduceCtorEq, Nat.reduceBEq, forall_const, implies_true, exists_const, ne_eq, Int.reduceAdd, Int.reduceSub, Int.reduceMul, Int.reduceBEq, Int.reduceEq, Int.reduceLT, Int.reduceLE, Int.reduceToNat, Int.reduceNeg, Int.reduceBNe, s1, g1, s2, g2, b2, s4, g43, b43, b1, encLt, encWt, List.map_cons, List.length_map]
        refine askX2 (insIn_spec (h.map encI) (pos h w.who) (encI w.who) (by simpa using pos_le) (by simp; omega)) (by simp -implicitDefEqProofs only [↓aP, aQ, ↓reduceIte, Nat.reduceEqDiff, Nat.reduceAdd, Nat.reduceSub, Nat.reduceMul, Nat.reduceLT, Nat.reduceLeDiff, reduceCtorEq, Nat.reduceBEq, forall_const, implies_true, exists_const, ne_eq, Int.reduceAdd, Int.reduceSub, Int.reduceMul, Int.reduceBEq, Int.reduceEq, Int.reduceLT, Int.reduceLE, Int.reduceToNat, Int.reduceNeg, Int.reduceBNe, encI]) ?_
        simp -implicitDefEqProofs only [↓aP, aQ, ↓reduceIte, Nat.reduceEqDiff, Nat.reduceAdd, Nat.reduceSub, Nat.reduceMul, Nat.reduceLT, Nat.reduceLeDiff, reduceCtorEq, Nat.reduceBEq, forall_const, implies_true, exists_const, ne_eq, Int.reduceAdd, Int.reduceSub, Int.reduceMul, Int.reduceBEq, Int.reduceEq, Int.reduceLT, Int.reduceLE, Int.reduceToNat, Int.reduceNeg, Int.reduceBNe, s1, g1, s2, g2, b2, s4, g43, b43, b1, XR.lb, List.length_map]
        refine ⟨by decide +kernel, by omega, by omega, q.length, by omega, ⟨ins h w.who, w.ex, q⟩, ws ++ [w.who], g + 1, p1, rfl, by simp; omega, ?_, .inr ⟨_, _, rfl, ?_, rfl, rfl, rfl⟩, rfl, rfl, ?_⟩
        · rw [hent]; simp
        · rw [ins_enc]
        · simp [encI]
      · simp -implicitDefEqProofs only [↓aP, aQ, ↓reduceIte, Nat.reduceEqDiff, Nat.reduceAdd, Nat.reduceSub, Nat.reduceMul, Nat.reduceLT, Nat.reduceLeDiff, reduceCtorEq, Nat.reduceBEq, forall_const, implies_true, exists_const, ne_eq, Int.reduceAdd, Int.reduceSub, Int.reduceMul, Int.reduceBEq, Int.reduceEq, Int.reduceLT, Int.reduceLE, Int.reduceToNat, Int.reduceNeg, Int.reduceBNe, s1, g1, s2, g2, b2, s4, g43, b43, b1, hg37, b37, hg17, b17]
        refine ask (may_spec ⟨h, ex, w :: q⟩) ?_
        simp -implicitDefEqProofs only [↓aP, aQ, ↓reduceIte, Nat.reduceEqDiff, Nat.reduceAdd, Nat.reduceSub, Nat.reduceMul, Nat.reduceLT, Nat.reduceLeDiff, reduceCtorEq, Nat.reduceBEq, forall_const, implies_true, exists_const, ne_eq, Int.reduceAdd, Int.reduceSub, Int.reduceMul, Int.reduceBEq, Int.reduceEq, Int.reduceLT, Int.reduceLE, Int.reduceToNat, Int.reduceNeg, Int.reduceBNe, hmay, s1, g1, s2, g2, b2, s4, g43, b43, b1, hg37, b37, hg17, b17, encLt, encWt, List.map_cons, List.length_map, tk]
        refine ⟨by first | omega | decide +kernel, by omega, ?_⟩
        refine ask (cloneWt (q.map encWt) (by simp; omega)) ?_
        simp -implicitDefEqProofs only [↓aP, aQ, ↓reduceIte, Nat.reduceEqDiff, Nat.reduceAdd, Nat.reduceSub, Nat.reduceMul, Nat.reduceLT, Nat.reduceLeDiff, reduceCtorEq, Nat.reduceBEq, forall_const, implies_true, exists_const, ne_eq, Int.reduceAdd, Int.reduceSub, Int.reduceMul, Int.reduceBEq, Int.reduceEq, Int.reduceLT, Int.reduceLE, Int.reduceToNat, Int.reduceNeg, Int.reduceBNe, s1, g1, s2, g2, b2, s4, g43, b43, b1, hg37, b37, hg17, b17, encLt, encWt, List.map_cons, List.length_map]
        refine ask (bs_spec h w.who hle (by omega)) ?_
        simp -implicitDefEqProofs only [↓aP, aQ, ↓reduceIte, Nat.reduceEqDiff, Nat.reduceAdd, Nat.reduceSub, Nat.reduceMul, Nat.reduceLT, Nat.reduceLeDiff, reduceCtorEq, Nat.reduceBEq, forall_const, implies_true, exists_const, ne_eq, Int.reduceAdd, Int.reduceSub, Int.reduceMul, Int.reduceBEq, Int.reduceEq, Int.reduceLT, Int.reduceLE, Int.reduceToNat, Int.reduceNeg, Int.reduceBNe, s1, g1, s2, g2, b2, s4, g43, b43, b1, hg37, b37, hg17, b17, encLt, encWt, List.map_cons, List.length_map]
        refine ask (cloneIn (h.map encI) (by simp; omega)) ?_
        simp -implicitDefEqProofs only [↓aP, aQ, ↓reduceIte, Nat.reduceEqDiff, Nat.reduceAdd, Nat.reduceSub, Nat.reduceMul, Nat.reduceLT, Nat.reduceLeDiff, reduceCtorEq, Nat.reduceBEq, forall_const, implies_true, exists_const, ne_eq, Int.reduceAdd, Int.reduceSub, Int.reduceMul, Int.reduceBEq, Int.reduceEq, Int.reduceLT, Int.reduceLE, Int.reduceToNat, Int.reduceNeg, Int.reduceBNe, s1, g1, s2, g2, b2, s4, g43, b43, b1, hg37, b37, hg17, b17, encLt, encWt, List.map_cons, List.length_map]
        refine askX2 (insIn_spec (h.map encI) (pos h w.who) (encI w.who) (by simpa using pos_le) (by simp; omega)) (by simp -implicitDefEqProofs only [↓aP, aQ, ↓reduceIte, Nat.reduceEqDiff, Nat.reduceAdd, Nat.reduceSub, Nat.reduceMul, Nat.reduceLT, Nat.reduceLeDiff, reduceCtorEq, Nat.reduceBEq, forall_const, implies_true, exists_const, ne_eq, Int.reduceAdd, Int.reduceSub, Int.reduceMul, Int.reduceBEq, Int.reduceEq, Int.reduceLT, Int.reduceLE, Int.reduceToNat, Int.reduceNeg, Int.reduceBNe, encI]) ?_
        simp -implicitDefEqProofs only [↓aP, aQ, ↓reduceIte, Nat.reduceEqDiff, Nat.reduceAdd, Nat.reduceSub, Nat.reduceMul, Nat.reduceLT, Nat.reduceLeDiff, reduceCtorEq, Nat.reduceBEq, forall_const, implies_true, exists_const, ne_eq, Int.reduceAdd, Int.reduceSub, Int.reduceMul, Int.reduceBEq, Int.reduceEq, Int.reduceLT, Int.reduceLE, Int.reduceToNat, Int.reduceNeg, Int.reduceBNe, s1, g1, s2, g2, b2, s4, g43, b43, b1, hg37, b37, hg17, b17, XR.lb, List.length_map]
        refine ⟨by decide +kernel, by omega, by omega, q.length, by omega, ⟨ins h w.who, w.ex, q⟩, ws ++ [w.who], g + 1, p1, rfl, by simp; omega, ?_, .inr ⟨_, _, rfl, ?_, rfl, rfl, rfl⟩, rfl, rfl, ?_⟩
        · rw [hent]; simp
        · rw [ins_enc]
        · simp [encI]
end Go.Proofs.Ytkiddlkmodclhaa
