/- layer 15: the law FramesKeep. -/
import Derived.Test.YtcindpblgbpcoaaFR
import Derived.Test.YtcindpblgbpcoaaF6
import Derived.Test.YtcindpblgbpcoaaSub
import Derived.Test.YtcindpblgbpcoaaF7
import Derived.Test.YtcindpblgbpcoaaAm19
namespace Go.Proofs.Ytcindpblgbpcoaa
open Go.RowKit
set_option linter.unusedVariables false
set_option linter.unusedSimpArgs false


set_option maxRecDepth 100000 in
set_option maxHeartbeats 4000000 in
theorem law_keep (many : Int) (acts : List Av) (hm : 0 ≤ many ∧ many ≤ 255) (hl : acts.length ≤ 9223372036854775807) : Spec Try.prog 3 [.c (.pv (.int .u8 many)), rL 7 (acts.map encAv)] (.val (rB true)) := by
  refine spec_val mixed fn3 (by simp) ?_
  unfold ac3
  obtain ⟨n, hn8, hn⟩ : ∃ n : Nat, n < 8 ∧ IntKind.i64.wrap (1 + IntKind.i64.wrap (many.tmod 8)) = ((n + 1 : Nat) : Int) := by
    rw [Int.tmod_eq_emod_of_nonneg hm.1, wrapI (x := many % 8) (by omega), wrapI (by omega)]
    exact ⟨(many % 8).toNat, by omega, by omega⟩
  have c0 := fNew_spec ((n + 1 : Nat) : Int)
  have k0 := kf_new hn8
  rw [show (Fm.newF ((n + 1 : Nat) : Int)).2 = 0 by unfold Fm.newF; rw [if_pos (by omega)]] at c0
  generalize (Fm.newF ((n + 1 : Nat) : Int)).1 = f0 at c0 k0
  simp -implicitDefEqProofs only [↓aP, aQ, ↓reduceIte, Nat.reduceEqDiff, Nat.reduceAdd, Nat.reduceSub, Nat.reduceMul, Nat.reduceLT, Nat.reduceLeDiff, reduceCtorEq, Nat.reduceBEq, forall_const, implies_true, exists_const, ne_eq, Int.reduceAdd, Int.reduceSub, Int.reduceMul, Int.reduceBEq, Int.reduceEq, Int.reduceLT, Int.reduceLE, Int.reduceToNat, Int.reduceNeg, Int.reduceBNe, hn]
  refine ask c0 ?_
  simp -implicitDefEqProofs only [↓aP, aQ, ↓reduceIte, Nat.reduceEqDiff, Nat.reduceAdd, Nat.reduceSub, Nat.reduceMul, Nat.reduceLT, Nat.reduceLeDiff, reduceCtorEq, Nat.reduceBEq, forall_const, implies_true, exists_const, ne_eq, Int.reduceAdd, Int.reduceSub, Int.reduceMul, Int.reduceBEq, Int.reduceEq, Int.reduceLT, Int.reduceLE, Int.reduceToNat, Int.reduceNeg, Int.reduceBNe, encFs, bne_self_eq_false, hn]
  refine loopA (fun m σ => ∃ (i : Nat) (f : Fs) (W : List Int), i + m = acts.length ∧ i ≤ 60 ∧ Kf f (wOf W) ∧ W.length = 17 ∧ σ.slot 1 = vL 7 (acts.map encAv) ∧ σ.slot 5 = .c (.ptr 5 1 0 0) ∧ σ.h.gen 5 = 1 ∧ σ.h.blk 5 = .box 32 5 [(encFs f).map AC.s] ∧ σ.slot 7 = .c (.ptr 7 1 0 0) ∧ σ.h.gen 7 = 1 ∧ σ.h.blk 7 = .box 36 1 (W.map aI) ∧ σ.slot 8 = vI i) acts.length ⟨0, f0, List.replicate 17 0, by omega, by omega, k0, by simp, ?_⟩ ?_
  · simp -implicitDefEqProofs only [↓aP, aQ, ↓reduceIte, Nat.reduceEqDiff, Nat.reduceAdd, Nat.reduceSub, Nat.reduceMul, Nat.reduceLT, Nat.reduceLeDiff, reduceCtorEq, Nat.reduceBEq, forall_const, implies_true, exists_const, ne_eq, Int.reduceAdd, Int.reduceSub, Int.reduceMul, Int.reduceBEq, Int.reduceEq, Int.reduceLT, Int.reduceLE, Int.reduceToNat, Int.reduceNeg, Int.reduceBNe, encFs]
    try rfl
    all_goals (trace_state; sorry)
  rintro m σ ⟨i, f, W, him, hi60, hk, hW, s1, s5, g5, b5, s7, g7, b7, s8⟩
  by_cases hend : i < acts.length ∧ i < 60
  case neg =>
    by_cases hi : i < acts.length
    · simp -implicitDefEqProofs only [↓aP, aQ, ↓reduceIte, Nat.reduceEqDiff, Nat.reduceAdd, Nat.reduceSub, Nat.reduceMul, Nat.reduceLT, Nat.reduceLeDiff, reduceCtorEq, Nat.reduceBEq, forall_const, implies_true, exists_const, ne_eq, Int.reduceAdd, Int.reduceSub, Int.reduceMul, Int.reduceBEq, Int.reduceEq, Int.reduceLT, Int.reduceLE, Int.reduceToNat, Int.reduceNeg, Int.reduceBNe, s1, s5, g5, b5, s7, g7, b7, s8, List.length_map, show decide ((i : Int) < (acts.length : Int)) = true by simp; omega, show decide ((i : Int) < 60) = false by simp; omega]
      refine ask awake15_spec ?_
      simp -implicitDefEqProofs only [↓aP, aQ, ↓reduceIte, Nat.reduceEqDiff, Nat.reduceAdd, Nat.reduceSub, Nat.reduceMul, Nat.reduceLT, Nat.reduceLeDiff, reduceCtorEq, Nat.reduceBEq, forall_const, implies_true, exists_const, ne_eq, Int.reduceAdd, Int.reduceSub, Int.reduceMul, Int.reduceBEq, Int.reduceEq, Int.reduceLT, Int.reduceLE, Int.reduceToNat, Int.reduceNeg, Int.reduceBNe]
    · simp -implicitDefEqProofs only [↓aP, aQ, ↓reduceIte, Nat.reduceEqDiff, Nat.reduceAdd, Nat.reduceSub, Nat.reduceMul, Nat.reduceLT, Nat.reduceLeDiff, reduceCtorEq, Nat.reduceBEq, forall_const, implies_true, exists_const, ne_eq, Int.reduceAdd, Int.reduceSub, Int.reduceMul, Int.reduceBEq, Int.reduceEq, Int.reduceLT, Int.reduceLE, Int.reduceToNat, Int.reduceNeg, Int.reduceBNe, s1, s5, g5, b5, s7, g7, b7, s8, List.length_map, show decide ((i : Int) < (acts.length : Int)) = false by simp; omega]
      refine ask awake15_spec ?_
      simp -implicitDefEqProofs only [↓aP, aQ, ↓reduceIte, Nat.reduceEqDiff, Nat.reduceAdd, Nat.reduceSub, Nat.reduceMul, Nat.reduceLT, Nat.reduceLeDiff, reduceCtorEq, Nat.reduceBEq, forall_const, implies_true, exists_const, ne_eq, Int.reduceAdd, Int.reduceSub, Int.reduceMul, Int.reduceBEq, Int.reduceEq, Int.reduceLT, Int.reduceLE, Int.reduceToNat, Int.reduceNeg, Int.reduceBNe]
  obtain ⟨hi, h60⟩ := hend
  have wi : IntKind.i64.wrap ((i : Int) + 1) = ((i + 1 : Nat) : Int) := by rw [wrapI (by omega)]; omega
  have hdo := do_spec f acts[i] (rt_sh hk.rt)
  have hkd := kf_do hk acts[i]
  obtain ⟨g, e, hr⟩ : ∃ g e, doA f acts[i] = (g, e) := ⟨_, _, rfl⟩
  rw [hr] at hdo hkd
  simp only at hkd
  have hri := fRight_spec g (rt_sh hkd.rt)
  rw [rt_iff.2 hkd.rt] at hri
  rw [encFs, encAv, encF2, encFs] at hdo
  rw [encFs] at hri
  simp -implicitDefEqProofs only [↓aP, aQ, ↓reduceIte, Nat.reduceEqDiff, Nat.reduceAdd, Nat.reduceSub, Nat.reduceMul, Nat.reduceLT, Nat.reduceLeDiff, reduceCtorEq, Nat.reduceBEq, forall_const, implies_true, exists_const, ne_eq, Int.reduceAdd, Int.reduceSub, Int.reduceMul, Int.reduceBEq, Int.reduceEq, Int.reduceLT, Int.reduceLE, Int.reduceToNat, Int.reduceNeg, Int.reduceBNe, s1, s5, g5, b5, s7, g7, b7, s8, askIdx_map, hi, encAv, List.length_map, encFs, show decide ((i : Int) < (acts.length : Int)) = true by simp; omega, show decide ((i : Int) < 60) = true by simp; omega]
  refine ask hdo ?_
  apply with_tail (F := fun σ => ∃ (f : Fs) (W : List Int) (j : Nat), Kf f (wOf W) ∧ W.length = 17 ∧ j = 1 ∧ σ.slot 1 = vL 7 (acts.map encAv) ∧ σ.slot 5 = .c (.ptr 5 1 0 0) ∧ σ.h.gen 5 = 1 ∧ σ.h.blk 5 = .box 32 5 [(encFs f).map AC.s] ∧ σ.slot 7 = .c (.ptr 7 1 0 0) ∧ σ.h.gen 7 = 1 ∧ σ.h.blk 7 = .box 36 1 (W.map aI) ∧ σ.slot 8 = vI i ∧ σ.slot 12 = vI j)
  case h1 =>
    intro tail
    by_cases he : e = 0
    case neg =>
      have hw : newW (wOf W) acts[i] e = wOf W := by unfold newW; rw [if_pos he]
      simp -implicitDefEqProofs only [↓aP, aQ, ↓reduceIte, Nat.reduceEqDiff, Nat.reduceAdd, Nat.reduceSub, Nat.reduceMul, Nat.reduceLT, Nat.reduceLeDiff, reduceCtorEq, Nat.reduceBEq, forall_const, implies_true, exists_const, ne_eq, Int.reduceAdd, Int.reduceSub, Int.reduceMul, Int.reduceBEq, Int.reduceEq, Int.reduceLT, Int.reduceLE, Int.reduceToNat, Int.reduceNeg, Int.reduceBNe, show (e == 0) = false from beq_eq_false_iff_ne.2 he, s1, s5, g5, b5, s7, g7, b7, s8, encFs]
      refine ask hri ?_
      simp -implicitDefEqProofs only [↓aP, aQ, ↓reduceIte, Nat.reduceEqDiff, Nat.reduceAdd, Nat.reduceSub, Nat.reduceMul, Nat.reduceLT, Nat.reduceLeDiff, reduceCtorEq, Nat.reduceBEq, forall_const, implies_true, exists_const, ne_eq, Int.reduceAdd, Int.reduceSub, Int.reduceMul, Int.reduceBEq, Int.reduceEq, Int.reduceLT, Int.reduceLE, Int.reduceToNat, Int.reduceNeg, Int.reduceBNe]
      refine tail _ ⟨g, W, 1, hw ▸ hkd, hW, rfl, ?_⟩
      simp -implicitDefEqProofs only [↓aP, aQ, ↓reduceIte, Nat.reduceEqDiff, Nat.reduceAdd, Nat.reduceSub, Nat.reduceMul, Nat.reduceLT, Nat.reduceLeDiff, reduceCtorEq, Nat.reduceBEq, forall_const, implies_true, exists_const, ne_eq, Int.reduceAdd, Int.reduceSub, Int.reduceMul, Int.reduceBEq, Int.reduceEq, Int.reduceLT, Int.reduceLE, Int.reduceToNat, Int.reduceNeg, Int.reduceBNe, s1, s5, g5, b5, s7, g7, b7, s8, encFs]
    subst he
    have id3 : ∀ x : Int, (decide (1 ≤ x) = false ∧ ¬ (1 ≤ x ∧ x ≤ 16)) ∨ (decide (1 ≤ x) = true ∧ decide (x ≤ 16) = false ∧ ¬ (1 ≤ x ∧ x ≤ 16)) ∨ (decide (1 ≤ x) = true ∧ decide (x ≤ 16) = true ∧ 1 ≤ x ∧ x ≤ 16) := fun x => by
      simp only [decide_eq_true_eq, decide_eq_false_iff_not]; omega
    have kn : ∀ x : Int, acts[i].kind ≠ x → (acts[i].kind == x) = false := fun x h => beq_eq_false_iff_ne.2 h
    by_cases u6 : acts[i].kind = 6
    · rcases id3 acts[i].p.id with ⟨p1, p2⟩ | ⟨p1, p3, p2⟩ | ⟨p1, p3, p2⟩
      · have hw : newW (wOf W) acts[i] 0 = wOf W := by unfold newW; rw [if_neg (by decide), if_neg (by omega), if_neg (by omega), if_neg (by omega)]
        rcases id3 acts[i].id with ⟨d1, d2⟩ | ⟨d1, d3, d2⟩ | ⟨d1, d3, d2⟩
        all_goals (simp -implicitDefEqProofs only [↓aP, aQ, ↓reduceIte, Nat.reduceEqDiff, Nat.reduceAdd, Nat.reduceSub, Nat.reduceMul, Nat.reduceLT, Nat.reduceLeDiff, reduceCtorEq, Nat.reduceBEq, forall_const, implies_true, exists_const, ne_eq, Int.reduceAdd, Int.reduceSub, Int.reduceMul, Int.reduceBEq, Int.reduceEq, Int.reduceLT, Int.reduceLE, Int.reduceToNat, Int.reduceNeg, Int.reduceBNe, s1, s5, g5, b5, s7, g7, b7, s8, encFs, u6, p1, d1, beq_self_eq_true, show ((6 : Int) == 1) = false by decide, show ((6 : Int) == 2) = false by decide])
        all_goals (try simp -implicitDefEqProofs only [↓aP, aQ, ↓reduceIte, Nat.reduceEqDiff, Nat.reduceAdd, Nat.reduceSub, Nat.reduceMul, Nat.reduceLT, Nat.reduceLeDiff, reduceCtorEq, Nat.reduceBEq, forall_const, implies_true, exists_const, ne_eq, Int.reduceAdd, Int.reduceSub, Int.reduceMul, Int.reduceBEq, Int.reduceEq, Int.reduceLT, Int.reduceLE, Int.reduceToNat, Int.reduceNeg, Int.reduceBNe, s1, s5, g5, b5, s7, g7, b7, s8, encFs, u6, p1, d1, d3, beq_self_eq_true, show ((6 : Int) == 1) = false by decide, show ((6 : Int) == 2) = false by decide])
        all_goals (refine ask hri ?_; simp -implicitDefEqProofs only [↓aP, aQ, ↓reduceIte, Nat.reduceEqDiff, Nat.reduceAdd, Nat.reduceSub, Nat.reduceMul, Nat.reduceLT, Nat.reduceLeDiff, reduceCtorEq, Nat.reduceBEq, forall_const, implies_true, exists_const, ne_eq, Int.reduceAdd, Int.reduceSub, Int.reduceMul, Int.reduceBEq, Int.reduceEq, Int.reduceLT, Int.reduceLE, Int.reduceToNat, Int.reduceNeg, Int.reduceBNe]; refine tail _ ⟨g, W, 1, hw ▸ hkd, hW, rfl, ?_⟩; simp -implicitDefEqProofs only [↓aP, aQ, ↓reduceIte, Nat.reduceEqDiff, Nat.reduceAdd, Nat.reduceSub, Nat.reduceMul, Nat.reduceLT, Nat.reduceLeDiff, reduceCtorEq, Nat.reduceBEq, forall_const, implies_true, exists_const, ne_eq, Int.reduceAdd, Int.reduceSub, Int.reduceMul, Int.reduceBEq, Int.reduceEq, Int.reduceLT, Int.reduceLE, Int.reduceToNat, Int.reduceNeg, Int.reduceBNe, s1, s5, g5, b5, s7, g7, b7, s8, encFs])
      · have hw : newW (wOf W) acts[i] 0 = wOf W := by unfold newW; rw [if_neg (by decide), if_neg (by omega), if_neg (by omega), if_neg (by omega)]
        rcases id3 acts[i].id with ⟨d1, d2⟩ | ⟨d1, d3, d2⟩ | ⟨d1, d3, d2⟩
        all_goals (simp -implicitDefEqProofs only [↓aP, aQ, ↓reduceIte, Nat.reduceEqDiff, Nat.reduceAdd, Nat.reduceSub, Nat.reduceMul, Nat.reduceLT, Nat.reduceLeDiff, reduceCtorEq, Nat.reduceBEq, forall_const, implies_true, exists_const, ne_eq, Int.reduceAdd, Int.reduceSub, Int.reduceMul, Int.reduceBEq, Int.reduceEq, Int.reduceLT, Int.reduceLE, Int.reduceToNat, Int.reduceNeg, Int.reduceBNe, s1, s5, g5, b5, s7, g7, b7, s8, encFs, u6, p1, p3, d1, beq_self_eq_true, show ((6 : Int) == 1) = false by decide, show ((6 : Int) == 2) = false by decide])
        all_goals (try simp -implicitDefEqProofs only [↓aP, aQ, ↓reduceIte, Nat.reduceEqDiff, Nat.reduceAdd, Nat.reduceSub, Nat.reduceMul, Nat.reduceLT, Nat.reduceLeDiff, reduceCtorEq, Nat.reduceBEq, forall_const, implies_true, exists_const, ne_eq, Int.reduceAdd, Int.reduceSub, Int.reduceMul, Int.reduceBEq, Int.reduceEq, Int.reduceLT, Int.reduceLE, Int.reduceToNat, Int.reduceNeg, Int.reduceBNe, s1, s5, g5, b5, s7, g7, b7, s8, encFs, u6, p1, p3, d1, d3, beq_self_eq_true, show ((6 : Int) == 1) = false by decide, show ((6 : Int) == 2) = false by decide])
        all_goals (refine ask hri ?_; simp -implicitDefEqProofs only [↓aP, aQ, ↓reduceIte, Nat.reduceEqDiff, Nat.reduceAdd, Nat.reduceSub, Nat.reduceMul, Nat.reduceLT, Nat.reduceLeDiff, reduceCtorEq, Nat.reduceBEq, forall_const, implies_true, exists_const, ne_eq, Int.reduceAdd, Int.reduceSub, Int.reduceMul, Int.reduceBEq, Int.reduceEq, Int.reduceLT, Int.reduceLE, Int.reduceToNat, Int.reduceNeg, Int.reduceBNe]; refine tail _ ⟨g, W, 1, hw ▸ hkd, hW, rfl, ?_⟩; simp -implicitDefEqProofs only [↓aP, aQ, ↓reduceIte, Nat.reduceEqDiff, Nat.reduceAdd, Nat.reduceSub, Nat.reduceMul, Nat.reduceLT, Nat.reduceLeDiff, reduceCtorEq, Nat.reduceBEq, forall_const, implies_true, exists_const, ne_eq, Int.reduceAdd, Int.reduceSub, Int.reduceMul, Int.reduceBEq, Int.reduceEq, Int.reduceLT, Int.reduceLE, Int.reduceToNat, Int.reduceNeg, Int.reduceBNe, s1, s5, g5, b5, s7, g7, b7, s8, encFs])
      · have kid : acts[i].p.id.toNat < W.length := by omega
        have hw : newW (wOf W) acts[i] 0 = wOf (W.set acts[i].p.id.toNat 1) := by
          unfold newW
          rw [if_neg (by decide), if_neg (by omega), if_neg (by omega), if_pos ⟨u6, p2⟩, ← up_wOf hW p2]
        have ms : (W.map aI).set acts[i].p.id.toNat [.s (.pv (.int .i64 1))] = (W.set acts[i].p.id.toNat 1).map aI := by rw [List.map_set]; rfl
        rcases id3 acts[i].id with ⟨d1, d2⟩ | ⟨d1, d3, d2⟩ | ⟨d1, d3, d2⟩
        all_goals (simp -implicitDefEqProofs only [↓aP, aQ, ↓reduceIte, Nat.reduceEqDiff, Nat.reduceAdd, Nat.reduceSub, Nat.reduceMul, Nat.reduceLT, Nat.reduceLeDiff, reduceCtorEq, Nat.reduceBEq, forall_const, implies_true, exists_const, ne_eq, Int.reduceAdd, Int.reduceSub, Int.reduceMul, Int.reduceBEq, Int.reduceEq, Int.reduceLT, Int.reduceLE, Int.reduceToNat, Int.reduceNeg, Int.reduceBNe, s1, s5, g5, b5, s7, g7, b7, s8, encFs, u6, p1, p3, d1, beq_self_eq_true, show ((6 : Int) == 1) = false by decide, show ((6 : Int) == 2) = false by decide])
        all_goals (try simp -implicitDefEqProofs only [↓aP, aQ, ↓reduceIte, Nat.reduceEqDiff, Nat.reduceAdd, Nat.reduceSub, Nat.reduceMul, Nat.reduceLT, Nat.reduceLeDiff, reduceCtorEq, Nat.reduceBEq, forall_const, implies_true, exists_const, ne_eq, Int.reduceAdd, Int.reduceSub, Int.reduceMul, Int.reduceBEq, Int.reduceEq, Int.reduceLT, Int.reduceLE, Int.reduceToNat, Int.reduceNeg, Int.reduceBNe, s1, s5, g5, b5, s7, g7, b7, s8, encFs, u6, p1, p3, d1, d3, beq_self_eq_true, show ((6 : Int) == 1) = false by decide, show ((6 : Int) == 2) = false by decide])
        all_goals (refine ⟨by omega, by omega, ?_⟩; simp -implicitDefEqProofs only [↓aP, aQ, ↓reduceIte, Nat.reduceEqDiff, Nat.reduceAdd, Nat.reduceSub, Nat.reduceMul, Nat.reduceLT, Nat.reduceLeDiff, reduceCtorEq, Nat.reduceBEq, forall_const, implies_true, exists_const, ne_eq, Int.reduceAdd, Int.reduceSub, Int.reduceMul, Int.reduceBEq, Int.reduceEq, Int.reduceLT, Int.reduceLE, Int.reduceToNat, Int.reduceNeg, Int.reduceBNe, askIdx_map, kid, aI, List.map_cons, List.map_nil, s1, s5, g5, b5, s7, g7, b7, s8])
        all_goals (rw [ms])
        all_goals (refine ask hri ?_; simp -implicitDefEqProofs only [↓aP, aQ, ↓reduceIte, Nat.reduceEqDiff, Nat.reduceAdd, Nat.reduceSub, Nat.reduceMul, Nat.reduceLT, Nat.reduceLeDiff, reduceCtorEq, Nat.reduceBEq, forall_const, implies_true, exists_const, ne_eq, Int.reduceAdd, Int.reduceSub, Int.reduceMul, Int.reduceBEq, Int.reduceEq, Int.reduceLT, Int.reduceLE, Int.reduceToNat, Int.reduceNeg, Int.reduceBNe]; refine tail _ ⟨g, _, 1, hw ▸ hkd, by rw [List.length_set]; exact hW, rfl, ?_⟩; simp -implicitDefEqProofs only [↓aP, aQ, ↓reduceIte, Nat.reduceEqDiff, Nat.reduceAdd, Nat.reduceSub, Nat.reduceMul, Nat.reduceLT, Nat.reduceLeDiff, reduceCtorEq, Nat.reduceBEq, forall_const, implies_true, exists_const, ne_eq, Int.reduceAdd, Int.reduceSub, Int.reduceMul, Int.reduceBEq, Int.reduceEq, Int.reduceLT, Int.reduceLE, Int.reduceToNat, Int.reduceNeg, Int.reduceBNe, s1, s5, g5, b5, s7, g7, b7, s8, encFs])
    by_cases u1 : acts[i].kind = 1
    · rcases id3 acts[i].id with ⟨d1, d2⟩ | ⟨d1, d3, d2⟩ | ⟨d1, d3, d2⟩
      · have hw : newW (wOf W) acts[i] 0 = wOf W := by unfold newW; rw [if_neg (by decide), if_neg (by omega), if_neg (by omega), if_neg (by omega)]
        simp -implicitDefEqProofs only [↓aP, aQ, ↓reduceIte, Nat.reduceEqDiff, Nat.reduceAdd, Nat.reduceSub, Nat.reduceMul, Nat.reduceLT, Nat.reduceLeDiff, reduceCtorEq, Nat.reduceBEq, forall_const, implies_true, exists_const, ne_eq, Int.reduceAdd, Int.reduceSub, Int.reduceMul, Int.reduceBEq, Int.reduceEq, Int.reduceLT, Int.reduceLE, Int.reduceToNat, Int.reduceNeg, Int.reduceBNe, s1, s5, g5, b5, s7, g7, b7, s8, encFs, u1, d1, beq_self_eq_true, show ((1 : Int) == 6) = false by decide]
        refine ask hri ?_
        simp -implicitDefEqProofs only [↓aP, aQ, ↓reduceIte, Nat.reduceEqDiff, Nat.reduceAdd, Nat.reduceSub, Nat.reduceMul, Nat.reduceLT, Nat.reduceLeDiff, reduceCtorEq, Nat.reduceBEq, forall_const, implies_true, exists_const, ne_eq, Int.reduceAdd, Int.reduceSub, Int.reduceMul, Int.reduceBEq, Int.reduceEq, Int.reduceLT, Int.reduceLE, Int.reduceToNat, Int.reduceNeg, Int.reduceBNe]
        refine tail _ ⟨g, W, 1, hw ▸ hkd, hW, rfl, ?_⟩
        simp -implicitDefEqProofs only [↓aP, aQ, ↓reduceIte, Nat.reduceEqDiff, Nat.reduceAdd, Nat.reduceSub, Nat.reduceMul, Nat.reduceLT, Nat.reduceLeDiff, reduceCtorEq, Nat.reduceBEq, forall_const, implies_true, exists_const, ne_eq, Int.reduceAdd, Int.reduceSub, Int.reduceMul, Int.reduceBEq, Int.reduceEq, Int.reduceLT, Int.reduceLE, Int.reduceToNat, Int.reduceNeg, Int.reduceBNe, s1, s5, g5, b5, s7, g7, b7, s8, encFs]
      · have hw : newW (wOf W) acts[i] 0 = wOf W := by unfold newW; rw [if_neg (by decide), if_neg (by omega), if_neg (by omega), if_neg (by omega)]
        simp -implicitDefEqProofs only [↓aP, aQ, ↓reduceIte, Nat.reduceEqDiff, Nat.reduceAdd, Nat.reduceSub, Nat.reduceMul, Nat.reduceLT, Nat.reduceLeDiff, reduceCtorEq, Nat.reduceBEq, forall_const, implies_true, exists_const, ne_eq, Int.reduceAdd, Int.reduceSub, Int.reduceMul, Int.reduceBEq, Int.reduceEq, Int.reduceLT, Int.reduceLE, Int.reduceToNat, Int.reduceNeg, Int.reduceBNe, s1, s5, g5, b5, s7, g7, b7, s8, encFs, u1, d1, d3, beq_self_eq_true, show ((1 : Int) == 6) = false by decide]
        refine ask hri ?_
        simp -implicitDefEqProofs only [↓aP, aQ, ↓reduceIte, Nat.reduceEqDiff, Nat.reduceAdd, Nat.reduceSub, Nat.reduceMul, Nat.reduceLT, Nat.reduceLeDiff, reduceCtorEq, Nat.reduceBEq, forall_const, implies_true, exists_const, ne_eq, Int.reduceAdd, Int.reduceSub, Int.reduceMul, Int.reduceBEq, Int.reduceEq, Int.reduceLT, Int.reduceLE, Int.reduceToNat, Int.reduceNeg, Int.reduceBNe]
        refine tail _ ⟨g, W, 1, hw ▸ hkd, hW, rfl, ?_⟩
        simp -implicitDefEqProofs only [↓aP, aQ, ↓reduceIte, Nat.reduceEqDiff, Nat.reduceAdd, Nat.reduceSub, Nat.reduceMul, Nat.reduceLT, Nat.reduceLeDiff, reduceCtorEq, Nat.reduceBEq, forall_const, implies_true, exists_const, ne_eq, Int.reduceAdd, Int.reduceSub, Int.reduceMul, Int.reduceBEq, Int.reduceEq, Int.reduceLT, Int.reduceLE, Int.reduceToNat, Int.reduceNeg, Int.reduceBNe, s1, s5, g5, b5, s7, g7, b7, s8, encFs]
      · have kid : acts[i].id.toNat < W.length := by omega
        have ewi : wOf W acts[i].id = W[acts[i].id.toNat] := by
          unfold wOf
          rw [if_pos d2, List.getD_eq_getElem?_getD, List.getElem?_eq_getElem kid]; rfl
        have rg := kf_range hk d2
        rw [ewi] at rg
        have wv : IntKind.i64.wrap (W[acts[i].id.toNat] + 1) = W[acts[i].id.toNat] + 1 := wrapI (by omega)
        have hw : newW (wOf W) acts[i] 0 = wOf (W.set acts[i].id.toNat (W[acts[i].id.toNat] + 1)) := by
          unfold newW
          rw [if_neg (by decide), if_pos ⟨u1, d2⟩, ← up_wOf hW d2, ewi]
        have ms : (W.map aI).set acts[i].id.toNat [.s (.pv (.int .i64 (W[acts[i].id.toNat] + 1)))] = (W.set acts[i].id.toNat (W[acts[i].id.toNat] + 1)).map aI := by rw [List.map_set]; rfl
        simp -implicitDefEqProofs only [↓aP, aQ, ↓reduceIte, Nat.reduceEqDiff, Nat.reduceAdd, Nat.reduceSub, Nat.reduceMul, Nat.reduceLT, Nat.reduceLeDiff, reduceCtorEq, Nat.reduceBEq, forall_const, implies_true, exists_const, ne_eq, Int.reduceAdd, Int.reduceSub, Int.reduceMul, Int.reduceBEq, Int.reduceEq, Int.reduceLT, Int.reduceLE, Int.reduceToNat, Int.reduceNeg, Int.reduceBNe, s1, s5, g5, b5, s7, g7, b7, s8, encFs, u1, d1, d3, beq_self_eq_true, show ((2 : Int) == 1) = false by decide]
        refine ⟨by omega, by omega, ?_⟩
        simp -implicitDefEqProofs only [↓aP, aQ, ↓reduceIte, Nat.reduceEqDiff, Nat.reduceAdd, Nat.reduceSub, Nat.reduceMul, Nat.reduceLT, Nat.reduceLeDiff, reduceCtorEq, Nat.reduceBEq, forall_const, implies_true, exists_const, ne_eq, Int.reduceAdd, Int.reduceSub, Int.reduceMul, Int.reduceBEq, Int.reduceEq, Int.reduceLT, Int.reduceLE, Int.reduceToNat, Int.reduceNeg, Int.reduceBNe, askIdx_map, kid, aI, List.map_cons, List.map_nil, wv, s1, s5, g5, b5, s7, g7, b7, s8]
        refine ⟨by omega, by omega, ?_⟩
        rw [ms]
        refine ask hri ?_
        simp -implicitDefEqProofs only [↓aP, aQ, ↓reduceIte, Nat.reduceEqDiff, Nat.reduceAdd, Nat.reduceSub, Nat.reduceMul, Nat.reduceLT, Nat.reduceLeDiff, reduceCtorEq, Nat.reduceBEq, forall_const, implies_true, exists_const, ne_eq, Int.reduceAdd, Int.reduceSub, Int.reduceMul, Int.reduceBEq, Int.reduceEq, Int.reduceLT, Int.reduceLE, Int.reduceToNat, Int.reduceNeg, Int.reduceBNe]
        refine tail _ ⟨g, _, 1, hw ▸ hkd, by rw [List.length_set]; exact hW, rfl, ?_⟩
        simp -implicitDefEqProofs only [↓aP, aQ, ↓reduceIte, Nat.reduceEqDiff, Nat.reduceAdd, Nat.reduceSub, Nat.reduceMul, Nat.reduceLT, Nat.reduceLeDiff, reduceCtorEq, Nat.reduceBEq, forall_const, implies_true, exists_const, ne_eq, Int.reduceAdd, Int.reduceSub, Int.reduceMul, Int.reduceBEq, Int.reduceEq, Int.reduceLT, Int.reduceLE, Int.reduceToNat, Int.reduceNeg, Int.reduceBNe, s1, s5, g5, b5, s7, g7, b7, s8, encFs]
    by_cases u2 : acts[i].kind = 2
    · rcases id3 acts[i].id with ⟨d1, d2⟩ | ⟨d1, d3, d2⟩ | ⟨d1, d3, d2⟩
      · have hw : newW (wOf W) acts[i] 0 = wOf W := by unfold newW; rw [if_neg (by decide), if_neg (by omega), if_neg (by omega), if_neg (by omega)]
        simp -implicitDefEqProofs only [↓aP, aQ, ↓reduceIte, Nat.reduceEqDiff, Nat.reduceAdd, Nat.reduceSub, Nat.reduceMul, Nat.reduceLT, Nat.reduceLeDiff, reduceCtorEq, Nat.reduceBEq, forall_const, implies_true, exists_const, ne_eq, Int.reduceAdd, Int.reduceSub, Int.reduceMul, Int.reduceBEq, Int.reduceEq, Int.reduceLT, Int.reduceLE, Int.reduceToNat, Int.reduceNeg, Int.reduceBNe, s1, s5, g5, b5, s7, g7, b7, s8, encFs, u2, d1, beq_self_eq_true, show ((2 : Int) == 6) = false by decide]
        refine ask hri ?_
        simp -implicitDefEqProofs only [↓aP, aQ, ↓reduceIte, Nat.reduceEqDiff, Nat.reduceAdd, Nat.reduceSub, Nat.reduceMul, Nat.reduceLT, Nat.reduceLeDiff, reduceCtorEq, Nat.reduceBEq, forall_const, implies_true, exists_const, ne_eq, Int.reduceAdd, Int.reduceSub, Int.reduceMul, Int.reduceBEq, Int.reduceEq, Int.reduceLT, Int.reduceLE, Int.reduceToNat, Int.reduceNeg, Int.reduceBNe]
        refine tail _ ⟨g, W, 1, hw ▸ hkd, hW, rfl, ?_⟩
        simp -implicitDefEqProofs only [↓aP, aQ, ↓reduceIte, Nat.reduceEqDiff, Nat.reduceAdd, Nat.reduceSub, Nat.reduceMul, Nat.reduceLT, Nat.reduceLeDiff, reduceCtorEq, Nat.reduceBEq, forall_const, implies_true, exists_const, ne_eq, Int.reduceAdd, Int.reduceSub, Int.reduceMul, Int.reduceBEq, Int.reduceEq, Int.reduceLT, Int.reduceLE, Int.reduceToNat, Int.reduceNeg, Int.reduceBNe, s1, s5, g5, b5, s7, g7, b7, s8, encFs]
      · have hw : newW (wOf W) acts[i] 0 = wOf W := by unfold newW; rw [if_neg (by decide), if_neg (by omega), if_neg (by omega), if_neg (by omega)]
        simp -implicitDefEqProofs only [↓aP, aQ, ↓reduceIte, Nat.reduceEqDiff, Nat.reduceAdd, Nat.reduceSub, Nat.reduceMul, Nat.reduceLT, Nat.reduceLeDiff, reduceCtorEq, Nat.reduceBEq, forall_const, implies_true, exists_const, ne_eq, Int.reduceAdd, Int.reduceSub, Int.reduceMul, Int.reduceBEq, Int.reduceEq, Int.reduceLT, Int.reduceLE, Int.reduceToNat, Int.reduceNeg, Int.reduceBNe, s1, s5, g5, b5, s7, g7, b7, s8, encFs, u2, d1, d3, beq_self_eq_true, show ((2 : Int) == 6) = false by decide]
        refine ask hri ?_
        simp -implicitDefEqProofs only [↓aP, aQ, ↓reduceIte, Nat.reduceEqDiff, Nat.reduceAdd, Nat.reduceSub, Nat.reduceMul, Nat.reduceLT, Nat.reduceLeDiff, reduceCtorEq, Nat.reduceBEq, forall_const, implies_true, exists_const, ne_eq, Int.reduceAdd, Int.reduceSub, Int.reduceMul, Int.reduceBEq, Int.reduceEq, Int.reduceLT, Int.reduceLE, Int.reduceToNat, Int.reduceNeg, Int.reduceBNe]
        refine tail _ ⟨g, W, 1, hw ▸ hkd, hW, rfl, ?_⟩
        simp -implicitDefEqProofs only [↓aP, aQ, ↓reduceIte, Nat.reduceEqDiff, Nat.reduceAdd, Nat.reduceSub, Nat.reduceMul, Nat.reduceLT, Nat.reduceLeDiff, reduceCtorEq, Nat.reduceBEq, forall_const, implies_true, exists_const, ne_eq, Int.reduceAdd, Int.reduceSub, Int.reduceMul, Int.reduceBEq, Int.reduceEq, Int.reduceLT, Int.reduceLE, Int.reduceToNat, Int.reduceNeg, Int.reduceBNe, s1, s5, g5, b5, s7, g7, b7, s8, encFs]
      · have kid : acts[i].id.toNat < W.length := by omega
        have ewi : wOf W acts[i].id = W[acts[i].id.toNat] := by
          unfold wOf
          rw [if_pos d2, List.getD_eq_getElem?_getD, List.getElem?_eq_getElem kid]; rfl
        have rg := kf_range hk d2
        rw [ewi] at rg
        have wv : IntKind.i64.wrap (W[acts[i].id.toNat] - 1) = W[acts[i].id.toNat] - 1 := wrapI (by omega)
        have hw : newW (wOf W) acts[i] 0 = wOf (W.set acts[i].id.toNat (W[acts[i].id.toNat] - 1)) := by
          unfold newW
          rw [if_neg (by decide), if_neg (by omega), if_pos ⟨u2, d2⟩, ← up_wOf hW d2, ewi]
        have ms : (W.map aI).set acts[i].id.toNat [.s (.pv (.int .i64 (W[acts[i].id.toNat] - 1)))] = (W.set acts[i].id.toNat (W[acts[i].id.toNat] - 1)).map aI := by rw [List.map_set]; rfl
        simp -implicitDefEqProofs only [↓aP, aQ, ↓reduceIte, Nat.reduceEqDiff, Nat.reduceAdd, Nat.reduceSub, Nat.reduceMul, Nat.reduceLT, Nat.reduceLeDiff, reduceCtorEq, Nat.reduceBEq, forall_const, implies_true, exists_const, ne_eq, Int.reduceAdd, Int.reduceSub, Int.reduceMul, Int.reduceBEq, Int.reduceEq, Int.reduceLT, Int.reduceLE, Int.reduceToNat, Int.reduceNeg, Int.reduceBNe, s1, s5, g5, b5, s7, g7, b7, s8, encFs, u2, d1, d3, beq_self_eq_true, show ((2 : Int) == 1) = false by decide]
        refine ⟨by omega, by omega, ?_⟩
        simp -implicitDefEqProofs only [↓aP, aQ, ↓reduceIte, Nat.reduceEqDiff, Nat.reduceAdd, Nat.reduceSub, Nat.reduceMul, Nat.reduceLT, Nat.reduceLeDiff, reduceCtorEq, Nat.reduceBEq, forall_const, implies_true, exists_const, ne_eq, Int.reduceAdd, Int.reduceSub, Int.reduceMul, Int.reduceBEq, Int.reduceEq, Int.reduceLT, Int.reduceLE, Int.reduceToNat, Int.reduceNeg, Int.reduceBNe, askIdx_map, kid, aI, List.map_cons, List.map_nil, wv, s1, s5, g5, b5, s7, g7, b7, s8]
        refine ⟨by omega, by omega, ?_⟩
        rw [ms]
        refine ask hri ?_
        simp -implicitDefEqProofs only [↓aP, aQ, ↓reduceIte, Nat.reduceEqDiff, Nat.reduceAdd, Nat.reduceSub, Nat.reduceMul, Nat.reduceLT, Nat.reduceLeDiff, reduceCtorEq, Nat.reduceBEq, forall_const, implies_true, exists_const, ne_eq, Int.reduceAdd, Int.reduceSub, Int.reduceMul, Int.reduceBEq, Int.reduceEq, Int.reduceLT, Int.reduceLE, Int.reduceToNat, Int.reduceNeg, Int.reduceBNe]
        refine tail _ ⟨g, _, 1, hw ▸ hkd, by rw [List.length_set]; exact hW, rfl, ?_⟩
        simp -implicitDefEqProofs only [↓aP, aQ, ↓reduceIte, Nat.reduceEqDiff, Nat.reduceAdd, Nat.reduceSub, Nat.reduceMul, Nat.reduceLT, Nat.reduceLeDiff, reduceCtorEq, Nat.reduceBEq, forall_const, implies_true, exists_const, ne_eq, Int.reduceAdd, Int.reduceSub, Int.reduceMul, Int.reduceBEq, Int.reduceEq, Int.reduceLT, Int.reduceLE, Int.reduceToNat, Int.reduceNeg, Int.reduceBNe, s1, s5, g5, b5, s7, g7, b7, s8, encFs]
    have hw : newW (wOf W) acts[i] 0 = wOf W := by unfold newW; rw [if_neg (by decide), if_neg (by omega), if_neg (by omega), if_neg (by omega)]
    rcases id3 acts[i].id with ⟨d1, d2⟩ | ⟨d1, d3, d2⟩ | ⟨d1, d3, d2⟩
    all_goals (simp -implicitDefEqProofs only [↓aP, aQ, ↓reduceIte, Nat.reduceEqDiff, Nat.reduceAdd, Nat.reduceSub, Nat.reduceMul, Nat.reduceLT, Nat.reduceLeDiff, reduceCtorEq, Nat.reduceBEq, forall_const, implies_true, exists_const, ne_eq, Int.reduceAdd, Int.reduceSub, Int.reduceMul, Int.reduceBEq, Int.reduceEq, Int.reduceLT, Int.reduceLE, Int.reduceToNat, Int.reduceNeg, Int.reduceBNe, s1, s5, g5, b5, s7, g7, b7, s8, encFs, kn 1 u1, kn 2 u2, kn 6 u6, d1])
    all_goals (try simp -implicitDefEqProofs only [↓aP, aQ, ↓reduceIte, Nat.reduceEqDiff, Nat.reduceAdd, Nat.reduceSub, Nat.reduceMul, Nat.reduceLT, Nat.reduceLeDiff, reduceCtorEq, Nat.reduceBEq, forall_const, implies_true, exists_const, ne_eq, Int.reduceAdd, Int.reduceSub, Int.reduceMul, Int.reduceBEq, Int.reduceEq, Int.reduceLT, Int.reduceLE, Int.reduceToNat, Int.reduceNeg, Int.reduceBNe, s1, s5, g5, b5, s7, g7, b7, s8, encFs, kn 1 u1, kn 2 u2, kn 6 u6, d1, d3])
    all_goals (refine ask hri ?_; simp -implicitDefEqProofs only [↓aP, aQ, ↓reduceIte, Nat.reduceEqDiff, Nat.reduceAdd, Nat.reduceSub, Nat.reduceMul, Nat.reduceLT, Nat.reduceLeDiff, reduceCtorEq, Nat.reduceBEq, forall_const, implies_true, exists_const, ne_eq, Int.reduceAdd, Int.reduceSub, Int.reduceMul, Int.reduceBEq, Int.reduceEq, Int.reduceLT, Int.reduceLE, Int.reduceToNat, Int.reduceNeg, Int.reduceBNe]; refine tail _ ⟨g, W, 1, hw ▸ hkd, hW, rfl, ?_⟩; simp -implicitDefEqProofs only [↓aP, aQ, ↓reduceIte, Nat.reduceEqDiff, Nat.reduceAdd, Nat.reduceSub, Nat.reduceMul, Nat.reduceLT, Nat.reduceLeDiff, reduceCtorEq, Nat.reduceBEq, forall_const, implies_true, exists_const, ne_eq, Int.reduceAdd, Int.reduceSub, Int.reduceMul, Int.reduceBEq, Int.reduceEq, Int.reduceLT, Int.reduceLE, Int.reduceToNat, Int.reduceNeg, Int.reduceBNe, s1, s5, g5, b5, s7, g7, b7, s8, encFs])
  case h2 =>
    rintro σ ⟨f, W, j, hk, hW, hj, s1, s5, g5, b5, s7, g7, b7, s8, s12⟩
    refine loopA (fun m σ => ∃ j : Nat, j + m = 17 ∧ 1 ≤ j ∧ σ.slot 1 = vL 7 (acts.map encAv) ∧ σ.slot 5 = .c (.ptr 5 1 0 0) ∧ σ.h.gen 5 = 1 ∧ σ.h.blk 5 = .box 32 5 [(encFs f).map AC.s] ∧ σ.slot 7 = .c (.ptr 7 1 0 0) ∧ σ.h.gen 7 = 1 ∧ σ.h.blk 7 = .box 36 1 (W.map aI) ∧ σ.slot 8 = vI i ∧ σ.slot 12 = vI j) 16 ⟨j, by omega, by omega, s1, s5, g5, b5, s7, g7, b7, s8, s12⟩ ?_
    clear hj s1 s5 g5 b5 s7 g7 b7 s8 s12
    rintro m2 σ ⟨j, hj, hj1, s1, s5, g5, b5, s7, g7, b7, s8, s12⟩
    by_cases hm0 : m2 = 0
    · obtain rfl : j = 17 := by omega
      simp -implicitDefEqProofs only [↓aP, aQ, ↓reduceIte, Nat.reduceEqDiff, Nat.reduceAdd, Nat.reduceSub, Nat.reduceMul, Nat.reduceLT, Nat.reduceLeDiff, reduceCtorEq, Nat.reduceBEq, forall_const, implies_true, exists_const, ne_eq, Int.reduceAdd, Int.reduceSub, Int.reduceMul, Int.reduceBEq, Int.reduceEq, Int.reduceLT, Int.reduceLE, Int.reduceToNat, Int.reduceNeg, Int.reduceBNe, s1, s5, g5, b5, s7, g7, b7, s8, s12, show decide (((17 : Nat) : Int) < 17) = false by decide, encFs, wi]
      refine ⟨m - 1, by omega, i + 1, f, W, by omega, by omega, hk, hW, ?_⟩
      simp -implicitDefEqProofs only [↓aP, aQ, ↓reduceIte, Nat.reduceEqDiff, Nat.reduceAdd, Nat.reduceSub, Nat.reduceMul, Nat.reduceLT, Nat.reduceLeDiff, reduceCtorEq, Nat.reduceBEq, forall_const, implies_true, exists_const, ne_eq, Int.reduceAdd, Int.reduceSub, Int.reduceMul, Int.reduceBEq, Int.reduceEq, Int.reduceLT, Int.reduceLE, Int.reduceToNat, Int.reduceNeg, Int.reduceBNe, s1, s5, g5, b5, s7, g7, b7, s8, s12, encFs]
    have w1 : IntKind.i64.wrap ((j : Int) + 1) = ((j + 1 : Nat) : Int) := by rw [wrapI (by omega)]; omega
    have kj : j < W.length := by omega
    have cF := fFind_spec f (j : Int) (rt_sh hk.rt)
    rw [rt_find hk.rt] at cF
    have ew : wOf W (j : Int) = W[j] := by
      unfold wOf
      rw [if_pos (by omega), Int.toNat_natCast, List.getD_eq_getElem?_getD, List.getElem?_eq_getElem kj]; rfl
    rcases kf_find hk (id := (j : Int)) (by omega) with ⟨x, f1, f2⟩ | ⟨q, hq, hqc, f1, f2, f3⟩
    · rw [f1, encFs] at cF
      rw [ew] at f2
      simp -implicitDefEqProofs only [↓aP, aQ, ↓reduceIte, Nat.reduceEqDiff, Nat.reduceAdd, Nat.reduceSub, Nat.reduceMul, Nat.reduceLT, Nat.reduceLeDiff, reduceCtorEq, Nat.reduceBEq, forall_const, implies_true, exists_const, ne_eq, Int.reduceAdd, Int.reduceSub, Int.reduceMul, Int.reduceBEq, Int.reduceEq, Int.reduceLT, Int.reduceLE, Int.reduceToNat, Int.reduceNeg, Int.reduceBNe, s1, s5, g5, b5, s7, g7, b7, s8, s12, show decide ((j : Int) < 17) = true by simp; omega, encFs]
      refine ask cF ?_
      simp -implicitDefEqProofs only [↓aP, aQ, ↓reduceIte, Nat.reduceEqDiff, Nat.reduceAdd, Nat.reduceSub, Nat.reduceMul, Nat.reduceLT, Nat.reduceLeDiff, reduceCtorEq, Nat.reduceBEq, forall_const, implies_true, exists_const, ne_eq, Int.reduceAdd, Int.reduceSub, Int.reduceMul, Int.reduceBEq, Int.reduceEq, Int.reduceLT, Int.reduceLE, Int.reduceToNat, Int.reduceNeg, Int.reduceBNe, encSlot, s1, s5, g5, b5, s7, g7, b7, s8, s12]
      refine ⟨by omega, ?_⟩
      simp -implicitDefEqProofs only [↓aP, aQ, ↓reduceIte, Nat.reduceEqDiff, Nat.reduceAdd, Nat.reduceSub, Nat.reduceMul, Nat.reduceLT, Nat.reduceLeDiff, reduceCtorEq, Nat.reduceBEq, forall_const, implies_true, exists_const, ne_eq, Int.reduceAdd, Int.reduceSub, Int.reduceMul, Int.reduceBEq, Int.reduceEq, Int.reduceLT, Int.reduceLE, Int.reduceToNat, Int.reduceNeg, Int.reduceBNe, askIdx_map, kj, aI, List.map_cons, List.map_nil, f2, s1, s5, g5, b5, s7, g7, b7, s8, s12, w1]
      refine ⟨by decide +kernel, m2 - 1, by omega, j + 1, by omega, by omega, ?_⟩
      simp -implicitDefEqProofs only [↓aP, aQ, ↓reduceIte, Nat.reduceEqDiff, Nat.reduceAdd, Nat.reduceSub, Nat.reduceMul, Nat.reduceLT, Nat.reduceLeDiff, reduceCtorEq, Nat.reduceBEq, forall_const, implies_true, exists_const, ne_eq, Int.reduceAdd, Int.reduceSub, Int.reduceMul, Int.reduceBEq, Int.reduceEq, Int.reduceLT, Int.reduceLE, Int.reduceToNat, Int.reduceNeg, Int.reduceBNe, s1, s5, g5, b5, s7, g7, b7, s8, s12, encFs]
    · rw [f1, encFs] at cF
      rw [ew] at f3
      simp -implicitDefEqProofs only [↓aP, aQ, ↓reduceIte, Nat.reduceEqDiff, Nat.reduceAdd, Nat.reduceSub, Nat.reduceMul, Nat.reduceLT, Nat.reduceLeDiff, reduceCtorEq, Nat.reduceBEq, forall_const, implies_true, exists_const, ne_eq, Int.reduceAdd, Int.reduceSub, Int.reduceMul, Int.reduceBEq, Int.reduceEq, Int.reduceLT, Int.reduceLE, Int.reduceToNat, Int.reduceNeg, Int.reduceBNe, s1, s5, g5, b5, s7, g7, b7, s8, s12, show decide ((j : Int) < 17) = true by simp; omega, encFs]
      refine ask cF ?_
      simp -implicitDefEqProofs only [↓aP, aQ, ↓reduceIte, Nat.reduceEqDiff, Nat.reduceAdd, Nat.reduceSub, Nat.reduceMul, Nat.reduceLT, Nat.reduceLeDiff, reduceCtorEq, Nat.reduceBEq, forall_const, implies_true, exists_const, ne_eq, Int.reduceAdd, Int.reduceSub, Int.reduceMul, Int.reduceBEq, Int.reduceEq, Int.reduceLT, Int.reduceLE, Int.reduceToNat, Int.reduceNeg, Int.reduceBNe, encSlot, s1, s5, g5, b5, s7, g7, b7, s8, s12]
      refine ⟨by omega, ?_⟩
      cases hx : decide (0 < W[j])
      all_goals (simp -implicitDefEqProofs only [↓aP, aQ, ↓reduceIte, Nat.reduceEqDiff, Nat.reduceAdd, Nat.reduceSub, Nat.reduceMul, Nat.reduceLT, Nat.reduceLeDiff, reduceCtorEq, Nat.reduceBEq, forall_const, implies_true, exists_const, ne_eq, Int.reduceAdd, Int.reduceSub, Int.reduceMul, Int.reduceBEq, Int.reduceEq, Int.reduceLT, Int.reduceLE, Int.reduceToNat, Int.reduceNeg, Int.reduceBNe, askIdx_map, kj, aI, List.map_cons, List.map_nil, hx, s1, s5, g5, b5, s7, g7, b7, s8, s12, encFs, List.length_map, hq, hqc, encPg, encFr, f2, f3, bne_self_eq_false, show decide ((q : Int) < 0) = false from decide_eq_false (by omega), show decide ((f.pg.length : Int) ≤ (q : Int)) = false by simp; omega, w1])
      all_goals (refine ⟨by omega, by decide +kernel, m2 - 1, by omega, j + 1, by omega, by omega, ?_⟩; simp -implicitDefEqProofs only [↓aP, aQ, ↓reduceIte, Nat.reduceEqDiff, Nat.reduceAdd, Nat.reduceSub, Nat.reduceMul, Nat.reduceLT, Nat.reduceLeDiff, reduceCtorEq, Nat.reduceBEq, forall_const, implies_true, exists_const, ne_eq, Int.reduceAdd, Int.reduceSub, Int.reduceMul, Int.reduceBEq, Int.reduceEq, Int.reduceLT, Int.reduceLE, Int.reduceToNat, Int.reduceNeg, Int.reduceBNe, s1, s5, g5, b5, s7, g7, b7, s8, s12, encFs])
end Go.Proofs.Ytcindpblgbpcoaa
namespace Go.Proofs.Ytcindpblgbpcoaa
open Go.RowKit Go.ChangeShapes Go.WideShapes
set_option linter.unusedVariables false
theorem opens_pgK {H : Type} {enc : TypeId × Value → H} {w : World} {spare : Nat → Bool} {held : Bool} : Opens Try.prog enc w spare held 38 3 (fun ys => ∃ x : Pg, ys = encPg x) := by
  have h := opens_struct (enc := enc) (w := w) (spare := spare) (held := held) Try.underlying38 (by kernel_rfl) (.cons rfl (opens_int Try.underlying3 (by kernel_rfl)) (.cons rfl (opens_int Try.underlying3 (by kernel_rfl)) (.cons rfl (opens_str Try.underlying9 (by kernel_rfl)) (.nil _))))
  refine ⟨h.1, fun fuel cs x hx => ?_⟩
  obtain ⟨ys, ⟨a, b, rfl, ⟨n, rfl, hn⟩, c, e, rfl, ⟨n2, rfl, hn2⟩, c2, e2, rfl, ⟨s, rfl, hs⟩, rfl⟩, h2, h3⟩ := h.2 _ _ _ hx
  exact ⟨_, ⟨⟨n, n2, s⟩, rfl⟩, h2, h3⟩
theorem opens_av {H : Type} {enc : TypeId × Value → H} {w : World} {spare : Nat → Bool} {held : Bool} : Opens Try.prog enc w spare held 40 7 (fun ys => ∃ x : Av, ys = encAv x) := by
  have h := opens_struct (enc := enc) (w := w) (spare := spare) (held := held) Try.underlying40 (by kernel_rfl) (.cons rfl (opens_int Try.underlying3 (by kernel_rfl)) (.cons rfl (opens_int Try.underlying3 (by kernel_rfl)) (.cons rfl (opens_int Try.underlying3 (by kernel_rfl)) (.cons rfl (opens_str Try.underlying9 (by kernel_rfl)) (.cons rfl opens_pgK (.nil _))))))
  refine ⟨h.1, fun fuel cs x hx => ?_⟩
  obtain ⟨ys, ⟨_, _, rfl, ⟨n1, rfl, _⟩, _, _, rfl, ⟨n2, rfl, _⟩, _, _, rfl, ⟨n3, rfl, _⟩, _, _, rfl, ⟨s, rfl, _⟩, _, _, rfl, ⟨p, rfl⟩, rfl⟩, h2, h3⟩ := h.2 _ _ _ hx
  exact ⟨_, ⟨⟨n1, n2, n3, s, p⟩, rfl⟩, h2, h3⟩
set_option maxRecDepth 100000 in
theorem open_avs {H : Type} {enc : TypeId × Value → H} {w : World} {spare : Nat → Bool} {held : Bool} {r : Reach} {b0 : Nat} {v : Value} {d : DataW H} {p : List MemPlace} 
    (hv : Value.okWide Try.prog w r b0 22 v) (h : DataW.Trod enc Try.prog w 0 spare held 22 v d p) : ∃ A : List Av, A.length ≤ maxLen ∧ RepT (RepS w fun _ => False) (rL 7 (A.map encAv)) v := by
  obtain ⟨y, ⟨els, e1, e2, e3⟩, h2⟩ := open_one (opens_slice Try.underlying22 (by kernel_rfl) (by decide) opens_av) (slice_cells Try.underlying22 hv) h
  simp only [List.cons.injEq, and_true] at e1
  subst e1
  obtain ⟨A, rfl⟩ := all_of_mem (f := encAv) (fun y hy => e2 y hy)
  exact ⟨A, by simpa using e3, h2⟩
theorem framesKeep_walk {w : World} (a : Int) (ha : (Lit.int .u8 a).wf = true) (v0 : Value) (a0 : ∃ A : List Av, A.length ≤ maxLen ∧ RepT (RepS w fun _ => False) (rL 7 (A.map encAv)) v0) :
    Calls Try.prog 3 #[.int .u8 a, v0] w fun e w' => e = .returned (.bool true) ∧ Below w.heap.size w w' := by
  obtain ⟨A, hA, h0⟩ := a0
  exact (law_keep a A (u8_of ha) (by unfold maxLen at hA; omega)).plain (us := [.int .u8 a, v0]) (.cons (.pv rfl) (.cons h0 .nil))
end Go.Proofs.Ytcindpblgbpcoaa
