/- layer 6: the contract of Crash. -/
import Derived.Test.YtfmbfgoofiojcaaS4
namespace Go.Proofs.Ytfmbfgoofiojcaa
open Go.RowKit Lk
set_option linter.unusedVariables false
set_option linter.unusedSimpArgs false
theorem rs_shs {s : Sd} (h : Sc.Rs s) : Shs s := by
  obtain ⟨a, b, c, d, e, f, _⟩ := h.len
  exact ⟨⟨by omega, fun y hy => by have := f y hy; omega⟩, by omega, fun l hl => by have := e l hl; omega, by omega⟩
def wfill (W : List Int) (i : Nat) : List Int := W.take i ++ List.replicate (W.length - i) 0
theorem wfill_set {W : List Int} {i : Nat} (h : i < W.length) : (wfill W i).set i W[i] = wfill W (i + 1) := by
  unfold wfill
  have hl : (W.take i).length = i := by rw [List.length_take]; omega
  rw [List.set_append, if_neg (by omega), hl, Nat.sub_self]
  obtain ⟨n, hn⟩ : ∃ n, W.length - i = n + 1 := ⟨W.length - i - 1, by omega⟩
  rw [hn, List.replicate_succ, List.set_cons_zero, show W.length - (i + 1) = n by omega, List.take_succ_eq_append_getElem h, List.append_assoc]; rfl
theorem wfill_zero (W : List Int) : (wfill W 0).map encI = List.replicate W.length [SC.pv (.int .i64 0)] := by
  unfold wfill
  rw [List.take_zero, List.nil_append, Nat.sub_zero, List.map_replicate]; rfl
theorem wfill_len (W : List Int) (i : Nat) (h : i ≤ W.length) : (wfill W i).length = W.length := by
  unfold wfill; rw [List.length_append, List.length_take, List.length_replicate]; omega

set_option maxRecDepth 100000 in
set_option maxHeartbeats 4000000 in
theorem scrash_spec (s : Sd) (keep : List Int) (h : Sc.Rs s) (hk : keep.length < 4611686018427387904) : Spec Try.prog 33 [.agg (encSd s), rL 1 (keep.map encI)] (.val (.agg (encSd (Sc.crashS s keep)))) := by
  refine spec_val mixed fn33 (by simp) ?_
  unfold ac33
  have hlen := h.len
  have hw : (s.l.l.map Ln.w).length = s.l.l.length := List.length_map _
  simp -implicitDefEqProofs only [↓aP, aQ, ↓reduceIte, Nat.reduceEqDiff, Nat.reduceAdd, Nat.reduceSub, Nat.reduceMul, Nat.reduceLT, Nat.reduceLeDiff, reduceCtorEq, Nat.reduceBEq, forall_const, implies_true, exists_const, ne_eq, Int.reduceAdd, Int.reduceSub, Int.reduceMul, Int.reduceBEq, Int.reduceEq, Int.reduceLT, Int.reduceLE, Int.reduceToNat, Int.reduceNeg, Int.reduceBNe, encSd]
  refine ask (by have := sright_spec s (rs_shs h); rw [encSd, Sc.rs_iff.2 h] at this; exact this) ?_
  simp -implicitDefEqProofs only [↓aP, aQ, ↓reduceIte, Nat.reduceEqDiff, Nat.reduceAdd, Nat.reduceSub, Nat.reduceMul, Nat.reduceLT, Nat.reduceLeDiff, reduceCtorEq, Nat.reduceBEq, forall_const, implies_true, exists_const, ne_eq, Int.reduceAdd, Int.reduceSub, Int.reduceMul, Int.reduceBEq, Int.reduceEq, Int.reduceLT, Int.reduceLE, Int.reduceToNat, Int.reduceNeg, Int.reduceBNe, encSd, List.length_map]
  refine ⟨by omega, by omega, ?_⟩
  refine rangeB s.l.l.length (fun i σ => ∃ g, σ.slot 1 = vL 1 (keep.map encI) ∧ σ.slot 2 = .c (.ptr 2 1 0 0) ∧ σ.h.gen 2 = 1 ∧ σ.h.blk 2 = .box 68 9 [(encSd s).map AC.s] ∧ σ.slot 4 = .c (.ptr 4 1 0 0) ∧ σ.h.gen 4 = 1 ∧ σ.h.blk 4 = .box 68 9 [[.zc, .s (.pv (.int .i64 0)), .s (.pv (.bool false)), .zc, .zc, .zc, .s (.pv (.int .i64 0)), .zc, .zc]] ∧ σ.slot 5 = .c (.own 18 g) ∧ σ.h.gen 18 = g ∧ σ.h.blk 18 = .row 3 1 ((wfill (s.l.l.map Ln.w) i).map encI) ∧ σ.slot 21 = vL 3 (s.l.l.map encLn) ∧ σ.slot 22 = vI s.l.l.length ∧ σ.slot 23 = vI i) ?_ ?_ ?_
  · simp -implicitDefEqProofs only [↓aP, aQ, ↓reduceIte, Nat.reduceEqDiff, Nat.reduceAdd, Nat.reduceSub, Nat.reduceMul, Nat.reduceLT, Nat.reduceLeDiff, reduceCtorEq, Nat.reduceBEq, forall_const, implies_true, exists_const, ne_eq, Int.reduceAdd, Int.reduceSub, Int.reduceMul, Int.reduceBEq, Int.reduceEq, Int.reduceLT, Int.reduceLE, Int.reduceToNat, Int.reduceNeg, Int.reduceBNe, encSd]
    exact ⟨1, rfl, rfl, by rw [wfill_zero, hw]⟩
  · rintro i m σ him hi hlt ⟨g, s1, s2, g2, b2, s4, g4, b4, s5, g18, b18, s21, s22, s23⟩
    have hiw : i < (wfill (s.l.l.map Ln.w) i).length := by rw [wfill_len _ _ (by omega)]; omega
    have ms : ((wfill (s.l.l.map Ln.w) i).map encI).set i [.pv (.int .i64 s.l.l[i].w)] = (wfill (s.l.l.map Ln.w) (i + 1)).map encI := by
      rw [← wfill_set (by omega), List.map_set, List.getElem_map]; rfl
    simp -implicitDefEqProofs only [↓aP, aQ, ↓reduceIte, Nat.reduceEqDiff, Nat.reduceAdd, Nat.reduceSub, Nat.reduceMul, Nat.reduceLT, Nat.reduceLeDiff, reduceCtorEq, Nat.reduceBEq, forall_const, implies_true, exists_const, ne_eq, Int.reduceAdd, Int.reduceSub, Int.reduceMul, Int.reduceBEq, Int.reduceEq, Int.reduceLT, Int.reduceLE, Int.reduceToNat, Int.reduceNeg, Int.reduceBNe, hlt, s1, s2, g2, b2, s4, g4, b4, s5, g18, b18, s21, s22, s23, askIdx_map, hi, encLn, hiw, encI, wrapS (show i < 4611686018427387904 by omega), ms]
    refine nextR hi him ⟨g, ?_⟩
    simp -implicitDefEqProofs only [↓aP, aQ, ↓reduceIte, Nat.reduceEqDiff, Nat.reduceAdd, Nat.reduceSub, Nat.reduceMul, Nat.reduceLT, Nat.reduceLeDiff, reduceCtorEq, Nat.reduceBEq, forall_const, implies_true, exists_const, ne_eq, Int.reduceAdd, Int.reduceSub, Int.reduceMul, Int.reduceBEq, Int.reduceEq, Int.reduceLT, Int.reduceLE, Int.reduceToNat, Int.reduceNeg, Int.reduceBNe, s1, s2, g2, b2, s4, g4, b4, s5, g18, b18, s21, s22, s23, encSd]
  · rintro m σ hlt ⟨g, s1, s2, g2, b2, s4, g4, b4, s5, g18, b18, s21, s22, s23⟩
    have ew : wfill (s.l.l.map Ln.w) s.l.l.length = s.l.l.map Ln.w := by
      unfold wfill
      rw [← hw, List.take_length, Nat.sub_self]; simp
    rw [ew] at b18
    have ec : crashV s.dv keep = ⟨crashD s.dv.disk keep, s.dv.next, []⟩ := by unfold crashV; rw [if_pos h.d]
    have e : Sc.crashS s keep = (Sc.newS (crashV s.dv keep) (s.l.l.map Ln.w)).1 := by unfold Sc.crashS; rw [if_neg (by rw [Sc.rs_iff.2 h]; decide)]
    rw [e]
    have c1 := dvcrash_spec s.dv keep hk
    have c2 := snewS_spec (crashV s.dv keep) (s.l.l.map Ln.w) (by rw [hw]; omega)
    rw [encSi] at c2
    generalize crashV s.dv keep = V at c1 c2
    generalize Sc.newS V (s.l.l.map Ln.w) = R at c2
    simp only [encDv, encSd] at c1 c2
    simp -implicitDefEqProofs only [↓aP, aQ, ↓reduceIte, Nat.reduceEqDiff, Nat.reduceAdd, Nat.reduceSub, Nat.reduceMul, Nat.reduceLT, Nat.reduceLeDiff, reduceCtorEq, Nat.reduceBEq, forall_const, implies_true, exists_const, ne_eq, Int.reduceAdd, Int.reduceSub, Int.reduceMul, Int.reduceBEq, Int.reduceEq, Int.reduceLT, Int.reduceLE, Int.reduceToNat, Int.reduceNeg, Int.reduceBNe, hlt, s1, s2, g2, b2, s4, g4, b4, s5, g18, b18, s21, s22, s23, encSd]
    refine ask c1 ?_
    simp -implicitDefEqProofs only [↓aP, aQ, ↓reduceIte, Nat.reduceEqDiff, Nat.reduceAdd, Nat.reduceSub, Nat.reduceMul, Nat.reduceLT, Nat.reduceLeDiff, reduceCtorEq, Nat.reduceBEq, forall_const, implies_true, exists_const, ne_eq, Int.reduceAdd, Int.reduceSub, Int.reduceMul, Int.reduceBEq, Int.reduceEq, Int.reduceLT, Int.reduceLE, Int.reduceToNat, Int.reduceNeg, Int.reduceBNe, s1, s2, g2, b2, s4, g4, b4, s5, g18, b18, s21, s22, s23, encSd]
    refine ask c2 ?_
    simp -implicitDefEqProofs only [↓aP, aQ, ↓reduceIte, Nat.reduceEqDiff, Nat.reduceAdd, Nat.reduceSub, Nat.reduceMul, Nat.reduceLT, Nat.reduceLeDiff, reduceCtorEq, Nat.reduceBEq, forall_const, implies_true, exists_const, ne_eq, Int.reduceAdd, Int.reduceSub, Int.reduceMul, Int.reduceBEq, Int.reduceEq, Int.reduceLT, Int.reduceLE, Int.reduceToNat, Int.reduceNeg, Int.reduceBNe, s1, s2, g2, b2, s4, g4, b4, s5, g18, b18, s21, s22, s23, encSd]
end Go.Proofs.Ytfmbfgoofiojcaa
