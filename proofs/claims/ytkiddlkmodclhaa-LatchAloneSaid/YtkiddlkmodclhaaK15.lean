/- layer 8: the law LatchEnds. -/
import Derived.Test.YtkiddlkmodclhaaK12
namespace Go.Proofs.Ytkiddlkmodclhaa
open Go.RowKit La
set_option linter.unusedVariables false
set_option linter.unusedSimpArgs false
theorem dropH_facts {l : Lt} {who : Int} (h : right l = true) (hw : who ∈ l.h) : (dropM l who).2.2 = 0 ∧ right (dropM l who).1 = true ∧ (dropM l who).1.h.length + (dropM l who).1.q.length + 1 = l.h.length + l.q.length ∧ (dropM l who).2.1.length + (dropM l who).1.q.length = l.q.length := by
  have hle := right_sorted h
  have hhas : has l.h who = true := by rw [has_mem hle, decide_eq_true hw]
  obtain ⟨hp, _⟩ := has_at hhas
  obtain ⟨f1, f2, f3, kk, f4, f5, f6, _⟩ := ent_facts _ _ _ (pre_dropH h hw)
  have e : dropM l who = ((ent (l.h.eraseIdx (pos l.h who)) false l.q).1, (ent (l.h.eraseIdx (pos l.h who)) false l.q).2, 0) := by
    unfold dropM
    rw [if_neg (by rw [h]; simp), if_pos hw]
  rw [e]
  refine ⟨rfl, right_iff.2 ⟨f1, f2⟩, ?_, ?_⟩
  · have := f3.length_eq
    simp only [whos, List.length_append, List.length_map, List.length_eraseIdx, hp, if_true] at this
    simp only
    omega
  · simp only
    rw [f4, f5]
    simp only [List.length_drop, List.length_map, List.length_take]
    omega
theorem right_some {l : Lt} (h : right l = true) (h0 : 0 < l.h.length + l.q.length) : ∃ a t, l.h = a :: t := by
  obtain ⟨hp, hm⟩ := right_iff.1 h
  cases hh : l.h with
  | cons a t => exact ⟨a, t, rfl⟩
  | nil =>
    cases hq : l.q with
    | nil => rw [hh, hq] at h0; simp at h0
    | cons a t => unfold may at hm; rw [hq] at hm; simp [hh] at hm

theorem law_ends (l : Lt) (hl : l.h.length ≤ 9223372036854775807) (hl2 : l.q.length ≤ 9223372036854775807) : Spec Try.prog 9 [.agg (encLt l)] (.val (rB true)) := by
  refine spec_val mixed fn9 (by simp) ?_
  unfold ac9
  simp -implicitDefEqProofs only [↓aP, aQ, ↓reduceIte, Nat.reduceEqDiff, Nat.reduceAdd, Nat.reduceSub, Nat.reduceMul, Nat.reduceLT, Nat.reduceLeDiff, reduceCtorEq, Nat.reduceBEq, forall_const, implies_true, exists_const, ne_eq, Int.reduceAdd, Int.reduceSub, Int.reduceMul, Int.reduceBEq, Int.reduceEq, Int.reduceLT, Int.reduceLE, Int.reduceToNat, Int.reduceNeg, Int.reduceBNe, encLt]
  refine ask (lref_spec l (by omega) (by omega)) ?_
  by_cases h80 : 80 < l.h.length ∨ 80 < l.q.length
  · have e : refM l = (⟨l.h, l.ex, []⟩, false) := by unfold refM; rw [if_pos h80]
    simp -implicitDefEqProofs only [↓aP, aQ, ↓reduceIte, Nat.reduceEqDiff, Nat.reduceAdd, Nat.reduceSub, Nat.reduceMul, Nat.reduceLT, Nat.reduceLeDiff, reduceCtorEq, Nat.reduceBEq, forall_const, implies_true, exists_const, ne_eq, Int.reduceAdd, Int.reduceSub, Int.reduceMul, Int.reduceBEq, Int.reduceEq, Int.reduceLT, Int.reduceLE, Int.reduceToNat, Int.reduceNeg, Int.reduceBNe, encRef, e, encLt]
    refine ask awake_spec ?_
    simp -implicitDefEqProofs only [↓aP, aQ, ↓reduceIte, Nat.reduceEqDiff, Nat.reduceAdd, Nat.reduceSub, Nat.reduceMul, Nat.reduceLT, Nat.reduceLeDiff, reduceCtorEq, Nat.reduceBEq, forall_const, implies_true, exists_const, ne_eq, Int.reduceAdd, Int.reduceSub, Int.reduceMul, Int.reduceBEq, Int.reduceEq, Int.reduceLT, Int.reduceLE, Int.reduceToNat, Int.reduceNeg, Int.reduceBNe]
  simp -implicitDefEqProofs only [↓aP, aQ, ↓reduceIte, Nat.reduceEqDiff, Nat.reduceAdd, Nat.reduceSub, Nat.reduceMul, Nat.reduceLT, Nat.reduceLeDiff, reduceCtorEq, Nat.reduceBEq, forall_const, implies_true, exists_const, ne_eq, Int.reduceAdd, Int.reduceSub, Int.reduceMul, Int.reduceBEq, Int.reduceEq, Int.reduceLT, Int.reduceLE, Int.reduceToNat, Int.reduceNeg, Int.reduceBNe, encRef, ref_small (show l.h.length ≤ 80 ∧ l.q.length ≤ 80 by omega), encLt]
  refine ask (rRight_spec l (by omega)) ?_
  cases hr0 : right l
  · simp -implicitDefEqProofs only [↓aP, aQ, ↓reduceIte, Nat.reduceEqDiff, Nat.reduceAdd, Nat.reduceSub, Nat.reduceMul, Nat.reduceLT, Nat.reduceLeDiff, reduceCtorEq, Nat.reduceBEq, forall_const, implies_true, exists_const, ne_eq, Int.reduceAdd, Int.reduceSub, Int.reduceMul, Int.reduceBEq, Int.reduceEq, Int.reduceLT, Int.reduceLE, Int.reduceToNat, Int.reduceNeg, Int.reduceBNe]
    refine ask awake_spec ?_
    simp -implicitDefEqProofs only [↓aP, aQ, ↓reduceIte, Nat.reduceEqDiff, Nat.reduceAdd, Nat.reduceSub, Nat.reduceMul, Nat.reduceLT, Nat.reduceLeDiff, reduceCtorEq, Nat.reduceBEq, forall_const, implies_true, exists_const, ne_eq, Int.reduceAdd, Int.reduceSub, Int.reduceMul, Int.reduceBEq, Int.reduceEq, Int.reduceLT, Int.reduceLE, Int.reduceToNat, Int.reduceNeg, Int.reduceBNe]
  have h64 := right_le hr0
  have w : IntKind.i64.wrap ((l.h.length : Int) + (l.q.length : Int)) = ((l.h.length + l.q.length : Nat) : Int) := by rw [wrapI (by omega)]; omega
  simp -implicitDefEqProofs only [↓aP, aQ, ↓reduceIte, Nat.reduceEqDiff, Nat.reduceAdd, Nat.reduceSub, Nat.reduceMul, Nat.reduceLT, Nat.reduceLeDiff, reduceCtorEq, Nat.reduceBEq, forall_const, implies_true, exists_const, ne_eq, Int.reduceAdd, Int.reduceSub, Int.reduceMul, Int.reduceBEq, Int.reduceEq, Int.reduceLT, Int.reduceLE, Int.reduceToNat, Int.reduceNeg, Int.reduceBNe, encLt, List.length_map, w]
  refine rangeB (l.h.length + l.q.length) (fun i σ => ∃ x c, right x = true ∧ x.h.length + x.q.length + i = l.h.length + l.q.length ∧ c + x.q.length = l.h.length + l.q.length ∧ σ.slot 1 = .c (.ptr 1 1 0 0) ∧ σ.h.gen 1 = 1 ∧ σ.h.blk 1 = .box 54 3 [(encLt x).map AC.s] ∧ σ.slot 5 = vI (l.h.length + l.q.length : Nat) ∧ σ.slot 6 = vI c ∧ σ.slot 33 = vI (l.h.length + l.q.length : Nat) ∧ σ.slot 34 = vI i) ?_ ?_ ?_
  · refine ⟨l, l.h.length, hr0, rfl, rfl, ?_⟩
    simp -implicitDefEqProofs only [↓aP, aQ, ↓reduceIte, Nat.reduceEqDiff, Nat.reduceAdd, Nat.reduceSub, Nat.reduceMul, Nat.reduceLT, Nat.reduceLeDiff, reduceCtorEq, Nat.reduceBEq, forall_const, implies_true, exists_const, ne_eq, Int.reduceAdd, Int.reduceSub, Int.reduceMul, Int.reduceBEq, Int.reduceEq, Int.reduceLT, Int.reduceLE, Int.reduceToNat, Int.reduceNeg, Int.reduceBNe, encLt]
  · rintro i m σ him hi hlt ⟨x, c, hr, hs, hc, s1, g1, b1, s5, s6, s33, s34⟩
    obtain ⟨a, t, hat⟩ := right_some hr (by omega)
    obtain ⟨d1, d2, d3, d4⟩ := dropH_facts (who := a) hr (by rw [hat]; simp)
    have hsp := lDrop_spec x a (by omega)
    rw [encLt_eq, hat] at hsp
    have e0 : (((t.length + 1 : Nat) : Int) == 0) = false := by rw [beq_eq_false_iff_ne]; omega
    simp -implicitDefEqProofs only [↓aP, aQ, ↓reduceIte, Nat.reduceEqDiff, Nat.reduceAdd, Nat.reduceSub, Nat.reduceMul, Nat.reduceLT, Nat.reduceLeDiff, reduceCtorEq, Nat.reduceBEq, forall_const, implies_true, exists_const, ne_eq, Int.reduceAdd, Int.reduceSub, Int.reduceMul, Int.reduceBEq, Int.reduceEq, Int.reduceLT, Int.reduceLE, Int.reduceToNat, Int.reduceNeg, Int.reduceBNe, hlt, s1, g1, b1, s5, s6, s33, s34, encLt, hat, List.map_cons, List.length_map, e0, encI]
    refine ask hsp ?_
    have w2 : IntKind.i64.wrap ((c : Int) + ((dropM x a).2.1.length : Int)) = ((c + (dropM x a).2.1.length : Nat) : Int) := by rw [wrapI (by omega)]; omega
    simp -implicitDefEqProofs only [↓aP, aQ, ↓reduceIte, Nat.reduceEqDiff, Nat.reduceAdd, Nat.reduceSub, Nat.reduceMul, Nat.reduceLT, Nat.reduceLeDiff, reduceCtorEq, Nat.reduceBEq, forall_const, implies_true, exists_const, ne_eq, Int.reduceAdd, Int.reduceSub, Int.reduceMul, Int.reduceBEq, Int.reduceEq, Int.reduceLT, Int.reduceLE, Int.reduceToNat, Int.reduceNeg, Int.reduceBNe, encDrop, encLt, d1, bne_self_eq_false, s1, g1, b1, s5, s6, s33, s34, hat, List.length_map, List.map_cons, encI, w2, wrapS (show i < 4611686018427387904 by omega)]
    refine ⟨by decide +kernel, ?_⟩
    refine nextR hi him ⟨(dropM x a).1, c + (dropM x a).2.1.length, d2, by omega, by omega, ?_⟩
    simp -implicitDefEqProofs only [↓aP, aQ, ↓reduceIte, Nat.reduceEqDiff, Nat.reduceAdd, Nat.reduceSub, Nat.reduceMul, Nat.reduceLT, Nat.reduceLeDiff, reduceCtorEq, Nat.reduceBEq, forall_const, implies_true, exists_const, ne_eq, Int.reduceAdd, Int.reduceSub, Int.reduceMul, Int.reduceBEq, Int.reduceEq, Int.reduceLT, Int.reduceLE, Int.reduceToNat, Int.reduceNeg, Int.reduceBNe, s1, g1, b1, s5, s6, s33, s34, encLt]
  · rintro m σ hlt ⟨x, c, hr, hs, hc, s1, g1, b1, s5, s6, s33, s34⟩
    have h1 : x.h.length = 0 := by omega
    have h2 : x.q.length = 0 := by omega
    have hcc : c = l.h.length + l.q.length := by omega
    have hex : x.ex = false := by
      cases hx : x.ex
      · rfl
      · have := (right_iff.1 hr).1.2.1 hx; omega
    simp -implicitDefEqProofs only [↓aP, aQ, ↓reduceIte, Nat.reduceEqDiff, Nat.reduceAdd, Nat.reduceSub, Nat.reduceMul, Nat.reduceLT, Nat.reduceLeDiff, reduceCtorEq, Nat.reduceBEq, forall_const, implies_true, exists_const, ne_eq, Int.reduceAdd, Int.reduceSub, Int.reduceMul, Int.reduceBEq, Int.reduceEq, Int.reduceLT, Int.reduceLE, Int.reduceToNat, Int.reduceNeg, Int.reduceBNe, hlt, s1, g1, b1, s5, s6, s33, s34, encLt, List.length_map, h1, h2, hex, hcc, beq_self_eq_true]
    refine ask awake_spec ?_
    simp -implicitDefEqProofs only [↓aP, aQ, ↓reduceIte, Nat.reduceEqDiff, Nat.reduceAdd, Nat.reduceSub, Nat.reduceMul, Nat.reduceLT, Nat.reduceLeDiff, reduceCtorEq, Nat.reduceBEq, forall_const, implies_true, exists_const, ne_eq, Int.reduceAdd, Int.reduceSub, Int.reduceMul, Int.reduceBEq, Int.reduceEq, Int.reduceLT, Int.reduceLE, Int.reduceToNat, Int.reduceNeg, Int.reduceBNe]
theorem latchEnds_walk {w : World} (v0 : Value) (a0 : ∃ l : Lt, (l.h.length ≤ maxLen ∧ l.q.length ≤ maxLen) ∧ RepT (RepS w fun _ => False) (.agg (encLt l)) v0) :
    Calls Try.prog 9 #[v0] w fun e w' => e = .returned (.bool true) ∧ Below w.heap.size w w' := by
  obtain ⟨m, hm, h0⟩ := a0
  unfold maxLen at hm
  exact (law_ends m (by omega) (by omega)).plain (us := [v0]) (.cons h0 .nil)
end Go.Proofs.Ytkiddlkmodclhaa
