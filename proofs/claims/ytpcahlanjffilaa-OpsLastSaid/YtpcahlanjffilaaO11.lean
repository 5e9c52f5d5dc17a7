/- layer 18: the laws OpsReads, OpsBack, OpsLast: their walks. -/
import Derived.Test.YtpcahlanjffilaaO9
namespace Go.Proofs.Ytpcahlanjffilaa
open Go.RowKit Ok Go.ChangeShapes Go.WideShapes
set_option linter.unusedVariables false
set_option linter.unusedSimpArgs false

theorem lawReads_spec (m : List Pg) (ids : List Int) (hm : m.length ≤ 9223372036854775807) : Spec Try.prog 8 [.agg (encMap m), rL 1 (ids.map encI)] (.val (rB true)) := by
  refine spec_val mixed fn8 (by simp) ?_
  unfold ac8
  simp -implicitDefEqProofs only [↓aP, aQ, ↓reduceIte, Nat.reduceEqDiff, Nat.reduceAdd, Nat.reduceSub, Nat.reduceMul, Nat.reduceLT, Nat.reduceLeDiff, reduceCtorEq, Nat.reduceBEq, forall_const, implies_true, exists_const, ne_eq, Int.reduceAdd, Int.reduceSub, Int.reduceMul, Int.reduceBEq, Int.reduceEq, Int.reduceLT, Int.reduceLE, Int.reduceToNat, Int.reduceNeg, Int.reduceBNe, encMap]
  refine ask (small_spec m hm) ?_
  cases hs : smallM m
  · simp -implicitDefEqProofs only [↓aP, aQ, ↓reduceIte, Nat.reduceEqDiff, Nat.reduceAdd, Nat.reduceSub, Nat.reduceMul, Nat.reduceLT, Nat.reduceLeDiff, reduceCtorEq, Nat.reduceBEq, forall_const, implies_true, exists_const, ne_eq, Int.reduceAdd, Int.reduceSub, Int.reduceMul, Int.reduceBEq, Int.reduceEq, Int.reduceLT, Int.reduceLE, Int.reduceToNat, Int.reduceNeg, Int.reduceBNe]
    refine ask awake_spec ?_
    simp -implicitDefEqProofs only [↓aP, aQ, ↓reduceIte, Nat.reduceEqDiff, Nat.reduceAdd, Nat.reduceSub, Nat.reduceMul, Nat.reduceLT, Nat.reduceLeDiff, reduceCtorEq, Nat.reduceBEq, forall_const, implies_true, exists_const, ne_eq, Int.reduceAdd, Int.reduceSub, Int.reduceMul, Int.reduceBEq, Int.reduceEq, Int.reduceLT, Int.reduceLE, Int.reduceToNat, Int.reduceNeg, Int.reduceBNe]
  have hl := small_len hs
  by_cases h1 : 40 < ids.length
  · simp -implicitDefEqProofs only [↓aP, aQ, ↓reduceIte, Nat.reduceEqDiff, Nat.reduceAdd, Nat.reduceSub, Nat.reduceMul, Nat.reduceLT, Nat.reduceLeDiff, reduceCtorEq, Nat.reduceBEq, forall_const, implies_true, exists_const, ne_eq, Int.reduceAdd, Int.reduceSub, Int.reduceMul, Int.reduceBEq, Int.reduceEq, Int.reduceLT, Int.reduceLE, Int.reduceToNat, Int.reduceNeg, Int.reduceBNe, show decide ((40 : Int) < (ids.length : Int)) = true by simp; omega, List.length_map]
    refine ask awake_spec ?_
    simp -implicitDefEqProofs only [↓aP, aQ, ↓reduceIte, Nat.reduceEqDiff, Nat.reduceAdd, Nat.reduceSub, Nat.reduceMul, Nat.reduceLT, Nat.reduceLeDiff, reduceCtorEq, Nat.reduceBEq, forall_const, implies_true, exists_const, ne_eq, Int.reduceAdd, Int.reduceSub, Int.reduceMul, Int.reduceBEq, Int.reduceEq, Int.reduceLT, Int.reduceLE, Int.reduceToNat, Int.reduceNeg, Int.reduceBNe]
  simp -implicitDefEqProofs only [↓aP, aQ, ↓reduceIte, Nat.reduceEqDiff, Nat.reduceAdd, Nat.reduceSub, Nat.reduceMul, Nat.reduceLT, Nat.reduceLeDiff, reduceCtorEq, Nat.reduceBEq, forall_const, implies_true, exists_const, ne_eq, Int.reduceAdd, Int.reduceSub, Int.reduceMul, Int.reduceBEq, Int.reduceEq, Int.reduceLT, Int.reduceLE, Int.reduceToNat, Int.reduceNeg, Int.reduceBNe, show decide ((40 : Int) < (ids.length : Int)) = false by simp; omega, List.length_map]
  refine rangeB ids.length (fun i σ => σ.slot 2 = .c (.ptr 2 1 0 0) ∧ σ.h.gen 2 = 1 ∧ σ.h.blk 2 = .box 24 1 [(encMap m).map AC.s] ∧ σ.slot 20 = vL 1 (ids.map encI) ∧ σ.slot 21 = vI ids.length ∧ σ.slot 22 = vI i) ?_ ?_ ?_
  · simp -implicitDefEqProofs only [↓aP, aQ, ↓reduceIte, Nat.reduceEqDiff, Nat.reduceAdd, Nat.reduceSub, Nat.reduceMul, Nat.reduceLT, Nat.reduceLeDiff, reduceCtorEq, Nat.reduceBEq, forall_const, implies_true, exists_const, ne_eq, Int.reduceAdd, Int.reduceSub, Int.reduceMul, Int.reduceBEq, Int.reduceEq, Int.reduceLT, Int.reduceLE, Int.reduceToNat, Int.reduceNeg, Int.reduceBNe, encMap]
  · rintro i k σ him hi hlt ⟨s2, g2, b2, s20, s21, s22⟩
    obtain ⟨r1, r2, r3⟩ := do_read (l := m) (id := ids[i])
    have hd := oDo_spec m ⟨2, ids[i], ⟨#[]⟩⟩ (by omega)
    have hg := oGet_spec m ids[i] (by omega)
    obtain ⟨n, r, hx⟩ : ∃ n r, doM m ⟨2, ids[i], ⟨#[]⟩⟩ = (n, r) := ⟨_, _, rfl⟩
    obtain ⟨p, ok, hp⟩ : ∃ p ok, getM m ids[i] = (p, ok) := ⟨_, _, rfl⟩
    rw [hx] at r1 r2 r3 hd
    rw [hp] at r2 r3 hg
    simp only at r1 r2 r3
    subst r1
    obtain ⟨re, rp⟩ := r
    simp only at r2 r3
    subst r2
    simp -implicitDefEqProofs only [↓aP, aQ, ↓reduceIte, Nat.reduceEqDiff, Nat.reduceAdd, Nat.reduceSub, Nat.reduceMul, Nat.reduceLT, Nat.reduceLeDiff, reduceCtorEq, Nat.reduceBEq, forall_const, implies_true, exists_const, ne_eq, Int.reduceAdd, Int.reduceSub, Int.reduceMul, Int.reduceBEq, Int.reduceEq, Int.reduceLT, Int.reduceLE, Int.reduceToNat, Int.reduceNeg, Int.reduceBNe, hlt, s2, g2, b2, s20, s21, s22, askIdx_map, hi, encI, encMap]
    refine askS hd (by simp -implicitDefEqProofs only [↓aP, aQ, ↓reduceIte, Nat.reduceEqDiff, Nat.reduceAdd, Nat.reduceSub, Nat.reduceMul, Nat.reduceLT, Nat.reduceLeDiff, reduceCtorEq, Nat.reduceBEq, forall_const, implies_true, exists_const, ne_eq, Int.reduceAdd, Int.reduceSub, Int.reduceMul, Int.reduceBEq, Int.reduceEq, Int.reduceLT, Int.reduceLE, Int.reduceToNat, Int.reduceNeg, Int.reduceBNe, encMap, encOp]) ?_
    simp -implicitDefEqProofs only [↓aP, aQ, ↓reduceIte, Nat.reduceEqDiff, Nat.reduceAdd, Nat.reduceSub, Nat.reduceMul, Nat.reduceLT, Nat.reduceLeDiff, reduceCtorEq, Nat.reduceBEq, forall_const, implies_true, exists_const, ne_eq, Int.reduceAdd, Int.reduceSub, Int.reduceMul, Int.reduceBEq, Int.reduceEq, Int.reduceLT, Int.reduceLE, Int.reduceToNat, Int.reduceNeg, Int.reduceBNe, encDo, encMap, encRs, s2, g2, b2, s20, s21, s22]
    refine ask hg ?_
    simp -implicitDefEqProofs only [↓aP, aQ, ↓reduceIte, Nat.reduceEqDiff, Nat.reduceAdd, Nat.reduceSub, Nat.reduceMul, Nat.reduceLT, Nat.reduceLeDiff, reduceCtorEq, Nat.reduceBEq, forall_const, implies_true, exists_const, ne_eq, Int.reduceAdd, Int.reduceSub, Int.reduceMul, Int.reduceBEq, Int.reduceEq, Int.reduceLT, Int.reduceLE, Int.reduceToNat, Int.reduceNeg, Int.reduceBNe, encMap, encRs, encPg, s2, g2, b2, s20, s21, s22]
    refine ask (rSame_spec n (by omega)) ?_
    simp -implicitDefEqProofs only [↓aP, aQ, ↓reduceIte, Nat.reduceEqDiff, Nat.reduceAdd, Nat.reduceSub, Nat.reduceMul, Nat.reduceLT, Nat.reduceLeDiff, reduceCtorEq, Nat.reduceBEq, forall_const, implies_true, exists_const, ne_eq, Int.reduceAdd, Int.reduceSub, Int.reduceMul, Int.reduceBEq, Int.reduceEq, Int.reduceLT, Int.reduceLE, Int.reduceToNat, Int.reduceNeg, Int.reduceBNe, encRs, encPg]
    refine askEq (eq_pg rp) ?_
    simp -implicitDefEqProofs only [↓aP, aQ, ↓reduceIte, Nat.reduceEqDiff, Nat.reduceAdd, Nat.reduceSub, Nat.reduceMul, Nat.reduceLT, Nat.reduceLeDiff, reduceCtorEq, Nat.reduceBEq, forall_const, implies_true, exists_const, ne_eq, Int.reduceAdd, Int.reduceSub, Int.reduceMul, Int.reduceBEq, Int.reduceEq, Int.reduceLT, Int.reduceLE, Int.reduceToNat, Int.reduceNeg, Int.reduceBNe, encRs, encPg, s2, g2, b2, s20, s21, s22, r3, bne_self_eq_false, wrapS (show i < 4611686018427387904 by omega)]
    refine nextR hi him ?_
    simp -implicitDefEqProofs only [↓aP, aQ, ↓reduceIte, Nat.reduceEqDiff, Nat.reduceAdd, Nat.reduceSub, Nat.reduceMul, Nat.reduceLT, Nat.reduceLeDiff, reduceCtorEq, Nat.reduceBEq, forall_const, implies_true, exists_const, ne_eq, Int.reduceAdd, Int.reduceSub, Int.reduceMul, Int.reduceBEq, Int.reduceEq, Int.reduceLT, Int.reduceLE, Int.reduceToNat, Int.reduceNeg, Int.reduceBNe, s2, g2, b2, s20, s21, s22, encMap]
  · rintro k σ hlt ⟨s2, g2, b2, s20, s21, s22⟩
    simp -implicitDefEqProofs only [↓aP, aQ, ↓reduceIte, Nat.reduceEqDiff, Nat.reduceAdd, Nat.reduceSub, Nat.reduceMul, Nat.reduceLT, Nat.reduceLeDiff, reduceCtorEq, Nat.reduceBEq, forall_const, implies_true, exists_const, ne_eq, Int.reduceAdd, Int.reduceSub, Int.reduceMul, Int.reduceBEq, Int.reduceEq, Int.reduceLT, Int.reduceLE, Int.reduceToNat, Int.reduceNeg, Int.reduceBNe, hlt, s2, g2, b2, s20, s21, s22]
    refine ask awake_spec ?_
    simp -implicitDefEqProofs only [↓aP, aQ, ↓reduceIte, Nat.reduceEqDiff, Nat.reduceAdd, Nat.reduceSub, Nat.reduceMul, Nat.reduceLT, Nat.reduceLeDiff, reduceCtorEq, Nat.reduceBEq, forall_const, implies_true, exists_const, ne_eq, Int.reduceAdd, Int.reduceSub, Int.reduceMul, Int.reduceBEq, Int.reduceEq, Int.reduceLT, Int.reduceLE, Int.reduceToNat, Int.reduceNeg, Int.reduceBNe]
theorem opsReads_walk {w : World} (v0 : Value) (a0 : ∃ l : List Pg, l.length ≤ maxLen ∧ RepT (RepS w fun _ => False) (.agg (encMap l)) v0) (v1 : Value) (a1 : ∃ l : List Int, RepT (RepS w fun _ => False) (rL 1 (l.map encI)) v1) :
    Calls Try.prog 8 #[v0, v1] w fun e w' => e = .returned (.bool true) ∧ Below w.heap.size w w' := by
  obtain ⟨m, hm, h0⟩ := a0
  obtain ⟨ids, h1⟩ := a1
  unfold maxLen at hm
  exact (lawReads_spec m ids hm).plain (us := [v0, v1]) (.cons h0 (.cons h1 .nil))
theorem lawBack_spec (m : List Pg) (id : Int) (hm : m.length ≤ 9223372036854775807) : Spec Try.prog 7 [.agg (encMap m), rI id] (.val (rB true)) := by
  refine spec_val mixed fn7 (by simp) ?_
  unfold ac7
  simp -implicitDefEqProofs only [↓aP, aQ, ↓reduceIte, Nat.reduceEqDiff, Nat.reduceAdd, Nat.reduceSub, Nat.reduceMul, Nat.reduceLT, Nat.reduceLeDiff, reduceCtorEq, Nat.reduceBEq, forall_const, implies_true, exists_const, ne_eq, Int.reduceAdd, Int.reduceSub, Int.reduceMul, Int.reduceBEq, Int.reduceEq, Int.reduceLT, Int.reduceLE, Int.reduceToNat, Int.reduceNeg, Int.reduceBNe, encMap]
  refine ask (small_spec m hm) ?_
  cases hs : smallM m
  · simp -implicitDefEqProofs only [↓aP, aQ, ↓reduceIte, Nat.reduceEqDiff, Nat.reduceAdd, Nat.reduceSub, Nat.reduceMul, Nat.reduceLT, Nat.reduceLeDiff, reduceCtorEq, Nat.reduceBEq, forall_const, implies_true, exists_const, ne_eq, Int.reduceAdd, Int.reduceSub, Int.reduceMul, Int.reduceBEq, Int.reduceEq, Int.reduceLT, Int.reduceLE, Int.reduceToNat, Int.reduceNeg, Int.reduceBNe]
    refine ask awake_spec ?_
    simp -implicitDefEqProofs only [↓aP, aQ, ↓reduceIte, Nat.reduceEqDiff, Nat.reduceAdd, Nat.reduceSub, Nat.reduceMul, Nat.reduceLT, Nat.reduceLeDiff, reduceCtorEq, Nat.reduceBEq, forall_const, implies_true, exists_const, ne_eq, Int.reduceAdd, Int.reduceSub, Int.reduceMul, Int.reduceBEq, Int.reduceEq, Int.reduceLT, Int.reduceLE, Int.reduceToNat, Int.reduceNeg, Int.reduceBNe]
  have hl := small_len hs
  have ha := oAll_spec m [⟨1, id, ⟨#[]⟩⟩, ⟨4, id, ⟨#[]⟩⟩] (by simp; omega)
  have hb := oAll_spec m [⟨4, id, ⟨#[]⟩⟩, ⟨1, id, ⟨#[]⟩⟩] (by simp; omega)
  have hbk := do_back (l := m) (id := id)
  have hl2 := runM_len (l := m) (os := [⟨4, id, ⟨#[]⟩⟩, ⟨1, id, ⟨#[]⟩⟩])
  simp only [allM] at ha hb
  simp only [runM, List.foldl_cons, List.foldl_nil, List.length_cons, List.length_nil] at hl2
  generalize (doM (doM m ⟨1, id, ⟨#[]⟩⟩).1 ⟨4, id, ⟨#[]⟩⟩).1 = n at *
  generalize (doM (doM m ⟨4, id, ⟨#[]⟩⟩).1 ⟨1, id, ⟨#[]⟩⟩).1 = d at *
  generalize (doM (doM m ⟨1, id, ⟨#[]⟩⟩).1 ⟨4, id, ⟨#[]⟩⟩).2 = p2 at *
  generalize (doM (doM m ⟨4, id, ⟨#[]⟩⟩).1 ⟨1, id, ⟨#[]⟩⟩).2 = k2 at *
  generalize (doM m ⟨1, id, ⟨#[]⟩⟩).2 = p1 at *
  generalize (doM m ⟨4, id, ⟨#[]⟩⟩).2 = k1 at *
  have hg := oGet_spec d id (by omega)
  simp -implicitDefEqProofs only [↓aP, aQ, ↓reduceIte, Nat.reduceEqDiff, Nat.reduceAdd, Nat.reduceSub, Nat.reduceMul, Nat.reduceLT, Nat.reduceLeDiff, reduceCtorEq, Nat.reduceBEq, forall_const, implies_true, exists_const, ne_eq, Int.reduceAdd, Int.reduceSub, Int.reduceMul, Int.reduceBEq, Int.reduceEq, Int.reduceLT, Int.reduceLE, Int.reduceToNat, Int.reduceNeg, Int.reduceBNe, encMap]
  refine askS ha (by simp -implicitDefEqProofs only [↓aP, aQ, ↓reduceIte, Nat.reduceEqDiff, Nat.reduceAdd, Nat.reduceSub, Nat.reduceMul, Nat.reduceLT, Nat.reduceLeDiff, reduceCtorEq, Nat.reduceBEq, forall_const, implies_true, exists_const, ne_eq, Int.reduceAdd, Int.reduceSub, Int.reduceMul, Int.reduceBEq, Int.reduceEq, Int.reduceLT, Int.reduceLE, Int.reduceToNat, Int.reduceNeg, Int.reduceBNe, encMap, encOp]) ?_
  simp -implicitDefEqProofs only [↓aP, aQ, ↓reduceIte, Nat.reduceEqDiff, Nat.reduceAdd, Nat.reduceSub, Nat.reduceMul, Nat.reduceLT, Nat.reduceLeDiff, reduceCtorEq, Nat.reduceBEq, forall_const, implies_true, exists_const, ne_eq, Int.reduceAdd, Int.reduceSub, Int.reduceMul, Int.reduceBEq, Int.reduceEq, Int.reduceLT, Int.reduceLE, Int.reduceToNat, Int.reduceNeg, Int.reduceBNe, encAll, encMap, encRs]
  refine askS hb (by simp -implicitDefEqProofs only [↓aP, aQ, ↓reduceIte, Nat.reduceEqDiff, Nat.reduceAdd, Nat.reduceSub, Nat.reduceMul, Nat.reduceLT, Nat.reduceLeDiff, reduceCtorEq, Nat.reduceBEq, forall_const, implies_true, exists_const, ne_eq, Int.reduceAdd, Int.reduceSub, Int.reduceMul, Int.reduceBEq, Int.reduceEq, Int.reduceLT, Int.reduceLE, Int.reduceToNat, Int.reduceNeg, Int.reduceBNe, encMap, encOp]) ?_
  simp -implicitDefEqProofs only [↓aP, aQ, ↓reduceIte, Nat.reduceEqDiff, Nat.reduceAdd, Nat.reduceSub, Nat.reduceMul, Nat.reduceLT, Nat.reduceLeDiff, reduceCtorEq, Nat.reduceBEq, forall_const, implies_true, exists_const, ne_eq, Int.reduceAdd, Int.reduceSub, Int.reduceMul, Int.reduceBEq, Int.reduceEq, Int.reduceLT, Int.reduceLE, Int.reduceToNat, Int.reduceNeg, Int.reduceBNe, encAll, encMap, encRs]
  rcases hbk with ⟨q1, q2, q3, q4, q5⟩ | ⟨q1, q2, q3, q4, q5⟩ | ⟨q1, q2, q3, q4, q5⟩
  · subst q3 q5
    simp -implicitDefEqProofs only [↓aP, aQ, ↓reduceIte, Nat.reduceEqDiff, Nat.reduceAdd, Nat.reduceSub, Nat.reduceMul, Nat.reduceLT, Nat.reduceLeDiff, reduceCtorEq, Nat.reduceBEq, forall_const, implies_true, exists_const, ne_eq, Int.reduceAdd, Int.reduceSub, Int.reduceMul, Int.reduceBEq, Int.reduceEq, Int.reduceLT, Int.reduceLE, Int.reduceToNat, Int.reduceNeg, Int.reduceBNe, q1, q2, q4, encMap, encRs]
    refine ask (rSame_spec n (by omega)) ?_
    simp -implicitDefEqProofs only [↓aP, aQ, ↓reduceIte, Nat.reduceEqDiff, Nat.reduceAdd, Nat.reduceSub, Nat.reduceMul, Nat.reduceLT, Nat.reduceLeDiff, reduceCtorEq, Nat.reduceBEq, forall_const, implies_true, exists_const, ne_eq, Int.reduceAdd, Int.reduceSub, Int.reduceMul, Int.reduceBEq, Int.reduceEq, Int.reduceLT, Int.reduceLE, Int.reduceToNat, Int.reduceNeg, Int.reduceBNe, q1, q2, q4, encMap, encRs]
    refine askEq (by have h := eq_rs k2; rw [q1] at h; exact h) ?_
    simp -implicitDefEqProofs only [↓aP, aQ, ↓reduceIte, Nat.reduceEqDiff, Nat.reduceAdd, Nat.reduceSub, Nat.reduceMul, Nat.reduceLT, Nat.reduceLeDiff, reduceCtorEq, Nat.reduceBEq, forall_const, implies_true, exists_const, ne_eq, Int.reduceAdd, Int.reduceSub, Int.reduceMul, Int.reduceBEq, Int.reduceEq, Int.reduceLT, Int.reduceLE, Int.reduceToNat, Int.reduceNeg, Int.reduceBNe]
    refine ask awake_spec ?_
    simp -implicitDefEqProofs only [↓aP, aQ, ↓reduceIte, Nat.reduceEqDiff, Nat.reduceAdd, Nat.reduceSub, Nat.reduceMul, Nat.reduceLT, Nat.reduceLeDiff, reduceCtorEq, Nat.reduceBEq, forall_const, implies_true, exists_const, ne_eq, Int.reduceAdd, Int.reduceSub, Int.reduceMul, Int.reduceBEq, Int.reduceEq, Int.reduceLT, Int.reduceLE, Int.reduceToNat, Int.reduceNeg, Int.reduceBNe]
    decide +kernel
  · rw [q4] at hg
    simp -implicitDefEqProofs only [↓aP, aQ, ↓reduceIte, Nat.reduceEqDiff, Nat.reduceAdd, Nat.reduceSub, Nat.reduceMul, Nat.reduceLT, Nat.reduceLeDiff, reduceCtorEq, Nat.reduceBEq, forall_const, implies_true, exists_const, ne_eq, Int.reduceAdd, Int.reduceSub, Int.reduceMul, Int.reduceBEq, Int.reduceEq, Int.reduceLT, Int.reduceLE, Int.reduceToNat, Int.reduceNeg, Int.reduceBNe, q1, q2, encMap, encRs]
    refine ask hg ?_
    simp -implicitDefEqProofs only [↓aP, aQ, ↓reduceIte, Nat.reduceEqDiff, Nat.reduceAdd, Nat.reduceSub, Nat.reduceMul, Nat.reduceLT, Nat.reduceLeDiff, reduceCtorEq, Nat.reduceBEq, forall_const, implies_true, exists_const, ne_eq, Int.reduceAdd, Int.reduceSub, Int.reduceMul, Int.reduceBEq, Int.reduceEq, Int.reduceLT, Int.reduceLE, Int.reduceToNat, Int.reduceNeg, Int.reduceBNe, q1, q2, encMap, encRs, encPg, newP, q3]
    refine askEq (eq_pg (newP id)) ?_
    simp -implicitDefEqProofs only [↓aP, aQ, ↓reduceIte, Nat.reduceEqDiff, Nat.reduceAdd, Nat.reduceSub, Nat.reduceMul, Nat.reduceLT, Nat.reduceLeDiff, reduceCtorEq, Nat.reduceBEq, forall_const, implies_true, exists_const, ne_eq, Int.reduceAdd, Int.reduceSub, Int.reduceMul, Int.reduceBEq, Int.reduceEq, Int.reduceLT, Int.reduceLE, Int.reduceToNat, Int.reduceNeg, Int.reduceBNe, newP, encPg]
    refine askEq (eq_pg (newP id)) ?_
    simp -implicitDefEqProofs only [↓aP, aQ, ↓reduceIte, Nat.reduceEqDiff, Nat.reduceAdd, Nat.reduceSub, Nat.reduceMul, Nat.reduceLT, Nat.reduceLeDiff, reduceCtorEq, Nat.reduceBEq, forall_const, implies_true, exists_const, ne_eq, Int.reduceAdd, Int.reduceSub, Int.reduceMul, Int.reduceBEq, Int.reduceEq, Int.reduceLT, Int.reduceLE, Int.reduceToNat, Int.reduceNeg, Int.reduceBNe, newP, encPg, encMap, q5, List.length_map]
    refine ask awake_spec ?_
    simp -implicitDefEqProofs only [↓aP, aQ, ↓reduceIte, Nat.reduceEqDiff, Nat.reduceAdd, Nat.reduceSub, Nat.reduceMul, Nat.reduceLT, Nat.reduceLeDiff, reduceCtorEq, Nat.reduceBEq, forall_const, implies_true, exists_const, ne_eq, Int.reduceAdd, Int.reduceSub, Int.reduceMul, Int.reduceBEq, Int.reduceEq, Int.reduceLT, Int.reduceLE, Int.reduceToNat, Int.reduceNeg, Int.reduceBNe]
    decide +kernel
  · subst q3
    simp -implicitDefEqProofs only [↓aP, aQ, ↓reduceIte, Nat.reduceEqDiff, Nat.reduceAdd, Nat.reduceSub, Nat.reduceMul, Nat.reduceLT, Nat.reduceLeDiff, reduceCtorEq, Nat.reduceBEq, forall_const, implies_true, exists_const, ne_eq, Int.reduceAdd, Int.reduceSub, Int.reduceMul, Int.reduceBEq, Int.reduceEq, Int.reduceLT, Int.reduceLE, Int.reduceToNat, Int.reduceNeg, Int.reduceBNe, q1, q2, q4, q5, encMap, encRs]
    refine ask (rSame_spec n (by omega)) ?_
    simp -implicitDefEqProofs only [↓aP, aQ, ↓reduceIte, Nat.reduceEqDiff, Nat.reduceAdd, Nat.reduceSub, Nat.reduceMul, Nat.reduceLT, Nat.reduceLeDiff, reduceCtorEq, Nat.reduceBEq, forall_const, implies_true, exists_const, ne_eq, Int.reduceAdd, Int.reduceSub, Int.reduceMul, Int.reduceBEq, Int.reduceEq, Int.reduceLT, Int.reduceLE, Int.reduceToNat, Int.reduceNeg, Int.reduceBNe]
    refine ask awake_spec ?_
    simp -implicitDefEqProofs only [↓aP, aQ, ↓reduceIte, Nat.reduceEqDiff, Nat.reduceAdd, Nat.reduceSub, Nat.reduceMul, Nat.reduceLT, Nat.reduceLeDiff, reduceCtorEq, Nat.reduceBEq, forall_const, implies_true, exists_const, ne_eq, Int.reduceAdd, Int.reduceSub, Int.reduceMul, Int.reduceBEq, Int.reduceEq, Int.reduceLT, Int.reduceLE, Int.reduceToNat, Int.reduceNeg, Int.reduceBNe]
theorem opsBack_walk {w : World} (v0 : Value) (a0 : ∃ l : List Pg, l.length ≤ maxLen ∧ RepT (RepS w fun _ => False) (.agg (encMap l)) v0) (a : Int) (ha : (Lit.int .i64 a).wf = true) :
    Calls Try.prog 7 #[v0, .int .i64 a] w fun e w' => e = .returned (.bool true) ∧ Below w.heap.size w w' := by
  obtain ⟨m, hm, h0⟩ := a0
  unfold maxLen at hm
  exact (lawBack_spec m a hm).plain (us := [v0, .int .i64 a]) (.cons h0 (.cons (.pv rfl) .nil))
theorem u8_of {k : Int} (h : (Lit.int .u8 k).wf = true) : 0 ≤ k ∧ k ≤ 255 := by
  simpa [Lit.wf, IntKind.min, IntKind.max, IntKind.signed, IntKind.bits] using h
namespace Ok
theorem one_right {k v : Int} {b : ByteArray} (hk : 1 ≤ k ∧ k ≤ 16) (hv : 1 ≤ v ∧ v ≤ 2147483647) (hb : b.size ≤ 16) : rightM [⟨k, v, b⟩] = true := by
  rw [right_iff]
  refine ⟨fun p hp => ?_, by unfold Mono; simp⟩
  rw [List.mem_singleton.1 hp]
  exact okP_iff.2 ⟨hk.1, hk.2, hv.1, hv.2, hb⟩
theorem one_look {p : Pg} : look [p] p.id = some p := by unfold look; simp
theorem one_new {k : Int} (hk : 1 ≤ k ∧ k ≤ 16) : doM [] ⟨1, k, ⟨#[]⟩⟩ = ([newP k], ⟨0, newP k⟩) := by
  unfold doM
  rw [if_neg (by unfold badO; simp only [show rightM [] = true from rfl]; simp; omega), if_pos rfl, if_neg (by simp [hasM])]
  simp
theorem one_write {k v : Int} {b c : ByteArray} (hk : 1 ≤ k ∧ k ≤ 16) (hv : 1 ≤ v ∧ v < 2147483647) (hb : b.size ≤ 16) :
    doM [⟨k, v, b⟩] ⟨3, k, c⟩ = if 16 < c.size then ([⟨k, v, b⟩], ⟨5, zP⟩) else ([⟨k, v + 1, c⟩], ⟨0, ⟨k, v + 1, c⟩⟩) := by
  have h := one_right hk (show 1 ≤ v ∧ v ≤ 2147483647 by omega) hb
  have hm := (right_iff.1 h).2
  have hl : look [⟨k, v, b⟩] k = some ⟨k, v, b⟩ := one_look (p := ⟨k, v, b⟩)
  have hh : hasM [⟨k, v, b⟩] k = true := by rw [has_look hm, hl]; rfl
  obtain ⟨hp, he⟩ := has_at hh
  have hp0 : posM [⟨k, v, b⟩] k = 0 := by simp at hp; omega
  unfold doM
  rw [if_neg (by unfold badO; simp only [h]; simp; omega), if_neg (by show ¬ (3 : Int) = 1; omega), if_neg (by simp [hh]), if_pos rfl]
  simp only [hp0]
  unfold writeM
  have hg : ([⟨k, v, b⟩] : List Pg).getD 0 zP = ⟨k, v, b⟩ := rfl
  rw [hg]
  split
  · rfl
  · rw [if_neg (by show ¬ v = 2147483647; omega)]; rfl
theorem one_read {p : Pg} (hk : 1 ≤ p.id ∧ p.id ≤ 16) (hv : 1 ≤ p.ver ∧ p.ver ≤ 2147483647) (hb : p.body.size ≤ 16) : (doM [p] ⟨2, p.id, ⟨#[]⟩⟩).2 = ⟨0, p⟩ := by
  have h : rightM [p] = true := one_right hk hv hb
  rw [(do_good h).2.1]
  show (step (look [p] p.id) _).2 = _
  rw [one_look]
  unfold step
  rw [if_neg (by unfold badK; simp; omega)]
  rfl
end Ok

theorem lawLast_spec (u : Int) (bs : List ByteArray) (hu : 0 ≤ u ∧ u ≤ 255) : Spec Try.prog 6 [.c (.pv (.int .u8 u)), rL 1 (bs.map encS)] (.val (rB true)) := by
  refine spec_val mixed fn6 (by simp) ?_
  unfold ac6
  obtain ⟨k, hk, hk1⟩ : ∃ k, IntKind.i64.wrap (1 + IntKind.i64.wrap (u.tmod 16)) = k ∧ (1 ≤ k ∧ k ≤ 16) := by
    refine ⟨1 + u.tmod 16, ?_, ?_⟩
    · rw [Int.tmod_eq_emod_of_nonneg hu.1, wrapI (x := u % 16) (by omega), wrapI (by omega)]
    · rw [Int.tmod_eq_emod_of_nonneg hu.1]; omega
  simp -implicitDefEqProofs only [↓aP, aQ, ↓reduceIte, Nat.reduceEqDiff, Nat.reduceAdd, Nat.reduceSub, Nat.reduceMul, Nat.reduceLT, Nat.reduceLeDiff, reduceCtorEq, Nat.reduceBEq, forall_const, implies_true, exists_const, ne_eq, Int.reduceAdd, Int.reduceSub, Int.reduceMul, Int.reduceBEq, Int.reduceEq, Int.reduceLT, Int.reduceLE, Int.reduceToNat, Int.reduceNeg, Int.reduceBNe, hk]
  have hd := oDo_spec [] ⟨1, k, ⟨#[]⟩⟩ (by decide)
  rw [one_new hk1] at hd
  refine askS hd (by simp -implicitDefEqProofs only [↓aP, aQ, ↓reduceIte, Nat.reduceEqDiff, Nat.reduceAdd, Nat.reduceSub, Nat.reduceMul, Nat.reduceLT, Nat.reduceLeDiff, reduceCtorEq, Nat.reduceBEq, forall_const, implies_true, exists_const, ne_eq, Int.reduceAdd, Int.reduceSub, Int.reduceMul, Int.reduceBEq, Int.reduceEq, Int.reduceLT, Int.reduceLE, Int.reduceToNat, Int.reduceNeg, Int.reduceBNe, encMap, encOp]) ?_
  simp -implicitDefEqProofs only [↓aP, aQ, ↓reduceIte, Nat.reduceEqDiff, Nat.reduceAdd, Nat.reduceSub, Nat.reduceMul, Nat.reduceLT, Nat.reduceLeDiff, reduceCtorEq, Nat.reduceBEq, forall_const, implies_true, exists_const, ne_eq, Int.reduceAdd, Int.reduceSub, Int.reduceMul, Int.reduceBEq, Int.reduceEq, Int.reduceLT, Int.reduceLE, Int.reduceToNat, Int.reduceNeg, Int.reduceBNe, encDo, encMap, encRs, newP, encPg]
  obtain ⟨n, hn⟩ : ∃ n, n = min bs.length 60 := ⟨_, rfl⟩
  refine rangeB n (fun i σ => ∃ v b, (1 ≤ v ∧ v ≤ 1 + (i : Int)) ∧ b.size ≤ 16 ∧ σ.slot 1 = vL 1 (bs.map encS) ∧ σ.slot 5 = vI k ∧ σ.slot 6 = .c (.ptr 6 1 0 0) ∧ σ.h.gen 6 = 1 ∧ σ.h.blk 6 = .box 24 1 [(encMap [⟨k, v, b⟩]).map AC.s] ∧ σ.slot 7 = .c (.ptr 7 1 0 0) ∧ σ.h.gen 7 = 1 ∧ σ.h.blk 7 = .box 33 4 [(encRs ⟨0, newP k⟩).map AC.s] ∧ σ.slot 8 = vS b ∧ σ.slot 9 = vI v ∧ σ.slot 10 = vI i) ?_ ?_ ?_
  · simp -implicitDefEqProofs only [↓aP, aQ, ↓reduceIte, Nat.reduceEqDiff, Nat.reduceAdd, Nat.reduceSub, Nat.reduceMul, Nat.reduceLT, Nat.reduceLeDiff, reduceCtorEq, Nat.reduceBEq, forall_const, implies_true, exists_const, ne_eq, Int.reduceAdd, Int.reduceSub, Int.reduceMul, Int.reduceBEq, Int.reduceEq, Int.reduceLT, Int.reduceLE, Int.reduceToNat, Int.reduceNeg, Int.reduceBNe]
    refine ⟨1, ⟨#[]⟩, ?_⟩
    simp -implicitDefEqProofs only [↓aP, aQ, ↓reduceIte, Nat.reduceEqDiff, Nat.reduceAdd, Nat.reduceSub, Nat.reduceMul, Nat.reduceLT, Nat.reduceLeDiff, reduceCtorEq, Nat.reduceBEq, forall_const, implies_true, exists_const, ne_eq, Int.reduceAdd, Int.reduceSub, Int.reduceMul, Int.reduceBEq, Int.reduceEq, Int.reduceLT, Int.reduceLE, Int.reduceToNat, Int.reduceNeg, Int.reduceBNe, encMap, encRs, newP, encPg]
  · rintro i m σ him hi hlt ⟨v, b, hv, hb, s1, s5, s6, g6, b6, s7, g7, b7, s8, s9, s10⟩
    have hi2 : i < bs.length := by omega
    have c1 : decide ((i : Int) < (bs.length : Int)) = true := by simp; omega
    have c2 : decide ((i : Int) < 60) = true := by simp; omega
    simp -implicitDefEqProofs only [↓aP, aQ, ↓reduceIte, Nat.reduceEqDiff, Nat.reduceAdd, Nat.reduceSub, Nat.reduceMul, Nat.reduceLT, Nat.reduceLeDiff, reduceCtorEq, Nat.reduceBEq, forall_const, implies_true, exists_const, ne_eq, Int.reduceAdd, Int.reduceSub, Int.reduceMul, Int.reduceBEq, Int.reduceEq, Int.reduceLT, Int.reduceLE, Int.reduceToNat, Int.reduceNeg, Int.reduceBNe, c1, c2, s1, s5, s6, g6, b6, s7, g7, b7, s8, s9, s10, List.length_map, askIdx_map, hi2, encS]
    by_cases h100 : 100 < bs[i].size
    · simp -implicitDefEqProofs only [↓aP, aQ, ↓reduceIte, Nat.reduceEqDiff, Nat.reduceAdd, Nat.reduceSub, Nat.reduceMul, Nat.reduceLT, Nat.reduceLeDiff, reduceCtorEq, Nat.reduceBEq, forall_const, implies_true, exists_const, ne_eq, Int.reduceAdd, Int.reduceSub, Int.reduceMul, Int.reduceBEq, Int.reduceEq, Int.reduceLT, Int.reduceLE, Int.reduceToNat, Int.reduceNeg, Int.reduceBNe, show decide ((100 : Int) < (bs[i].size : Int)) = true by simp; omega]
      refine ask awake_spec ?_
      simp -implicitDefEqProofs only [↓aP, aQ, ↓reduceIte, Nat.reduceEqDiff, Nat.reduceAdd, Nat.reduceSub, Nat.reduceMul, Nat.reduceLT, Nat.reduceLeDiff, reduceCtorEq, Nat.reduceBEq, forall_const, implies_true, exists_const, ne_eq, Int.reduceAdd, Int.reduceSub, Int.reduceMul, Int.reduceBEq, Int.reduceEq, Int.reduceLT, Int.reduceLE, Int.reduceToNat, Int.reduceNeg, Int.reduceBNe]
    have hw := oDo_spec [⟨k, v, b⟩] ⟨3, k, bs[i]⟩ (by simp)
    rw [one_write hk1 (show 1 ≤ v ∧ v < 2147483647 by omega) hb] at hw
    simp -implicitDefEqProofs only [↓aP, aQ, ↓reduceIte, Nat.reduceEqDiff, Nat.reduceAdd, Nat.reduceSub, Nat.reduceMul, Nat.reduceLT, Nat.reduceLeDiff, reduceCtorEq, Nat.reduceBEq, forall_const, implies_true, exists_const, ne_eq, Int.reduceAdd, Int.reduceSub, Int.reduceMul, Int.reduceBEq, Int.reduceEq, Int.reduceLT, Int.reduceLE, Int.reduceToNat, Int.reduceNeg, Int.reduceBNe, show decide ((100 : Int) < (bs[i].size : Int)) = false by simp; omega, s1, s5, s6, g6, b6, s7, g7, b7, s8, s9, s10, encMap, encPg, encS, askIdx_map, hi2]
    by_cases h16 : 16 < bs[i].size
    · rw [if_pos h16] at hw
      refine askS hw (by simp -implicitDefEqProofs only [↓aP, aQ, ↓reduceIte, Nat.reduceEqDiff, Nat.reduceAdd, Nat.reduceSub, Nat.reduceMul, Nat.reduceLT, Nat.reduceLeDiff, reduceCtorEq, Nat.reduceBEq, forall_const, implies_true, exists_const, ne_eq, Int.reduceAdd, Int.reduceSub, Int.reduceMul, Int.reduceBEq, Int.reduceEq, Int.reduceLT, Int.reduceLE, Int.reduceToNat, Int.reduceNeg, Int.reduceBNe, encMap, encOp, encPg]) ?_
      simp -implicitDefEqProofs only [↓aP, aQ, ↓reduceIte, Nat.reduceEqDiff, Nat.reduceAdd, Nat.reduceSub, Nat.reduceMul, Nat.reduceLT, Nat.reduceLeDiff, reduceCtorEq, Nat.reduceBEq, forall_const, implies_true, exists_const, ne_eq, Int.reduceAdd, Int.reduceSub, Int.reduceMul, Int.reduceBEq, Int.reduceEq, Int.reduceLT, Int.reduceLE, Int.reduceToNat, Int.reduceNeg, Int.reduceBNe, encDo, encMap, encRs, encPg, zP, s1, s5, s6, g6, b6, s7, g7, b7, s8, s9, s10, askIdx_map, hi2, encS, show decide ((bs[i].size : Int) ≤ 16) = false by simp; omega]
      refine ⟨by decide +kernel, by decide +kernel, ?_⟩
      refine nextR hi him ⟨v, b, by omega, hb, ?_⟩
      simp -implicitDefEqProofs only [↓aP, aQ, ↓reduceIte, Nat.reduceEqDiff, Nat.reduceAdd, Nat.reduceSub, Nat.reduceMul, Nat.reduceLT, Nat.reduceLeDiff, reduceCtorEq, Nat.reduceBEq, forall_const, implies_true, exists_const, ne_eq, Int.reduceAdd, Int.reduceSub, Int.reduceMul, Int.reduceBEq, Int.reduceEq, Int.reduceLT, Int.reduceLE, Int.reduceToNat, Int.reduceNeg, Int.reduceBNe, s1, s5, s6, g6, b6, s7, g7, b7, s8, s9, s10, encMap, encRs, encPg, newP, wrapS (show i < 4611686018427387904 by omega)]
    · rw [if_neg h16] at hw
      refine askS hw (by simp -implicitDefEqProofs only [↓aP, aQ, ↓reduceIte, Nat.reduceEqDiff, Nat.reduceAdd, Nat.reduceSub, Nat.reduceMul, Nat.reduceLT, Nat.reduceLeDiff, reduceCtorEq, Nat.reduceBEq, forall_const, implies_true, exists_const, ne_eq, Int.reduceAdd, Int.reduceSub, Int.reduceMul, Int.reduceBEq, Int.reduceEq, Int.reduceLT, Int.reduceLE, Int.reduceToNat, Int.reduceNeg, Int.reduceBNe, encMap, encOp, encPg]) ?_
      simp -implicitDefEqProofs only [↓aP, aQ, ↓reduceIte, Nat.reduceEqDiff, Nat.reduceAdd, Nat.reduceSub, Nat.reduceMul, Nat.reduceLT, Nat.reduceLeDiff, reduceCtorEq, Nat.reduceBEq, forall_const, implies_true, exists_const, ne_eq, Int.reduceAdd, Int.reduceSub, Int.reduceMul, Int.reduceBEq, Int.reduceEq, Int.reduceLT, Int.reduceLE, Int.reduceToNat, Int.reduceNeg, Int.reduceBNe, encDo, encMap, encRs, encPg, zP, s1, s5, s6, g6, b6, s7, g7, b7, s8, s9, s10, askIdx_map, hi2, encS, show decide ((bs[i].size : Int) ≤ 16) = true by simp; omega, show IntKind.i64.wrap (v + 1) = v + 1 from wrapI (by omega)]
      refine ⟨by decide +kernel, by decide +kernel, ?_⟩
      refine nextR hi him ⟨v + 1, bs[i], by omega, by omega, ?_⟩
      simp -implicitDefEqProofs only [↓aP, aQ, ↓reduceIte, Nat.reduceEqDiff, Nat.reduceAdd, Nat.reduceSub, Nat.reduceMul, Nat.reduceLT, Nat.reduceLeDiff, reduceCtorEq, Nat.reduceBEq, forall_const, implies_true, exists_const, ne_eq, Int.reduceAdd, Int.reduceSub, Int.reduceMul, Int.reduceBEq, Int.reduceEq, Int.reduceLT, Int.reduceLE, Int.reduceToNat, Int.reduceNeg, Int.reduceBNe, s1, s5, s6, g6, b6, s7, g7, b7, s8, s9, s10, encMap, encRs, encPg, newP, wrapS (show i < 4611686018427387904 by omega)]
  · rintro m σ hlt ⟨v, b, hv, hb, s1, s5, s6, g6, b6, s7, g7, b7, s8, s9, s10⟩
    have hr := oDo_spec [⟨k, v, b⟩] ⟨2, k, ⟨#[]⟩⟩ (by simp)
    have hend : ∀ Q : Prop, (decide ((n : Int) < (bs.length : Int)) = false → Q) → (decide ((n : Int) < (bs.length : Int)) = true → decide ((n : Int) < 60) = false → Q) → Q := by
      intro Q h1 h2
      by_cases hu : n < bs.length
      · exact h2 (by simp; omega) (by simp; omega)
      · exact h1 (by simp; omega)
    have e : (doM [⟨k, v, b⟩] ⟨2, k, ⟨#[]⟩⟩).2 = ⟨0, ⟨k, v, b⟩⟩ := one_read (p := ⟨k, v, b⟩) hk1 (show 1 ≤ v ∧ v ≤ 2147483647 by omega) hb
    obtain ⟨y, r, hy⟩ : ∃ y r, doM [⟨k, v, b⟩] ⟨2, k, ⟨#[]⟩⟩ = (y, r) := ⟨_, _, rfl⟩
    rw [hy] at hr e
    simp only at e
    subst e
    refine hend _ (fun c1 => ?_) (fun c1 c2 => ?_)
    case' refine_1 => simp -implicitDefEqProofs only [↓aP, aQ, ↓reduceIte, Nat.reduceEqDiff, Nat.reduceAdd, Nat.reduceSub, Nat.reduceMul, Nat.reduceLT, Nat.reduceLeDiff, reduceCtorEq, Nat.reduceBEq, forall_const, implies_true, exists_const, ne_eq, Int.reduceAdd, Int.reduceSub, Int.reduceMul, Int.reduceBEq, Int.reduceEq, Int.reduceLT, Int.reduceLE, Int.reduceToNat, Int.reduceNeg, Int.reduceBNe, c1, s1, s5, s6, g6, b6, s7, g7, b7, s8, s9, s10, List.length_map, encMap, encPg]
    case' refine_2 => simp -implicitDefEqProofs only [↓aP, aQ, ↓reduceIte, Nat.reduceEqDiff, Nat.reduceAdd, Nat.reduceSub, Nat.reduceMul, Nat.reduceLT, Nat.reduceLeDiff, reduceCtorEq, Nat.reduceBEq, forall_const, implies_true, exists_const, ne_eq, Int.reduceAdd, Int.reduceSub, Int.reduceMul, Int.reduceBEq, Int.reduceEq, Int.reduceLT, Int.reduceLE, Int.reduceToNat, Int.reduceNeg, Int.reduceBNe, c1, c2, s1, s5, s6, g6, b6, s7, g7, b7, s8, s9, s10, List.length_map, encMap, encPg]
    all_goals
      refine askS hr (by simp -implicitDefEqProofs only [↓aP, aQ, ↓reduceIte, Nat.reduceEqDiff, Nat.reduceAdd, Nat.reduceSub, Nat.reduceMul, Nat.reduceLT, Nat.reduceLeDiff, reduceCtorEq, Nat.reduceBEq, forall_const, implies_true, exists_const, ne_eq, Int.reduceAdd, Int.reduceSub, Int.reduceMul, Int.reduceBEq, Int.reduceEq, Int.reduceLT, Int.reduceLE, Int.reduceToNat, Int.reduceNeg, Int.reduceBNe, encMap, encOp, encPg]) ?_
      simp -implicitDefEqProofs only [↓aP, aQ, ↓reduceIte, Nat.reduceEqDiff, Nat.reduceAdd, Nat.reduceSub, Nat.reduceMul, Nat.reduceLT, Nat.reduceLeDiff, reduceCtorEq, Nat.reduceBEq, forall_const, implies_true, exists_const, ne_eq, Int.reduceAdd, Int.reduceSub, Int.reduceMul, Int.reduceBEq, Int.reduceEq, Int.reduceLT, Int.reduceLE, Int.reduceToNat, Int.reduceNeg, Int.reduceBNe, encDo, encMap, encRs, encPg, newP, s1, s5, s6, g6, b6, s7, g7, b7, s8, s9, s10]
      refine askEq (eq_pg ⟨k, v, b⟩) ?_
      simp -implicitDefEqProofs only [↓aP, aQ, ↓reduceIte, Nat.reduceEqDiff, Nat.reduceAdd, Nat.reduceSub, Nat.reduceMul, Nat.reduceLT, Nat.reduceLeDiff, reduceCtorEq, Nat.reduceBEq, forall_const, implies_true, exists_const, ne_eq, Int.reduceAdd, Int.reduceSub, Int.reduceMul, Int.reduceBEq, Int.reduceEq, Int.reduceLT, Int.reduceLE, Int.reduceToNat, Int.reduceNeg, Int.reduceBNe]
      refine ask awake_spec ?_
      simp -implicitDefEqProofs only [↓aP, aQ, ↓reduceIte, Nat.reduceEqDiff, Nat.reduceAdd, Nat.reduceSub, Nat.reduceMul, Nat.reduceLT, Nat.reduceLeDiff, reduceCtorEq, Nat.reduceBEq, forall_const, implies_true, exists_const, ne_eq, Int.reduceAdd, Int.reduceSub, Int.reduceMul, Int.reduceBEq, Int.reduceEq, Int.reduceLT, Int.reduceLE, Int.reduceToNat, Int.reduceNeg, Int.reduceBNe]
theorem opsLast_walk {w : World} (a : Int) (ha : (Lit.int .u8 a).wf = true) (v1 : Value) (a1 : ∃ l : List ByteArray, l.length ≤ maxLen ∧ RepT (RepS w fun _ => False) (rL 1 (l.map encS)) v1) :
    Calls Try.prog 6 #[.int .u8 a, v1] w fun e w' => e = .returned (.bool true) ∧ Below w.heap.size w w' := by
  obtain ⟨bs, hm, h1⟩ := a1
  exact (lawLast_spec a bs (u8_of ha)).plain (us := [.int .u8 a, v1]) (.cons (.pv rfl) (.cons h1 .nil))
end Go.Proofs.Ytpcahlanjffilaa
