/- layer 21: the contracts of history.Check, and of the law's own functions. -/
import Derived.Test.YtbpipdgkkdifgaaH8
namespace Go.Proofs.Ytbpipdgkkdifgaa
open Go.RowKit Ok Ss Hi
set_option linter.unusedVariables false
set_option linter.unusedSimpArgs false
theorem eq8 (e : Ev) : EqRun Try.prog 49 [.int .i64 e.r.e, .int .i64 e.r.p.id, .int .i64 e.r.p.ver, .string e.r.p.body] [.int .i64 8, .int .i64 0, .int .i64 0, .string ⟨#[]⟩] (bad8 e) := eq_rs2 e.r ⟨8, zP⟩
def encCk (x : List Pg × Nat × Int) : TV SC := .tup [(true, encMap x.1), (false, [.pv (.int .i64 x.2.1)]), (false, [.pv (.int .i64 x.2.2)])]

set_option maxHeartbeats 1000000 in
theorem hCheck_spec (m : List Pg) (l : List Ev) (hm : m.length < 4611686018427387904) (hl : l.length < 1000000) : Spec Try.prog 13 [.agg (encMap m), rL 11 (l.map encEv)] (.val (encCk (checkM m l))) := by
  refine spec_val mixed fn13 (by simp) ?_
  unfold ac13
  by_cases h1 : 400 < l.length
  · have e : checkM m l = (m, 0, 5) := if_pos h1
    simp -implicitDefEqProofs only [↓aP, aQ, ↓reduceIte, Nat.reduceEqDiff, Nat.reduceAdd, Nat.reduceSub, Nat.reduceMul, Nat.reduceLT, Nat.reduceLeDiff, reduceCtorEq, Nat.reduceBEq, forall_const, implies_true, exists_const, ne_eq, Int.reduceAdd, Int.reduceSub, Int.reduceMul, Int.reduceBEq, Int.reduceEq, Int.reduceLT, Int.reduceLE, Int.reduceToNat, Int.reduceNeg, Int.reduceBNe, encMap, encCk, List.length_map, show decide ((400 : Int) < (l.length : Int)) = true by simp; omega, e]
  have d1 : decide ((400 : Int) < (l.length : Int)) = false := by simp; omega
  simp -implicitDefEqProofs only [↓aP, aQ, ↓reduceIte, Nat.reduceEqDiff, Nat.reduceAdd, Nat.reduceSub, Nat.reduceMul, Nat.reduceLT, Nat.reduceLeDiff, reduceCtorEq, Nat.reduceBEq, forall_const, implies_true, exists_const, ne_eq, Int.reduceAdd, Int.reduceSub, Int.reduceMul, Int.reduceBEq, Int.reduceEq, Int.reduceLT, Int.reduceLE, Int.reduceToNat, Int.reduceNeg, Int.reduceBNe, encMap, List.length_map, d1]
  refine ask (oRight_spec m hm) ?_
  cases h2 : rightM m
  · have e : checkM m l = (m, 0, 1) := by unfold checkM; rw [if_neg h1, if_pos h2]
    simp -implicitDefEqProofs only [↓aP, aQ, ↓reduceIte, Nat.reduceEqDiff, Nat.reduceAdd, Nat.reduceSub, Nat.reduceMul, Nat.reduceLT, Nat.reduceLeDiff, reduceCtorEq, Nat.reduceBEq, forall_const, implies_true, exists_const, ne_eq, Int.reduceAdd, Int.reduceSub, Int.reduceMul, Int.reduceBEq, Int.reduceEq, Int.reduceLT, Int.reduceLE, Int.reduceToNat, Int.reduceNeg, Int.reduceBNe, encMap, encCk, e]
  simp -implicitDefEqProofs only [↓aP, aQ, ↓reduceIte, Nat.reduceEqDiff, Nat.reduceAdd, Nat.reduceSub, Nat.reduceMul, Nat.reduceLT, Nat.reduceLeDiff, reduceCtorEq, Nat.reduceBEq, forall_const, implies_true, exists_const, ne_eq, Int.reduceAdd, Int.reduceSub, Int.reduceMul, Int.reduceBEq, Int.reduceEq, Int.reduceLT, Int.reduceLE, Int.reduceToNat, Int.reduceNeg, Int.reduceBNe, encMap]
  refine ask (apart_spec l hl) ?_
  cases h3 : apart l
  · have e : checkM m l = (m, 0, 2) := by unfold checkM; rw [if_neg h1, if_neg (by rw [h2]; simp), if_pos h3]
    simp -implicitDefEqProofs only [↓aP, aQ, ↓reduceIte, Nat.reduceEqDiff, Nat.reduceAdd, Nat.reduceSub, Nat.reduceMul, Nat.reduceLT, Nat.reduceLeDiff, reduceCtorEq, Nat.reduceBEq, forall_const, implies_true, exists_const, ne_eq, Int.reduceAdd, Int.reduceSub, Int.reduceMul, Int.reduceBEq, Int.reduceEq, Int.reduceLT, Int.reduceLE, Int.reduceToNat, Int.reduceNeg, Int.reduceBNe, encMap, encCk, e]
  have e : checkM m l = goM m 0 (sortD l) := check_of (by omega) h2 h3
  simp -implicitDefEqProofs only [↓aP, aQ, ↓reduceIte, Nat.reduceEqDiff, Nat.reduceAdd, Nat.reduceSub, Nat.reduceMul, Nat.reduceLT, Nat.reduceLeDiff, reduceCtorEq, Nat.reduceBEq, forall_const, implies_true, exists_const, ne_eq, Int.reduceAdd, Int.reduceSub, Int.reduceMul, Int.reduceBEq, Int.reduceEq, Int.reduceLT, Int.reduceLE, Int.reduceToNat, Int.reduceNeg, Int.reduceBNe, encMap]
  refine ask (hSort_spec l hl) ?_
  have hsl := sortD_len (l := l)
  rw [e]
  obtain ⟨S, hS⟩ : ∃ S, S = sortD l := ⟨_, rfl⟩
  rw [← hS] at hsl ⊢
  simp -implicitDefEqProofs only [↓aP, aQ, ↓reduceIte, Nat.reduceEqDiff, Nat.reduceAdd, Nat.reduceSub, Nat.reduceMul, Nat.reduceLT, Nat.reduceLeDiff, reduceCtorEq, Nat.reduceBEq, forall_const, implies_true, exists_const, ne_eq, Int.reduceAdd, Int.reduceSub, Int.reduceMul, Int.reduceBEq, Int.reduceEq, Int.reduceLT, Int.reduceLE, Int.reduceToNat, Int.reduceNeg, Int.reduceBNe, encMap, List.length_map]
  refine rangeB S.length (fun i σ => ∃ cur, rightM cur = true ∧ goM m 0 S = goM cur i (S.drop i) ∧ σ.slot 1 = vL 11 (l.map encEv) ∧ σ.slot 2 = .c (.ptr 2 1 0 0) ∧ σ.h.gen 2 = 1 ∧ σ.h.blk 2 = .box 24 1 [(encMap cur).map AC.s] ∧ σ.slot 4 = .c (.ptr 4 1 0 0) ∧ σ.h.gen 4 = 1 ∧ σ.h.blk 4 = .box 24 1 [[.zc]] ∧ σ.slot 27 = .c (.own 27 1) ∧ σ.h.gen 27 = 1 ∧ σ.h.blk 27 = .row tEv 11 (S.map encEv) ∧ σ.slot 28 = vI S.length ∧ σ.slot 29 = vI i) ?_ ?_ ?_
  · refine ⟨m, h2, by rw [List.drop_zero], ?_⟩
    simp -implicitDefEqProofs only [↓aP, aQ, ↓reduceIte, Nat.reduceEqDiff, Nat.reduceAdd, Nat.reduceSub, Nat.reduceMul, Nat.reduceLT, Nat.reduceLeDiff, reduceCtorEq, Nat.reduceBEq, forall_const, implies_true, exists_const, ne_eq, Int.reduceAdd, Int.reduceSub, Int.reduceMul, Int.reduceBEq, Int.reduceEq, Int.reduceLT, Int.reduceLE, Int.reduceToNat, Int.reduceNeg, Int.reduceBNe, encMap]
  · rintro i k σ him hi hlt ⟨cur, hr, hg, s1, s2, g2, b2, s4, g4, b4, s27, g27, b27, s28, s29⟩
    have hcl := right_len hr
    rw [drop_cons hi, goM_cons] at hg
    simp -implicitDefEqProofs only [↓aP, aQ, ↓reduceIte, Nat.reduceEqDiff, Nat.reduceAdd, Nat.reduceSub, Nat.reduceMul, Nat.reduceLT, Nat.reduceLeDiff, reduceCtorEq, Nat.reduceBEq, forall_const, implies_true, exists_const, ne_eq, Int.reduceAdd, Int.reduceSub, Int.reduceMul, Int.reduceBEq, Int.reduceEq, Int.reduceLT, Int.reduceLE, Int.reduceToNat, Int.reduceNeg, Int.reduceBNe, hlt, s1, s2, g2, b2, s4, g4, b4, s27, g27, b27, s28, s29, askIdx_map, hi, encEv]
    refine askEq (eq8 S[i]) ?_
    cases hb : bad8 S[i]
    · rw [hb, if_neg (by simp)] at hg
      simp -implicitDefEqProofs only [↓aP, aQ, ↓reduceIte, Nat.reduceEqDiff, Nat.reduceAdd, Nat.reduceSub, Nat.reduceMul, Nat.reduceLT, Nat.reduceLeDiff, reduceCtorEq, Nat.reduceBEq, forall_const, implies_true, exists_const, ne_eq, Int.reduceAdd, Int.reduceSub, Int.reduceMul, Int.reduceBEq, Int.reduceEq, Int.reduceLT, Int.reduceLE, Int.reduceToNat, Int.reduceNeg, Int.reduceBNe, s1, s2, g2, b2, s4, g4, b4, s27, g27, b27, s28, s29, encMap]
      have hd := oDo_spec cur S[i].op (by omega)
      obtain ⟨n, r, hx⟩ : ∃ n r, doM cur S[i].op = (n, r) := ⟨_, _, rfl⟩
      have hn : rightM n = true := by have := do_right (l := cur) (o := S[i].op); rw [hx] at this; rw [this]; exact hr
      rw [hx] at hd hg
      refine ask hd ?_
      simp -implicitDefEqProofs only [↓aP, aQ, ↓reduceIte, Nat.reduceEqDiff, Nat.reduceAdd, Nat.reduceSub, Nat.reduceMul, Nat.reduceLT, Nat.reduceLeDiff, reduceCtorEq, Nat.reduceBEq, forall_const, implies_true, exists_const, ne_eq, Int.reduceAdd, Int.reduceSub, Int.reduceMul, Int.reduceBEq, Int.reduceEq, Int.reduceLT, Int.reduceLE, Int.reduceToNat, Int.reduceNeg, Int.reduceBNe, encDo, encMap, encRs, encOp]
      refine askEq (eq_rs2 r S[i].r) ?_
      by_cases he : r = S[i].r
      · rw [if_pos he] at hg
        simp -implicitDefEqProofs only [↓aP, aQ, ↓reduceIte, Nat.reduceEqDiff, Nat.reduceAdd, Nat.reduceSub, Nat.reduceMul, Nat.reduceLT, Nat.reduceLeDiff, reduceCtorEq, Nat.reduceBEq, forall_const, implies_true, exists_const, ne_eq, Int.reduceAdd, Int.reduceSub, Int.reduceMul, Int.reduceBEq, Int.reduceEq, Int.reduceLT, Int.reduceLE, Int.reduceToNat, Int.reduceNeg, Int.reduceBNe, s1, s2, g2, b2, s4, g4, b4, s27, g27, b27, s28, s29, encMap, decide_eq_true he, wrapS (show i < 4611686018427387904 by omega)]
        refine nextR hi him ⟨n, hn, hg, ?_⟩
        simp -implicitDefEqProofs only [↓aP, aQ, ↓reduceIte, Nat.reduceEqDiff, Nat.reduceAdd, Nat.reduceSub, Nat.reduceMul, Nat.reduceLT, Nat.reduceLeDiff, reduceCtorEq, Nat.reduceBEq, forall_const, implies_true, exists_const, ne_eq, Int.reduceAdd, Int.reduceSub, Int.reduceMul, Int.reduceBEq, Int.reduceEq, Int.reduceLT, Int.reduceLE, Int.reduceToNat, Int.reduceNeg, Int.reduceBNe, s1, s2, g2, b2, s4, g4, b4, s27, g27, b27, s28, s29, encMap]
      · rw [if_neg he] at hg
        simp -implicitDefEqProofs only [↓aP, aQ, ↓reduceIte, Nat.reduceEqDiff, Nat.reduceAdd, Nat.reduceSub, Nat.reduceMul, Nat.reduceLT, Nat.reduceLeDiff, reduceCtorEq, Nat.reduceBEq, forall_const, implies_true, exists_const, ne_eq, Int.reduceAdd, Int.reduceSub, Int.reduceMul, Int.reduceBEq, Int.reduceEq, Int.reduceLT, Int.reduceLE, Int.reduceToNat, Int.reduceNeg, Int.reduceBNe, s1, s2, g2, b2, s4, g4, b4, s27, g27, b27, s28, s29, encMap, decide_eq_false he, encCk, hg]
    · rw [hb, if_pos rfl] at hg
      simp -implicitDefEqProofs only [↓aP, aQ, ↓reduceIte, Nat.reduceEqDiff, Nat.reduceAdd, Nat.reduceSub, Nat.reduceMul, Nat.reduceLT, Nat.reduceLeDiff, reduceCtorEq, Nat.reduceBEq, forall_const, implies_true, exists_const, ne_eq, Int.reduceAdd, Int.reduceSub, Int.reduceMul, Int.reduceBEq, Int.reduceEq, Int.reduceLT, Int.reduceLE, Int.reduceToNat, Int.reduceNeg, Int.reduceBNe, s1, s2, g2, b2, s4, g4, b4, s27, g27, b27, s28, s29, encMap, wrapS (show i < 4611686018427387904 by omega)]
      refine nextR hi him ⟨cur, hr, hg, ?_⟩
      simp -implicitDefEqProofs only [↓aP, aQ, ↓reduceIte, Nat.reduceEqDiff, Nat.reduceAdd, Nat.reduceSub, Nat.reduceMul, Nat.reduceLT, Nat.reduceLeDiff, reduceCtorEq, Nat.reduceBEq, forall_const, implies_true, exists_const, ne_eq, Int.reduceAdd, Int.reduceSub, Int.reduceMul, Int.reduceBEq, Int.reduceEq, Int.reduceLT, Int.reduceLE, Int.reduceToNat, Int.reduceNeg, Int.reduceBNe, s1, s2, g2, b2, s4, g4, b4, s27, g27, b27, s28, s29, encMap]
  · rintro k σ hlt ⟨cur, hr, hg, s1, s2, g2, b2, s4, g4, b4, s27, g27, b27, s28, s29⟩
    have hg2 : goM m 0 S = (cur, l.length, 0) := by rw [hg, List.drop_length, goM, hsl]
    simp -implicitDefEqProofs only [↓aP, aQ, ↓reduceIte, Nat.reduceEqDiff, Nat.reduceAdd, Nat.reduceSub, Nat.reduceMul, Nat.reduceLT, Nat.reduceLeDiff, reduceCtorEq, Nat.reduceBEq, forall_const, implies_true, exists_const, ne_eq, Int.reduceAdd, Int.reduceSub, Int.reduceMul, Int.reduceBEq, Int.reduceEq, Int.reduceLT, Int.reduceLE, Int.reduceToNat, Int.reduceNeg, Int.reduceBNe, hlt, s1, s2, g2, b2, s4, g4, b4, s27, g27, b27, s28, s29, encMap, encCk, hg2, List.length_map]
/-- the law's: are events few, and short? -/
def smallE (l : List Ev) : Bool := (l.take 60).all (fun e => decide (e.op.body.size ≤ 100) && decide (e.r.p.body.size ≤ 100)) && decide (l.length ≤ 60)
theorem smallE_len {l : List Ev} (h : smallE l = true) : l.length ≤ 60 := by
  unfold smallE at h
  simp only [Bool.and_eq_true, decide_eq_true_eq] at h
  exact h.2

theorem small_spec (l : List Ev) (hl : l.length ≤ 9223372036854775807) : Spec Try.prog 9 [rL 11 (l.map encEv)] (.val (rB (smallE l))) := by
  refine spec_val mixed fn9 (by simp) ?_
  unfold ac9
  simp -implicitDefEqProofs only [↓aP, aQ, ↓reduceIte, Nat.reduceEqDiff, Nat.reduceAdd, Nat.reduceSub, Nat.reduceMul, Nat.reduceLT, Nat.reduceLeDiff, reduceCtorEq, Nat.reduceBEq, forall_const, implies_true, exists_const, ne_eq, Int.reduceAdd, Int.reduceSub, Int.reduceMul, Int.reduceBEq, Int.reduceEq, Int.reduceLT, Int.reduceLE, Int.reduceToNat, Int.reduceNeg, Int.reduceBNe]
  refine loopA (fun n σ => ∃ i : Nat, i ≤ 60 ∧ i ≤ l.length ∧ n = 60 - i ∧ (∀ (k : Nat) (h : k < l.length), k < i → l[k].op.body.size ≤ 100 ∧ l[k].r.p.body.size ≤ 100) ∧ σ.slot 0 = vL 11 (l.map encEv) ∧ σ.slot 3 = vI i) 60 ?_ ?_
  · refine ⟨0, by omega, by omega, rfl, fun k h h2 => by omega, ?_⟩
    simp -implicitDefEqProofs only [↓aP, aQ, ↓reduceIte, Nat.reduceEqDiff, Nat.reduceAdd, Nat.reduceSub, Nat.reduceMul, Nat.reduceLT, Nat.reduceLeDiff, reduceCtorEq, Nat.reduceBEq, forall_const, implies_true, exists_const, ne_eq, Int.reduceAdd, Int.reduceSub, Int.reduceMul, Int.reduceBEq, Int.reduceEq, Int.reduceLT, Int.reduceLE, Int.reduceToNat, Int.reduceNeg, Int.reduceBNe]
  · rintro n σ ⟨i, h60, hil, rfl, hall, s0, s3⟩
    by_cases hlt : i < l.length
    · have d1 : decide ((i : Int) < (l.length : Int)) = true := by simp; omega
      by_cases h6 : i < 60
      · have bad : ¬ (l[i].op.body.size ≤ 100 ∧ l[i].r.p.body.size ≤ 100) → smallE l = false := by
          intro h
          unfold smallE
          rw [Bool.and_eq_false_iff]
          left
          rw [List.all_eq_false]
          exact ⟨l[i], List.mem_take_iff_getElem.2 ⟨i, by omega, rfl⟩, by simpa using h⟩
        simp -implicitDefEqProofs only [↓aP, aQ, ↓reduceIte, Nat.reduceEqDiff, Nat.reduceAdd, Nat.reduceSub, Nat.reduceMul, Nat.reduceLT, Nat.reduceLeDiff, reduceCtorEq, Nat.reduceBEq, forall_const, implies_true, exists_const, ne_eq, Int.reduceAdd, Int.reduceSub, Int.reduceMul, Int.reduceBEq, Int.reduceEq, Int.reduceLT, Int.reduceLE, Int.reduceToNat, Int.reduceNeg, Int.reduceBNe, s0, s3, List.length_map, d1, show decide ((i : Int) < 60) = true by simp; omega, askIdx_map, hlt, encEv]
        cases g1 : decide ((100 : Int) < (l[i].op.body.size : Int))
        · cases g2 : decide ((100 : Int) < (l[i].r.p.body.size : Int))
          · simp -implicitDefEqProofs only [↓aP, aQ, ↓reduceIte, Nat.reduceEqDiff, Nat.reduceAdd, Nat.reduceSub, Nat.reduceMul, Nat.reduceLT, Nat.reduceLeDiff, reduceCtorEq, Nat.reduceBEq, forall_const, implies_true, exists_const, ne_eq, Int.reduceAdd, Int.reduceSub, Int.reduceMul, Int.reduceBEq, Int.reduceEq, Int.reduceLT, Int.reduceLE, Int.reduceToNat, Int.reduceNeg, Int.reduceBNe, s0, s3, g1, g2, wrapS (show i < 4611686018427387904 by omega), askIdx_map, hlt, encEv]
            refine ⟨60 - (i + 1), by omega, i + 1, by omega, by omega, rfl, ?_, ?_⟩
            · intro k hk hki
              by_cases e : k = i
              · subst e; simp at g1 g2; omega
              · exact hall k hk (by omega)
            · simp -implicitDefEqProofs only [↓aP, aQ, ↓reduceIte, Nat.reduceEqDiff, Nat.reduceAdd, Nat.reduceSub, Nat.reduceMul, Nat.reduceLT, Nat.reduceLeDiff, reduceCtorEq, Nat.reduceBEq, forall_const, implies_true, exists_const, ne_eq, Int.reduceAdd, Int.reduceSub, Int.reduceMul, Int.reduceBEq, Int.reduceEq, Int.reduceLT, Int.reduceLE, Int.reduceToNat, Int.reduceNeg, Int.reduceBNe, s0, s3]
          · simp -implicitDefEqProofs only [↓aP, aQ, ↓reduceIte, Nat.reduceEqDiff, Nat.reduceAdd, Nat.reduceSub, Nat.reduceMul, Nat.reduceLT, Nat.reduceLeDiff, reduceCtorEq, Nat.reduceBEq, forall_const, implies_true, exists_const, ne_eq, Int.reduceAdd, Int.reduceSub, Int.reduceMul, Int.reduceBEq, Int.reduceEq, Int.reduceLT, Int.reduceLE, Int.reduceToNat, Int.reduceNeg, Int.reduceBNe, s0, s3, g1, g2, askIdx_map, hlt, encEv, bad (by simp at g2; omega)]
        · simp -implicitDefEqProofs only [↓aP, aQ, ↓reduceIte, Nat.reduceEqDiff, Nat.reduceAdd, Nat.reduceSub, Nat.reduceMul, Nat.reduceLT, Nat.reduceLeDiff, reduceCtorEq, Nat.reduceBEq, forall_const, implies_true, exists_const, ne_eq, Int.reduceAdd, Int.reduceSub, Int.reduceMul, Int.reduceBEq, Int.reduceEq, Int.reduceLT, Int.reduceLE, Int.reduceToNat, Int.reduceNeg, Int.reduceBNe, s0, s3, g1, askIdx_map, hlt, encEv, bad (by simp at g1; omega)]
      · simp -implicitDefEqProofs only [↓aP, aQ, ↓reduceIte, Nat.reduceEqDiff, Nat.reduceAdd, Nat.reduceSub, Nat.reduceMul, Nat.reduceLT, Nat.reduceLeDiff, reduceCtorEq, Nat.reduceBEq, forall_const, implies_true, exists_const, ne_eq, Int.reduceAdd, Int.reduceSub, Int.reduceMul, Int.reduceBEq, Int.reduceEq, Int.reduceLT, Int.reduceLE, Int.reduceToNat, Int.reduceNeg, Int.reduceBNe, s0, s3, List.length_map, d1, show decide ((i : Int) < 60) = false by simp; omega, show decide ((l.length : Int) ≤ 60) = false by simp; omega]
        unfold smallE
        rw [decide_eq_false (show ¬ l.length ≤ 60 by omega), Bool.and_false]
    · have e : smallE l = true := by
        unfold smallE
        rw [decide_eq_true (show l.length ≤ 60 by omega), Bool.and_true, List.all_eq_true]
        intro e he
        obtain ⟨k, hk, rfl⟩ := List.mem_take_iff_getElem.1 he
        have := hall k (by omega) (by omega)
        simpa using this
      simp -implicitDefEqProofs only [↓aP, aQ, ↓reduceIte, Nat.reduceEqDiff, Nat.reduceAdd, Nat.reduceSub, Nat.reduceMul, Nat.reduceLT, Nat.reduceLeDiff, reduceCtorEq, Nat.reduceBEq, forall_const, implies_true, exists_const, ne_eq, Int.reduceAdd, Int.reduceSub, Int.reduceMul, Int.reduceBEq, Int.reduceEq, Int.reduceLT, Int.reduceLE, Int.reduceToNat, Int.reduceNeg, Int.reduceBNe, s0, s3, List.length_map, show decide ((i : Int) < (l.length : Int)) = false by simp; omega, show decide ((l.length : Int) ≤ 60) = true by simp; omega, e]
def eA : Ev := ⟨0, ⟨1, 1, ⟨#[]⟩⟩, ⟨0, ⟨1, 1, ⟨#[]⟩⟩⟩, 0, 1, 2⟩
def eB : Ev := ⟨0, ⟨2, 1, ⟨#[]⟩⟩, ⟨0, ⟨1, 2, ⟨#[]⟩⟩⟩, 3, 4, 5⟩
theorem aw1 : checkM [] [eA] = ([⟨1, 1, ⟨#[]⟩⟩], 1, 0) := by decide +kernel
theorem aw2 : checkM [] [eB, eA] = ([⟨1, 1, ⟨#[]⟩⟩], 1, 2) := by decide +kernel
theorem aw3 : apart [eA, eB] = true := by decide +kernel
theorem aw4 : apart [eA, eA] = false := by decide +kernel
theorem awk1 : Spec Try.prog 13 [.agg (encMap []), rL 11 [encEv eA]] (.val (encCk ([⟨1, 1, ⟨#[]⟩⟩], 1, 0))) := by
  have h := hCheck_spec [] [eA] (by decide) (by decide)
  rwa [aw1] at h
theorem awk2 : Spec Try.prog 13 [.agg (encMap []), rL 11 [encEv eB, encEv eA]] (.val (encCk ([⟨1, 1, ⟨#[]⟩⟩], 1, 2))) := by
  have h := hCheck_spec [] [eB, eA] (by decide) (by decide)
  rwa [aw2] at h
theorem awk3 : Spec Try.prog 18 [rL 11 [encEv eA, encEv eB]] (.val (rB true)) := by
  have h := apart_spec [eA, eB] (by decide)
  rwa [aw3] at h
theorem awk4 : Spec Try.prog 18 [rL 11 [encEv eA, encEv eA]] (.val (rB false)) := by
  have h := apart_spec [eA, eA] (by decide)
  rwa [aw4] at h
theorem awake_spec : Spec Try.prog 11 [] (.val (rB true)) := by
  refine spec_val mixed fn11 (by simp) ?_
  unfold ac11
  simp -implicitDefEqProofs only [↓aP, aQ, ↓reduceIte, Nat.reduceEqDiff, Nat.reduceAdd, Nat.reduceSub, Nat.reduceMul, Nat.reduceLT, Nat.reduceLeDiff, reduceCtorEq, Nat.reduceBEq, forall_const, implies_true, exists_const, ne_eq, Int.reduceAdd, Int.reduceSub, Int.reduceMul, Int.reduceBEq, Int.reduceEq, Int.reduceLT, Int.reduceLE, Int.reduceToNat, Int.reduceNeg, Int.reduceBNe]
  refine askS awk1 (by simp -implicitDefEqProofs only [↓aP, aQ, ↓reduceIte, Nat.reduceEqDiff, Nat.reduceAdd, Nat.reduceSub, Nat.reduceMul, Nat.reduceLT, Nat.reduceLeDiff, reduceCtorEq, Nat.reduceBEq, forall_const, implies_true, exists_const, ne_eq, Int.reduceAdd, Int.reduceSub, Int.reduceMul, Int.reduceBEq, Int.reduceEq, Int.reduceLT, Int.reduceLE, Int.reduceToNat, Int.reduceNeg, Int.reduceBNe, encMap, encEv, eA]) ?_
  simp -implicitDefEqProofs only [↓aP, aQ, ↓reduceIte, Nat.reduceEqDiff, Nat.reduceAdd, Nat.reduceSub, Nat.reduceMul, Nat.reduceLT, Nat.reduceLeDiff, reduceCtorEq, Nat.reduceBEq, forall_const, implies_true, exists_const, ne_eq, Int.reduceAdd, Int.reduceSub, Int.reduceMul, Int.reduceBEq, Int.reduceEq, Int.reduceLT, Int.reduceLE, Int.reduceToNat, Int.reduceNeg, Int.reduceBNe, encCk, encMap, encPg]
  refine askS awk2 (by simp -implicitDefEqProofs only [↓aP, aQ, ↓reduceIte, Nat.reduceEqDiff, Nat.reduceAdd, Nat.reduceSub, Nat.reduceMul, Nat.reduceLT, Nat.reduceLeDiff, reduceCtorEq, Nat.reduceBEq, forall_const, implies_true, exists_const, ne_eq, Int.reduceAdd, Int.reduceSub, Int.reduceMul, Int.reduceBEq, Int.reduceEq, Int.reduceLT, Int.reduceLE, Int.reduceToNat, Int.reduceNeg, Int.reduceBNe, encMap, encEv, eA, eB]) ?_
  simp -implicitDefEqProofs only [↓aP, aQ, ↓reduceIte, Nat.reduceEqDiff, Nat.reduceAdd, Nat.reduceSub, Nat.reduceMul, Nat.reduceLT, Nat.reduceLeDiff, reduceCtorEq, Nat.reduceBEq, forall_const, implies_true, exists_const, ne_eq, Int.reduceAdd, Int.reduceSub, Int.reduceMul, Int.reduceBEq, Int.reduceEq, Int.reduceLT, Int.reduceLE, Int.reduceToNat, Int.reduceNeg, Int.reduceBNe, encCk, encMap, encPg]
  refine askS awk3 (by simp -implicitDefEqProofs only [↓aP, aQ, ↓reduceIte, Nat.reduceEqDiff, Nat.reduceAdd, Nat.reduceSub, Nat.reduceMul, Nat.reduceLT, Nat.reduceLeDiff, reduceCtorEq, Nat.reduceBEq, forall_const, implies_true, exists_const, ne_eq, Int.reduceAdd, Int.reduceSub, Int.reduceMul, Int.reduceBEq, Int.reduceEq, Int.reduceLT, Int.reduceLE, Int.reduceToNat, Int.reduceNeg, Int.reduceBNe, encMap, encEv, eA, eB]) ?_
  simp -implicitDefEqProofs only [↓aP, aQ, ↓reduceIte, Nat.reduceEqDiff, Nat.reduceAdd, Nat.reduceSub, Nat.reduceMul, Nat.reduceLT, Nat.reduceLeDiff, reduceCtorEq, Nat.reduceBEq, forall_const, implies_true, exists_const, ne_eq, Int.reduceAdd, Int.reduceSub, Int.reduceMul, Int.reduceBEq, Int.reduceEq, Int.reduceLT, Int.reduceLE, Int.reduceToNat, Int.reduceNeg, Int.reduceBNe, encCk, encMap, encPg]
  refine askS awk4 (by simp -implicitDefEqProofs only [↓aP, aQ, ↓reduceIte, Nat.reduceEqDiff, Nat.reduceAdd, Nat.reduceSub, Nat.reduceMul, Nat.reduceLT, Nat.reduceLeDiff, reduceCtorEq, Nat.reduceBEq, forall_const, implies_true, exists_const, ne_eq, Int.reduceAdd, Int.reduceSub, Int.reduceMul, Int.reduceBEq, Int.reduceEq, Int.reduceLT, Int.reduceLE, Int.reduceToNat, Int.reduceNeg, Int.reduceBNe, encMap, encEv, eA, eB]) ?_
  simp -implicitDefEqProofs only [↓aP, aQ, ↓reduceIte, Nat.reduceEqDiff, Nat.reduceAdd, Nat.reduceSub, Nat.reduceMul, Nat.reduceLT, Nat.reduceLeDiff, reduceCtorEq, Nat.reduceBEq, forall_const, implies_true, exists_const, ne_eq, Int.reduceAdd, Int.reduceSub, Int.reduceMul, Int.reduceBEq, Int.reduceEq, Int.reduceLT, Int.reduceLE, Int.reduceToNat, Int.reduceNeg, Int.reduceBNe, encCk, encMap, encPg]
end Go.Proofs.Ytbpipdgkkdifgaa
