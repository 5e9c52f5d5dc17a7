/- layer 21: the contract of the document's Check. -/
import Derived.Test.YtbpipdgkkdifgaaH10
namespace Go.Proofs.Ytbpipdgkkdifgaa
open Go.RowKit Ok Ss Hi
set_option linter.unusedVariables false
set_option linter.unusedSimpArgs false
theorem bad8_iff (e : Ev) : bad8 e = true ↔ (e.r.e == 8) = true ∧ (e.r.p.id == 0) = true ∧ (e.r.p.ver == 0) = true ∧ (e.r.p.body.toList == (⟨#[]⟩ : ByteArray).toList) = true := by
  obtain ⟨_, _, ⟨e, ⟨id, ver, body⟩⟩, _, _, _⟩ := e
  unfold bad8 zP
  rw [decide_eq_true_iff, tl_beq]
  simp
def encCk2 (x : List Pg × Nat × Int) : TV SC := .tup [(false, [.sl 3 (x.1.map encPg)]), (false, [.pv (.int .i64 x.2.1)]), (false, [.pv (.int .i64 x.2.2)])]

set_option maxHeartbeats 1000000 in
set_option maxRecDepth 100000 in
theorem rCheck_spec (m : List Pg) (l : List Ev) (hm : m.length < 4611686018427387904) (hl : l.length < 1000000) : Spec Try.prog 14 [rL 3 (m.map encPg), rL 11 (l.map encEv)] (.val (encCk2 (checkM m l))) := by
  refine spec_val mixed fn14 (by simp) ?_
  unfold ac14
  by_cases h1 : 400 < l.length
  · have e : checkM m l = (m, 0, 5) := if_pos h1
    simp -implicitDefEqProofs only [↓aP, aQ, ↓reduceIte, Nat.reduceEqDiff, Nat.reduceAdd, Nat.reduceSub, Nat.reduceMul, Nat.reduceLT, Nat.reduceLeDiff, reduceCtorEq, Nat.reduceBEq, forall_const, implies_true, exists_const, ne_eq, Int.reduceAdd, Int.reduceSub, Int.reduceMul, Int.reduceBEq, Int.reduceEq, Int.reduceLT, Int.reduceLE, Int.reduceToNat, Int.reduceNeg, Int.reduceBNe, encCk2, List.length_map, show decide ((400 : Int) < (l.length : Int)) = true by simp; omega, e]
  have d1 : decide ((400 : Int) < (l.length : Int)) = false := by simp; omega
  simp -implicitDefEqProofs only [↓aP, aQ, ↓reduceIte, Nat.reduceEqDiff, Nat.reduceAdd, Nat.reduceSub, Nat.reduceMul, Nat.reduceLT, Nat.reduceLeDiff, reduceCtorEq, Nat.reduceBEq, forall_const, implies_true, exists_const, ne_eq, Int.reduceAdd, Int.reduceSub, Int.reduceMul, Int.reduceBEq, Int.reduceEq, Int.reduceLT, Int.reduceLE, Int.reduceToNat, Int.reduceNeg, Int.reduceBNe, List.length_map, d1]
  refine ask (rRight_spec m hm) ?_
  cases h2 : rightM m
  · have e : checkM m l = (m, 0, 1) := by unfold checkM; rw [if_neg h1, if_pos h2]
    simp -implicitDefEqProofs only [↓aP, aQ, ↓reduceIte, Nat.reduceEqDiff, Nat.reduceAdd, Nat.reduceSub, Nat.reduceMul, Nat.reduceLT, Nat.reduceLeDiff, reduceCtorEq, Nat.reduceBEq, forall_const, implies_true, exists_const, ne_eq, Int.reduceAdd, Int.reduceSub, Int.reduceMul, Int.reduceBEq, Int.reduceEq, Int.reduceLT, Int.reduceLE, Int.reduceToNat, Int.reduceNeg, Int.reduceBNe, encCk2, e]
  simp -implicitDefEqProofs only [↓aP, aQ, ↓reduceIte, Nat.reduceEqDiff, Nat.reduceAdd, Nat.reduceSub, Nat.reduceMul, Nat.reduceLT, Nat.reduceLeDiff, reduceCtorEq, Nat.reduceBEq, forall_const, implies_true, exists_const, ne_eq, Int.reduceAdd, Int.reduceSub, Int.reduceMul, Int.reduceBEq, Int.reduceEq, Int.reduceLT, Int.reduceLE, Int.reduceToNat, Int.reduceNeg, Int.reduceBNe]
  refine ask (rApart_spec l hl) ?_
  cases h3 : apart l
  · have e : checkM m l = (m, 0, 2) := by unfold checkM; rw [if_neg h1, if_neg (by rw [h2]; simp), if_pos h3]
    simp -implicitDefEqProofs only [↓aP, aQ, ↓reduceIte, Nat.reduceEqDiff, Nat.reduceAdd, Nat.reduceSub, Nat.reduceMul, Nat.reduceLT, Nat.reduceLeDiff, reduceCtorEq, Nat.reduceBEq, forall_const, implies_true, exists_const, ne_eq, Int.reduceAdd, Int.reduceSub, Int.reduceMul, Int.reduceBEq, Int.reduceEq, Int.reduceLT, Int.reduceLE, Int.reduceToNat, Int.reduceNeg, Int.reduceBNe, encCk2, e]
  have e : checkM m l = goM m 0 (sortD l) := check_of (by omega) h2 h3
  simp -implicitDefEqProofs only [↓aP, aQ, ↓reduceIte, Nat.reduceEqDiff, Nat.reduceAdd, Nat.reduceSub, Nat.reduceMul, Nat.reduceLT, Nat.reduceLeDiff, reduceCtorEq, Nat.reduceBEq, forall_const, implies_true, exists_const, ne_eq, Int.reduceAdd, Int.reduceSub, Int.reduceMul, Int.reduceBEq, Int.reduceEq, Int.reduceLT, Int.reduceLE, Int.reduceToNat, Int.reduceNeg, Int.reduceBNe]
  refine ask (rSort_spec l hl) ?_
  have hsl := sortD_len (l := l)
  rw [e]
  obtain ⟨S, hS⟩ : ∃ S, S = sortD l := ⟨_, rfl⟩
  rw [← hS] at hsl ⊢
  simp -implicitDefEqProofs only [↓aP, aQ, ↓reduceIte, Nat.reduceEqDiff, Nat.reduceAdd, Nat.reduceSub, Nat.reduceMul, Nat.reduceLT, Nat.reduceLeDiff, reduceCtorEq, Nat.reduceBEq, forall_const, implies_true, exists_const, ne_eq, Int.reduceAdd, Int.reduceSub, Int.reduceMul, Int.reduceBEq, Int.reduceEq, Int.reduceLT, Int.reduceLE, Int.reduceToNat, Int.reduceNeg, Int.reduceBNe, List.length_map]
  refine rangeB S.length (fun i σ => ∃ cur, rightM cur = true ∧ goM m 0 S = goM cur i (S.drop i) ∧ σ.slot 0 = vL 3 (cur.map encPg) ∧ σ.slot 1 = vL 11 (l.map encEv) ∧ σ.slot 7 = .c (.own 24 1) ∧ σ.h.gen 24 = 1 ∧ σ.h.blk 24 = .row tRe 11 (S.map encEv) ∧ σ.slot 8 = vI i) ?_ ?_ ?_
  · refine ⟨m, h2, by rw [List.drop_zero], ?_⟩
    simp -implicitDefEqProofs only [↓aP, aQ, ↓reduceIte, Nat.reduceEqDiff, Nat.reduceAdd, Nat.reduceSub, Nat.reduceMul, Nat.reduceLT, Nat.reduceLeDiff, reduceCtorEq, Nat.reduceBEq, forall_const, implies_true, exists_const, ne_eq, Int.reduceAdd, Int.reduceSub, Int.reduceMul, Int.reduceBEq, Int.reduceEq, Int.reduceLT, Int.reduceLE, Int.reduceToNat, Int.reduceNeg, Int.reduceBNe]
  · rintro i k σ him hi hlt ⟨cur, hr, hg, s0, s1, s7, g24, b24, s8⟩
    have hcl := right_len hr
    rw [drop_cons hi, goM_cons] at hg
    have w1 := wrapS (show i < 4611686018427387904 by omega)
    have hd := rDo_spec cur S[i].op (by omega)
    obtain ⟨n, r, hx⟩ : ∃ n r, doM cur S[i].op = (n, r) := ⟨_, _, rfl⟩
    have hn : rightM n = true := by have := do_right (l := cur) (o := S[i].op); rw [hx] at this; rw [this]; exact hr
    rw [hx] at hd
    by_cases hb : bad8 S[i] = true
    · have p := (bad8_iff _).1 hb
      rw [if_pos hb] at hg
      simp -implicitDefEqProofs only [↓aP, aQ, ↓reduceIte, Nat.reduceEqDiff, Nat.reduceAdd, Nat.reduceSub, Nat.reduceMul, Nat.reduceLT, Nat.reduceLeDiff, reduceCtorEq, Nat.reduceBEq, forall_const, implies_true, exists_const, ne_eq, Int.reduceAdd, Int.reduceSub, Int.reduceMul, Int.reduceBEq, Int.reduceEq, Int.reduceLT, Int.reduceLE, Int.reduceToNat, Int.reduceNeg, Int.reduceBNe, hlt, s0, s1, s7, g24, b24, s8, List.length_map, askIdx_map, hi, encEv, p, w1]
      refine nextR hi him ⟨cur, hr, hg, ?_⟩
      simp -implicitDefEqProofs only [↓aP, aQ, ↓reduceIte, Nat.reduceEqDiff, Nat.reduceAdd, Nat.reduceSub, Nat.reduceMul, Nat.reduceLT, Nat.reduceLeDiff, reduceCtorEq, Nat.reduceBEq, forall_const, implies_true, exists_const, ne_eq, Int.reduceAdd, Int.reduceSub, Int.reduceMul, Int.reduceBEq, Int.reduceEq, Int.reduceLT, Int.reduceLE, Int.reduceToNat, Int.reduceNeg, Int.reduceBNe, s0, s1, s7, g24, b24, s8]
    rw [if_neg hb, hx] at hg
    simp only at hg
    have q : (S[i].r.e == 8) = false ∨ ((S[i].r.e == 8) = true ∧ (S[i].r.p.id == 0) = false) ∨ ((S[i].r.e == 8) = true ∧ (S[i].r.p.id == 0) = true ∧ (S[i].r.p.ver == 0) = false) ∨
        ((S[i].r.e == 8) = true ∧ (S[i].r.p.id == 0) = true ∧ (S[i].r.p.ver == 0) = true ∧ (S[i].r.p.body.toList == (⟨#[]⟩ : ByteArray).toList) = false) := by
      rw [bad8_iff] at hb
      cases q1 : (S[i].r.e == 8)
      · exact .inl rfl
      cases q2 : (S[i].r.p.id == 0)
      · exact .inr (.inl ⟨rfl, rfl⟩)
      cases q3 : (S[i].r.p.ver == 0)
      · exact .inr (.inr (.inl ⟨rfl, rfl, rfl⟩))
      cases q4 : (S[i].r.p.body.toList == (⟨#[]⟩ : ByteArray).toList)
      · exact .inr (.inr (.inr ⟨rfl, rfl, rfl, rfl⟩))
      · exact absurd ⟨q1, q2, q3, q4⟩ hb
    rcases q with p | p | p | p
    all_goals
      simp -implicitDefEqProofs only [↓aP, aQ, ↓reduceIte, Nat.reduceEqDiff, Nat.reduceAdd, Nat.reduceSub, Nat.reduceMul, Nat.reduceLT, Nat.reduceLeDiff, reduceCtorEq, Nat.reduceBEq, forall_const, implies_true, exists_const, ne_eq, Int.reduceAdd, Int.reduceSub, Int.reduceMul, Int.reduceBEq, Int.reduceEq, Int.reduceLT, Int.reduceLE, Int.reduceToNat, Int.reduceNeg, Int.reduceBNe, hlt, s0, s1, s7, g24, b24, s8, List.length_map, askIdx_map, hi, encEv, p]
      refine ask hd ?_
      simp -implicitDefEqProofs only [↓aP, aQ, ↓reduceIte, Nat.reduceEqDiff, Nat.reduceAdd, Nat.reduceSub, Nat.reduceMul, Nat.reduceLT, Nat.reduceLeDiff, reduceCtorEq, Nat.reduceBEq, forall_const, implies_true, exists_const, ne_eq, Int.reduceAdd, Int.reduceSub, Int.reduceMul, Int.reduceBEq, Int.reduceEq, Int.reduceLT, Int.reduceLE, Int.reduceToNat, Int.reduceNeg, Int.reduceBNe, s0, s1, s7, g24, b24, s8, encDo2, encRs, encOp, List.length_map, askIdx_map, hi, encEv]
      by_cases k1 : r.e = S[i].r.e
      · simp -implicitDefEqProofs only [↓aP, aQ, ↓reduceIte, Nat.reduceEqDiff, Nat.reduceAdd, Nat.reduceSub, Nat.reduceMul, Nat.reduceLT, Nat.reduceLeDiff, reduceCtorEq, Nat.reduceBEq, forall_const, implies_true, exists_const, ne_eq, Int.reduceAdd, Int.reduceSub, Int.reduceMul, Int.reduceBEq, Int.reduceEq, Int.reduceLT, Int.reduceLE, Int.reduceToNat, Int.reduceNeg, Int.reduceBNe, s0, s1, s7, g24, b24, s8, show (r.e != S[i].r.e) = false by simp [k1], List.length_map, askIdx_map, hi, encEv]
        refine askEq (eq_pg2 r.p S[i].r.p) ?_
        by_cases k2 : r.p = S[i].r.p
        · have k3 : r = S[i].r := by
            obtain ⟨_, _⟩ := r
            simp only at k1 k2
            rw [k1, k2]
          rw [if_pos k3] at hg
          simp -implicitDefEqProofs only [↓aP, aQ, ↓reduceIte, Nat.reduceEqDiff, Nat.reduceAdd, Nat.reduceSub, Nat.reduceMul, Nat.reduceLT, Nat.reduceLeDiff, reduceCtorEq, Nat.reduceBEq, forall_const, implies_true, exists_const, ne_eq, Int.reduceAdd, Int.reduceSub, Int.reduceMul, Int.reduceBEq, Int.reduceEq, Int.reduceLT, Int.reduceLE, Int.reduceToNat, Int.reduceNeg, Int.reduceBNe, s0, s1, s7, g24, b24, s8, decide_eq_true k2, w1]
          refine ⟨by decide +kernel, ?_⟩
          refine nextR hi him ⟨n, hn, hg, ?_⟩
          simp -implicitDefEqProofs only [↓aP, aQ, ↓reduceIte, Nat.reduceEqDiff, Nat.reduceAdd, Nat.reduceSub, Nat.reduceMul, Nat.reduceLT, Nat.reduceLeDiff, reduceCtorEq, Nat.reduceBEq, forall_const, implies_true, exists_const, ne_eq, Int.reduceAdd, Int.reduceSub, Int.reduceMul, Int.reduceBEq, Int.reduceEq, Int.reduceLT, Int.reduceLE, Int.reduceToNat, Int.reduceNeg, Int.reduceBNe, s0, s1, s7, g24, b24, s8]
        · rw [if_neg (fun k3 => k2 (by rw [k3]))] at hg
          simp -implicitDefEqProofs only [↓aP, aQ, ↓reduceIte, Nat.reduceEqDiff, Nat.reduceAdd, Nat.reduceSub, Nat.reduceMul, Nat.reduceLT, Nat.reduceLeDiff, reduceCtorEq, Nat.reduceBEq, forall_const, implies_true, exists_const, ne_eq, Int.reduceAdd, Int.reduceSub, Int.reduceMul, Int.reduceBEq, Int.reduceEq, Int.reduceLT, Int.reduceLE, Int.reduceToNat, Int.reduceNeg, Int.reduceBNe, s0, s1, s7, g24, b24, s8, decide_eq_false k2, encCk2, hg]
          decide +kernel
      · rw [if_neg (fun k3 => k1 (by rw [k3]))] at hg
        simp -implicitDefEqProofs only [↓aP, aQ, ↓reduceIte, Nat.reduceEqDiff, Nat.reduceAdd, Nat.reduceSub, Nat.reduceMul, Nat.reduceLT, Nat.reduceLeDiff, reduceCtorEq, Nat.reduceBEq, forall_const, implies_true, exists_const, ne_eq, Int.reduceAdd, Int.reduceSub, Int.reduceMul, Int.reduceBEq, Int.reduceEq, Int.reduceLT, Int.reduceLE, Int.reduceToNat, Int.reduceNeg, Int.reduceBNe, s0, s1, s7, g24, b24, s8, show (r.e != S[i].r.e) = true by simpa using k1, encCk2, hg]
        decide +kernel
  · rintro k σ hlt ⟨cur, hr, hg, s0, s1, s7, g24, b24, s8⟩
    have hg2 : goM m 0 S = (cur, l.length, 0) := by rw [hg, List.drop_length, goM, hsl]
    simp -implicitDefEqProofs only [↓aP, aQ, ↓reduceIte, Nat.reduceEqDiff, Nat.reduceAdd, Nat.reduceSub, Nat.reduceMul, Nat.reduceLT, Nat.reduceLeDiff, reduceCtorEq, Nat.reduceBEq, forall_const, implies_true, exists_const, ne_eq, Int.reduceAdd, Int.reduceSub, Int.reduceMul, Int.reduceBEq, Int.reduceEq, Int.reduceLT, Int.reduceLE, Int.reduceToNat, Int.reduceNeg, Int.reduceBNe, hlt, s0, s1, s7, g24, b24, s8, encCk2, hg2, List.length_map]
end Go.Proofs.Ytbpipdgkkdifgaa
