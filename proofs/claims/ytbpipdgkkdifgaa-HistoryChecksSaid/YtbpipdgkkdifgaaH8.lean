/- layer 21: the contracts of the package history. -/
import Derived.Test.YtbpipdgkkdifgaaH7
import Derived.Test.YtbpipdgkkdifgaaO7
import Derived.Test.YtbpipdgkkdifgaaO9
namespace Go.Proofs.Ytbpipdgkkdifgaa
open Go.RowKit Ok Ss Hi
set_option linter.unusedVariables false
set_option linter.unusedSimpArgs false
theorem tl_beq (a b : ByteArray) : (a.toList == b.toList) = decide (a = b) := by
  rw [ByteArray.toList_eq, ByteArray.toList_eq, Bool.eq_iff_iff, beq_iff_eq, decide_eq_true_iff]
  constructor
  · intro h
    have h2 := Array.toList_inj.1 h
    cases a; cases b; simp only at h2; rw [h2]
  · intro h; rw [h]
set_option maxRecDepth 100000 in
theorem eq_pg2 (x y : Pg) : EqRun Try.prog 41 [.int .i64 x.id, .int .i64 x.ver, .string x.body] [.int .i64 y.id, .int .i64 y.ver, .string y.body] (decide (x = y)) := by
  intro w
  rw [run_eql_struct, run_equalIn_agg w 9999 _ _ _ fields_pg held_pg]
  by_cases h1 : x.id = y.id
  · by_cases h2 : x.ver = y.ver
    · by_cases h3 : x.body = y.body
      · have e : x = y := by cases x; cases y; simp_all
        subst e
        rw [decide_eq_true rfl]
        go_simp
      · rw [decide_eq_false (fun e => h3 (by rw [e]))]
        go_simp
        intro e
        have := tl_beq x.body y.body
        rw [e, beq_self_eq_true] at this
        exact h3 (of_decide_eq_true this.symm)
    · rw [decide_eq_false (fun e => h2 (by rw [e]))]
      go_simp
  · rw [decide_eq_false (fun e => h1 (by rw [e]))]
    go_simp
set_option maxRecDepth 100000 in
theorem eq_rs2 (x y : Rs) : EqRun Try.prog 49 [.int .i64 x.e, .int .i64 x.p.id, .int .i64 x.p.ver, .string x.p.body] [.int .i64 y.e, .int .i64 y.p.id, .int .i64 y.p.ver, .string y.p.body] (decide (x = y)) := by
  intro w
  rw [run_eql_struct, run_equalIn_agg w 9999 _ _ _ fields_rs held_rs]
  by_cases h0 : x.e = y.e
  · by_cases h1 : x.p.id = y.p.id
    · by_cases h2 : x.p.ver = y.p.ver
      · by_cases h3 : x.p.body = y.p.body
        · have e : x = y := by obtain ⟨_, ⟨_, _, _⟩⟩ := x; obtain ⟨_, ⟨_, _, _⟩⟩ := y; simp_all
          subst e
          rw [decide_eq_true rfl]
          go_simp
        · rw [decide_eq_false (fun e => h3 (by rw [e]))]
          go_simp
          intro e
          have := tl_beq x.p.body y.p.body
          rw [e, beq_self_eq_true] at this
          exact h3 (of_decide_eq_true this.symm)
      · rw [decide_eq_false (fun e => h2 (by rw [e]))]
        go_simp
    · rw [decide_eq_false (fun e => h1 (by rw [e]))]
      go_simp
  · rw [decide_eq_false (fun e => h0 (by rw [e]))]
    go_simp
theorem cmpD_spec (x y : Ev) : Spec Try.prog 26 [.agg (encEv x), .agg (encEv y)] (.val (rI (cmpI x.done y.done))) := by
  refine spec_val mixed fn26 (by simp) ?_
  unfold ac26
  simp -implicitDefEqProofs only [↓aP, aQ, ↓reduceIte, Nat.reduceEqDiff, Nat.reduceAdd, Nat.reduceSub, Nat.reduceMul, Nat.reduceLT, Nat.reduceLeDiff, reduceCtorEq, Nat.reduceBEq, forall_const, implies_true, exists_const, ne_eq, Int.reduceAdd, Int.reduceSub, Int.reduceMul, Int.reduceBEq, Int.reduceEq, Int.reduceLT, Int.reduceLE, Int.reduceToNat, Int.reduceNeg, Int.reduceBNe, encEv]
  refine ask (cmp_spec x.done y.done) ?_
  simp -implicitDefEqProofs only [↓aP, aQ, ↓reduceIte, Nat.reduceEqDiff, Nat.reduceAdd, Nat.reduceSub, Nat.reduceMul, Nat.reduceLT, Nat.reduceLeDiff, reduceCtorEq, Nat.reduceBEq, forall_const, implies_true, exists_const, ne_eq, Int.reduceAdd, Int.reduceSub, Int.reduceMul, Int.reduceBEq, Int.reduceEq, Int.reduceLT, Int.reduceLE, Int.reduceToNat, Int.reduceNeg, Int.reduceBNe]
theorem cmpFD : CmpF 26 [] ltD := ⟨by kernel_rfl, swoD, fun x y => ⟨_, cmpD_spec x y, cmp_lt⟩⟩
def orI : List Int → Int
  | [] => 0
  | x :: xs => if x = 0 then orI xs else x

theorem or_spec (l : List Int) (hl : l.length < 1000000) : Spec Try.prog 41 [rL 1 (l.map encI)] (.val (rI (orI l))) := by
  refine spec_val mixed fn41 (by simp) ?_
  unfold ac41
  simp -implicitDefEqProofs only [↓aP, aQ, ↓reduceIte, Nat.reduceEqDiff, Nat.reduceAdd, Nat.reduceSub, Nat.reduceMul, Nat.reduceLT, Nat.reduceLeDiff, reduceCtorEq, Nat.reduceBEq, forall_const, implies_true, exists_const, ne_eq, Int.reduceAdd, Int.reduceSub, Int.reduceMul, Int.reduceBEq, Int.reduceEq, Int.reduceLT, Int.reduceLE, Int.reduceToNat, Int.reduceNeg, Int.reduceBNe]
  refine rangeB l.length (fun i σ => orI l = orI (l.drop i) ∧ σ.slot 3 = vI 0 ∧ σ.slot 6 = vL 1 (l.map encI) ∧ σ.slot 7 = vI l.length ∧ σ.slot 8 = vI i) ?_ ?_ ?_
  · simp -implicitDefEqProofs only [↓aP, aQ, ↓reduceIte, Nat.reduceEqDiff, Nat.reduceAdd, Nat.reduceSub, Nat.reduceMul, Nat.reduceLT, Nat.reduceLeDiff, reduceCtorEq, Nat.reduceBEq, forall_const, implies_true, exists_const, ne_eq, Int.reduceAdd, Int.reduceSub, Int.reduceMul, Int.reduceBEq, Int.reduceEq, Int.reduceLT, Int.reduceLE, Int.reduceToNat, Int.reduceNeg, Int.reduceBNe, List.length_map, List.drop_zero]
  · rintro i m σ him hi hlt ⟨ho, s3, s6, s7, s8⟩
    rw [drop_cons hi, orI] at ho
    by_cases hz : l[i] = 0
    · rw [if_pos hz] at ho
      simp -implicitDefEqProofs only [↓aP, aQ, ↓reduceIte, Nat.reduceEqDiff, Nat.reduceAdd, Nat.reduceSub, Nat.reduceMul, Nat.reduceLT, Nat.reduceLeDiff, reduceCtorEq, Nat.reduceBEq, forall_const, implies_true, exists_const, ne_eq, Int.reduceAdd, Int.reduceSub, Int.reduceMul, Int.reduceBEq, Int.reduceEq, Int.reduceLT, Int.reduceLE, Int.reduceToNat, Int.reduceNeg, Int.reduceBNe, hlt, s3, s6, s7, s8, askIdx_map, hi, encI, show (l[i] != 0) = false by simp [hz], wrapS (show i < 4611686018427387904 by omega)]
      refine nextR hi him ⟨ho, ?_⟩
      simp -implicitDefEqProofs only [↓aP, aQ, ↓reduceIte, Nat.reduceEqDiff, Nat.reduceAdd, Nat.reduceSub, Nat.reduceMul, Nat.reduceLT, Nat.reduceLeDiff, reduceCtorEq, Nat.reduceBEq, forall_const, implies_true, exists_const, ne_eq, Int.reduceAdd, Int.reduceSub, Int.reduceMul, Int.reduceBEq, Int.reduceEq, Int.reduceLT, Int.reduceLE, Int.reduceToNat, Int.reduceNeg, Int.reduceBNe, s3, s6, s7, s8]
    · rw [if_neg hz] at ho
      simp -implicitDefEqProofs only [↓aP, aQ, ↓reduceIte, Nat.reduceEqDiff, Nat.reduceAdd, Nat.reduceSub, Nat.reduceMul, Nat.reduceLT, Nat.reduceLeDiff, reduceCtorEq, Nat.reduceBEq, forall_const, implies_true, exists_const, ne_eq, Int.reduceAdd, Int.reduceSub, Int.reduceMul, Int.reduceBEq, Int.reduceEq, Int.reduceLT, Int.reduceLE, Int.reduceToNat, Int.reduceNeg, Int.reduceBNe, hlt, s3, s6, s7, s8, askIdx_map, hi, encI, show (l[i] != 0) = true by simpa using hz, ho]
  · rintro m σ hlt ⟨ho, s3, s6, s7, s8⟩
    rw [List.drop_length] at ho
    simp -implicitDefEqProofs only [↓aP, aQ, ↓reduceIte, Nat.reduceEqDiff, Nat.reduceAdd, Nat.reduceSub, Nat.reduceMul, Nat.reduceLT, Nat.reduceLeDiff, reduceCtorEq, Nat.reduceBEq, forall_const, implies_true, exists_const, ne_eq, Int.reduceAdd, Int.reduceSub, Int.reduceMul, Int.reduceBEq, Int.reduceEq, Int.reduceLT, Int.reduceLE, Int.reduceToNat, Int.reduceNeg, Int.reduceBNe, hlt, s3, s6, s7, s8, ho, orI]
theorem cmpW_spec (x y : Ev) : Spec Try.prog 40 [.agg (encEv x), .agg (encEv y)] (.val (rI (orI [cmpI x.who y.who, cmpI x.began y.began]))) := by
  refine spec_val mixed fn40 (by simp) ?_
  unfold ac40
  simp -implicitDefEqProofs only [↓aP, aQ, ↓reduceIte, Nat.reduceEqDiff, Nat.reduceAdd, Nat.reduceSub, Nat.reduceMul, Nat.reduceLT, Nat.reduceLeDiff, reduceCtorEq, Nat.reduceBEq, forall_const, implies_true, exists_const, ne_eq, Int.reduceAdd, Int.reduceSub, Int.reduceMul, Int.reduceBEq, Int.reduceEq, Int.reduceLT, Int.reduceLE, Int.reduceToNat, Int.reduceNeg, Int.reduceBNe, encEv]
  refine ask (cmp_spec x.who y.who) ?_
  simp -implicitDefEqProofs only [↓aP, aQ, ↓reduceIte, Nat.reduceEqDiff, Nat.reduceAdd, Nat.reduceSub, Nat.reduceMul, Nat.reduceLT, Nat.reduceLeDiff, reduceCtorEq, Nat.reduceBEq, forall_const, implies_true, exists_const, ne_eq, Int.reduceAdd, Int.reduceSub, Int.reduceMul, Int.reduceBEq, Int.reduceEq, Int.reduceLT, Int.reduceLE, Int.reduceToNat, Int.reduceNeg, Int.reduceBNe]
  refine ask (cmp_spec x.began y.began) ?_
  simp -implicitDefEqProofs only [↓aP, aQ, ↓reduceIte, Nat.reduceEqDiff, Nat.reduceAdd, Nat.reduceSub, Nat.reduceMul, Nat.reduceLT, Nat.reduceLeDiff, reduceCtorEq, Nat.reduceBEq, forall_const, implies_true, exists_const, ne_eq, Int.reduceAdd, Int.reduceSub, Int.reduceMul, Int.reduceBEq, Int.reduceEq, Int.reduceLT, Int.reduceLE, Int.reduceToNat, Int.reduceNeg, Int.reduceBNe]
  refine ask (or_spec [cmpI x.who y.who, cmpI x.began y.began] (by simp)) ?_
  simp -implicitDefEqProofs only [↓aP, aQ, ↓reduceIte, Nat.reduceEqDiff, Nat.reduceAdd, Nat.reduceSub, Nat.reduceMul, Nat.reduceLT, Nat.reduceLeDiff, reduceCtorEq, Nat.reduceBEq, forall_const, implies_true, exists_const, ne_eq, Int.reduceAdd, Int.reduceSub, Int.reduceMul, Int.reduceBEq, Int.reduceEq, Int.reduceLT, Int.reduceLE, Int.reduceToNat, Int.reduceNeg, Int.reduceBNe]
  decide +kernel
theorem cmpW_lt {x y : Ev} : decide (orI [cmpI x.who y.who, cmpI x.began y.began] < 0) = ltW x y := by
  have e : ∀ a b : Int, orI [a, b] = if a = 0 then (if b = 0 then 0 else b) else a := fun a b => rfl
  unfold ltW
  rw [decide_eq_decide, e]
  unfold cmpI
  repeat' split
  all_goals omega
theorem cmpFW : CmpF 40 [] ltW := ⟨by kernel_rfl, swoW, fun x y => ⟨_, cmpW_spec x y, cmpW_lt⟩⟩
theorem cloneEv (l : List (List SC)) (hl : l.length * 104 ≤ 2 ^ 47) : Spec Try.prog 37 [.c (.sl 11 l)] (.row 52 11 l) := by
  refine Spec.tag ?_ ?_
  · intro h
    subst h
    refine spec_row mixed fn37 (by simp) ?_
    unfold ac37
    simp -implicitDefEqProofs only [↓aP, aQ, ↓reduceIte, Nat.reduceEqDiff, Nat.reduceAdd, Nat.reduceSub, Nat.reduceMul, Nat.reduceLT, Nat.reduceLeDiff, reduceCtorEq, Nat.reduceBEq, forall_const, implies_true, exists_const, ne_eq, Int.reduceAdd, Int.reduceSub, Int.reduceMul, Int.reduceBEq, Int.reduceEq, Int.reduceLT, Int.reduceLE, Int.reduceToNat, Int.reduceNeg, Int.reduceBNe]
  · refine spec_row mixed fn37 (by simp) ?_
    unfold ac37
    simp -implicitDefEqProofs only [↓aP, aQ, ↓reduceIte, Nat.reduceEqDiff, Nat.reduceAdd, Nat.reduceSub, Nat.reduceMul, Nat.reduceLT, Nat.reduceLeDiff, reduceCtorEq, Nat.reduceBEq, forall_const, implies_true, exists_const, ne_eq, Int.reduceAdd, Int.reduceSub, Int.reduceMul, Int.reduceBEq, Int.reduceEq, Int.reduceLT, Int.reduceLE, Int.reduceToNat, Int.reduceNeg, Int.reduceBNe]
    refine ⟨?_, ?_⟩ <;> omega

theorem sorted_spec (l : List Ev) {g : Nat} {caps : List SC} {lt : Ev → Ev → Bool} (hc : CmpF g caps lt) (hl : l.length < 1000000) : Spec Try.prog 25 [rL 11 (l.map encEv), .c (.fn g caps)] (.row tEv 11 ((stbl lt l).map encEv)) := by
  refine spec_row mixed fn25 (by simp) ?_
  unfold ac25
  simp -implicitDefEqProofs only [↓aP, aQ, ↓reduceIte, Nat.reduceEqDiff, Nat.reduceAdd, Nat.reduceSub, Nat.reduceMul, Nat.reduceLT, Nat.reduceLeDiff, reduceCtorEq, Nat.reduceBEq, forall_const, implies_true, exists_const, ne_eq, Int.reduceAdd, Int.reduceSub, Int.reduceMul, Int.reduceBEq, Int.reduceEq, Int.reduceLT, Int.reduceLE, Int.reduceToNat, Int.reduceNeg, Int.reduceBNe]
  refine ask (cloneEv _ (by simp; omega)) ?_
  simp -implicitDefEqProofs only [↓aP, aQ, ↓reduceIte, Nat.reduceEqDiff, Nat.reduceAdd, Nat.reduceSub, Nat.reduceMul, Nat.reduceLT, Nat.reduceLeDiff, reduceCtorEq, Nat.reduceBEq, forall_const, implies_true, exists_const, ne_eq, Int.reduceAdd, Int.reduceSub, Int.reduceMul, Int.reduceBEq, Int.reduceEq, Int.reduceLT, Int.reduceLE, Int.reduceToNat, Int.reduceNeg, Int.reduceBNe]
  refine askX2 (sortS_spec l hc hl) (by simp -implicitDefEqProofs only [↓aP, aQ, ↓reduceIte, Nat.reduceEqDiff, Nat.reduceAdd, Nat.reduceSub, Nat.reduceMul, Nat.reduceLT, Nat.reduceLeDiff, reduceCtorEq, Nat.reduceBEq, forall_const, implies_true, exists_const, ne_eq, Int.reduceAdd, Int.reduceSub, Int.reduceMul, Int.reduceBEq, Int.reduceEq, Int.reduceLT, Int.reduceLE, Int.reduceToNat, Int.reduceNeg, Int.reduceBNe]) ?_
  simp -implicitDefEqProofs only [↓aP, aQ, ↓reduceIte, Nat.reduceEqDiff, Nat.reduceAdd, Nat.reduceSub, Nat.reduceMul, Nat.reduceLT, Nat.reduceLeDiff, reduceCtorEq, Nat.reduceBEq, forall_const, implies_true, exists_const, ne_eq, Int.reduceAdd, Int.reduceSub, Int.reduceMul, Int.reduceBEq, Int.reduceEq, Int.reduceLT, Int.reduceLE, Int.reduceToNat, Int.reduceNeg, Int.reduceBNe, XR.lb]
theorem hSort_spec (l : List Ev) (hl : l.length < 1000000) : Spec Try.prog 15 [rL 11 (l.map encEv)] (.row tEv 11 ((sortD l).map encEv)) := by
  refine spec_row mixed fn15 (by simp) ?_
  unfold ac15
  simp -implicitDefEqProofs only [↓aP, aQ, ↓reduceIte, Nat.reduceEqDiff, Nat.reduceAdd, Nat.reduceSub, Nat.reduceMul, Nat.reduceLT, Nat.reduceLeDiff, reduceCtorEq, Nat.reduceBEq, forall_const, implies_true, exists_const, ne_eq, Int.reduceAdd, Int.reduceSub, Int.reduceMul, Int.reduceBEq, Int.reduceEq, Int.reduceLT, Int.reduceLE, Int.reduceToNat, Int.reduceNeg, Int.reduceBNe]
  refine ask (sorted_spec l cmpFD hl) ?_
  simp -implicitDefEqProofs only [↓aP, aQ, ↓reduceIte, Nat.reduceEqDiff, Nat.reduceAdd, Nat.reduceSub, Nat.reduceMul, Nat.reduceLT, Nat.reduceLeDiff, reduceCtorEq, Nat.reduceBEq, forall_const, implies_true, exists_const, ne_eq, Int.reduceAdd, Int.reduceSub, Int.reduceMul, Int.reduceBEq, Int.reduceEq, Int.reduceLT, Int.reduceLE, Int.reduceToNat, Int.reduceNeg, Int.reduceBNe]
  rfl

theorem doneA_spec (l : List Ev) (hl : l.length < 1000000) : Spec Try.prog 28 [rL 11 (l.map encEv)] (.val (rB (adj pD (sortD l)))) := by
  refine spec_val mixed fn28 (by simp) ?_
  unfold ac28
  have hsl := sortD_len (l := l)
  simp -implicitDefEqProofs only [↓aP, aQ, ↓reduceIte, Nat.reduceEqDiff, Nat.reduceAdd, Nat.reduceSub, Nat.reduceMul, Nat.reduceLT, Nat.reduceLeDiff, reduceCtorEq, Nat.reduceBEq, forall_const, implies_true, exists_const, ne_eq, Int.reduceAdd, Int.reduceSub, Int.reduceMul, Int.reduceBEq, Int.reduceEq, Int.reduceLT, Int.reduceLE, Int.reduceToNat, Int.reduceNeg, Int.reduceBNe]
  refine ask (hSort_spec l hl) ?_
  simp -implicitDefEqProofs only [↓aP, aQ, ↓reduceIte, Nat.reduceEqDiff, Nat.reduceAdd, Nat.reduceSub, Nat.reduceMul, Nat.reduceLT, Nat.reduceLeDiff, reduceCtorEq, Nat.reduceBEq, forall_const, implies_true, exists_const, ne_eq, Int.reduceAdd, Int.reduceSub, Int.reduceMul, Int.reduceBEq, Int.reduceEq, Int.reduceLT, Int.reduceLE, Int.reduceToNat, Int.reduceNeg, Int.reduceBNe]
  obtain ⟨S, hS⟩ : ∃ S, S = sortD l := ⟨_, rfl⟩
  rw [← hS] at hsl ⊢
  refine loopA (fun n σ => ∃ i : Nat, 1 ≤ i ∧ (i ≤ S.length ∨ i = 1) ∧ n = S.length + 1 - i ∧ (∀ k (h : k + 1 < S.length), k + 1 < i → pD S[k] S[k + 1] = true) ∧ σ.slot 0 = .c (.own 5 1) ∧ σ.h.gen 5 = 1 ∧ σ.h.blk 5 = .row tEv 11 (S.map encEv) ∧ σ.slot 3 = vI i) S.length ?_ ?_
  · refine ⟨1, by omega, by omega, by omega, fun k h h2 => by omega, ?_⟩
    simp -implicitDefEqProofs only [↓aP, aQ, ↓reduceIte, Nat.reduceEqDiff, Nat.reduceAdd, Nat.reduceSub, Nat.reduceMul, Nat.reduceLT, Nat.reduceLeDiff, reduceCtorEq, Nat.reduceBEq, forall_const, implies_true, exists_const, ne_eq, Int.reduceAdd, Int.reduceSub, Int.reduceMul, Int.reduceBEq, Int.reduceEq, Int.reduceLT, Int.reduceLE, Int.reduceToNat, Int.reduceNeg, Int.reduceBNe]
  · rintro n σ ⟨i, h1, h2, rfl, hall, s0, g5, b5, s3⟩
    by_cases hlt : i < S.length
    · obtain ⟨i, rfl⟩ : ∃ j, i = j + 1 := ⟨i - 1, by omega⟩
      have h0 : i < S.length := by omega
      have w1 : IntKind.i64.wrap (((i + 1 : Nat) : Int) - 1) = (i : Int) := by rw [wrapI (by omega)]; omega
      have w2 : IntKind.i64.wrap (((i + 1 : Nat) : Int) + 1) = ((i + 1 + 1 : Nat) : Int) := by rw [wrapI (by omega)]; omega
      simp -implicitDefEqProofs only [↓aP, aQ, ↓reduceIte, Nat.reduceEqDiff, Nat.reduceAdd, Nat.reduceSub, Nat.reduceMul, Nat.reduceLT, Nat.reduceLeDiff, reduceCtorEq, Nat.reduceBEq, forall_const, implies_true, exists_const, ne_eq, Int.reduceAdd, Int.reduceSub, Int.reduceMul, Int.reduceBEq, Int.reduceEq, Int.reduceLT, Int.reduceLE, Int.reduceToNat, Int.reduceNeg, Int.reduceBNe, s0, g5, b5, s3, List.length_map, show decide (((i + 1 : Nat) : Int) < (S.length : Int)) = true by simp; omega, w1, askIdx_map, h0, hlt, encEv]
      refine ⟨by decide +kernel, ?_⟩
      cases hp : (S[i].done == S[i + 1].done)
      · simp -implicitDefEqProofs only [↓aP, aQ, ↓reduceIte, Nat.reduceEqDiff, Nat.reduceAdd, Nat.reduceSub, Nat.reduceMul, Nat.reduceLT, Nat.reduceLeDiff, reduceCtorEq, Nat.reduceBEq, forall_const, implies_true, exists_const, ne_eq, Int.reduceAdd, Int.reduceSub, Int.reduceMul, Int.reduceBEq, Int.reduceEq, Int.reduceLT, Int.reduceLE, Int.reduceToNat, Int.reduceNeg, Int.reduceBNe, hp, s0, g5, b5, s3, w2]
        refine ⟨S.length + 1 - (i + 1 + 1), by omega, i + 1 + 1, by omega, by omega, rfl, ?_, ?_⟩
        · intro k hk hki
          by_cases e : k = i
          · subst e; unfold pD; rw [hp]; rfl
          · exact hall k hk (by omega)
        · simp -implicitDefEqProofs only [↓aP, aQ, ↓reduceIte, Nat.reduceEqDiff, Nat.reduceAdd, Nat.reduceSub, Nat.reduceMul, Nat.reduceLT, Nat.reduceLeDiff, reduceCtorEq, Nat.reduceBEq, forall_const, implies_true, exists_const, ne_eq, Int.reduceAdd, Int.reduceSub, Int.reduceMul, Int.reduceBEq, Int.reduceEq, Int.reduceLT, Int.reduceLE, Int.reduceToNat, Int.reduceNeg, Int.reduceBNe, s0, g5, b5, s3]
      · have e : adj pD S = false := by
          cases q : adj pD S
          · rfl
          · have := adj_iff.1 q i hlt
            unfold pD at this
            rw [hp] at this; cases this
        simp -implicitDefEqProofs only [↓aP, aQ, ↓reduceIte, Nat.reduceEqDiff, Nat.reduceAdd, Nat.reduceSub, Nat.reduceMul, Nat.reduceLT, Nat.reduceLeDiff, reduceCtorEq, Nat.reduceBEq, forall_const, implies_true, exists_const, ne_eq, Int.reduceAdd, Int.reduceSub, Int.reduceMul, Int.reduceBEq, Int.reduceEq, Int.reduceLT, Int.reduceLE, Int.reduceToNat, Int.reduceNeg, Int.reduceBNe, hp, s0, g5, b5, s3, e]
    · have e : adj pD S = true := adj_iff.2 fun k hk => hall k hk (by omega)
      simp -implicitDefEqProofs only [↓aP, aQ, ↓reduceIte, Nat.reduceEqDiff, Nat.reduceAdd, Nat.reduceSub, Nat.reduceMul, Nat.reduceLT, Nat.reduceLeDiff, reduceCtorEq, Nat.reduceBEq, forall_const, implies_true, exists_const, ne_eq, Int.reduceAdd, Int.reduceSub, Int.reduceMul, Int.reduceBEq, Int.reduceEq, Int.reduceLT, Int.reduceLE, Int.reduceToNat, Int.reduceNeg, Int.reduceBNe, s0, g5, b5, s3, List.length_map, show decide ((i : Int) < (S.length : Int)) = false by simp; omega, e]
theorem workA_spec (l : List Ev) (hl : l.length < 1000000) : Spec Try.prog 29 [rL 11 (l.map encEv)] (.val (rB (adj pW (sortW l)))) := by
  refine spec_val mixed fn29 (by simp) ?_
  unfold ac29
  have hsl : (sortW l).length = l.length := stbl_len
  simp -implicitDefEqProofs only [↓aP, aQ, ↓reduceIte, Nat.reduceEqDiff, Nat.reduceAdd, Nat.reduceSub, Nat.reduceMul, Nat.reduceLT, Nat.reduceLeDiff, reduceCtorEq, Nat.reduceBEq, forall_const, implies_true, exists_const, ne_eq, Int.reduceAdd, Int.reduceSub, Int.reduceMul, Int.reduceBEq, Int.reduceEq, Int.reduceLT, Int.reduceLE, Int.reduceToNat, Int.reduceNeg, Int.reduceBNe]
  refine ask (sorted_spec l cmpFW hl) ?_
  simp -implicitDefEqProofs only [↓aP, aQ, ↓reduceIte, Nat.reduceEqDiff, Nat.reduceAdd, Nat.reduceSub, Nat.reduceMul, Nat.reduceLT, Nat.reduceLeDiff, reduceCtorEq, Nat.reduceBEq, forall_const, implies_true, exists_const, ne_eq, Int.reduceAdd, Int.reduceSub, Int.reduceMul, Int.reduceBEq, Int.reduceEq, Int.reduceLT, Int.reduceLE, Int.reduceToNat, Int.reduceNeg, Int.reduceBNe]
  obtain ⟨S, hS⟩ : ∃ S, S = sortW l := ⟨_, rfl⟩
  rw [show stbl ltW l = sortW l from rfl, ← hS]
  rw [← hS] at hsl
  refine loopA (fun n σ => ∃ i : Nat, 1 ≤ i ∧ (i ≤ S.length ∨ i = 1) ∧ n = S.length + 1 - i ∧ (∀ k (h : k + 1 < S.length), k + 1 < i → pW S[k] S[k + 1] = true) ∧ σ.slot 0 = .c (.own 5 1) ∧ σ.h.gen 5 = 1 ∧ σ.h.blk 5 = .row tEv 11 (S.map encEv) ∧ σ.slot 3 = vI i) S.length ?_ ?_
  · refine ⟨1, by omega, by omega, by omega, fun k h h2 => by omega, ?_⟩
    simp -implicitDefEqProofs only [↓aP, aQ, ↓reduceIte, Nat.reduceEqDiff, Nat.reduceAdd, Nat.reduceSub, Nat.reduceMul, Nat.reduceLT, Nat.reduceLeDiff, reduceCtorEq, Nat.reduceBEq, forall_const, implies_true, exists_const, ne_eq, Int.reduceAdd, Int.reduceSub, Int.reduceMul, Int.reduceBEq, Int.reduceEq, Int.reduceLT, Int.reduceLE, Int.reduceToNat, Int.reduceNeg, Int.reduceBNe]
  · rintro n σ ⟨i, h1, h2, rfl, hall, s0, g5, b5, s3⟩
    by_cases hlt : i < S.length
    · obtain ⟨i, rfl⟩ : ∃ j, i = j + 1 := ⟨i - 1, by omega⟩
      have h0 : i < S.length := by omega
      have w1 : IntKind.i64.wrap (((i + 1 : Nat) : Int) - 1) = (i : Int) := by rw [wrapI (by omega)]; omega
      have w2 : IntKind.i64.wrap (((i + 1 : Nat) : Int) + 1) = ((i + 1 + 1 : Nat) : Int) := by rw [wrapI (by omega)]; omega
      have next : pW S[i] S[i + 1] = true → ∀ k (h : k + 1 < S.length), k + 1 < i + 1 + 1 → pW S[k] S[k + 1] = true := by
        intro hp k hk hki
        by_cases e : k = i
        · subst e; exact hp
        · exact hall k hk (by omega)
      cases hp : (S[i].who == S[i + 1].who)
      · simp -implicitDefEqProofs only [↓aP, aQ, ↓reduceIte, Nat.reduceEqDiff, Nat.reduceAdd, Nat.reduceSub, Nat.reduceMul, Nat.reduceLT, Nat.reduceLeDiff, reduceCtorEq, Nat.reduceBEq, forall_const, implies_true, exists_const, ne_eq, Int.reduceAdd, Int.reduceSub, Int.reduceMul, Int.reduceBEq, Int.reduceEq, Int.reduceLT, Int.reduceLE, Int.reduceToNat, Int.reduceNeg, Int.reduceBNe, s0, g5, b5, s3, List.length_map, show decide (((i + 1 : Nat) : Int) < (S.length : Int)) = true by simp; omega, w1, askIdx_map, h0, hlt, encEv, hp, w2]
        refine ⟨by decide +kernel, S.length + 1 - (i + 1 + 1), by omega, i + 1 + 1, by omega, by omega, rfl, next (by unfold pW; rw [hp]; rfl), ?_⟩
        simp -implicitDefEqProofs only [↓aP, aQ, ↓reduceIte, Nat.reduceEqDiff, Nat.reduceAdd, Nat.reduceSub, Nat.reduceMul, Nat.reduceLT, Nat.reduceLeDiff, reduceCtorEq, Nat.reduceBEq, forall_const, implies_true, exists_const, ne_eq, Int.reduceAdd, Int.reduceSub, Int.reduceMul, Int.reduceBEq, Int.reduceEq, Int.reduceLT, Int.reduceLE, Int.reduceToNat, Int.reduceNeg, Int.reduceBNe, s0, g5, b5, s3]
      · simp -implicitDefEqProofs only [↓aP, aQ, ↓reduceIte, Nat.reduceEqDiff, Nat.reduceAdd, Nat.reduceSub, Nat.reduceMul, Nat.reduceLT, Nat.reduceLeDiff, reduceCtorEq, Nat.reduceBEq, forall_const, implies_true, exists_const, ne_eq, Int.reduceAdd, Int.reduceSub, Int.reduceMul, Int.reduceBEq, Int.reduceEq, Int.reduceLT, Int.reduceLE, Int.reduceToNat, Int.reduceNeg, Int.reduceBNe, s0, g5, b5, s3, List.length_map, show decide (((i + 1 : Nat) : Int) < (S.length : Int)) = true by simp; omega, w1, askIdx_map, h0, hlt, encEv, hp, w2]
        refine ⟨by decide +kernel, ?_⟩
        cases hq : decide (S[i + 1].began ≤ S[i].ended)
        · simp -implicitDefEqProofs only [↓aP, aQ, ↓reduceIte, Nat.reduceEqDiff, Nat.reduceAdd, Nat.reduceSub, Nat.reduceMul, Nat.reduceLT, Nat.reduceLeDiff, reduceCtorEq, Nat.reduceBEq, forall_const, implies_true, exists_const, ne_eq, Int.reduceAdd, Int.reduceSub, Int.reduceMul, Int.reduceBEq, Int.reduceEq, Int.reduceLT, Int.reduceLE, Int.reduceToNat, Int.reduceNeg, Int.reduceBNe, s0, g5, b5, s3, hq, w2]
          refine ⟨S.length + 1 - (i + 1 + 1), by omega, i + 1 + 1, by omega, by omega, rfl, next (by unfold pW; rw [hp, hq]; rfl), ?_⟩
          simp -implicitDefEqProofs only [↓aP, aQ, ↓reduceIte, Nat.reduceEqDiff, Nat.reduceAdd, Nat.reduceSub, Nat.reduceMul, Nat.reduceLT, Nat.reduceLeDiff, reduceCtorEq, Nat.reduceBEq, forall_const, implies_true, exists_const, ne_eq, Int.reduceAdd, Int.reduceSub, Int.reduceMul, Int.reduceBEq, Int.reduceEq, Int.reduceLT, Int.reduceLE, Int.reduceToNat, Int.reduceNeg, Int.reduceBNe, s0, g5, b5, s3]
        · have e : adj pW S = false := by
            cases q : adj pW S
            · rfl
            · have := adj_iff.1 q i hlt
              unfold pW at this
              rw [hp, hq] at this; cases this
          simp -implicitDefEqProofs only [↓aP, aQ, ↓reduceIte, Nat.reduceEqDiff, Nat.reduceAdd, Nat.reduceSub, Nat.reduceMul, Nat.reduceLT, Nat.reduceLeDiff, reduceCtorEq, Nat.reduceBEq, forall_const, implies_true, exists_const, ne_eq, Int.reduceAdd, Int.reduceSub, Int.reduceMul, Int.reduceBEq, Int.reduceEq, Int.reduceLT, Int.reduceLE, Int.reduceToNat, Int.reduceNeg, Int.reduceBNe, s0, g5, b5, s3, hq, e]
    · have e : adj pW S = true := adj_iff.2 fun k hk => hall k hk (by omega)
      simp -implicitDefEqProofs only [↓aP, aQ, ↓reduceIte, Nat.reduceEqDiff, Nat.reduceAdd, Nat.reduceSub, Nat.reduceMul, Nat.reduceLT, Nat.reduceLeDiff, reduceCtorEq, Nat.reduceBEq, forall_const, implies_true, exists_const, ne_eq, Int.reduceAdd, Int.reduceSub, Int.reduceMul, Int.reduceBEq, Int.reduceEq, Int.reduceLT, Int.reduceLE, Int.reduceToNat, Int.reduceNeg, Int.reduceBNe, s0, g5, b5, s3, List.length_map, show decide ((i : Int) < (S.length : Int)) = false by simp; omega, e]

theorem apart_spec (l : List Ev) (hl : l.length < 1000000) : Spec Try.prog 18 [rL 11 (l.map encEv)] (.val (rB (apart l))) := by
  refine spec_val mixed fn18 (by simp) ?_
  unfold ac18
  simp -implicitDefEqProofs only [↓aP, aQ, ↓reduceIte, Nat.reduceEqDiff, Nat.reduceAdd, Nat.reduceSub, Nat.reduceMul, Nat.reduceLT, Nat.reduceLeDiff, reduceCtorEq, Nat.reduceBEq, forall_const, implies_true, exists_const, ne_eq, Int.reduceAdd, Int.reduceSub, Int.reduceMul, Int.reduceBEq, Int.reduceEq, Int.reduceLT, Int.reduceLE, Int.reduceToNat, Int.reduceNeg, Int.reduceBNe]
  refine rangeB l.length (fun i σ => each l = each (l.drop i) ∧ σ.slot 0 = vL 11 (l.map encEv) ∧ σ.slot 5 = vL 11 (l.map encEv) ∧ σ.slot 6 = vI l.length ∧ σ.slot 7 = vI i) ?_ ?_ ?_
  · simp -implicitDefEqProofs only [↓aP, aQ, ↓reduceIte, Nat.reduceEqDiff, Nat.reduceAdd, Nat.reduceSub, Nat.reduceMul, Nat.reduceLT, Nat.reduceLeDiff, reduceCtorEq, Nat.reduceBEq, forall_const, implies_true, exists_const, ne_eq, Int.reduceAdd, Int.reduceSub, Int.reduceMul, Int.reduceBEq, Int.reduceEq, Int.reduceLT, Int.reduceLE, Int.reduceToNat, Int.reduceNeg, Int.reduceBNe, List.length_map, List.drop_zero]
  · rintro i m σ him hi hlt ⟨he, s0, s5, s6, s7⟩
    have he2 : each l = (okE l[i] && each (l.drop (i + 1))) := by rw [he, drop_cons hi]; rfl
    have bad : okE l[i] = false → apart l = false := by
      intro h
      unfold apart
      rw [he2, h]; rfl
    cases h1 : decide (l[i].done ≤ l[i].began)
    · cases h2 : decide (l[i].ended ≤ l[i].done)
      · simp -implicitDefEqProofs only [↓aP, aQ, ↓reduceIte, Nat.reduceEqDiff, Nat.reduceAdd, Nat.reduceSub, Nat.reduceMul, Nat.reduceLT, Nat.reduceLeDiff, reduceCtorEq, Nat.reduceBEq, forall_const, implies_true, exists_const, ne_eq, Int.reduceAdd, Int.reduceSub, Int.reduceMul, Int.reduceBEq, Int.reduceEq, Int.reduceLT, Int.reduceLE, Int.reduceToNat, Int.reduceNeg, Int.reduceBNe, hlt, s0, s5, s6, s7, askIdx_map, hi, encEv, h1, h2, wrapS (show i < 4611686018427387904 by omega)]
        refine nextR hi him ⟨?_, ?_⟩
        · rw [he2]
          have : okE l[i] = true := by
            unfold okE
            simp at h1 h2 ⊢
            omega
          rw [this]; rfl
        · simp -implicitDefEqProofs only [↓aP, aQ, ↓reduceIte, Nat.reduceEqDiff, Nat.reduceAdd, Nat.reduceSub, Nat.reduceMul, Nat.reduceLT, Nat.reduceLeDiff, reduceCtorEq, Nat.reduceBEq, forall_const, implies_true, exists_const, ne_eq, Int.reduceAdd, Int.reduceSub, Int.reduceMul, Int.reduceBEq, Int.reduceEq, Int.reduceLT, Int.reduceLE, Int.reduceToNat, Int.reduceNeg, Int.reduceBNe, s0, s5, s6, s7]
      · simp -implicitDefEqProofs only [↓aP, aQ, ↓reduceIte, Nat.reduceEqDiff, Nat.reduceAdd, Nat.reduceSub, Nat.reduceMul, Nat.reduceLT, Nat.reduceLeDiff, reduceCtorEq, Nat.reduceBEq, forall_const, implies_true, exists_const, ne_eq, Int.reduceAdd, Int.reduceSub, Int.reduceMul, Int.reduceBEq, Int.reduceEq, Int.reduceLT, Int.reduceLE, Int.reduceToNat, Int.reduceNeg, Int.reduceBNe, hlt, s0, s5, s6, s7, askIdx_map, hi, encEv, h1, h2, bad (by unfold okE; simp at h2 ⊢; omega)]
    · simp -implicitDefEqProofs only [↓aP, aQ, ↓reduceIte, Nat.reduceEqDiff, Nat.reduceAdd, Nat.reduceSub, Nat.reduceMul, Nat.reduceLT, Nat.reduceLeDiff, reduceCtorEq, Nat.reduceBEq, forall_const, implies_true, exists_const, ne_eq, Int.reduceAdd, Int.reduceSub, Int.reduceMul, Int.reduceBEq, Int.reduceEq, Int.reduceLT, Int.reduceLE, Int.reduceToNat, Int.reduceNeg, Int.reduceBNe, hlt, s0, s5, s6, s7, askIdx_map, hi, encEv, h1, bad (by unfold okE; simp at h1 ⊢; omega)]
  · rintro m σ hlt ⟨he, s0, s5, s6, s7⟩
    have he2 : each l = true := by rw [he, List.drop_length]; rfl
    simp -implicitDefEqProofs only [↓aP, aQ, ↓reduceIte, Nat.reduceEqDiff, Nat.reduceAdd, Nat.reduceSub, Nat.reduceMul, Nat.reduceLT, Nat.reduceLeDiff, reduceCtorEq, Nat.reduceBEq, forall_const, implies_true, exists_const, ne_eq, Int.reduceAdd, Int.reduceSub, Int.reduceMul, Int.reduceBEq, Int.reduceEq, Int.reduceLT, Int.reduceLE, Int.reduceToNat, Int.reduceNeg, Int.reduceBNe, hlt, s0, s5, s6, s7]
    refine ask (doneA_spec l hl) ?_
    cases hd : adj pD (sortD l)
    · have e : apart l = false := by unfold apart; rw [he2, hd]; rfl
      simp -implicitDefEqProofs only [↓aP, aQ, ↓reduceIte, Nat.reduceEqDiff, Nat.reduceAdd, Nat.reduceSub, Nat.reduceMul, Nat.reduceLT, Nat.reduceLeDiff, reduceCtorEq, Nat.reduceBEq, forall_const, implies_true, exists_const, ne_eq, Int.reduceAdd, Int.reduceSub, Int.reduceMul, Int.reduceBEq, Int.reduceEq, Int.reduceLT, Int.reduceLE, Int.reduceToNat, Int.reduceNeg, Int.reduceBNe, s0, s5, s6, s7, e]
    · simp -implicitDefEqProofs only [↓aP, aQ, ↓reduceIte, Nat.reduceEqDiff, Nat.reduceAdd, Nat.reduceSub, Nat.reduceMul, Nat.reduceLT, Nat.reduceLeDiff, reduceCtorEq, Nat.reduceBEq, forall_const, implies_true, exists_const, ne_eq, Int.reduceAdd, Int.reduceSub, Int.reduceMul, Int.reduceBEq, Int.reduceEq, Int.reduceLT, Int.reduceLE, Int.reduceToNat, Int.reduceNeg, Int.reduceBNe, s0, s5, s6, s7]
      refine ask (workA_spec l hl) ?_
      have e : apart l = adj pW (sortW l) := by unfold apart; rw [he2, hd]; rfl
      simp -implicitDefEqProofs only [↓aP, aQ, ↓reduceIte, Nat.reduceEqDiff, Nat.reduceAdd, Nat.reduceSub, Nat.reduceMul, Nat.reduceLT, Nat.reduceLeDiff, reduceCtorEq, Nat.reduceBEq, forall_const, implies_true, exists_const, ne_eq, Int.reduceAdd, Int.reduceSub, Int.reduceMul, Int.reduceBEq, Int.reduceEq, Int.reduceLT, Int.reduceLE, Int.reduceToNat, Int.reduceNeg, Int.reduceBNe, e]
end Go.Proofs.Ytbpipdgkkdifgaa
