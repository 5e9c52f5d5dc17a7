/- layer 13: pages compared; awake. -/
import Derived.Test.YtlloeinlfhnegaaG4
namespace Go.Proofs.Ytlloeinlfhnegaa
open Go.RowKit
set_option linter.unusedVariables false
set_option linter.unusedSimpArgs false
instance : DecidableEq Pg := fun a b => if h : a.id = b.id ∧ a.ver = b.ver ∧ a.body.data.toList = b.body.data.toList then isTrue (by
  obtain ⟨i, v, ⟨⟨l⟩⟩⟩ := a
  obtain ⟨i', v', ⟨⟨l'⟩⟩⟩ := b
  obtain ⟨h1, h2, h3⟩ := h
  simp only at h1 h2 h3
  subst h1 h2 h3; rfl) else isFalse (fun e => h (by rw [e]; exact ⟨rfl, rfl, rfl⟩))
theorem fields_pg : Try.prog.underlying 27 = some (.struct (Try.prog.fieldsOf 27)) := by kernel_rfl
theorem held_pg : Try.prog.stoodInHeld 27 = false := by kernel_rfl
theorem fieldsL_pg : ((Try.prog.fieldsOf 27).toList.map fun f => (f.type, f.offset)) = [(3, 0), (3, 1), (9, 2)] := by kernel_rfl
theorem body_beq (a b : ByteArray) : (a.data.toList == b.data.toList) = true ↔ a = b := by
  obtain ⟨⟨l⟩⟩ := a
  obtain ⟨⟨l'⟩⟩ := b
  simp
set_option maxRecDepth 100000 in
theorem eq_pg (x y : Pg) : EqRun Try.prog 27 [.int .i64 x.id, .int .i64 x.ver, .string x.body] [.int .i64 y.id, .int .i64 y.ver, .string y.body] (decide (x = y)) := by
  intro w
  rw [run_eql_struct, run_equalIn_agg w 9999 _ _ _ fields_pg held_pg]
  by_cases h1 : x.id = y.id
  · by_cases h2 : x.ver = y.ver
    · by_cases h3 : x.body = y.body
      · have e : x = y := by cases x; cases y; simp_all
        subst e
        rw [decide_eq_true rfl]
        go_simp
      · rw [decide_eq_false (fun e => h3 (by rw [e]))]
        go_simp
        intro e
        have := tl_beq x.body y.body
        rw [e, beq_self_eq_true] at this
        exact h3 (of_decide_eq_true this.symm)
    · rw [decide_eq_false (fun e => h2 (by rw [e]))]
      go_simp
  · rw [decide_eq_false (fun e => h1 (by rw [e]))]
    go_simp
theorem eqP {x y : Pg} (h : x = y) : EqRun Try.prog 27 [.int .i64 x.id, .int .i64 x.ver, .string x.body] [.int .i64 y.id, .int .i64 y.ver, .string y.body] true := by
  have := eq_pg x y
  rwa [decide_eq_true h] at this
def wP : Pg := ⟨4, 2, ⟨#[97, 98]⟩⟩
theorem wP_ok : okP wP = true := by decide
theorem wP_not : ¬ (wP.ver = 0 ∧ wP.body = ⟨#[]⟩) := by unfold wP; intro h; exact absurd h.1 (by decide)
theorem new_spec35 : Spec Try.prog 24 [rI 35] (.val (.tup [(true, encDk ⟨Jn.new35, []⟩), (false, [.pv (.int .i64 0)])])) := by
  have := new_spec 35
  rw [Jn.new_eq] at this
  exact this
theorem steps_set {n : Nat} {s : List ByteArray} (hn : 35 ≤ n ∧ n ≤ 64) (hs : Jn.Ok n s) {p : Pg} (h : okP p = true) : stepsS ⟨s, []⟩ p = Jn.plan p.id (bytesP p) := by
  have h2 := okP_iff.1 h
  unfold stepsS
  rw [if_pos (Or.inl (by omega)), put_ok2 h, if_neg (by simp)]
  unfold Jn.planM
  rw [if_pos ⟨Jn.usable_ok hn hs Jn.cok_nil, Jn.page_iff.2 ⟨h2.1, h2.2.1⟩, bytesP_size h⟩]
theorem steps_del {n : Nat} {s : List ByteArray} (hn : 35 ≤ n ∧ n ≤ 64) (hs : Jn.Ok n s) {p : Pg} (hp : 1 ≤ p.id ∧ p.id ≤ 16) (h : p.ver = 0 ∧ p.body = ⟨#[]⟩) : stepsS ⟨s, []⟩ p = Jn.plan p.id nought32 := by
  unfold stepsS
  rw [if_neg (by simp [h.1, h.2])]
  unfold Jn.planM
  rw [if_pos ⟨Jn.usable_ok hn hs Jn.cok_nil, Jn.page_iff.2 hp, nought32_size⟩]
theorem wP_eq : EqRun Try.prog 27 [.int .i64 4, .int .i64 2, .string ⟨#[97, 98]⟩] [.int .i64 4, .int .i64 2, .string ⟨#[97, 98]⟩] true := eqP (x := ⟨4, 2, ⟨#[97, 98]⟩⟩) (y := ⟨4, 2, ⟨#[97, 98]⟩⟩) rfl
theorem encW : encPg wP = [.pv (.int .i64 4), .pv (.int .i64 2), .pv (.string ⟨#[97, 98]⟩)] := rfl
set_option maxRecDepth 100000 in
theorem awake13_spec : Spec Try.prog 10 [] (.val (rB true)) := by
  refine spec_val mixed fn10 (by simp) ?_
  unfold ac10
  have hq : (1 : Int) ≤ 4 ∧ (4 : Int) ≤ 16 := by omega
  obtain ⟨c1, c2, c3⟩ := setS_ok Jn.h35 Jn.ok_new wP_ok
  simp only [show wP.id = 4 from rfl] at c1 c2 c3
  obtain ⟨d1, d2, d3⟩ := delS_ok Jn.h35 c2.ok hq
  have l1 : listS ⟨Jn.s4 Jn.new35 4 (bytesP wP), []⟩ 16 = [wP] := by
    have e := c3 4 hq
    rw [if_pos rfl] at e
    rw [list_one (p := 4) (by rw [e]) 16 (by omega) (by omega) (fun q hq2 hne => by rw [c3 q (by omega), if_neg hne, getS_new (by omega)]; decide), e]
  have l2 : listS ⟨Jn.s4 (Jn.s4 Jn.new35 4 (bytesP wP)) 4 nought32, []⟩ 16 = [] := list_none 16 (fun q hq2 => by
    rw [d3 q (by omega)]
    by_cases e : q = 4
    · rw [if_pos e]; decide
    · rw [if_neg e, c3 q (by omega), if_neg e, getS_new (by omega)]; decide)
  have sl := steps_set Jn.h35 c2.ok wP_ok
  simp -implicitDefEqProofs only [↓aP, aQ, ↓reduceIte, Nat.reduceEqDiff, Nat.reduceAdd, Nat.reduceSub, Nat.reduceMul, Nat.reduceLT, Nat.reduceLeDiff, reduceCtorEq, Nat.reduceBEq, forall_const, implies_true, exists_const, ne_eq, Int.reduceAdd, Int.reduceSub, Int.reduceMul, Int.reduceBEq, Int.reduceEq, Int.reduceLT, Int.reduceLE, Int.reduceToNat, Int.reduceNeg, Int.reduceBNe]
  refine ask new_spec35 ?_
  simp -implicitDefEqProofs only [↓aP, aQ, ↓reduceIte, Nat.reduceEqDiff, Nat.reduceAdd, Nat.reduceSub, Nat.reduceMul, Nat.reduceLT, Nat.reduceLeDiff, reduceCtorEq, Nat.reduceBEq, forall_const, implies_true, exists_const, ne_eq, Int.reduceAdd, Int.reduceSub, Int.reduceMul, Int.reduceBEq, Int.reduceEq, Int.reduceLT, Int.reduceLE, Int.reduceToNat, Int.reduceNeg, Int.reduceBNe, encDk]
  refine ask (by have := sget_spec ⟨Jn.new35, []⟩ 4; rw [getS_new hq] at this; exact this) ?_
  simp -implicitDefEqProofs only [↓aP, aQ, ↓reduceIte, Nat.reduceEqDiff, Nat.reduceAdd, Nat.reduceSub, Nat.reduceMul, Nat.reduceLT, Nat.reduceLeDiff, reduceCtorEq, Nat.reduceBEq, forall_const, implies_true, exists_const, ne_eq, Int.reduceAdd, Int.reduceSub, Int.reduceMul, Int.reduceBEq, Int.reduceEq, Int.reduceLT, Int.reduceLE, Int.reduceToNat, Int.reduceNeg, Int.reduceBNe, encGet, encPg, zP]
  refine ask (by have := sset_spec ⟨Jn.new35, []⟩ wP; rw [c1] at this; exact this) ?_
  simp -implicitDefEqProofs only [↓aP, aQ, ↓reduceIte, Nat.reduceEqDiff, Nat.reduceAdd, Nat.reduceSub, Nat.reduceMul, Nat.reduceLT, Nat.reduceLeDiff, reduceCtorEq, Nat.reduceBEq, forall_const, implies_true, exists_const, ne_eq, Int.reduceAdd, Int.reduceSub, Int.reduceMul, Int.reduceBEq, Int.reduceEq, Int.reduceLT, Int.reduceLE, Int.reduceToNat, Int.reduceNeg, Int.reduceBNe, encSet, encDk]
  refine ask (by have := sget_spec ⟨Jn.s4 Jn.new35 4 (bytesP wP), []⟩ 4; rw [c3 4 hq, if_pos rfl] at this; exact this) ?_
  simp -implicitDefEqProofs only [↓aP, aQ, ↓reduceIte, Nat.reduceEqDiff, Nat.reduceAdd, Nat.reduceSub, Nat.reduceMul, Nat.reduceLT, Nat.reduceLeDiff, reduceCtorEq, Nat.reduceBEq, forall_const, implies_true, exists_const, ne_eq, Int.reduceAdd, Int.reduceSub, Int.reduceMul, Int.reduceBEq, Int.reduceEq, Int.reduceLT, Int.reduceLE, Int.reduceToNat, Int.reduceNeg, Int.reduceBNe, encGet, encW, encDk]
  refine ask (by have := slist_spec ⟨Jn.s4 Jn.new35 4 (bytesP wP), []⟩; rw [l1] at this; exact this) ?_
  simp -implicitDefEqProofs only [↓aP, aQ, ↓reduceIte, Nat.reduceEqDiff, Nat.reduceAdd, Nat.reduceSub, Nat.reduceMul, Nat.reduceLT, Nat.reduceLeDiff, reduceCtorEq, Nat.reduceBEq, forall_const, implies_true, exists_const, ne_eq, Int.reduceAdd, Int.reduceSub, Int.reduceMul, Int.reduceBEq, Int.reduceEq, Int.reduceLT, Int.reduceLE, Int.reduceToNat, Int.reduceNeg, Int.reduceBNe, encW, encDk, List.map_cons, List.map_nil]
  refine ask (by have := sdel_spec ⟨Jn.s4 Jn.new35 4 (bytesP wP), []⟩ 4; rw [d1] at this; exact this) ?_
  simp -implicitDefEqProofs only [↓aP, aQ, ↓reduceIte, Nat.reduceEqDiff, Nat.reduceAdd, Nat.reduceSub, Nat.reduceMul, Nat.reduceLT, Nat.reduceLeDiff, reduceCtorEq, Nat.reduceBEq, forall_const, implies_true, exists_const, ne_eq, Int.reduceAdd, Int.reduceSub, Int.reduceMul, Int.reduceBEq, Int.reduceEq, Int.reduceLT, Int.reduceLE, Int.reduceToNat, Int.reduceNeg, Int.reduceBNe, encSet, encDk]
  refine askEq wP_eq ?_
  simp -implicitDefEqProofs only [↓aP, aQ, ↓reduceIte, Nat.reduceEqDiff, Nat.reduceAdd, Nat.reduceSub, Nat.reduceMul, Nat.reduceLT, Nat.reduceLeDiff, reduceCtorEq, Nat.reduceBEq, forall_const, implies_true, exists_const, ne_eq, Int.reduceAdd, Int.reduceSub, Int.reduceMul, Int.reduceBEq, Int.reduceEq, Int.reduceLT, Int.reduceLE, Int.reduceToNat, Int.reduceNeg, Int.reduceBNe, encW, encDk]
  refine askEq wP_eq ?_
  simp -implicitDefEqProofs only [↓aP, aQ, ↓reduceIte, Nat.reduceEqDiff, Nat.reduceAdd, Nat.reduceSub, Nat.reduceMul, Nat.reduceLT, Nat.reduceLeDiff, reduceCtorEq, Nat.reduceBEq, forall_const, implies_true, exists_const, ne_eq, Int.reduceAdd, Int.reduceSub, Int.reduceMul, Int.reduceBEq, Int.reduceEq, Int.reduceLT, Int.reduceLE, Int.reduceToNat, Int.reduceNeg, Int.reduceBNe, encW, encDk]
  refine ask (by have := slist_spec ⟨Jn.s4 (Jn.s4 Jn.new35 4 (bytesP wP)) 4 nought32, []⟩; rw [l2] at this; exact this) ?_
  simp -implicitDefEqProofs only [↓aP, aQ, ↓reduceIte, Nat.reduceEqDiff, Nat.reduceAdd, Nat.reduceSub, Nat.reduceMul, Nat.reduceLT, Nat.reduceLeDiff, reduceCtorEq, Nat.reduceBEq, forall_const, implies_true, exists_const, ne_eq, Int.reduceAdd, Int.reduceSub, Int.reduceMul, Int.reduceBEq, Int.reduceEq, Int.reduceLT, Int.reduceLE, Int.reduceToNat, Int.reduceNeg, Int.reduceBNe, encW, encDk, List.map_nil]
  refine ask (by have := ssteps_spec ⟨Jn.s4 Jn.new35 4 (bytesP wP), []⟩ wP; rw [sl] at this; exact this) ?_
  simp -implicitDefEqProofs only [↓aP, aQ, ↓reduceIte, Nat.reduceEqDiff, Nat.reduceAdd, Nat.reduceSub, Nat.reduceMul, Nat.reduceLT, Nat.reduceLeDiff, reduceCtorEq, Nat.reduceBEq, forall_const, implies_true, exists_const, ne_eq, Int.reduceAdd, Int.reduceSub, Int.reduceMul, Int.reduceBEq, Int.reduceEq, Int.reduceLT, Int.reduceLE, Int.reduceToNat, Int.reduceNeg, Int.reduceBNe, encDk, List.length_map, show (Jn.plan wP.id (bytesP wP)).length = 10 from rfl]
  decide +kernel
end Go.Proofs.Ytlloeinlfhnegaa
