/- layer 13: the law StoreSame. -/
import Derived.Test.YtlloeinlfhnegaaG5
namespace Go.Proofs.Ytlloeinlfhnegaa
open Go.RowKit
set_option linter.unusedVariables false
set_option linter.unusedSimpArgs false
theorem eq_rd {n : Nat} {s t : List ByteArray} (hs : Jn.Ok n s) (ht : Jn.Ok n t) (h : ∀ i : Int, 0 ≤ i ∧ i < n → Jn.rd s [] i = Jn.rd t [] i) : s = t := by
  refine List.ext_getElem (hs.1.trans ht.1.symm) fun i h1 h2 => ?_
  have := h i ⟨by omega, by have := hs.1; omega⟩
  rw [Jn.rd_nil, Jn.rd_nil, Int.toNat_natCast, List.getElem?_eq_getElem h1, List.getElem?_eq_getElem h2] at this
  exact this
theorem s4_twice {n : Nat} {s : List ByteArray} {p : Int} {x : ByteArray} (hn : 35 ≤ n ∧ n ≤ 64) (hs : Jn.Ok n s) (hp : 1 ≤ p ∧ p ≤ 16) (hx : x.size = 32) : Jn.s4 (Jn.s4 s p x) p x = Jn.s4 s p x := by
  have o := Jn.ok4 hn hs hp hx
  refine eq_rd (Jn.ok4 hn o hp hx) o fun i hi => ?_
  rw [Jn.rdS4 hn o hp hx hi, Jn.rdS4 hn hs hp hx hi]
  repeat' split
  all_goals rfl
theorem setS_no {d : Dk} {p : Pg} (h : okP p = false) : setS d p = (d, 1) := by
  unfold setS
  rw [put_no2 h, if_pos (by decide)]
theorem sset_sp {d : Dk} {p : Pg} {r : Dk × Int} (e : setS d p = r) : Spec Try.prog 17 [.agg (encDk d), .agg (encPg p)] (.val (encSet r)) := e ▸ sset_spec d p
theorem sdel_sp {d : Dk} {q : Int} {r : Dk × Int} (e : delS d q = r) : Spec Try.prog 22 [.agg (encDk d), rI q] (.val (encSet r)) := e ▸ sdel_spec d q
theorem sget_sp {d : Dk} {q : Int} {r : Pg × Int} (e : getS d q = r) : Spec Try.prog 11 [.agg (encDk d), rI q] (.val (encGet r)) := e ▸ sget_spec d q
theorem slist_sp {d : Dk} {l : List Pg} (e : listS d 16 = l) : Spec Try.prog 23 [.agg (encDk d)] (.val (rL 3 (l.map encPg))) := e ▸ slist_spec d
set_option maxRecDepth 100000 in
theorem law_same (p : Pg) : Spec Try.prog 8 [.agg (encPg p)] (.val (rB true)) := by
  refine spec_val mixed fn8 (by simp) ?_
  unfold ac8
  cases h : okP p
  · simp -implicitDefEqProofs only [↓aP, aQ, ↓reduceIte, Nat.reduceEqDiff, Nat.reduceAdd, Nat.reduceSub, Nat.reduceMul, Nat.reduceLT, Nat.reduceLeDiff, reduceCtorEq, Nat.reduceBEq, forall_const, implies_true, exists_const, ne_eq, Int.reduceAdd, Int.reduceSub, Int.reduceMul, Int.reduceBEq, Int.reduceEq, Int.reduceLT, Int.reduceLE, Int.reduceToNat, Int.reduceNeg, Int.reduceBNe, encPg]
    refine ask new_spec35 ?_
    simp -implicitDefEqProofs only [↓aP, aQ, ↓reduceIte, Nat.reduceEqDiff, Nat.reduceAdd, Nat.reduceSub, Nat.reduceMul, Nat.reduceLT, Nat.reduceLeDiff, reduceCtorEq, Nat.reduceBEq, forall_const, implies_true, exists_const, ne_eq, Int.reduceAdd, Int.reduceSub, Int.reduceMul, Int.reduceBEq, Int.reduceEq, Int.reduceLT, Int.reduceLE, Int.reduceToNat, Int.reduceNeg, Int.reduceBNe, encDk]
    refine ask (by have := rright2_spec p; rw [h, encPg] at this; exact this) ?_
    simp -implicitDefEqProofs only [↓aP, aQ, ↓reduceIte, Nat.reduceEqDiff, Nat.reduceAdd, Nat.reduceSub, Nat.reduceMul, Nat.reduceLT, Nat.reduceLeDiff, reduceCtorEq, Nat.reduceBEq, forall_const, implies_true, exists_const, ne_eq, Int.reduceAdd, Int.reduceSub, Int.reduceMul, Int.reduceBEq, Int.reduceEq, Int.reduceLT, Int.reduceLE, Int.reduceToNat, Int.reduceNeg, Int.reduceBNe]
    refine ask (by have := sset_sp (setS_no (d := ⟨Jn.new35, []⟩) h); rw [encPg] at this; exact this) ?_
    simp -implicitDefEqProofs only [↓aP, aQ, ↓reduceIte, Nat.reduceEqDiff, Nat.reduceAdd, Nat.reduceSub, Nat.reduceMul, Nat.reduceLT, Nat.reduceLeDiff, reduceCtorEq, Nat.reduceBEq, forall_const, implies_true, exists_const, ne_eq, Int.reduceAdd, Int.reduceSub, Int.reduceMul, Int.reduceBEq, Int.reduceEq, Int.reduceLT, Int.reduceLE, Int.reduceToNat, Int.reduceNeg, Int.reduceBNe, encSet, encDk]
    refine ask awake13_spec ?_
    simp -implicitDefEqProofs only [↓aP, aQ, ↓reduceIte, Nat.reduceEqDiff, Nat.reduceAdd, Nat.reduceSub, Nat.reduceMul, Nat.reduceLT, Nat.reduceLeDiff, reduceCtorEq, Nat.reduceBEq, forall_const, implies_true, exists_const, ne_eq, Int.reduceAdd, Int.reduceSub, Int.reduceMul, Int.reduceBEq, Int.reduceEq, Int.reduceLT, Int.reduceLE, Int.reduceToNat, Int.reduceNeg, Int.reduceBNe]
  · have h2 := okP_iff.1 h
    have hp : 1 ≤ p.id ∧ p.id ≤ 16 := ⟨h2.1, h2.2.1⟩
    obtain ⟨a1, a2, a3⟩ := setS_ok Jn.h35 Jn.ok_new h
    obtain ⟨b1, b2, b3⟩ := setS_ok Jn.h35 a2.ok h
    rw [s4_twice Jn.h35 Jn.ok_new hp (bytesP_size h)] at b1 b2 b3
    obtain ⟨x1, x2, x3⟩ := delS_ok Jn.h35 a2.ok hp
    obtain ⟨y1, y2, y3⟩ := delS_ok Jn.h35 x2.ok hp
    rw [s4_twice Jn.h35 a2.ok hp nought32_size] at y1 y2 y3
    have g1 : ∀ q : Int, 1 ≤ q ∧ q ≤ 16 → q ≠ p.id → (getS ⟨Jn.s4 Jn.new35 p.id (bytesP p), []⟩ q).2 ≠ 0 := fun q hq hne => by
      rw [a3 q hq, if_neg hne, getS_new hq]; decide
    have g2 := a3 p.id hp
    rw [if_pos rfl] at g2
    have l1 : listS ⟨Jn.s4 Jn.new35 p.id (bytesP p), []⟩ 16 = [p] := by
      rw [list_one (p := p.id) (by rw [g2]) 16 hp.1 (by omega) (fun q hq hne => g1 q (by omega) hne), g2]
    have l2 : listS ⟨Jn.s4 (Jn.s4 Jn.new35 p.id (bytesP p)) p.id nought32, []⟩ 16 = [] := list_none 16 (fun q hq => by
      rw [x3 q (by omega)]
      by_cases e : q = p.id
      · rw [if_pos e]; decide
      · rw [if_neg e]; exact g1 q (by omega) e)
    have z1 : (Jn.s4 Jn.new35 p.id (bytesP p)).length < 4611686018427387904 := by rw [a2.ok.1]; omega
    have z2 : (Jn.s4 (Jn.s4 Jn.new35 p.id (bytesP p)) p.id nought32).length < 4611686018427387904 := by rw [x2.ok.1]; omega
    generalize Jn.s4 Jn.new35 p.id (bytesP p) = s at *
    generalize Jn.s4 s p.id nought32 = t at *
    simp -implicitDefEqProofs only [↓aP, aQ, ↓reduceIte, Nat.reduceEqDiff, Nat.reduceAdd, Nat.reduceSub, Nat.reduceMul, Nat.reduceLT, Nat.reduceLeDiff, reduceCtorEq, Nat.reduceBEq, forall_const, implies_true, exists_const, ne_eq, Int.reduceAdd, Int.reduceSub, Int.reduceMul, Int.reduceBEq, Int.reduceEq, Int.reduceLT, Int.reduceLE, Int.reduceToNat, Int.reduceNeg, Int.reduceBNe, encPg]
    refine ask new_spec35 ?_
    simp -implicitDefEqProofs only [↓aP, aQ, ↓reduceIte, Nat.reduceEqDiff, Nat.reduceAdd, Nat.reduceSub, Nat.reduceMul, Nat.reduceLT, Nat.reduceLeDiff, reduceCtorEq, Nat.reduceBEq, forall_const, implies_true, exists_const, ne_eq, Int.reduceAdd, Int.reduceSub, Int.reduceMul, Int.reduceBEq, Int.reduceEq, Int.reduceLT, Int.reduceLE, Int.reduceToNat, Int.reduceNeg, Int.reduceBNe, encDk]
    refine ask (by have := rright2_spec p; rw [h, encPg] at this; exact this) ?_
    simp -implicitDefEqProofs only [↓aP, aQ, ↓reduceIte, Nat.reduceEqDiff, Nat.reduceAdd, Nat.reduceSub, Nat.reduceMul, Nat.reduceLT, Nat.reduceLeDiff, reduceCtorEq, Nat.reduceBEq, forall_const, implies_true, exists_const, ne_eq, Int.reduceAdd, Int.reduceSub, Int.reduceMul, Int.reduceBEq, Int.reduceEq, Int.reduceLT, Int.reduceLE, Int.reduceToNat, Int.reduceNeg, Int.reduceBNe]
    refine ask (by have := sset_sp a1; rw [encPg] at this; exact this) ?_
    simp -implicitDefEqProofs only [↓aP, aQ, ↓reduceIte, Nat.reduceEqDiff, Nat.reduceAdd, Nat.reduceSub, Nat.reduceMul, Nat.reduceLT, Nat.reduceLeDiff, reduceCtorEq, Nat.reduceBEq, forall_const, implies_true, exists_const, ne_eq, Int.reduceAdd, Int.reduceSub, Int.reduceMul, Int.reduceBEq, Int.reduceEq, Int.reduceLT, Int.reduceLE, Int.reduceToNat, Int.reduceNeg, Int.reduceBNe, encSet, encDk]
    refine ask (by have := sset_sp b1; rw [encPg] at this; exact this) ?_
    simp -implicitDefEqProofs only [↓aP, aQ, ↓reduceIte, Nat.reduceEqDiff, Nat.reduceAdd, Nat.reduceSub, Nat.reduceMul, Nat.reduceLT, Nat.reduceLeDiff, reduceCtorEq, Nat.reduceBEq, forall_const, implies_true, exists_const, ne_eq, Int.reduceAdd, Int.reduceSub, Int.reduceMul, Int.reduceBEq, Int.reduceEq, Int.reduceLT, Int.reduceLE, Int.reduceToNat, Int.reduceNeg, Int.reduceBNe, encSet, encDk]
    refine ask (sdel_sp x1) ?_
    simp -implicitDefEqProofs only [↓aP, aQ, ↓reduceIte, Nat.reduceEqDiff, Nat.reduceAdd, Nat.reduceSub, Nat.reduceMul, Nat.reduceLT, Nat.reduceLeDiff, reduceCtorEq, Nat.reduceBEq, forall_const, implies_true, exists_const, ne_eq, Int.reduceAdd, Int.reduceSub, Int.reduceMul, Int.reduceBEq, Int.reduceEq, Int.reduceLT, Int.reduceLE, Int.reduceToNat, Int.reduceNeg, Int.reduceBNe, encSet, encDk]
    refine ask (sdel_sp y1) ?_
    simp -implicitDefEqProofs only [↓aP, aQ, ↓reduceIte, Nat.reduceEqDiff, Nat.reduceAdd, Nat.reduceSub, Nat.reduceMul, Nat.reduceLT, Nat.reduceLeDiff, reduceCtorEq, Nat.reduceBEq, forall_const, implies_true, exists_const, ne_eq, Int.reduceAdd, Int.reduceSub, Int.reduceMul, Int.reduceBEq, Int.reduceEq, Int.reduceLT, Int.reduceLE, Int.reduceToNat, Int.reduceNeg, Int.reduceBNe, encSet, encDk]
    refine ask (by have := same_spec ⟨s, []⟩ z1 (by simp); rw [encDk] at this; exact this) ?_
    simp -implicitDefEqProofs only [↓aP, aQ, ↓reduceIte, Nat.reduceEqDiff, Nat.reduceAdd, Nat.reduceSub, Nat.reduceMul, Nat.reduceLT, Nat.reduceLeDiff, reduceCtorEq, Nat.reduceBEq, forall_const, implies_true, exists_const, ne_eq, Int.reduceAdd, Int.reduceSub, Int.reduceMul, Int.reduceBEq, Int.reduceEq, Int.reduceLT, Int.reduceLE, Int.reduceToNat, Int.reduceNeg, Int.reduceBNe, encDk]
    refine ask (by have := same_spec ⟨t, []⟩ z2 (by simp); rw [encDk] at this; exact this) ?_
    simp -implicitDefEqProofs only [↓aP, aQ, ↓reduceIte, Nat.reduceEqDiff, Nat.reduceAdd, Nat.reduceSub, Nat.reduceMul, Nat.reduceLT, Nat.reduceLeDiff, reduceCtorEq, Nat.reduceBEq, forall_const, implies_true, exists_const, ne_eq, Int.reduceAdd, Int.reduceSub, Int.reduceMul, Int.reduceBEq, Int.reduceEq, Int.reduceLT, Int.reduceLE, Int.reduceToNat, Int.reduceNeg, Int.reduceBNe, encDk]
    refine ask (slist_sp l1) ?_
    simp -implicitDefEqProofs only [↓aP, aQ, ↓reduceIte, Nat.reduceEqDiff, Nat.reduceAdd, Nat.reduceSub, Nat.reduceMul, Nat.reduceLT, Nat.reduceLeDiff, reduceCtorEq, Nat.reduceBEq, forall_const, implies_true, exists_const, ne_eq, Int.reduceAdd, Int.reduceSub, Int.reduceMul, Int.reduceBEq, Int.reduceEq, Int.reduceLT, Int.reduceLE, Int.reduceToNat, Int.reduceNeg, Int.reduceBNe, List.map_cons, List.map_nil, encDk]
    refine ask (slist_sp l2) ?_
    simp -implicitDefEqProofs only [↓aP, aQ, ↓reduceIte, Nat.reduceEqDiff, Nat.reduceAdd, Nat.reduceSub, Nat.reduceMul, Nat.reduceLT, Nat.reduceLeDiff, reduceCtorEq, Nat.reduceBEq, forall_const, implies_true, exists_const, ne_eq, Int.reduceAdd, Int.reduceSub, Int.reduceMul, Int.reduceBEq, Int.reduceEq, Int.reduceLT, Int.reduceLE, Int.reduceToNat, Int.reduceNeg, Int.reduceBNe, List.map_cons, List.map_nil, encDk]
    refine ask awake13_spec ?_
    simp -implicitDefEqProofs only [↓aP, aQ, ↓reduceIte, Nat.reduceEqDiff, Nat.reduceAdd, Nat.reduceSub, Nat.reduceMul, Nat.reduceLT, Nat.reduceLeDiff, reduceCtorEq, Nat.reduceBEq, forall_const, implies_true, exists_const, ne_eq, Int.reduceAdd, Int.reduceSub, Int.reduceMul, Int.reduceBEq, Int.reduceEq, Int.reduceLT, Int.reduceLE, Int.reduceToNat, Int.reduceNeg, Int.reduceBNe]
    all_goals (trace_state; sorry)
end Go.Proofs.Ytlloeinlfhnegaa
