/- layer 18: the laws OpsExact, OpsAll: their walks. -/
import Derived.Test.YtpcahlanjffilaaO12
namespace Go.Proofs.Ytpcahlanjffilaa
open Go.RowKit Ok Go.ChangeShapes Go.WideShapes
set_option linter.unusedVariables false
set_option linter.unusedSimpArgs false
namespace Ok
theorem look_snoc {a : List Pg} {p : Pg} (h : Mono (a ++ [p])) {id : Int} : Ok.look (a ++ [p]) id = if p.id = id then some p else Ok.look a id := by
  obtain ⟨h1, h2⟩ := mono_snoc h
  by_cases e : p.id = id
  · rw [if_pos e]
    exact (look_mem h).2 ⟨by simp, e⟩
  · rw [if_neg e]
    unfold Ok.look
    rw [List.find?_append]
    have e3 : ([p].find? fun q => decide (q.id = id)) = none := by
      rw [List.find?_eq_none]
      intro q hq
      rw [List.mem_singleton.1 hq]
      simpa using e
    rw [e3]; simp
def Wx (m : List Pg) (id : Int) (i : Nat) (x : Option Pg) : Prop := (rightM m = false → x = none) ∧ (rightM m = true → x = Ok.look (m.take i) id)
theorem mono_take {l : List Pg} (h : Mono l) (n : Nat) : Mono (l.take n) := h.sublist (List.take_sublist _ _)
end Ok

theorem lawExact_spec (m : List Pg) (o : Opr) (id : Int) (hm : m.length ≤ 9223372036854775807) : Spec Try.prog 3 [.agg (encMap m), .agg (encOp o), rI id] (.val (rB true)) := by
  refine spec_val mixed fn3 (by simp) ?_
  unfold ac3
  simp -implicitDefEqProofs only [↓aP, aQ, ↓reduceIte, Nat.reduceEqDiff, Nat.reduceAdd, Nat.reduceSub, Nat.reduceMul, Nat.reduceLT, Nat.reduceLeDiff, reduceCtorEq, Nat.reduceBEq, forall_const, implies_true, exists_const, ne_eq, Int.reduceAdd, Int.reduceSub, Int.reduceMul, Int.reduceBEq, Int.reduceEq, Int.reduceLT, Int.reduceLE, Int.reduceToNat, Int.reduceNeg, Int.reduceBNe, encMap, encOp]
  refine ask (small_spec m hm) ?_
  cases hs : smallM m
  · simp -implicitDefEqProofs only [↓aP, aQ, ↓reduceIte, Nat.reduceEqDiff, Nat.reduceAdd, Nat.reduceSub, Nat.reduceMul, Nat.reduceLT, Nat.reduceLeDiff, reduceCtorEq, Nat.reduceBEq, forall_const, implies_true, exists_const, ne_eq, Int.reduceAdd, Int.reduceSub, Int.reduceMul, Int.reduceBEq, Int.reduceEq, Int.reduceLT, Int.reduceLE, Int.reduceToNat, Int.reduceNeg, Int.reduceBNe]
    refine ask awake_spec ?_
    simp -implicitDefEqProofs only [↓aP, aQ, ↓reduceIte, Nat.reduceEqDiff, Nat.reduceAdd, Nat.reduceSub, Nat.reduceMul, Nat.reduceLT, Nat.reduceLeDiff, reduceCtorEq, Nat.reduceBEq, forall_const, implies_true, exists_const, ne_eq, Int.reduceAdd, Int.reduceSub, Int.reduceMul, Int.reduceBEq, Int.reduceEq, Int.reduceLT, Int.reduceLE, Int.reduceToNat, Int.reduceNeg, Int.reduceBNe]
  have hl := small_len hs
  by_cases h1 : 100 < o.body.size
  · simp -implicitDefEqProofs only [↓aP, aQ, ↓reduceIte, Nat.reduceEqDiff, Nat.reduceAdd, Nat.reduceSub, Nat.reduceMul, Nat.reduceLT, Nat.reduceLeDiff, reduceCtorEq, Nat.reduceBEq, forall_const, implies_true, exists_const, ne_eq, Int.reduceAdd, Int.reduceSub, Int.reduceMul, Int.reduceBEq, Int.reduceEq, Int.reduceLT, Int.reduceLE, Int.reduceToNat, Int.reduceNeg, Int.reduceBNe, show decide ((100 : Int) < (o.body.size : Int)) = true by simp; omega, encOp]
    refine ask awake_spec ?_
    simp -implicitDefEqProofs only [↓aP, aQ, ↓reduceIte, Nat.reduceEqDiff, Nat.reduceAdd, Nat.reduceSub, Nat.reduceMul, Nat.reduceLT, Nat.reduceLeDiff, reduceCtorEq, Nat.reduceBEq, forall_const, implies_true, exists_const, ne_eq, Int.reduceAdd, Int.reduceSub, Int.reduceMul, Int.reduceBEq, Int.reduceEq, Int.reduceLT, Int.reduceLE, Int.reduceToNat, Int.reduceNeg, Int.reduceBNe]
  simp -implicitDefEqProofs only [↓aP, aQ, ↓reduceIte, Nat.reduceEqDiff, Nat.reduceAdd, Nat.reduceSub, Nat.reduceMul, Nat.reduceLT, Nat.reduceLeDiff, reduceCtorEq, Nat.reduceBEq, forall_const, implies_true, exists_const, ne_eq, Int.reduceAdd, Int.reduceSub, Int.reduceMul, Int.reduceBEq, Int.reduceEq, Int.reduceLT, Int.reduceLE, Int.reduceToNat, Int.reduceNeg, Int.reduceBNe, show decide ((100 : Int) < (o.body.size : Int)) = false by simp; omega, encOp, encMap]
  have hd := oDo_spec m o (by omega)
  have hd2 := rDo_spec m o (by omega)
  have hg := oGet_spec m id (by omega)
  have hln := doM_len (l := m) (o := o)
  obtain ⟨n, r, hx⟩ : ∃ n r, doM m o = (n, r) := ⟨_, _, rfl⟩
  obtain ⟨p, ok, hp⟩ : ∃ p ok, getM m id = (p, ok) := ⟨_, _, rfl⟩
  rw [hx] at hd hd2 hln
  rw [hp] at hg
  simp only at hln
  refine ask hd ?_
  simp -implicitDefEqProofs only [↓aP, aQ, ↓reduceIte, Nat.reduceEqDiff, Nat.reduceAdd, Nat.reduceSub, Nat.reduceMul, Nat.reduceLT, Nat.reduceLeDiff, reduceCtorEq, Nat.reduceBEq, forall_const, implies_true, exists_const, ne_eq, Int.reduceAdd, Int.reduceSub, Int.reduceMul, Int.reduceBEq, Int.reduceEq, Int.reduceLT, Int.reduceLE, Int.reduceToNat, Int.reduceNeg, Int.reduceBNe, encDo, encMap, encRs, encOp]
  refine ask hd2 ?_
  simp -implicitDefEqProofs only [↓aP, aQ, ↓reduceIte, Nat.reduceEqDiff, Nat.reduceAdd, Nat.reduceSub, Nat.reduceMul, Nat.reduceLT, Nat.reduceLeDiff, reduceCtorEq, Nat.reduceBEq, forall_const, implies_true, exists_const, ne_eq, Int.reduceAdd, Int.reduceSub, Int.reduceMul, Int.reduceBEq, Int.reduceEq, Int.reduceLT, Int.reduceLE, Int.reduceToNat, Int.reduceNeg, Int.reduceBNe, encDo2, encMap, encRs, encOp]
  refine ask (rRight_spec m (by omega)) ?_
  simp -implicitDefEqProofs only [↓aP, aQ, ↓reduceIte, Nat.reduceEqDiff, Nat.reduceAdd, Nat.reduceSub, Nat.reduceMul, Nat.reduceLT, Nat.reduceLeDiff, reduceCtorEq, Nat.reduceBEq, forall_const, implies_true, exists_const, ne_eq, Int.reduceAdd, Int.reduceSub, Int.reduceMul, Int.reduceBEq, Int.reduceEq, Int.reduceLT, Int.reduceLE, Int.reduceToNat, Int.reduceNeg, Int.reduceBNe, encMap]
  refine ask hg ?_
  simp -implicitDefEqProofs only [↓aP, aQ, ↓reduceIte, Nat.reduceEqDiff, Nat.reduceAdd, Nat.reduceSub, Nat.reduceMul, Nat.reduceLT, Nat.reduceLeDiff, reduceCtorEq, Nat.reduceBEq, forall_const, implies_true, exists_const, ne_eq, Int.reduceAdd, Int.reduceSub, Int.reduceMul, Int.reduceBEq, Int.reduceEq, Int.reduceLT, Int.reduceLE, Int.reduceToNat, Int.reduceNeg, Int.reduceBNe, encMap, encPg]
  refine rangeB m.length (fun i σ => ∃ x : Option Pg, Wx m id i x ∧ σ.slot 2 = vI id ∧ σ.slot 3 = .c (.ptr 3 1 0 0) ∧ σ.h.gen 3 = 1 ∧ σ.h.blk 3 = .box 24 1 [(encMap m).map AC.s] ∧ σ.slot 7 = .c (.ptr 7 1 0 0) ∧ σ.h.gen 7 = 1 ∧ σ.h.blk 7 = .box 24 1 [(encMap n).map AC.s] ∧ σ.slot 8 = .c (.ptr 8 1 0 0) ∧ σ.h.gen 8 = 1 ∧ σ.h.blk 8 = .box 33 4 [(encRs r).map AC.s] ∧ σ.slot 9 = vL 3 (n.map encPg) ∧ σ.slot 10 = .c (.ptr 10 1 0 0) ∧ σ.h.gen 10 = 1 ∧ σ.h.blk 10 = .box 37 4 [(encRs r).map AC.s] ∧ σ.slot 11 = vB (rightM m) ∧ σ.slot 12 = .c (.ptr 12 1 0 0) ∧ σ.h.gen 12 = 1 ∧ σ.h.blk 12 = .box 31 3 [(encPg p).map AC.s] ∧ σ.slot 13 = vB ok ∧ σ.slot 14 = .c (.ptr 14 1 0 0) ∧ σ.h.gen 14 = 1 ∧ σ.h.blk 14 = .box 31 3 [(encPg (x.getD zP)).map AC.s] ∧ σ.slot 15 = vB x.isSome ∧ σ.slot 52 = vL 3 (m.map encPg) ∧ σ.slot 53 = vI m.length ∧ σ.slot 54 = vI i) ?_ ?_ ?_
  · refine ⟨none, ⟨fun _ => rfl, fun _ => rfl⟩, ?_⟩
    simp -implicitDefEqProofs only [↓aP, aQ, ↓reduceIte, Nat.reduceEqDiff, Nat.reduceAdd, Nat.reduceSub, Nat.reduceMul, Nat.reduceLT, Nat.reduceLeDiff, reduceCtorEq, Nat.reduceBEq, forall_const, implies_true, exists_const, ne_eq, Int.reduceAdd, Int.reduceSub, Int.reduceMul, Int.reduceBEq, Int.reduceEq, Int.reduceLT, Int.reduceLE, Int.reduceToNat, Int.reduceNeg, Int.reduceBNe, encMap, encRs, encPg, zP, Option.getD_none, Option.isSome_none]
  · rintro i k σ him hi hlt ⟨x, ⟨hx0, hx1⟩, s2, s3, g3, b3, s7, g7, b7, s8, g8, b8, s9, s10, g10, b10, s11, s12, g12, b12, s13, s14, g14, b14, s15, s52, s53, s54⟩
    have next : ∀ y : Option Pg, (rightM m = false → y = none) → (rightM m = true → y = if m[i].id = id then some m[i] else x) → Wx m id (i + 1) y := by
      intro y h1 h2
      refine ⟨h1, fun hr => ?_⟩
      have hmo := (right_iff.1 hr).2
      have h3 := mono_take hmo (i + 1)
      rw [take_snoc hi] at h3 ⊢
      rw [look_snoc h3, ← hx1 hr]
      exact h2 hr
    simp -implicitDefEqProofs only [↓aP, aQ, ↓reduceIte, Nat.reduceEqDiff, Nat.reduceAdd, Nat.reduceSub, Nat.reduceMul, Nat.reduceLT, Nat.reduceLeDiff, reduceCtorEq, Nat.reduceBEq, forall_const, implies_true, exists_const, ne_eq, Int.reduceAdd, Int.reduceSub, Int.reduceMul, Int.reduceBEq, Int.reduceEq, Int.reduceLT, Int.reduceLE, Int.reduceToNat, Int.reduceNeg, Int.reduceBNe, hlt, s2, s3, g3, b3, s7, g7, b7, s8, g8, b8, s9, s10, g10, b10, s11, s12, g12, b12, s13, s14, g14, b14, s15, s52, s53, s54, askIdx_map, hi, encPg]
    cases hr : rightM m
    · simp -implicitDefEqProofs only [↓aP, aQ, ↓reduceIte, Nat.reduceEqDiff, Nat.reduceAdd, Nat.reduceSub, Nat.reduceMul, Nat.reduceLT, Nat.reduceLeDiff, reduceCtorEq, Nat.reduceBEq, forall_const, implies_true, exists_const, ne_eq, Int.reduceAdd, Int.reduceSub, Int.reduceMul, Int.reduceBEq, Int.reduceEq, Int.reduceLT, Int.reduceLE, Int.reduceToNat, Int.reduceNeg, Int.reduceBNe, s2, s3, g3, b3, s7, g7, b7, s8, g8, b8, s9, s10, g10, b10, s11, s12, g12, b12, s13, s14, g14, b14, s15, s52, s53, s54, hr, wrapS (show i < 4611686018427387904 by omega)]
      have n1 := next x hx0 (fun h => by rw [hr] at h; cases h)
      refine nextR hi him ⟨x, n1, ?_⟩
      simp -implicitDefEqProofs only [↓aP, aQ, ↓reduceIte, Nat.reduceEqDiff, Nat.reduceAdd, Nat.reduceSub, Nat.reduceMul, Nat.reduceLT, Nat.reduceLeDiff, reduceCtorEq, Nat.reduceBEq, forall_const, implies_true, exists_const, ne_eq, Int.reduceAdd, Int.reduceSub, Int.reduceMul, Int.reduceBEq, Int.reduceEq, Int.reduceLT, Int.reduceLE, Int.reduceToNat, Int.reduceNeg, Int.reduceBNe, s2, s3, g3, b3, s7, g7, b7, s8, g8, b8, s9, s10, g10, b10, s11, s12, g12, b12, s13, s14, g14, b14, s15, s52, s53, s54, hr, encMap, encRs, encPg]
    · by_cases e : m[i].id = id
      · simp -implicitDefEqProofs only [↓aP, aQ, ↓reduceIte, Nat.reduceEqDiff, Nat.reduceAdd, Nat.reduceSub, Nat.reduceMul, Nat.reduceLT, Nat.reduceLeDiff, reduceCtorEq, Nat.reduceBEq, forall_const, implies_true, exists_const, ne_eq, Int.reduceAdd, Int.reduceSub, Int.reduceMul, Int.reduceBEq, Int.reduceEq, Int.reduceLT, Int.reduceLE, Int.reduceToNat, Int.reduceNeg, Int.reduceBNe, s2, s3, g3, b3, s7, g7, b7, s8, g8, b8, s9, s10, g10, b10, s11, s12, g12, b12, s13, s14, g14, b14, s15, s52, s53, s54, hr, askIdx_map, hi, encPg, show (m[i].id == id) = true by simpa using e, wrapS (show i < 4611686018427387904 by omega)]
        have n1 := next (some m[i]) (fun h => by rw [hr] at h; cases h) (fun _ => by rw [if_pos e])
        refine nextR hi him ⟨some m[i], n1, ?_⟩
        simp -implicitDefEqProofs only [↓aP, aQ, ↓reduceIte, Nat.reduceEqDiff, Nat.reduceAdd, Nat.reduceSub, Nat.reduceMul, Nat.reduceLT, Nat.reduceLeDiff, reduceCtorEq, Nat.reduceBEq, forall_const, implies_true, exists_const, ne_eq, Int.reduceAdd, Int.reduceSub, Int.reduceMul, Int.reduceBEq, Int.reduceEq, Int.reduceLT, Int.reduceLE, Int.reduceToNat, Int.reduceNeg, Int.reduceBNe, s2, s3, g3, b3, s7, g7, b7, s8, g8, b8, s9, s10, g10, b10, s11, s12, g12, b12, s13, s14, g14, b14, s15, s52, s53, s54, hr, encMap, encRs, encPg, Option.getD_some, Option.isSome_some]
      · simp -implicitDefEqProofs only [↓aP, aQ, ↓reduceIte, Nat.reduceEqDiff, Nat.reduceAdd, Nat.reduceSub, Nat.reduceMul, Nat.reduceLT, Nat.reduceLeDiff, reduceCtorEq, Nat.reduceBEq, forall_const, implies_true, exists_const, ne_eq, Int.reduceAdd, Int.reduceSub, Int.reduceMul, Int.reduceBEq, Int.reduceEq, Int.reduceLT, Int.reduceLE, Int.reduceToNat, Int.reduceNeg, Int.reduceBNe, s2, s3, g3, b3, s7, g7, b7, s8, g8, b8, s9, s10, g10, b10, s11, s12, g12, b12, s13, s14, g14, b14, s15, s52, s53, s54, hr, askIdx_map, hi, encPg, show (m[i].id == id) = false by simpa using e, wrapS (show i < 4611686018427387904 by omega)]
        have n1 := next x (fun h => by rw [hr] at h; cases h) (fun _ => by rw [if_neg e])
        refine nextR hi him ⟨x, n1, ?_⟩
        simp -implicitDefEqProofs only [↓aP, aQ, ↓reduceIte, Nat.reduceEqDiff, Nat.reduceAdd, Nat.reduceSub, Nat.reduceMul, Nat.reduceLT, Nat.reduceLeDiff, reduceCtorEq, Nat.reduceBEq, forall_const, implies_true, exists_const, ne_eq, Int.reduceAdd, Int.reduceSub, Int.reduceMul, Int.reduceBEq, Int.reduceEq, Int.reduceLT, Int.reduceLE, Int.reduceToNat, Int.reduceNeg, Int.reduceBNe, s2, s3, g3, b3, s7, g7, b7, s8, g8, b8, s9, s10, g10, b10, s11, s12, g12, b12, s13, s14, g14, b14, s15, s52, s53, s54, hr, encMap, encRs, encPg]
  · rintro k σ hlt ⟨x, ⟨hx0, hx1⟩, s2, s3, g3, b3, s7, g7, b7, s8, g8, b8, s9, s10, g10, b10, s11, s12, g12, b12, s13, s14, g14, b14, s15, s52, s53, s54⟩
    rw [List.take_length] at hx1
    have hpx : p = x.getD zP ∧ ok = x.isSome := by
      cases hr : rightM m
      · have e : getM m id = (zP, false) := if_neg (fun h => by rw [hr] at h; simp at h)
        rw [e] at hp
        rw [hx0 hr]
        simp only [Prod.mk.injEq] at hp
        exact ⟨hp.1.symm, hp.2.symm⟩
      · rw [get_look hr, ← hx1 hr] at hp
        simp only [Prod.mk.injEq] at hp
        exact ⟨hp.1.symm, hp.2.symm⟩
    obtain ⟨e1, e2⟩ := hpx
    rw [← e1] at b14
    rw [← e2] at s15
    simp -implicitDefEqProofs only [↓aP, aQ, ↓reduceIte, Nat.reduceEqDiff, Nat.reduceAdd, Nat.reduceSub, Nat.reduceMul, Nat.reduceLT, Nat.reduceLeDiff, reduceCtorEq, Nat.reduceBEq, forall_const, implies_true, exists_const, ne_eq, Int.reduceAdd, Int.reduceSub, Int.reduceMul, Int.reduceBEq, Int.reduceEq, Int.reduceLT, Int.reduceLE, Int.reduceToNat, Int.reduceNeg, Int.reduceBNe, hlt, s2, s3, g3, b3, s7, g7, b7, s8, g8, b8, s9, s10, g10, b10, s11, s12, g12, b12, s13, s14, g14, b14, s15, s52, s53, s54, encMap]
    refine ask (oRight_spec m (by omega)) ?_
    simp -implicitDefEqProofs only [↓aP, aQ, ↓reduceIte, Nat.reduceEqDiff, Nat.reduceAdd, Nat.reduceSub, Nat.reduceMul, Nat.reduceLT, Nat.reduceLeDiff, reduceCtorEq, Nat.reduceBEq, forall_const, implies_true, exists_const, ne_eq, Int.reduceAdd, Int.reduceSub, Int.reduceMul, Int.reduceBEq, Int.reduceEq, Int.reduceLT, Int.reduceLE, Int.reduceToNat, Int.reduceNeg, Int.reduceBNe, s2, s3, g3, b3, s7, g7, b7, s8, g8, b8, s9, s10, g10, b10, s11, s12, g12, b12, s13, s14, g14, b14, s15, s52, s53, s54, encMap, beq_self_eq_true]
    refine ask (rSame_spec n (by omega)) ?_
    simp -implicitDefEqProofs only [↓aP, aQ, ↓reduceIte, Nat.reduceEqDiff, Nat.reduceAdd, Nat.reduceSub, Nat.reduceMul, Nat.reduceLT, Nat.reduceLeDiff, reduceCtorEq, Nat.reduceBEq, forall_const, implies_true, exists_const, ne_eq, Int.reduceAdd, Int.reduceSub, Int.reduceMul, Int.reduceBEq, Int.reduceEq, Int.reduceLT, Int.reduceLE, Int.reduceToNat, Int.reduceNeg, Int.reduceBNe, s2, s3, g3, b3, s7, g7, b7, s8, g8, b8, s9, s10, g10, b10, s11, s12, g12, b12, s13, s14, g14, b14, s15, s52, s53, s54, encMap, encRs, beq_self_eq_true]
    refine askEq (eq_pg r.p) ?_
    simp -implicitDefEqProofs only [↓aP, aQ, ↓reduceIte, Nat.reduceEqDiff, Nat.reduceAdd, Nat.reduceSub, Nat.reduceMul, Nat.reduceLT, Nat.reduceLeDiff, reduceCtorEq, Nat.reduceBEq, forall_const, implies_true, exists_const, ne_eq, Int.reduceAdd, Int.reduceSub, Int.reduceMul, Int.reduceBEq, Int.reduceEq, Int.reduceLT, Int.reduceLE, Int.reduceToNat, Int.reduceNeg, Int.reduceBNe, s2, s3, g3, b3, s7, g7, b7, s8, g8, b8, s9, s10, g10, b10, s11, s12, g12, b12, s13, s14, g14, b14, s15, s52, s53, s54, encPg]
    refine askEq (eq_pg p) ?_
    simp -implicitDefEqProofs only [↓aP, aQ, ↓reduceIte, Nat.reduceEqDiff, Nat.reduceAdd, Nat.reduceSub, Nat.reduceMul, Nat.reduceLT, Nat.reduceLeDiff, reduceCtorEq, Nat.reduceBEq, forall_const, implies_true, exists_const, ne_eq, Int.reduceAdd, Int.reduceSub, Int.reduceMul, Int.reduceBEq, Int.reduceEq, Int.reduceLT, Int.reduceLE, Int.reduceToNat, Int.reduceNeg, Int.reduceBNe, s2, s3, g3, b3, s7, g7, b7, s8, g8, b8, s9, s10, g10, b10, s11, s12, g12, b12, s13, s14, g14, b14, s15, s52, s53, s54, beq_self_eq_true]
    refine ask awake_spec ?_
    simp -implicitDefEqProofs only [↓aP, aQ, ↓reduceIte, Nat.reduceEqDiff, Nat.reduceAdd, Nat.reduceSub, Nat.reduceMul, Nat.reduceLT, Nat.reduceLeDiff, reduceCtorEq, Nat.reduceBEq, forall_const, implies_true, exists_const, ne_eq, Int.reduceAdd, Int.reduceSub, Int.reduceMul, Int.reduceBEq, Int.reduceEq, Int.reduceLT, Int.reduceLE, Int.reduceToNat, Int.reduceNeg, Int.reduceBNe]
theorem opsExact_walk {w : World} (v0 : Value) (a0 : ∃ l : List Pg, l.length ≤ maxLen ∧ RepT (RepS w fun _ => False) (.agg (encMap l)) v0) (v1 : Value) (a1 : ∃ x : Opr, RepT (RepS w fun _ => False) (.agg (encOp x)) v1) (a : Int) (ha : (Lit.int .i64 a).wf = true) :
    Calls Try.prog 3 #[v0, v1, .int .i64 a] w fun e w' => e = .returned (.bool true) ∧ Below w.heap.size w w' := by
  obtain ⟨m, hm, h0⟩ := a0
  obtain ⟨o, h1⟩ := a1
  unfold maxLen at hm
  exact (lawExact_spec m o a hm).plain (us := [v0, v1, .int .i64 a]) (.cons h0 (.cons h1 (.cons (.pv rfl) .nil)))
theorem sub_nil {σ : St} {s : Nat} (e : Nat) (hs : σ.slot s = .c .zc) (h0 : 0 < e) : Sub σ ⟨upd σ.slot s (.c (.s (.sl e []))), σ.h⟩ := by
  intro O w0 n β a w r
  refine ⟨β, r.toRelH, r.hd, r.hn, fun t => ?_⟩
  show RepT _ (upd σ.slot s _ t) _
  by_cases et : t = s
  · rw [et, upd_at]
    have hz := r.slots s
    rw [hs] at hz
    obtain ⟨A, hA⟩ := hz
    rw [hA]
    exact RepS.sl0 h0 (by unfold maxLen; omega)
  · rw [upd_ne _ _ et]; exact r.slots t


theorem lawAll_spec (os : List Opr) (hm : os.length ≤ 9223372036854775807) : Spec Try.prog 4 [rL 3 (os.map encOp)] (.val (rB true)) := by
  refine spec_val mixed fn4 (by simp) ?_
  unfold ac4
  by_cases h60 : 60 < os.length
  · simp -implicitDefEqProofs only [↓aP, aQ, ↓reduceIte, Nat.reduceEqDiff, Nat.reduceAdd, Nat.reduceSub, Nat.reduceMul, Nat.reduceLT, Nat.reduceLeDiff, reduceCtorEq, Nat.reduceBEq, forall_const, implies_true, exists_const, ne_eq, Int.reduceAdd, Int.reduceSub, Int.reduceMul, Int.reduceBEq, Int.reduceEq, Int.reduceLT, Int.reduceLE, Int.reduceToNat, Int.reduceNeg, Int.reduceBNe, show decide ((60 : Int) < (os.length : Int)) = true by simp; omega, List.length_map]
    refine ask awake_spec ?_
    simp -implicitDefEqProofs only [↓aP, aQ, ↓reduceIte, Nat.reduceEqDiff, Nat.reduceAdd, Nat.reduceSub, Nat.reduceMul, Nat.reduceLT, Nat.reduceLeDiff, reduceCtorEq, Nat.reduceBEq, forall_const, implies_true, exists_const, ne_eq, Int.reduceAdd, Int.reduceSub, Int.reduceMul, Int.reduceBEq, Int.reduceEq, Int.reduceLT, Int.reduceLE, Int.reduceToNat, Int.reduceNeg, Int.reduceBNe]
  simp -implicitDefEqProofs only [↓aP, aQ, ↓reduceIte, Nat.reduceEqDiff, Nat.reduceAdd, Nat.reduceSub, Nat.reduceMul, Nat.reduceLT, Nat.reduceLeDiff, reduceCtorEq, Nat.reduceBEq, forall_const, implies_true, exists_const, ne_eq, Int.reduceAdd, Int.reduceSub, Int.reduceMul, Int.reduceBEq, Int.reduceEq, Int.reduceLT, Int.reduceLE, Int.reduceToNat, Int.reduceNeg, Int.reduceBNe, show decide ((60 : Int) < (os.length : Int)) = false by simp; omega, List.length_map]
  refine shift (sub_nil (s := 3) 3 rfl (by exact Nat.succ_pos _)) ?_
  refine shift (sub_slot (s := 4) 38 37 4 rfl (by exact Nat.succ_pos _)) ?_
  have hall : ∀ i, (allM [] (os.take i)).1.length ≤ i ∧ (allM [] (os.take i)).2.length ≤ i := by
    intro i
    rw [allM_run, allM_len]
    have := runM_len (l := []) (os := os.take i)
    simp only [List.length_take, List.length_nil] at this ⊢
    omega
  refine rangeB os.length (fun i σ => ∃ x rs g, (x, rs) = allM [] (os.take i) ∧ σ.slot 0 = vL 3 (os.map encOp) ∧ σ.slot 3 = .c (.s (.sl 3 (x.map encPg))) ∧ σ.slot 4 = .c (.own 38 g) ∧ σ.h.gen 38 = g ∧ σ.h.blk 38 = .row 37 4 (rs.map encRs) ∧ σ.slot 17 = vL 3 (os.map encOp) ∧ σ.slot 18 = vI os.length ∧ σ.slot 19 = vI i) ?_ ?_ ?_
  · simp -implicitDefEqProofs only [↓aP, aQ, ↓reduceIte, Nat.reduceEqDiff, Nat.reduceAdd, Nat.reduceSub, Nat.reduceMul, Nat.reduceLT, Nat.reduceLeDiff, reduceCtorEq, Nat.reduceBEq, forall_const, implies_true, exists_const, ne_eq, Int.reduceAdd, Int.reduceSub, Int.reduceMul, Int.reduceBEq, Int.reduceEq, Int.reduceLT, Int.reduceLE, Int.reduceToNat, Int.reduceNeg, Int.reduceBNe]
    exact ⟨[], [], 1, by simp [allM]⟩
  · rintro i k σ him hi hlt ⟨x, rs, g, hx, s0, s3, s4, g38, b38, s17, s18, s19⟩
    have hxl := hall i
    rw [← hx] at hxl
    simp only at hxl
    simp -implicitDefEqProofs only [↓aP, aQ, ↓reduceIte, Nat.reduceEqDiff, Nat.reduceAdd, Nat.reduceSub, Nat.reduceMul, Nat.reduceLT, Nat.reduceLeDiff, reduceCtorEq, Nat.reduceBEq, forall_const, implies_true, exists_const, ne_eq, Int.reduceAdd, Int.reduceSub, Int.reduceMul, Int.reduceBEq, Int.reduceEq, Int.reduceLT, Int.reduceLE, Int.reduceToNat, Int.reduceNeg, Int.reduceBNe, hlt, s0, s3, s4, g38, b38, s17, s18, s19, askIdx_map, hi, encOp]
    by_cases h100 : 100 < os[i].body.size
    · simp -implicitDefEqProofs only [↓aP, aQ, ↓reduceIte, Nat.reduceEqDiff, Nat.reduceAdd, Nat.reduceSub, Nat.reduceMul, Nat.reduceLT, Nat.reduceLeDiff, reduceCtorEq, Nat.reduceBEq, forall_const, implies_true, exists_const, ne_eq, Int.reduceAdd, Int.reduceSub, Int.reduceMul, Int.reduceBEq, Int.reduceEq, Int.reduceLT, Int.reduceLE, Int.reduceToNat, Int.reduceNeg, Int.reduceBNe, show decide ((100 : Int) < (os[i].body.size : Int)) = true by simp; omega]
      refine ask awake_spec ?_
      simp -implicitDefEqProofs only [↓aP, aQ, ↓reduceIte, Nat.reduceEqDiff, Nat.reduceAdd, Nat.reduceSub, Nat.reduceMul, Nat.reduceLT, Nat.reduceLeDiff, reduceCtorEq, Nat.reduceBEq, forall_const, implies_true, exists_const, ne_eq, Int.reduceAdd, Int.reduceSub, Int.reduceMul, Int.reduceBEq, Int.reduceEq, Int.reduceLT, Int.reduceLE, Int.reduceToNat, Int.reduceNeg, Int.reduceBNe]
    simp -implicitDefEqProofs only [↓aP, aQ, ↓reduceIte, Nat.reduceEqDiff, Nat.reduceAdd, Nat.reduceSub, Nat.reduceMul, Nat.reduceLT, Nat.reduceLeDiff, reduceCtorEq, Nat.reduceBEq, forall_const, implies_true, exists_const, ne_eq, Int.reduceAdd, Int.reduceSub, Int.reduceMul, Int.reduceBEq, Int.reduceEq, Int.reduceLT, Int.reduceLE, Int.reduceToNat, Int.reduceNeg, Int.reduceBNe, show decide ((100 : Int) < (os[i].body.size : Int)) = false by simp; omega, s0, s3, s4, g38, b38, s17, s18, s19, encOp]
    refine ask (rDo_spec x os[i] (by omega)) ?_
    simp -implicitDefEqProofs only [↓aP, aQ, ↓reduceIte, Nat.reduceEqDiff, Nat.reduceAdd, Nat.reduceSub, Nat.reduceMul, Nat.reduceLT, Nat.reduceLeDiff, reduceCtorEq, Nat.reduceBEq, forall_const, implies_true, exists_const, ne_eq, Int.reduceAdd, Int.reduceSub, Int.reduceMul, Int.reduceBEq, Int.reduceEq, Int.reduceLT, Int.reduceLE, Int.reduceToNat, Int.reduceNeg, Int.reduceBNe, encDo2, encRs, s0, s3, s4, g38, b38, s17, s18, s19, List.length_map, wrapS (show i < 4611686018427387904 by omega)]
    refine ⟨by omega, by omega, ?_⟩
    refine nextR hi him ⟨(doM x os[i]).1, rs ++ [(doM x os[i]).2], g + 1, ?_, ?_⟩
    · rw [take_snoc hi, allM_snoc, ← hx]
    · simp -implicitDefEqProofs only [↓aP, aQ, ↓reduceIte, Nat.reduceEqDiff, Nat.reduceAdd, Nat.reduceSub, Nat.reduceMul, Nat.reduceLT, Nat.reduceLeDiff, reduceCtorEq, Nat.reduceBEq, forall_const, implies_true, exists_const, ne_eq, Int.reduceAdd, Int.reduceSub, Int.reduceMul, Int.reduceBEq, Int.reduceEq, Int.reduceLT, Int.reduceLE, Int.reduceToNat, Int.reduceNeg, Int.reduceBNe, s0, s3, s4, g38, b38, s17, s18, s19, encRs, List.map_append]
  · rintro k σ hlt ⟨x, rs, g, hx, s0, s3, s4, g38, b38, s17, s18, s19⟩
    have hxl := hall os.length
    rw [← hx] at hxl
    rw [List.take_length] at hx
    simp only at hxl
    have hal := oAll_spec [] os (by simp; omega)
    rw [← hx] at hal
    obtain ⟨GA, hGA⟩ : ∃ G, σ.h.gen 9 = G := ⟨_, rfl⟩
    simp -implicitDefEqProofs only [↓aP, aQ, ↓reduceIte, Nat.reduceEqDiff, Nat.reduceAdd, Nat.reduceSub, Nat.reduceMul, Nat.reduceLT, Nat.reduceLeDiff, reduceCtorEq, Nat.reduceBEq, forall_const, implies_true, exists_const, ne_eq, Int.reduceAdd, Int.reduceSub, Int.reduceMul, Int.reduceBEq, Int.reduceEq, Int.reduceLT, Int.reduceLE, Int.reduceToNat, Int.reduceNeg, Int.reduceBNe, hlt, s0, s3, s4, g38, b38, s17, s18, s19]
    refine askS hal (by simp -implicitDefEqProofs only [↓aP, aQ, ↓reduceIte, Nat.reduceEqDiff, Nat.reduceAdd, Nat.reduceSub, Nat.reduceMul, Nat.reduceLT, Nat.reduceLeDiff, reduceCtorEq, Nat.reduceBEq, forall_const, implies_true, exists_const, ne_eq, Int.reduceAdd, Int.reduceSub, Int.reduceMul, Int.reduceBEq, Int.reduceEq, Int.reduceLT, Int.reduceLE, Int.reduceToNat, Int.reduceNeg, Int.reduceBNe, encMap]) ?_
    simp -implicitDefEqProofs only [↓aP, aQ, ↓reduceIte, Nat.reduceEqDiff, Nat.reduceAdd, Nat.reduceSub, Nat.reduceMul, Nat.reduceLT, Nat.reduceLeDiff, reduceCtorEq, Nat.reduceBEq, forall_const, implies_true, exists_const, ne_eq, Int.reduceAdd, Int.reduceSub, Int.reduceMul, Int.reduceBEq, Int.reduceEq, Int.reduceLT, Int.reduceLE, Int.reduceToNat, Int.reduceNeg, Int.reduceBNe, encAll, encMap, s0, s3, s4, g38, b38, s17, s18, s19, List.length_map, bne_self_eq_false, hGA]
    refine ask (rSame_spec x (by omega)) ?_
    simp -implicitDefEqProofs only [↓aP, aQ, ↓reduceIte, Nat.reduceEqDiff, Nat.reduceAdd, Nat.reduceSub, Nat.reduceMul, Nat.reduceLT, Nat.reduceLeDiff, reduceCtorEq, Nat.reduceBEq, forall_const, implies_true, exists_const, ne_eq, Int.reduceAdd, Int.reduceSub, Int.reduceMul, Int.reduceBEq, Int.reduceEq, Int.reduceLT, Int.reduceLE, Int.reduceToNat, Int.reduceNeg, Int.reduceBNe, encMap, s0, s3, s4, g38, b38, s17, s18, s19, List.length_map, hGA]
    refine rangeB rs.length (fun i σ => ∃ g, σ.slot 4 = .c (.own 38 g) ∧ σ.h.gen 38 = g ∧ σ.h.blk 38 = .row 37 4 (rs.map encRs) ∧ σ.slot 9 = .c (.ptr 9 (GA + 1) 0 0) ∧ σ.h.gen 9 = GA + 1 ∧ σ.h.blk 9 = .box 24 1 [(encMap x).map AC.s] ∧ σ.slot 58 = vL 4 (rs.map encRs) ∧ σ.slot 59 = vI rs.length ∧ σ.slot 60 = vI i) ?_ ?_ ?_
    · simp -implicitDefEqProofs only [↓aP, aQ, ↓reduceIte, Nat.reduceEqDiff, Nat.reduceAdd, Nat.reduceSub, Nat.reduceMul, Nat.reduceLT, Nat.reduceLeDiff, reduceCtorEq, Nat.reduceBEq, forall_const, implies_true, exists_const, ne_eq, Int.reduceAdd, Int.reduceSub, Int.reduceMul, Int.reduceBEq, Int.reduceEq, Int.reduceLT, Int.reduceLE, Int.reduceToNat, Int.reduceNeg, Int.reduceBNe, s0, s3, s4, g38, b38, s17, s18, s19, encMap, hGA]
      exact ⟨_, rfl, rfl⟩
    · clear hlt s0 s3 s4 g38 b38 s17 s18 s19 hGA
      rintro i k σ him hi hlt ⟨g, s4, g38, b38, s9, g9, b9, s58, s59, s60⟩
      simp -implicitDefEqProofs only [↓aP, aQ, ↓reduceIte, Nat.reduceEqDiff, Nat.reduceAdd, Nat.reduceSub, Nat.reduceMul, Nat.reduceLT, Nat.reduceLeDiff, reduceCtorEq, Nat.reduceBEq, forall_const, implies_true, exists_const, ne_eq, Int.reduceAdd, Int.reduceSub, Int.reduceMul, Int.reduceBEq, Int.reduceEq, Int.reduceLT, Int.reduceLE, Int.reduceToNat, Int.reduceNeg, Int.reduceBNe, hlt, s4, g38, b38, s9, g9, b9, s58, s59, s60, askIdx_map, hi, encRs, bne_self_eq_false]
      refine askEq (eq_pg rs[i].p) ?_
      simp -implicitDefEqProofs only [↓aP, aQ, ↓reduceIte, Nat.reduceEqDiff, Nat.reduceAdd, Nat.reduceSub, Nat.reduceMul, Nat.reduceLT, Nat.reduceLeDiff, reduceCtorEq, Nat.reduceBEq, forall_const, implies_true, exists_const, ne_eq, Int.reduceAdd, Int.reduceSub, Int.reduceMul, Int.reduceBEq, Int.reduceEq, Int.reduceLT, Int.reduceLE, Int.reduceToNat, Int.reduceNeg, Int.reduceBNe, s4, g38, b38, s9, g9, b9, s58, s59, s60, wrapS (show i < 4611686018427387904 by omega)]
      refine ⟨by decide +kernel, ?_⟩
      refine nextR hi him ⟨g, ?_⟩
      simp -implicitDefEqProofs only [↓aP, aQ, ↓reduceIte, Nat.reduceEqDiff, Nat.reduceAdd, Nat.reduceSub, Nat.reduceMul, Nat.reduceLT, Nat.reduceLeDiff, reduceCtorEq, Nat.reduceBEq, forall_const, implies_true, exists_const, ne_eq, Int.reduceAdd, Int.reduceSub, Int.reduceMul, Int.reduceBEq, Int.reduceEq, Int.reduceLT, Int.reduceLE, Int.reduceToNat, Int.reduceNeg, Int.reduceBNe, s4, g38, b38, s9, g9, b9, s58, s59, s60, encMap]
    · clear hlt s0 s3 s4 g38 b38 s17 s18 s19 hGA
      rintro k σ hlt ⟨g, s4, g38, b38, s9, g9, b9, s58, s59, s60⟩
      simp -implicitDefEqProofs only [↓aP, aQ, ↓reduceIte, Nat.reduceEqDiff, Nat.reduceAdd, Nat.reduceSub, Nat.reduceMul, Nat.reduceLT, Nat.reduceLeDiff, reduceCtorEq, Nat.reduceBEq, forall_const, implies_true, exists_const, ne_eq, Int.reduceAdd, Int.reduceSub, Int.reduceMul, Int.reduceBEq, Int.reduceEq, Int.reduceLT, Int.reduceLE, Int.reduceToNat, Int.reduceNeg, Int.reduceBNe, hlt, s4, g38, b38, s9, g9, b9, s58, s59, s60, encMap]
      have hrx : rightM x = true := by
        have key : ∀ (os : List Opr) (l : List Pg), rightM l = true → rightM (allM l os).1 = true := by
          intro os
          induction os with
          | nil => intro l h; exact h
          | cons o os ih => intro l h; exact ih _ (do_good h).1
        have := key os [] rfl
        rw [← hx] at this
        exact this
      refine ask (oRight_spec x (by omega)) ?_
      simp -implicitDefEqProofs only [↓aP, aQ, ↓reduceIte, Nat.reduceEqDiff, Nat.reduceAdd, Nat.reduceSub, Nat.reduceMul, Nat.reduceLT, Nat.reduceLeDiff, reduceCtorEq, Nat.reduceBEq, forall_const, implies_true, exists_const, ne_eq, Int.reduceAdd, Int.reduceSub, Int.reduceMul, Int.reduceBEq, Int.reduceEq, Int.reduceLT, Int.reduceLE, Int.reduceToNat, Int.reduceNeg, Int.reduceBNe, hrx]
      refine ask awake_spec ?_
      simp -implicitDefEqProofs only [↓aP, aQ, ↓reduceIte, Nat.reduceEqDiff, Nat.reduceAdd, Nat.reduceSub, Nat.reduceMul, Nat.reduceLT, Nat.reduceLeDiff, reduceCtorEq, Nat.reduceBEq, forall_const, implies_true, exists_const, ne_eq, Int.reduceAdd, Int.reduceSub, Int.reduceMul, Int.reduceBEq, Int.reduceEq, Int.reduceLT, Int.reduceLE, Int.reduceToNat, Int.reduceNeg, Int.reduceBNe]
theorem opsAll_walk {w : World} (v0 : Value) (a0 : ∃ l : List Opr, l.length ≤ maxLen ∧ RepT (RepS w fun _ => False) (rL 3 (l.map encOp)) v0) :
    Calls Try.prog 4 #[v0] w fun e w' => e = .returned (.bool true) ∧ Below w.heap.size w w' := by
  obtain ⟨m, hm, h0⟩ := a0
  unfold maxLen at hm
  exact (lawAll_spec m hm).plain (us := [v0]) (.cons h0 .nil)
end Go.Proofs.Ytpcahlanjffilaa
