/- layer 15: frames, plain; the first contracts. -/
import Derived.Test.YtcindpblgbpcoaaF1
import Derived.Test.YtcindpblgbpcoaaT3
import Derived.Laws.StructEq
namespace Go.Proofs.Ytcindpblgbpcoaa
open Go.RowKit
set_option linter.unusedVariables false
set_option linter.unusedSimpArgs false
structure Pg where
  id : Int
  ver : Int
  body : ByteArray
def zP : Pg := ⟨0, 0, ⟨#[]⟩⟩
def encPg (p : Pg) : List SC := [.pv (.int .i64 p.id), .pv (.int .i64 p.ver), .pv (.string p.body)]
instance : DecidableEq Pg := fun a b => if h : a.id = b.id ∧ a.ver = b.ver ∧ a.body.data.toList = b.body.data.toList then isTrue (by
  obtain ⟨i, v, ⟨⟨l⟩⟩⟩ := a
  obtain ⟨i', v', ⟨⟨l'⟩⟩⟩ := b
  obtain ⟨h1, h2, h3⟩ := h
  simp only at h1 h2 h3
  subst h1 h2 h3; rfl) else isFalse (fun e => h (by rw [e]; exact ⟨rfl, rfl, rfl⟩))
structure Fs where
  ck : Clk
  tb : List Sl
  pg : List Pg
  dt : List It
def encFs (f : Fs) : List SC := [.sl 3 (f.ck.fr.map encFr), .pv (.int .i64 f.ck.hand), .sl 2 (f.tb.map encSl), .sl 3 (f.pg.map encPg), .sl 2 (f.dt.map encIt)]
def zF : Fr := ⟨0, 0, false⟩
def okPg (p : Pg) : Bool := decide (1 ≤ p.id ∧ p.id ≤ 16 ∧ 1 ≤ p.ver ∧ p.ver ≤ 2147483647 ∧ p.body.size ≤ 16)
namespace Fm
def okAt (f : Fs) (k : Nat) : Bool := if (f.ck.fr.getD k zF).page = 0 then decide (f.pg.getD k zP = zP) && ((f.ck.fr.getD k zF).pins == 0) else (((f.ck.fr.getD k zF).page == (f.pg.getD k zP).id) && okPg (f.pg.getD k zP)) && ((Ta.find f.tb (f.ck.fr.getD k zF).page).2 && ((Ta.find f.tb (f.ck.fr.getD k zF).page).1 == (k : Int)))
def taken (l : List Pg) : Nat := l.countP fun p => p.id != 0
def right (f : Fs) : Bool := Ck.right f.ck.fr f.ck.hand && Ta.right f.tb && Dy.right f.dt && (f.pg.length == f.ck.fr.length) && (List.range f.pg.length).all (okAt f) && ((Ta.pgs f.tb).length == taken f.pg) && f.dt.all fun i => (Ta.find f.tb i.page).2
def find (f : Fs) (id : Int) : Int × Bool := if right f = true then Ta.find f.tb id else (0, false)
def locate (f : Fs) (id : Int) : Int × Int := if right f = false then (0, 1) else if (Ta.find f.tb id).2 = false then (0, 3) else ((Ta.find f.tb id).1, 0)
def ff (f : Fs) : Int := fst? (fun c : Fr => c.page == 0) f.ck.fr
def lay (f : Fs) (k : Nat) (c : Fr) (p : Pg) : Fs := ⟨⟨f.ck.fr.set k c, f.ck.hand⟩, f.tb, f.pg.set k p, f.dt⟩
def empty (f : Fs) (k : Nat) : Fs := ⟨⟨f.ck.fr.set k zF, f.ck.hand⟩, (Ta.del f.tb (f.pg.getD k zP).id).1, f.pg.set k zP, (cleanI f.dt (f.pg.getD k zP).id).1⟩
def mark (f : Fs) (id now : Int) : Fs × Int := (⟨f.ck, f.tb, f.pg, (markI f.dt id now).1⟩, (markI f.dt id now).2)
def room (f : Fs) : Fs × Pg × Bool × Int := if right f = false then (f, zP, false, 1) else if 0 ≤ ff f then (f, zP, false, 0) else if (sweepC f.ck).2.2 = false then (f, zP, false, 6) else
  if (sinceI f.dt (f.pg.getD (sweepC f.ck).2.1.toNat zP).id).2 = true then (⟨(sweepC f.ck).1, f.tb, f.pg, f.dt⟩, f.pg.getD (sweepC f.ck).2.1.toNat zP, true, 0) else (empty ⟨(sweepC f.ck).1, f.tb, f.pg, f.dt⟩ (sweepC f.ck).2.1.toNat, f.pg.getD (sweepC f.ck).2.1.toNat zP, false, 0)
def load (f : Fs) (p : Pg) (now : Int) (fresh : Bool) : Fs × Int := if right f = false ∨ okPg p = false ∨ now < 0 ∨ 2147483647 < now then (f, 1) else if (Ta.find f.tb p.id).2 = true then (f, 4) else if ff f < 0 then (f, 7) else
  if fresh = true then (if (mark ⟨⟨f.ck.fr.set (ff f).toNat ⟨p.id, 1, true⟩, f.ck.hand⟩, (Ta.put f.tb p.id (ff f)).1, f.pg.set (ff f).toNat p, f.dt⟩ p.id now).2 ≠ 0 then (f, (mark ⟨⟨f.ck.fr.set (ff f).toNat ⟨p.id, 1, true⟩, f.ck.hand⟩, (Ta.put f.tb p.id (ff f)).1, f.pg.set (ff f).toNat p, f.dt⟩ p.id now).2) else ((mark ⟨⟨f.ck.fr.set (ff f).toNat ⟨p.id, 1, true⟩, f.ck.hand⟩, (Ta.put f.tb p.id (ff f)).1, f.pg.set (ff f).toNat p, f.dt⟩ p.id now).1, 0))
  else (⟨⟨f.ck.fr.set (ff f).toNat ⟨p.id, 1, true⟩, f.ck.hand⟩, (Ta.put f.tb p.id (ff f)).1, f.pg.set (ff f).toNat p, f.dt⟩, 0)
def unpin (f : Fs) (id : Int) : Fs × Int := if (locate f id).2 ≠ 0 then (f, (locate f id).2) else if (f.ck.fr.getD (locate f id).1.toNat zF).pins = 0 then (f, 12) else (lay f (locate f id).1.toNat ⟨(f.ck.fr.getD (locate f id).1.toNat zF).page, (f.ck.fr.getD (locate f id).1.toNat zF).pins - 1, (f.ck.fr.getD (locate f id).1.toNat zF).used⟩ (f.pg.getD (locate f id).1.toNat zP), 0)
def newF (n : Int) : Fs × Int := if 1 ≤ n ∧ n ≤ 8 then (⟨⟨List.replicate n.toNat zF, 0⟩, List.replicate 16 Ta.z, List.replicate n.toNat zP, []⟩, 0) else (⟨⟨[], 0⟩, [], [], []⟩, 1)
end Fm
theorem clonePg (l : List (List SC)) (hl : l.length * 32 ≤ 2 ^ 47) : Spec Try.prog 99 [.c (.sl 3 l)] (.row 38 3 l) := by
  refine Spec.tag ?_ ?_
  · intro h
    subst h
    refine spec_row mixed fn99 (by simp) ?_
    unfold ac99
    simp -implicitDefEqProofs only [↓aP, aQ, ↓reduceIte, Nat.reduceEqDiff, Nat.reduceAdd, Nat.reduceSub, Nat.reduceMul, Nat.reduceLT, Nat.reduceLeDiff, reduceCtorEq, Nat.reduceBEq, forall_const, implies_true, exists_const, ne_eq, Int.reduceAdd, Int.reduceSub, Int.reduceMul, Int.reduceBEq, Int.reduceEq, Int.reduceLT, Int.reduceLE, Int.reduceToNat, Int.reduceNeg, Int.reduceBNe]
  · refine spec_row mixed fn99 (by simp) ?_
    unfold ac99
    simp -implicitDefEqProofs only [↓aP, aQ, ↓reduceIte, Nat.reduceEqDiff, Nat.reduceAdd, Nat.reduceSub, Nat.reduceMul, Nat.reduceLT, Nat.reduceLeDiff, reduceCtorEq, Nat.reduceBEq, forall_const, implies_true, exists_const, ne_eq, Int.reduceAdd, Int.reduceSub, Int.reduceMul, Int.reduceBEq, Int.reduceEq, Int.reduceLT, Int.reduceLE, Int.reduceToNat, Int.reduceNeg, Int.reduceBNe]
    refine ⟨?_, ?_⟩ <;> omega

theorem fields_pg : Try.prog.underlying 38 = some (.struct (Try.prog.fieldsOf 38)) := by kernel_rfl
theorem held_pg : Try.prog.stoodInHeld 38 = false := by kernel_rfl
theorem fieldsL_pg : ((Try.prog.fieldsOf 38).toList.map fun f => (f.type, f.offset)) = [(3, 0), (3, 1), (9, 2)] := by kernel_rfl
theorem tl_eq (a b : ByteArray) (h : a.toList = b.toList) : a = b := by
  obtain ⟨⟨l⟩⟩ := a
  obtain ⟨⟨l'⟩⟩ := b
  rw [ByteArray.toList_eq, ByteArray.toList_eq] at h
  exact congrArg ByteArray.mk (Array.toList_inj.1 h)
set_option maxRecDepth 100000 in
theorem eq_pg (x y : Pg) : EqRun Try.prog 38 [.int .i64 x.id, .int .i64 x.ver, .string x.body] [.int .i64 y.id, .int .i64 y.ver, .string y.body] (decide (x = y)) := by
  intro w
  rw [run_eql_struct, run_equalIn_agg w 9999 _ _ _ fields_pg held_pg]
  by_cases h1 : x.id = y.id
  · by_cases h2 : x.ver = y.ver
    · by_cases h3 : x.body = y.body
      · have e : x = y := by cases x; cases y; simp_all
        subst e
        rw [decide_eq_true rfl]
        go_simp
      · rw [decide_eq_false (fun e => h3 (by rw [e]))]
        go_simp
        intro e
        exact h3 (tl_eq _ _ e)
    · rw [decide_eq_false (fun e => h2 (by rw [e]))]
      go_simp
  · rw [decide_eq_false (fun e => h1 (by rw [e]))]
    go_simp
theorem eqP {x y : Pg} (h : x = y) : EqRun Try.prog 38 [.int .i64 x.id, .int .i64 x.ver, .string x.body] [.int .i64 y.id, .int .i64 y.ver, .string y.body] true := by
  have := eq_pg x y
  rwa [decide_eq_true h] at this
theorem pRight_spec (p : Pg) : Spec Try.prog 69 [.agg (encPg p)] (.val (rB (okPg p))) := by
  refine spec_val mixed fn69 (by simp) ?_
  unfold ac69
  simp -implicitDefEqProofs only [↓aP, aQ, ↓reduceIte, Nat.reduceEqDiff, Nat.reduceAdd, Nat.reduceSub, Nat.reduceMul, Nat.reduceLT, Nat.reduceLeDiff, reduceCtorEq, Nat.reduceBEq, forall_const, implies_true, exists_const, ne_eq, Int.reduceAdd, Int.reduceSub, Int.reduceMul, Int.reduceBEq, Int.reduceEq, Int.reduceLT, Int.reduceLE, Int.reduceToNat, Int.reduceNeg, Int.reduceBNe, encPg]
  repeat' ((first | ((first | with_reducible refine fork ?_ ?_ | with_reducible refine gcase ?_ ?_ | with_reducible refine gcaseD ?_ ?_) <;> intro hc <;> (have hp := hc) <;> (try simp only [aB] at hp)) | (have hc := True.intro; first | with_reducible refine askM (by omega) ?_ | with_reducible refine And.intro (by first | omega | decide +kernel) ?_ | fail)) <;> (try simp -implicitDefEqProofs only [↓aP, aQ, ↓reduceIte, Nat.reduceEqDiff, Nat.reduceAdd, Nat.reduceSub, Nat.reduceMul, Nat.reduceLT, Nat.reduceLeDiff, reduceCtorEq, Nat.reduceBEq, forall_const, implies_true, exists_const, ne_eq, Int.reduceAdd, Int.reduceSub, Int.reduceMul, Int.reduceBEq, Int.reduceEq, Int.reduceLT, Int.reduceLE, Int.reduceToNat, Int.reduceNeg, Int.reduceBNe, hc]))
  all_goals (unfold okPg; first | (symm; rw [decide_eq_false_iff_not]; omega) | (rw [decide_eq_decide]; omega) | all_goals (trace_state; sorry))
theorem ff1_spec (x : Fr) : Spec Try.prog 92 [.agg (encFr x)] (.val (rB (x.page == 0))) := by
  refine spec_val mixed fn92 (by simp) ?_
  unfold ac92
  simp -implicitDefEqProofs only [↓aP, aQ, ↓reduceIte, Nat.reduceEqDiff, Nat.reduceAdd, Nat.reduceSub, Nat.reduceMul, Nat.reduceLT, Nat.reduceLeDiff, reduceCtorEq, Nat.reduceBEq, forall_const, implies_true, exists_const, ne_eq, Int.reduceAdd, Int.reduceSub, Int.reduceMul, Int.reduceBEq, Int.reduceEq, Int.reduceLT, Int.reduceLE, Int.reduceToNat, Int.reduceNeg, Int.reduceBNe, encFr]
theorem ff_spec (f : Fs) (hl : f.ck.fr.length < 4611686018427387904) : Spec Try.prog 57 [.agg (encFs f)] (.val (rI (Fm.ff f))) := by
  refine spec_val mixed fn57 (by simp) ?_
  unfold ac57
  simp -implicitDefEqProofs only [↓aP, aQ, ↓reduceIte, Nat.reduceEqDiff, Nat.reduceAdd, Nat.reduceSub, Nat.reduceMul, Nat.reduceLT, Nat.reduceLeDiff, reduceCtorEq, Nat.reduceBEq, forall_const, implies_true, exists_const, ne_eq, Int.reduceAdd, Int.reduceSub, Int.reduceMul, Int.reduceBEq, Int.reduceEq, Int.reduceLT, Int.reduceLE, Int.reduceToNat, Int.reduceNeg, Int.reduceBNe, encFs]
  refine ask (idxFr_spec f.ck.fr (fun x => x.page == 0) 92 [] (by kernel_rfl) (fun x => ff1_spec x) hl) ?_
  simp -implicitDefEqProofs only [↓aP, aQ, ↓reduceIte, Nat.reduceEqDiff, Nat.reduceAdd, Nat.reduceSub, Nat.reduceMul, Nat.reduceLT, Nat.reduceLeDiff, reduceCtorEq, Nat.reduceBEq, forall_const, implies_true, exists_const, ne_eq, Int.reduceAdd, Int.reduceSub, Int.reduceMul, Int.reduceBEq, Int.reduceEq, Int.reduceLT, Int.reduceLE, Int.reduceToNat, Int.reduceNeg, Int.reduceBNe]
  rfl
theorem lay_spec (f : Fs) (k : Nat) (c : Fr) (p : Pg) (h1 : k < f.ck.fr.length) (h2 : k < f.pg.length) (hl : f.ck.fr.length ≤ 1000000 ∧ f.pg.length ≤ 1000000) : Spec Try.prog 62 [.agg (encFs f), rI (k : Int), .agg (encFr c), .agg (encPg p)] (.val (.agg (encFs (Fm.lay f k c p)))) := by
  refine spec_val mixed fn62 (by simp) ?_
  unfold ac62
  simp -implicitDefEqProofs only [↓aP, aQ, ↓reduceIte, Nat.reduceEqDiff, Nat.reduceAdd, Nat.reduceSub, Nat.reduceMul, Nat.reduceLT, Nat.reduceLeDiff, reduceCtorEq, Nat.reduceBEq, forall_const, implies_true, exists_const, ne_eq, Int.reduceAdd, Int.reduceSub, Int.reduceMul, Int.reduceBEq, Int.reduceEq, Int.reduceLT, Int.reduceLE, Int.reduceToNat, Int.reduceNeg, Int.reduceBNe, encFs, encFr, encPg]
  refine ask (cloneFr _ (by simp; omega)) ?_
  simp -implicitDefEqProofs only [↓aP, aQ, ↓reduceIte, Nat.reduceEqDiff, Nat.reduceAdd, Nat.reduceSub, Nat.reduceMul, Nat.reduceLT, Nat.reduceLeDiff, reduceCtorEq, Nat.reduceBEq, forall_const, implies_true, exists_const, ne_eq, Int.reduceAdd, Int.reduceSub, Int.reduceMul, Int.reduceBEq, Int.reduceEq, Int.reduceLT, Int.reduceLE, Int.reduceToNat, Int.reduceNeg, Int.reduceBNe, encFs, askIdx_map, h1, encFr]
  have m1 : (f.ck.fr.map encFr).set k [.pv (.int .i64 c.page), .pv (.int .i64 c.pins), .pv (.bool c.used)] = (f.ck.fr.set k c).map encFr := by rw [List.map_set]; rfl
  have m2 : (f.pg.map encPg).set k [.pv (.int .i64 p.id), .pv (.int .i64 p.ver), .pv (.string p.body)] = (f.pg.set k p).map encPg := by rw [List.map_set]; rfl
  refine ask (clonePg _ (by simp; omega)) ?_
  simp -implicitDefEqProofs only [↓aP, aQ, ↓reduceIte, Nat.reduceEqDiff, Nat.reduceAdd, Nat.reduceSub, Nat.reduceMul, Nat.reduceLT, Nat.reduceLeDiff, reduceCtorEq, Nat.reduceBEq, forall_const, implies_true, exists_const, ne_eq, Int.reduceAdd, Int.reduceSub, Int.reduceMul, Int.reduceBEq, Int.reduceEq, Int.reduceLT, Int.reduceLE, Int.reduceToNat, Int.reduceNeg, Int.reduceBNe, encFs, askIdx_map, h2, encPg, m1, m2, Fm.lay]
theorem fr_getD {l : List Fr} {k : Nat} (h : k < l.length) : l.getD k zF = l[k] := by rw [List.getD_eq_getElem?_getD, List.getElem?_eq_getElem h]; rfl
theorem pg_getD {l : List Pg} {k : Nat} (h : k < l.length) : l.getD k zP = l[k] := by rw [List.getD_eq_getElem?_getD, List.getElem?_eq_getElem h]; rfl
set_option maxRecDepth 100000 in
theorem okAt_spec (f : Fs) (k : Nat) (h1 : k < f.ck.fr.length) (h2 : k < f.pg.length) : Spec Try.prog 49 [.agg (encFs f), rI (k : Int)] (.val (rB (Fm.okAt f k))) := by
  refine spec_val mixed fn49 (by simp) ?_
  unfold ac49
  have e1 := fr_getD h1
  have e2 := pg_getD h2
  simp -implicitDefEqProofs only [↓aP, aQ, ↓reduceIte, Nat.reduceEqDiff, Nat.reduceAdd, Nat.reduceSub, Nat.reduceMul, Nat.reduceLT, Nat.reduceLeDiff, reduceCtorEq, Nat.reduceBEq, forall_const, implies_true, exists_const, ne_eq, Int.reduceAdd, Int.reduceSub, Int.reduceMul, Int.reduceBEq, Int.reduceEq, Int.reduceLT, Int.reduceLE, Int.reduceToNat, Int.reduceNeg, Int.reduceBNe, encFs, askIdx_map, h1, h2, encFr, encPg]
  have tf := tFind_spec f.tb f.ck.fr[k].page
  rw [encTa] at tf
  have pr := pRight_spec f.pg[k]
  rw [encPg] at pr
  by_cases hp : f.ck.fr[k].page = 0
  · simp -implicitDefEqProofs only [↓aP, aQ, ↓reduceIte, Nat.reduceEqDiff, Nat.reduceAdd, Nat.reduceSub, Nat.reduceMul, Nat.reduceLT, Nat.reduceLeDiff, reduceCtorEq, Nat.reduceBEq, forall_const, implies_true, exists_const, ne_eq, Int.reduceAdd, Int.reduceSub, Int.reduceMul, Int.reduceBEq, Int.reduceEq, Int.reduceLT, Int.reduceLE, Int.reduceToNat, Int.reduceNeg, Int.reduceBNe, hp, beq_self_eq_true]
    repeat (refine And.intro (by decide +kernel) ?_)
    refine askEq (eq_pg f.pg[k] zP) ?_
    have e : Fm.okAt f k = (decide (f.pg[k] = zP) && (f.ck.fr[k].pins == 0)) := by unfold Fm.okAt; rw [e1, e2, if_pos hp]
    rw [e]
    cases decide (f.pg[k] = zP)
    · simp -implicitDefEqProofs only [↓aP, aQ, ↓reduceIte, Nat.reduceEqDiff, Nat.reduceAdd, Nat.reduceSub, Nat.reduceMul, Nat.reduceLT, Nat.reduceLeDiff, reduceCtorEq, Nat.reduceBEq, forall_const, implies_true, exists_const, ne_eq, Int.reduceAdd, Int.reduceSub, Int.reduceMul, Int.reduceBEq, Int.reduceEq, Int.reduceLT, Int.reduceLE, Int.reduceToNat, Int.reduceNeg, Int.reduceBNe, Bool.false_and]
    · simp -implicitDefEqProofs only [↓aP, aQ, ↓reduceIte, Nat.reduceEqDiff, Nat.reduceAdd, Nat.reduceSub, Nat.reduceMul, Nat.reduceLT, Nat.reduceLeDiff, reduceCtorEq, Nat.reduceBEq, forall_const, implies_true, exists_const, ne_eq, Int.reduceAdd, Int.reduceSub, Int.reduceMul, Int.reduceBEq, Int.reduceEq, Int.reduceLT, Int.reduceLE, Int.reduceToNat, Int.reduceNeg, Int.reduceBNe, Bool.true_and]
  · have e : Fm.okAt f k = (((f.ck.fr[k].page == f.pg[k].id) && okPg f.pg[k]) && ((Ta.find f.tb f.ck.fr[k].page).2 && ((Ta.find f.tb f.ck.fr[k].page).1 == (k : Int)))) := by unfold Fm.okAt; rw [e1, e2, if_neg hp]
    simp -implicitDefEqProofs only [↓aP, aQ, ↓reduceIte, Nat.reduceEqDiff, Nat.reduceAdd, Nat.reduceSub, Nat.reduceMul, Nat.reduceLT, Nat.reduceLeDiff, reduceCtorEq, Nat.reduceBEq, forall_const, implies_true, exists_const, ne_eq, Int.reduceAdd, Int.reduceSub, Int.reduceMul, Int.reduceBEq, Int.reduceEq, Int.reduceLT, Int.reduceLE, Int.reduceToNat, Int.reduceNeg, Int.reduceBNe, show (f.ck.fr[k].page == 0) = false from beq_eq_false_iff_ne.2 hp]
    repeat (refine And.intro (by decide +kernel) ?_)
    refine ask tf ?_
    rw [e]
    cases x1 : (f.ck.fr[k].page == f.pg[k].id)
    · simp -implicitDefEqProofs only [↓aP, aQ, ↓reduceIte, Nat.reduceEqDiff, Nat.reduceAdd, Nat.reduceSub, Nat.reduceMul, Nat.reduceLT, Nat.reduceLeDiff, reduceCtorEq, Nat.reduceBEq, forall_const, implies_true, exists_const, ne_eq, Int.reduceAdd, Int.reduceSub, Int.reduceMul, Int.reduceBEq, Int.reduceEq, Int.reduceLT, Int.reduceLE, Int.reduceToNat, Int.reduceNeg, Int.reduceBNe, encSlot, x1, Bool.false_and]
      all_goals (trace_state; sorry)
    · simp -implicitDefEqProofs only [↓aP, aQ, ↓reduceIte, Nat.reduceEqDiff, Nat.reduceAdd, Nat.reduceSub, Nat.reduceMul, Nat.reduceLT, Nat.reduceLeDiff, reduceCtorEq, Nat.reduceBEq, forall_const, implies_true, exists_const, ne_eq, Int.reduceAdd, Int.reduceSub, Int.reduceMul, Int.reduceBEq, Int.reduceEq, Int.reduceLT, Int.reduceLE, Int.reduceToNat, Int.reduceNeg, Int.reduceBNe, encSlot, x1, Bool.true_and]
      refine ask pr ?_
      cases x2 : okPg f.pg[k]
      · simp -implicitDefEqProofs only [↓aP, aQ, ↓reduceIte, Nat.reduceEqDiff, Nat.reduceAdd, Nat.reduceSub, Nat.reduceMul, Nat.reduceLT, Nat.reduceLeDiff, reduceCtorEq, Nat.reduceBEq, forall_const, implies_true, exists_const, ne_eq, Int.reduceAdd, Int.reduceSub, Int.reduceMul, Int.reduceBEq, Int.reduceEq, Int.reduceLT, Int.reduceLE, Int.reduceToNat, Int.reduceNeg, Int.reduceBNe, Bool.false_and]
      · cases x3 : (Ta.find f.tb f.ck.fr[k].page).2
        · simp -implicitDefEqProofs only [↓aP, aQ, ↓reduceIte, Nat.reduceEqDiff, Nat.reduceAdd, Nat.reduceSub, Nat.reduceMul, Nat.reduceLT, Nat.reduceLeDiff, reduceCtorEq, Nat.reduceBEq, forall_const, implies_true, exists_const, ne_eq, Int.reduceAdd, Int.reduceSub, Int.reduceMul, Int.reduceBEq, Int.reduceEq, Int.reduceLT, Int.reduceLE, Int.reduceToNat, Int.reduceNeg, Int.reduceBNe, x3, Bool.true_and, Bool.false_and]
        · simp -implicitDefEqProofs only [↓aP, aQ, ↓reduceIte, Nat.reduceEqDiff, Nat.reduceAdd, Nat.reduceSub, Nat.reduceMul, Nat.reduceLT, Nat.reduceLeDiff, reduceCtorEq, Nat.reduceBEq, forall_const, implies_true, exists_const, ne_eq, Int.reduceAdd, Int.reduceSub, Int.reduceMul, Int.reduceBEq, Int.reduceEq, Int.reduceLT, Int.reduceLE, Int.reduceToNat, Int.reduceNeg, Int.reduceBNe, x3, Bool.true_and]
end Go.Proofs.Ytcindpblgbpcoaa
