/- layer 18: the contracts: write, Do, All. -/
import Derived.Test.YtbpipdgkkdifgaaO3
namespace Go.Proofs.Ytbpipdgkkdifgaa
open Go.RowKit Ok
set_option linter.unusedVariables false
set_option linter.unusedSimpArgs false
def encDo (x : List Pg × Rs) : TV SC := .tup [(true, encMap x.1), (true, encRs x.2)]
theorem oWrite_spec (l : List Pg) (i : Nat) (body : ByteArray) (hi : i < l.length) (hl : l.length < 1000000) (hv : 1 ≤ l[i].ver ∧ l[i].ver ≤ 2147483647) : Spec Try.prog 35 [.agg (encMap l), rI i, rS body] (.val (encDo (writeM l i body))) := by
  refine spec_val mixed fn35 (by simp) ?_
  unfold ac35
  have hg : l.getD i zP = l[i] := by rw [List.getD_eq_getElem?_getD, List.getElem?_eq_getElem hi]; rfl
  have hmap : ∀ z, (l.set i z).map encPg = (l.map encPg).set i (encPg z) := fun z => List.map_set
  simp -implicitDefEqProofs only [↓aP, aQ, ↓reduceIte, Nat.reduceEqDiff, Nat.reduceAdd, Nat.reduceSub, Nat.reduceMul, Nat.reduceLT, Nat.reduceLeDiff, reduceCtorEq, Nat.reduceBEq, forall_const, implies_true, exists_const, ne_eq, Int.reduceAdd, Int.reduceSub, Int.reduceMul, Int.reduceBEq, Int.reduceEq, Int.reduceLT, Int.reduceLE, Int.reduceToNat, Int.reduceNeg, Int.reduceBNe, encMap, encDo, encRs, askIdx_map, hi, encPg]
  by_cases h16 : 16 < body.size
  · have e : writeM l i body = (l, ⟨5, zP⟩) := if_pos h16
    simp -implicitDefEqProofs only [↓aP, aQ, ↓reduceIte, Nat.reduceEqDiff, Nat.reduceAdd, Nat.reduceSub, Nat.reduceMul, Nat.reduceLT, Nat.reduceLeDiff, reduceCtorEq, Nat.reduceBEq, forall_const, implies_true, exists_const, ne_eq, Int.reduceAdd, Int.reduceSub, Int.reduceMul, Int.reduceBEq, Int.reduceEq, Int.reduceLT, Int.reduceLE, Int.reduceToNat, Int.reduceNeg, Int.reduceBNe, show decide ((16 : Int) < (body.size : Int)) = true by simp; omega, e, encMap, encRs, zP]
  by_cases hmax : l[i].ver = 2147483647
  · have e : writeM l i body = (l, ⟨7, zP⟩) := by unfold writeM; rw [if_neg h16, hg, if_pos hmax]
    simp -implicitDefEqProofs only [↓aP, aQ, ↓reduceIte, Nat.reduceEqDiff, Nat.reduceAdd, Nat.reduceSub, Nat.reduceMul, Nat.reduceLT, Nat.reduceLeDiff, reduceCtorEq, Nat.reduceBEq, forall_const, implies_true, exists_const, ne_eq, Int.reduceAdd, Int.reduceSub, Int.reduceMul, Int.reduceBEq, Int.reduceEq, Int.reduceLT, Int.reduceLE, Int.reduceToNat, Int.reduceNeg, Int.reduceBNe, show decide ((16 : Int) < (body.size : Int)) = false by simp; omega, hmax, e, encMap, encRs, zP]
  have e : writeM l i body = (l.set i ⟨l[i].id, l[i].ver + 1, body⟩, ⟨0, ⟨l[i].id, l[i].ver + 1, body⟩⟩) := by unfold writeM; rw [if_neg h16, hg, if_neg hmax]
  simp -implicitDefEqProofs only [↓aP, aQ, ↓reduceIte, Nat.reduceEqDiff, Nat.reduceAdd, Nat.reduceSub, Nat.reduceMul, Nat.reduceLT, Nat.reduceLeDiff, reduceCtorEq, Nat.reduceBEq, forall_const, implies_true, exists_const, ne_eq, Int.reduceAdd, Int.reduceSub, Int.reduceMul, Int.reduceBEq, Int.reduceEq, Int.reduceLT, Int.reduceLE, Int.reduceToNat, Int.reduceNeg, Int.reduceBNe, show decide ((16 : Int) < (body.size : Int)) = false by simp; omega, show (l[i].ver == 2147483647) = false by simpa using hmax, e, encMap, encRs, encPg, show IntKind.i64.wrap (l[i].ver + 1) = l[i].ver + 1 from wrapI (by omega)]
  refine ask (clonePg _ (by simp; omega)) ?_
  simp -implicitDefEqProofs only [↓aP, aQ, ↓reduceIte, Nat.reduceEqDiff, Nat.reduceAdd, Nat.reduceSub, Nat.reduceMul, Nat.reduceLT, Nat.reduceLeDiff, reduceCtorEq, Nat.reduceBEq, forall_const, implies_true, exists_const, ne_eq, Int.reduceAdd, Int.reduceSub, Int.reduceMul, Int.reduceBEq, Int.reduceEq, Int.reduceLT, Int.reduceLE, Int.reduceToNat, Int.reduceNeg, Int.reduceBNe, encMap, encRs, encPg, hmap, hi, askIdx_map, askIdx_set]
  decide +kernel
theorem oDo_spec (l : List Pg) (o : Opr) (hl : l.length < 4611686018427387904) : Spec Try.prog 23 [.agg (encMap l), .agg (encOp o)] (.val (encDo (doM l o))) := by
  refine spec_val mixed fn23 (by simp) ?_
  unfold ac23
  simp -implicitDefEqProofs only [↓aP, aQ, ↓reduceIte, Nat.reduceEqDiff, Nat.reduceAdd, Nat.reduceSub, Nat.reduceMul, Nat.reduceLT, Nat.reduceLeDiff, reduceCtorEq, Nat.reduceBEq, forall_const, implies_true, exists_const, ne_eq, Int.reduceAdd, Int.reduceSub, Int.reduceMul, Int.reduceBEq, Int.reduceEq, Int.reduceLT, Int.reduceLE, Int.reduceToNat, Int.reduceNeg, Int.reduceBNe, encMap, encOp, encDo]
  refine ask (oRight_spec l hl) ?_
  by_cases hb : badO l o
  · have e : doM l o = (l, ⟨1, zP⟩) := if_pos hb
    rw [e]
    unfold badO at hb
    simp -implicitDefEqProofs only [↓aP, aQ, ↓reduceIte, Nat.reduceEqDiff, Nat.reduceAdd, Nat.reduceSub, Nat.reduceMul, Nat.reduceLT, Nat.reduceLeDiff, reduceCtorEq, Nat.reduceBEq, forall_const, implies_true, exists_const, ne_eq, Int.reduceAdd, Int.reduceSub, Int.reduceMul, Int.reduceBEq, Int.reduceEq, Int.reduceLT, Int.reduceLE, Int.reduceToNat, Int.reduceNeg, Int.reduceBNe, encMap, encOp, encRs, zP]
    repeat' ((first | ((first | with_reducible refine fork ?_ ?_ | with_reducible refine gcase ?_ ?_ | with_reducible refine gcaseD ?_ ?_) <;> intro hc <;> (have hp := hc) <;> (try simp only [aB] at hp)) | (have hc := True.intro; first | with_reducible refine askM (by omega) ?_ | with_reducible refine And.intro (by first | omega | decide +kernel) ?_ | fail)) <;> (try simp -implicitDefEqProofs only [↓aP, aQ, ↓reduceIte, Nat.reduceEqDiff, Nat.reduceAdd, Nat.reduceSub, Nat.reduceMul, Nat.reduceLT, Nat.reduceLeDiff, reduceCtorEq, Nat.reduceBEq, forall_const, implies_true, exists_const, ne_eq, Int.reduceAdd, Int.reduceSub, Int.reduceMul, Int.reduceBEq, Int.reduceEq, Int.reduceLT, Int.reduceLE, Int.reduceToNat, Int.reduceNeg, Int.reduceBNe, hc, encMap, encOp, encRs, zP]))
    all_goals (exfalso; rcases hb with h | h | h | h | h <;> first | omega | (simp_all; done) | (simp_all; omega))
  have hgood : rightM l = true ∧ 1 ≤ o.kind ∧ o.kind ≤ 4 ∧ 1 ≤ o.id ∧ o.id ≤ 16 := by
    unfold badO at hb
    simp only [not_or, Bool.not_eq_false, Int.not_lt] at hb
    exact hb
  obtain ⟨hr, k1, k2, i1, i2⟩ := hgood
  have hm := (right_iff.1 hr).2
  have h16 := right_len hr
  simp -implicitDefEqProofs only [↓aP, aQ, ↓reduceIte, Nat.reduceEqDiff, Nat.reduceAdd, Nat.reduceSub, Nat.reduceMul, Nat.reduceLT, Nat.reduceLeDiff, reduceCtorEq, Nat.reduceBEq, forall_const, implies_true, exists_const, ne_eq, Int.reduceAdd, Int.reduceSub, Int.reduceMul, Int.reduceBEq, Int.reduceEq, Int.reduceLT, Int.reduceLE, Int.reduceToNat, Int.reduceNeg, Int.reduceBNe, hr, show decide (o.kind < 1) = false by simp; omega, show decide (4 < o.kind) = false by simp; omega, show decide (o.id < 1) = false by simp; omega, show decide (16 < o.id) = false by simp; omega, encMap, encOp]
  refine ask (place_spec l o.id hm (by omega)) ?_
  have hmap : ∀ z i, (l.set i z).map encPg = (l.map encPg).set i (encPg z) := fun z i => List.map_set
  by_cases hk1 : o.kind = 1
  · have kk : (o.kind == 1) = true := by simp [hk1]
    have kk2 : (o.kind != 1) = false := by simp [hk1]
    cases hh : hasM l o.id
    · have e : doM l o = (l.take (posM l o.id) ++ [newP o.id] ++ l.drop (posM l o.id), ⟨0, newP o.id⟩) := by unfold doM; rw [if_neg hb, if_pos hk1, if_neg (by simp [hh])]
      simp -implicitDefEqProofs only [↓aP, aQ, ↓reduceIte, Nat.reduceEqDiff, Nat.reduceAdd, Nat.reduceSub, Nat.reduceMul, Nat.reduceLT, Nat.reduceLeDiff, reduceCtorEq, Nat.reduceBEq, forall_const, implies_true, exists_const, ne_eq, Int.reduceAdd, Int.reduceSub, Int.reduceMul, Int.reduceBEq, Int.reduceEq, Int.reduceLT, Int.reduceLE, Int.reduceToNat, Int.reduceNeg, Int.reduceBNe, kk, kk2, hh, encMap, encOp, encRs, e]
      refine ask (clonePg _ (by simp; omega)) ?_
      simp -implicitDefEqProofs only [↓aP, aQ, ↓reduceIte, Nat.reduceEqDiff, Nat.reduceAdd, Nat.reduceSub, Nat.reduceMul, Nat.reduceLT, Nat.reduceLeDiff, reduceCtorEq, Nat.reduceBEq, forall_const, implies_true, exists_const, ne_eq, Int.reduceAdd, Int.reduceSub, Int.reduceMul, Int.reduceBEq, Int.reduceEq, Int.reduceLT, Int.reduceLE, Int.reduceToNat, Int.reduceNeg, Int.reduceBNe, kk, kk2, hh, encMap, encOp, encRs, e]
      refine askX2 (insPg_spec (l.map encPg) (posM l o.id) (encPg (newP o.id)) (by simpa using pos_le) (by simp; omega)) (by simp -implicitDefEqProofs only [↓aP, aQ, ↓reduceIte, Nat.reduceEqDiff, Nat.reduceAdd, Nat.reduceSub, Nat.reduceMul, Nat.reduceLT, Nat.reduceLeDiff, reduceCtorEq, Nat.reduceBEq, forall_const, implies_true, exists_const, ne_eq, Int.reduceAdd, Int.reduceSub, Int.reduceMul, Int.reduceBEq, Int.reduceEq, Int.reduceLT, Int.reduceLE, Int.reduceToNat, Int.reduceNeg, Int.reduceBNe, encPg, newP]) ?_
      simp -implicitDefEqProofs only [↓aP, aQ, ↓reduceIte, Nat.reduceEqDiff, Nat.reduceAdd, Nat.reduceSub, Nat.reduceMul, Nat.reduceLT, Nat.reduceLeDiff, reduceCtorEq, Nat.reduceBEq, forall_const, implies_true, exists_const, ne_eq, Int.reduceAdd, Int.reduceSub, Int.reduceMul, Int.reduceBEq, Int.reduceEq, Int.reduceLT, Int.reduceLE, Int.reduceToNat, Int.reduceNeg, Int.reduceBNe, encMap, encRs, encPg, newP, XR.lb]
      refine ⟨by decide +kernel, ?_⟩
      rw [List.map_append, List.map_append, List.map_take, List.map_drop]
      exact .refl _
    · have e : doM l o = (l, ⟨4, zP⟩) := by unfold doM; rw [if_neg hb, if_pos hk1, if_pos hh]
      simp -implicitDefEqProofs only [↓aP, aQ, ↓reduceIte, Nat.reduceEqDiff, Nat.reduceAdd, Nat.reduceSub, Nat.reduceMul, Nat.reduceLT, Nat.reduceLeDiff, reduceCtorEq, Nat.reduceBEq, forall_const, implies_true, exists_const, ne_eq, Int.reduceAdd, Int.reduceSub, Int.reduceMul, Int.reduceBEq, Int.reduceEq, Int.reduceLT, Int.reduceLE, Int.reduceToNat, Int.reduceNeg, Int.reduceBNe, kk, kk2, hh, encMap, encOp, encRs, zP, e]
  · have kk : (o.kind == 1) = false := by simpa using hk1
    have kk2 : (o.kind != 1) = true := by simpa using hk1
    cases hh : hasM l o.id
    · have e : doM l o = (l, ⟨3, zP⟩) := by unfold doM; rw [if_neg hb, if_neg hk1, if_pos hh]
      simp -implicitDefEqProofs only [↓aP, aQ, ↓reduceIte, Nat.reduceEqDiff, Nat.reduceAdd, Nat.reduceSub, Nat.reduceMul, Nat.reduceLT, Nat.reduceLeDiff, reduceCtorEq, Nat.reduceBEq, forall_const, implies_true, exists_const, ne_eq, Int.reduceAdd, Int.reduceSub, Int.reduceMul, Int.reduceBEq, Int.reduceEq, Int.reduceLT, Int.reduceLE, Int.reduceToNat, Int.reduceNeg, Int.reduceBNe, kk, kk2, hh, encMap, encOp, encRs, zP, e]
    obtain ⟨hp, he⟩ := has_at hh
    have hg : l.getD (posM l o.id) zP = l[posM l o.id] := by rw [List.getD_eq_getElem?_getD, List.getElem?_eq_getElem hp]; rfl
    have hok := okP_iff.1 ((right_iff.1 hr).1 _ (List.getElem_mem hp))
    by_cases hk3 : o.kind = 3
    · have kk3 : (o.kind == 3) = true := by simp [hk3]
      have e : doM l o = writeM l (posM l o.id) o.body := by unfold doM; rw [if_neg hb, if_neg hk1, if_neg (by simp [hh]), if_pos hk3]
      simp -implicitDefEqProofs only [↓aP, aQ, ↓reduceIte, Nat.reduceEqDiff, Nat.reduceAdd, Nat.reduceSub, Nat.reduceMul, Nat.reduceLT, Nat.reduceLeDiff, reduceCtorEq, Nat.reduceBEq, forall_const, implies_true, exists_const, ne_eq, Int.reduceAdd, Int.reduceSub, Int.reduceMul, Int.reduceBEq, Int.reduceEq, Int.reduceLT, Int.reduceLE, Int.reduceToNat, Int.reduceNeg, Int.reduceBNe, kk, kk2, kk3, hh, encMap, encOp, encRs, zP, e]
      refine ask (oWrite_spec l (posM l o.id) o.body hp (by omega) ⟨hok.2.2.1, hok.2.2.2.1⟩) ?_
      simp -implicitDefEqProofs only [↓aP, aQ, ↓reduceIte, Nat.reduceEqDiff, Nat.reduceAdd, Nat.reduceSub, Nat.reduceMul, Nat.reduceLT, Nat.reduceLeDiff, reduceCtorEq, Nat.reduceBEq, forall_const, implies_true, exists_const, ne_eq, Int.reduceAdd, Int.reduceSub, Int.reduceMul, Int.reduceBEq, Int.reduceEq, Int.reduceLT, Int.reduceLE, Int.reduceToNat, Int.reduceNeg, Int.reduceBNe, encDo, encMap, encRs]
    have kk3 : (o.kind == 3) = false := by simpa using hk3
    by_cases hk4 : o.kind = 4
    · have kk4 : (o.kind == 4) = true := by simp [hk4]
      have e : doM l o = (l.eraseIdx (posM l o.id), ⟨0, zP⟩) := by unfold doM; rw [if_neg hb, if_neg hk1, if_neg (by simp [hh]), if_neg hk3, if_pos hk4]
      simp -implicitDefEqProofs only [↓aP, aQ, ↓reduceIte, Nat.reduceEqDiff, Nat.reduceAdd, Nat.reduceSub, Nat.reduceMul, Nat.reduceLT, Nat.reduceLeDiff, reduceCtorEq, Nat.reduceBEq, forall_const, implies_true, exists_const, ne_eq, Int.reduceAdd, Int.reduceSub, Int.reduceMul, Int.reduceBEq, Int.reduceEq, Int.reduceLT, Int.reduceLE, Int.reduceToNat, Int.reduceNeg, Int.reduceBNe, kk, kk2, kk3, kk4, hh, encMap, encOp, encRs, zP, e]
      refine ask (clonePg _ (by simp; omega)) ?_
      simp -implicitDefEqProofs only [↓aP, aQ, ↓reduceIte, Nat.reduceEqDiff, Nat.reduceAdd, Nat.reduceSub, Nat.reduceMul, Nat.reduceLT, Nat.reduceLeDiff, reduceCtorEq, Nat.reduceBEq, forall_const, implies_true, exists_const, ne_eq, Int.reduceAdd, Int.reduceSub, Int.reduceMul, Int.reduceBEq, Int.reduceEq, Int.reduceLT, Int.reduceLE, Int.reduceToNat, Int.reduceNeg, Int.reduceBNe, kk, kk2, kk3, kk4, hh, encMap, encOp, encRs, e, wrapS (show posM l o.id < 4611686018427387904 by omega)]
      refine askX2 (delPg_spec (l.map encPg) (posM l o.id) (by simpa using hp) (by simp; omega)) (by simp -implicitDefEqProofs only [↓aP, aQ, ↓reduceIte, Nat.reduceEqDiff, Nat.reduceAdd, Nat.reduceSub, Nat.reduceMul, Nat.reduceLT, Nat.reduceLeDiff, reduceCtorEq, Nat.reduceBEq, forall_const, implies_true, exists_const, ne_eq, Int.reduceAdd, Int.reduceSub, Int.reduceMul, Int.reduceBEq, Int.reduceEq, Int.reduceLT, Int.reduceLE, Int.reduceToNat, Int.reduceNeg, Int.reduceBNe]; rfl) ?_
      simp -implicitDefEqProofs only [↓aP, aQ, ↓reduceIte, Nat.reduceEqDiff, Nat.reduceAdd, Nat.reduceSub, Nat.reduceMul, Nat.reduceLT, Nat.reduceLeDiff, reduceCtorEq, Nat.reduceBEq, forall_const, implies_true, exists_const, ne_eq, Int.reduceAdd, Int.reduceSub, Int.reduceMul, Int.reduceBEq, Int.reduceEq, Int.reduceLT, Int.reduceLE, Int.reduceToNat, Int.reduceNeg, Int.reduceBNe, encMap, encRs, encPg, XR.lb]
      rw [List.eraseIdx_eq_take_drop_succ, List.eraseIdx_eq_take_drop_succ, List.map_append, List.map_take, List.map_drop]
      exact .refl _
    have kk4 : (o.kind == 4) = false := by simpa using hk4
    have e : doM l o = (l, ⟨0, l[posM l o.id]⟩) := by unfold doM; rw [if_neg hb, if_neg hk1, if_neg (by simp [hh]), if_neg hk3, if_neg hk4, hg]
    simp -implicitDefEqProofs only [↓aP, aQ, ↓reduceIte, Nat.reduceEqDiff, Nat.reduceAdd, Nat.reduceSub, Nat.reduceMul, Nat.reduceLT, Nat.reduceLeDiff, reduceCtorEq, Nat.reduceBEq, forall_const, implies_true, exists_const, ne_eq, Int.reduceAdd, Int.reduceSub, Int.reduceMul, Int.reduceBEq, Int.reduceEq, Int.reduceLT, Int.reduceLE, Int.reduceToNat, Int.reduceNeg, Int.reduceBNe, kk, kk2, kk3, kk4, hh, encMap, encOp, encRs, e, askIdx_map, hp, encPg]
    decide +kernel
def encAll (x : List Pg × List Rs) : TV SC := .tup [(true, encMap x.1), (false, [.sl 4 (x.2.map encRs)])]
theorem writeM_len {l : List Pg} {i : Nat} {b : ByteArray} : (writeM l i b).1.length = l.length := by
  unfold writeM
  split
  · rfl
  split
  · rfl
  · simp
theorem doM_len {l : List Pg} {o : Opr} : (doM l o).1.length ≤ l.length + 1 := by
  unfold doM
  split
  · simp
  split
  · split
    · simp
    · simp; omega
  split
  · simp
  split
  · rw [writeM_len]; omega
  split
  · simp only [List.length_eraseIdx]; split <;> omega
  · simp
/-- behind the first ones -/
def runM (l : List Pg) (os : List Opr) : List Pg := os.foldl (fun l o => (doM l o).1) l
theorem runM_snoc {l : List Pg} {os : List Opr} {o : Opr} : runM l (os ++ [o]) = (doM (runM l os) o).1 := by unfold runM; rw [List.foldl_append]; rfl
theorem runM_len {l : List Pg} {os : List Opr} : (runM l os).length ≤ l.length + os.length := by
  induction os generalizing l with
  | nil => simp [runM]
  | cons o os ih =>
    have h1 := ih (l := (doM l o).1)
    have h2 := doM_len (l := l) (o := o)
    show (runM (doM l o).1 os).length ≤ _
    simp only [List.length_cons]
    omega
theorem allM_snoc {o : Opr} : ∀ {os : List Opr} {l : List Pg}, allM l (os ++ [o]) = ((doM (allM l os).1 o).1, (allM l os).2 ++ [(doM (allM l os).1 o).2])
  | [], l => rfl
  | x :: os, l => by
    have h := allM_snoc (o := o) (os := os) (l := (doM l x).1)
    show ((allM (doM l x).1 (os ++ [o])).1, (doM l x).2 :: (allM (doM l x).1 (os ++ [o])).2) = _
    rw [h]
    rfl
theorem allM_len {os : List Opr} : ∀ {l : List Pg}, (allM l os).2.length = os.length := by
  induction os with
  | nil => intro l; rfl
  | cons o os ih => intro l; simp [allM, ih]
theorem allM_run {os : List Opr} : ∀ {l : List Pg}, (allM l os).1 = runM l os := by
  induction os with
  | nil => intro l; rfl
  | cons o os ih => intro l; simp only [allM, ih]; rfl

theorem oAll_spec (l : List Pg) (os : List Opr) (hl : l.length + os.length ≤ 1000000) : Spec Try.prog 21 [.agg (encMap l), rL 3 (os.map encOp)] (.val (encAll (allM l os))) := by
  refine spec_val mixed fn21 (by simp) ?_
  unfold ac21
  simp -implicitDefEqProofs only [↓aP, aQ, ↓reduceIte, Nat.reduceEqDiff, Nat.reduceAdd, Nat.reduceSub, Nat.reduceMul, Nat.reduceLT, Nat.reduceLeDiff, reduceCtorEq, Nat.reduceBEq, forall_const, implies_true, exists_const, ne_eq, Int.reduceAdd, Int.reduceSub, Int.reduceMul, Int.reduceBEq, Int.reduceEq, Int.reduceLT, Int.reduceLE, Int.reduceToNat, Int.reduceNeg, Int.reduceBNe, encMap, encAll]
  refine shift (sub_slot (s := 6) 25 49 4 rfl (by exact Nat.succ_pos _)) ?_
  refine rangeB os.length (fun i σ => ∃ x rs g, (x, rs) = allM l (os.take i) ∧ σ.slot 2 = .c (.ptr 2 1 0 0) ∧ σ.h.gen 2 = 1 ∧ σ.h.blk 2 = .box 24 1 [(encMap x).map AC.s] ∧ σ.slot 4 = .c (.ptr 4 1 0 0) ∧ σ.h.gen 4 = 1 ∧ σ.h.blk 4 = .box 24 1 [[.zc]] ∧ σ.slot 6 = .c (.own 25 g) ∧ σ.h.gen 25 = g ∧ σ.h.blk 25 = .row 49 4 (rs.map encRs) ∧ σ.slot 10 = vL 3 (os.map encOp) ∧ σ.slot 11 = vI os.length ∧ σ.slot 12 = vI i) ?_ ?_ ?_
  · simp -implicitDefEqProofs only [↓aP, aQ, ↓reduceIte, Nat.reduceEqDiff, Nat.reduceAdd, Nat.reduceSub, Nat.reduceMul, Nat.reduceLT, Nat.reduceLeDiff, reduceCtorEq, Nat.reduceBEq, forall_const, implies_true, exists_const, ne_eq, Int.reduceAdd, Int.reduceSub, Int.reduceMul, Int.reduceBEq, Int.reduceEq, Int.reduceLT, Int.reduceLE, Int.reduceToNat, Int.reduceNeg, Int.reduceBNe, encMap]
    exact ⟨l, [], 1, rfl, by simp⟩
  · rintro i m σ him hi hlt ⟨x, rs, g, hx, s2, g2, b2, s4, g4, b4, s6, g25, b25, s10, s11, s12⟩
    have hx1 : x = runM l (os.take i) := by rw [← allM_run, ← hx]
    have hrl : rs.length = i := by have := allM_len (l := l) (os := os.take i); rw [← hx] at this; simp at this; omega
    have hxl : x.length ≤ l.length + i := by rw [hx1]; have := runM_len (l := l) (os := os.take i); simp at this; omega
    simp -implicitDefEqProofs only [↓aP, aQ, ↓reduceIte, Nat.reduceEqDiff, Nat.reduceAdd, Nat.reduceSub, Nat.reduceMul, Nat.reduceLT, Nat.reduceLeDiff, reduceCtorEq, Nat.reduceBEq, forall_const, implies_true, exists_const, ne_eq, Int.reduceAdd, Int.reduceSub, Int.reduceMul, Int.reduceBEq, Int.reduceEq, Int.reduceLT, Int.reduceLE, Int.reduceToNat, Int.reduceNeg, Int.reduceBNe, hlt, s2, g2, b2, s4, g4, b4, s6, g25, b25, s10, s11, s12, askIdx_map, hi, encOp, encMap]
    refine ask (oDo_spec x os[i] (by omega)) ?_
    simp -implicitDefEqProofs only [↓aP, aQ, ↓reduceIte, Nat.reduceEqDiff, Nat.reduceAdd, Nat.reduceSub, Nat.reduceMul, Nat.reduceLT, Nat.reduceLeDiff, reduceCtorEq, Nat.reduceBEq, forall_const, implies_true, exists_const, ne_eq, Int.reduceAdd, Int.reduceSub, Int.reduceMul, Int.reduceBEq, Int.reduceEq, Int.reduceLT, Int.reduceLE, Int.reduceToNat, Int.reduceNeg, Int.reduceBNe, encDo, encMap, encRs, s2, g2, b2, s4, g4, b4, s6, g25, b25, s10, s11, s12, List.length_map, hrl]
    refine ⟨by omega, by omega, ?_⟩
    refine nextR hi him ⟨(doM x os[i]).1, rs ++ [(doM x os[i]).2], g + 1, ?_, ?_⟩
    · rw [take_snoc hi, allM_snoc, ← hx]
    · simp -implicitDefEqProofs only [↓aP, aQ, ↓reduceIte, Nat.reduceEqDiff, Nat.reduceAdd, Nat.reduceSub, Nat.reduceMul, Nat.reduceLT, Nat.reduceLeDiff, reduceCtorEq, Nat.reduceBEq, forall_const, implies_true, exists_const, ne_eq, Int.reduceAdd, Int.reduceSub, Int.reduceMul, Int.reduceBEq, Int.reduceEq, Int.reduceLT, Int.reduceLE, Int.reduceToNat, Int.reduceNeg, Int.reduceBNe, s2, g2, b2, s4, g4, b4, s6, g25, b25, s10, s11, s12, encMap, encRs, List.map_append, wrapS (show i < 4611686018427387904 by omega)]
  · rintro m σ hlt ⟨x, rs, g, hx, s2, g2, b2, s4, g4, b4, s6, g25, b25, s10, s11, s12⟩
    rw [List.take_length] at hx
    rw [← hx]
    simp -implicitDefEqProofs only [↓aP, aQ, ↓reduceIte, Nat.reduceEqDiff, Nat.reduceAdd, Nat.reduceSub, Nat.reduceMul, Nat.reduceLT, Nat.reduceLeDiff, reduceCtorEq, Nat.reduceBEq, forall_const, implies_true, exists_const, ne_eq, Int.reduceAdd, Int.reduceSub, Int.reduceMul, Int.reduceBEq, Int.reduceEq, Int.reduceLT, Int.reduceLE, Int.reduceToNat, Int.reduceNeg, Int.reduceBNe, hlt, s2, g2, b2, s4, g4, b4, s6, g25, b25, s10, s11, s12, encMap, encRs]
end Go.Proofs.Ytbpipdgkkdifgaa
