/- layer 13: the store, plain; its contracts. -/
import Derived.Test.YtlloeinlfhnegaaG3
namespace Go.Proofs.Ytlloeinlfhnegaa
open Go.RowKit
set_option linter.unusedVariables false
set_option linter.unusedSimpArgs false
/-- what the bytes of a page's home tell -/
def tell (s : ByteArray) (q : Int) : Pg × Int := if (takeM s).2 ≠ 0 then (zP, (takeM s).2) else if (takeM s).1.id ≠ q then (zP, 9) else ((takeM s).1, 0)
def getS (d : Dk) (q : Int) : Pg × Int := if (Jn.getM d q).2 ≠ 0 then (zP, (Jn.getM d q).2) else tell (Jn.getM d q).1 q
def setS (d : Dk) (p : Pg) : Dk × Int := if (putM p).2 ≠ 0 then (d, (putM p).2) else Jn.commitM d p.id (putM p).1
def delS (d : Dk) (q : Int) : Dk × Int := Jn.commitM d q nought32
def stepsS (d : Dk) (p : Pg) : List Jo := if p.ver ≠ 0 ∨ p.body ≠ ⟨#[]⟩ then (if (putM p).2 ≠ 0 then [] else (Jn.planM d p.id (putM p).1).1) else (Jn.planM d p.id nought32).1
def listS (d : Dk) : Nat → List Pg
  | 0 => []
  | k + 1 => listS d k ++ (if (getS d ((k + 1 : Nat) : Int)).2 = 0 then [(getS d ((k + 1 : Nat) : Int)).1] else [])
theorem tell_page {p : Pg} (h : okP p = true) : tell (bytesP p) p.id = (p, 0) := by
  unfold tell
  rw [take_bytes h]
  rw [if_neg (by simp), if_neg (by simp)]
theorem tell_none {q : Int} : tell nought32 q = (zP, 3) := by
  unfold tell
  rw [take_nought, if_pos (by decide)]
theorem put_ok2 {p : Pg} (h : okP p = true) : putM p = (bytesP p, 0) := by unfold putM; rw [if_pos h]
theorem put_no2 {p : Pg} (h : okP p = false) : putM p = (⟨#[]⟩, 1) := by unfold putM; rw [if_neg (by rw [h]; simp)]
/-! disks on which nothing waits -/
section
variable {n : Nat} {s : List ByteArray} (hn : 35 ≤ n ∧ n ≤ 64) (hs : Jn.Ok n s)
include hn hs in
theorem getS_eq {q : Int} (hq : 1 ≤ q ∧ q ≤ 16) : getS ⟨s, []⟩ q = tell (Jn.getM ⟨s, []⟩ q).1 q := by
  unfold getS
  rw [Jn.get_sec hn hs hq, if_neg (by simp)]
include hn hs in
theorem getS_fin {p : Int} {x : ByteArray} {t : List ByteArray} (hp : 1 ≤ p ∧ p ≤ 16) (hx : x.size = 32) (hf : Jn.Fin n s p x t) {q : Int} (hq : 1 ≤ q ∧ q ≤ 16) : getS ⟨t, []⟩ q = if q = p then tell x q else getS ⟨s, []⟩ q := by
  rw [getS_eq hn hf.ok hq, getS_eq hn hs hq, Jn.fin_get hn hs hp hx hf q hq]
  by_cases e : q = p
  · rw [if_pos e, if_pos e]
  · rw [if_neg e, if_neg e]
include hn hs in
theorem setS_ok {p : Pg} (h : okP p = true) : setS ⟨s, []⟩ p = (⟨Jn.s4 s p.id (bytesP p), []⟩, 0) ∧ Jn.Fin n s p.id (bytesP p) (Jn.s4 s p.id (bytesP p)) ∧ ∀ q : Int, 1 ≤ q ∧ q ≤ 16 → getS ⟨Jn.s4 s p.id (bytesP p), []⟩ q = if q = p.id then (p, 0) else getS ⟨s, []⟩ q := by
  have h2 := okP_iff.1 h
  have hp : 1 ≤ p.id ∧ p.id ≤ 16 := ⟨h2.1, h2.2.1⟩
  have hz := bytesP_size h
  have hf := Jn.s4_fin hn hs hp hz
  refine ⟨?_, hf, fun q hq => ?_⟩
  · unfold setS
    rw [put_ok2 h, if_neg (by simp)]
    exact Jn.commit_st hn hs hp hz
  · rw [getS_fin hn hs hp hz hf hq]
    by_cases e : q = p.id
    · rw [if_pos e, if_pos e, e, tell_page h]
    · rw [if_neg e, if_neg e]
include hn hs in
theorem delS_ok {p : Int} (hp : 1 ≤ p ∧ p ≤ 16) : delS ⟨s, []⟩ p = (⟨Jn.s4 s p nought32, []⟩, 0) ∧ Jn.Fin n s p nought32 (Jn.s4 s p nought32) ∧ ∀ q : Int, 1 ≤ q ∧ q ≤ 16 → getS ⟨Jn.s4 s p nought32, []⟩ q = if q = p then (zP, 3) else getS ⟨s, []⟩ q := by
  have hf := Jn.s4_fin hn hs hp nought32_size
  refine ⟨Jn.commit_st hn hs hp nought32_size, hf, fun q hq => ?_⟩
  rw [getS_fin hn hs hp nought32_size hf hq]
  by_cases e : q = p
  · rw [if_pos e, if_pos e, tell_none]
  · rw [if_neg e, if_neg e]
end
theorem getS_new {q : Int} (hq : 1 ≤ q ∧ q ≤ 16) : getS ⟨Jn.new35, []⟩ q = (zP, 3) := by
  rw [getS_eq Jn.h35 Jn.ok_new hq, Jn.get_sec Jn.h35 Jn.ok_new hq, Jn.rd_new (by omega), Jn.rd_new (by omega)]
  exact tell_none
theorem list_none {d : Dk} : ∀ k : Nat, (∀ q : Int, 1 ≤ q ∧ q ≤ k → (getS d q).2 ≠ 0) → listS d k = []
  | 0, _ => rfl
  | k + 1, h => by
    rw [listS, list_none k (fun q hq => h q (by omega)), if_neg (h _ (by omega))]; rfl
theorem list_one {d : Dk} {p : Int} (hg : (getS d p).2 = 0) : ∀ k : Nat, 1 ≤ p → p ≤ k → (∀ q : Int, 1 ≤ q ∧ q ≤ k → q ≠ p → (getS d q).2 ≠ 0) → listS d k = [(getS d p).1]
  | 0, h1, h2, _ => by omega
  | k + 1, h1, h2, h => by
    rw [listS]
    by_cases e : p = ((k + 1 : Nat) : Int)
    · rw [list_none k (fun q hq => h q (by omega) (by omega)), ← e, if_pos hg]; rfl
    · rw [list_one hg k h1 (by omega) (fun q hq hne => h q (by omega) hne), if_neg (h _ (by omega) (fun h => e h.symm))]; simp
def encGet (x : Pg × Int) : TV SC := .tup [(true, encPg x.1), (false, [.pv (.int .i64 x.2)])]
theorem sget_spec (d : Dk) (q : Int) : Spec Try.prog 11 [.agg (encDk d), rI q] (.val (encGet (getS d q))) := by
  refine spec_val mixed fn11 (by simp) ?_
  unfold ac11
  simp -implicitDefEqProofs only [↓aP, aQ, ↓reduceIte, Nat.reduceEqDiff, Nat.reduceAdd, Nat.reduceSub, Nat.reduceMul, Nat.reduceLT, Nat.reduceLeDiff, reduceCtorEq, Nat.reduceBEq, forall_const, implies_true, exists_const, ne_eq, Int.reduceAdd, Int.reduceSub, Int.reduceMul, Int.reduceBEq, Int.reduceEq, Int.reduceLT, Int.reduceLE, Int.reduceToNat, Int.reduceNeg, Int.reduceBNe, encDk, encGet]
  refine ask (jget_spec d q) ?_
  by_cases h0 : (Jn.getM d q).2 = 0
  · have e0 : getS d q = tell (Jn.getM d q).1 q := by unfold getS; rw [if_neg (by simp [h0])]
    simp -implicitDefEqProofs only [↓aP, aQ, ↓reduceIte, Nat.reduceEqDiff, Nat.reduceAdd, Nat.reduceSub, Nat.reduceMul, Nat.reduceLT, Nat.reduceLeDiff, reduceCtorEq, Nat.reduceBEq, forall_const, implies_true, exists_const, ne_eq, Int.reduceAdd, Int.reduceSub, Int.reduceMul, Int.reduceBEq, Int.reduceEq, Int.reduceLT, Int.reduceLE, Int.reduceToNat, Int.reduceNeg, Int.reduceBNe, h0, bne_self_eq_false]
    refine ask (ptake_spec (Jn.getM d q).1) ?_
    by_cases h1 : (takeM (Jn.getM d q).1).2 = 0
    · by_cases h2 : (takeM (Jn.getM d q).1).1.id = q
      · have e : getS d q = ((takeM (Jn.getM d q).1).1, 0) := by rw [e0]; unfold tell; rw [if_neg (by simp [h1]), if_neg (by simp [h2])]
        simp -implicitDefEqProofs only [↓aP, aQ, ↓reduceIte, Nat.reduceEqDiff, Nat.reduceAdd, Nat.reduceSub, Nat.reduceMul, Nat.reduceLT, Nat.reduceLeDiff, reduceCtorEq, Nat.reduceBEq, forall_const, implies_true, exists_const, ne_eq, Int.reduceAdd, Int.reduceSub, Int.reduceMul, Int.reduceBEq, Int.reduceEq, Int.reduceLT, Int.reduceLE, Int.reduceToNat, Int.reduceNeg, Int.reduceBNe, encPg, h1, bne_self_eq_false, h2, e]
      · have e : getS d q = (zP, 9) := by rw [e0]; unfold tell; rw [if_neg (by simp [h1]), if_pos h2]
        simp -implicitDefEqProofs only [↓aP, aQ, ↓reduceIte, Nat.reduceEqDiff, Nat.reduceAdd, Nat.reduceSub, Nat.reduceMul, Nat.reduceLT, Nat.reduceLeDiff, reduceCtorEq, Nat.reduceBEq, forall_const, implies_true, exists_const, ne_eq, Int.reduceAdd, Int.reduceSub, Int.reduceMul, Int.reduceBEq, Int.reduceEq, Int.reduceLT, Int.reduceLE, Int.reduceToNat, Int.reduceNeg, Int.reduceBNe, encPg, h1, bne_self_eq_false, show ((takeM (Jn.getM d q).1).1.id != q) = true by simpa using h2, e, zP]
    · have e : getS d q = (zP, (takeM (Jn.getM d q).1).2) := by rw [e0]; unfold tell; rw [if_pos h1]
      simp -implicitDefEqProofs only [↓aP, aQ, ↓reduceIte, Nat.reduceEqDiff, Nat.reduceAdd, Nat.reduceSub, Nat.reduceMul, Nat.reduceLT, Nat.reduceLeDiff, reduceCtorEq, Nat.reduceBEq, forall_const, implies_true, exists_const, ne_eq, Int.reduceAdd, Int.reduceSub, Int.reduceMul, Int.reduceBEq, Int.reduceEq, Int.reduceLT, Int.reduceLE, Int.reduceToNat, Int.reduceNeg, Int.reduceBNe, encPg, show ((takeM (Jn.getM d q).1).2 != 0) = true by simpa using h1, e, zP]
  · have e : getS d q = (zP, (Jn.getM d q).2) := by unfold getS; rw [if_pos h0]
    simp -implicitDefEqProofs only [↓aP, aQ, ↓reduceIte, Nat.reduceEqDiff, Nat.reduceAdd, Nat.reduceSub, Nat.reduceMul, Nat.reduceLT, Nat.reduceLeDiff, reduceCtorEq, Nat.reduceBEq, forall_const, implies_true, exists_const, ne_eq, Int.reduceAdd, Int.reduceSub, Int.reduceMul, Int.reduceBEq, Int.reduceEq, Int.reduceLT, Int.reduceLE, Int.reduceToNat, Int.reduceNeg, Int.reduceBNe, show ((Jn.getM d q).2 != 0) = true by simpa using h0, e, encPg, zP]
def encSet (x : Dk × Int) : TV SC := .tup [(true, encDk x.1), (false, [.pv (.int .i64 x.2)])]
theorem sset_spec (d : Dk) (p : Pg) : Spec Try.prog 17 [.agg (encDk d), .agg (encPg p)] (.val (encSet (setS d p))) := by
  refine spec_val mixed fn17 (by simp) ?_
  unfold ac17
  simp -implicitDefEqProofs only [↓aP, aQ, ↓reduceIte, Nat.reduceEqDiff, Nat.reduceAdd, Nat.reduceSub, Nat.reduceMul, Nat.reduceLT, Nat.reduceLeDiff, reduceCtorEq, Nat.reduceBEq, forall_const, implies_true, exists_const, ne_eq, Int.reduceAdd, Int.reduceSub, Int.reduceMul, Int.reduceBEq, Int.reduceEq, Int.reduceLT, Int.reduceLE, Int.reduceToNat, Int.reduceNeg, Int.reduceBNe, encDk, encPg, encSet]
  refine ask (by have := pput_spec p; rw [encPg] at this; exact this) ?_
  by_cases h0 : (putM p).2 = 0
  · have e : setS d p = Jn.commitM d p.id (putM p).1 := by unfold setS; rw [if_neg (by simp [h0])]
    simp -implicitDefEqProofs only [↓aP, aQ, ↓reduceIte, Nat.reduceEqDiff, Nat.reduceAdd, Nat.reduceSub, Nat.reduceMul, Nat.reduceLT, Nat.reduceLeDiff, reduceCtorEq, Nat.reduceBEq, forall_const, implies_true, exists_const, ne_eq, Int.reduceAdd, Int.reduceSub, Int.reduceMul, Int.reduceBEq, Int.reduceEq, Int.reduceLT, Int.reduceLE, Int.reduceToNat, Int.reduceNeg, Int.reduceBNe, h0, bne_self_eq_false, encDk]
    refine ask (commit_spec d p.id (putM p).1) ?_
    simp -implicitDefEqProofs only [↓aP, aQ, ↓reduceIte, Nat.reduceEqDiff, Nat.reduceAdd, Nat.reduceSub, Nat.reduceMul, Nat.reduceLT, Nat.reduceLeDiff, reduceCtorEq, Nat.reduceBEq, forall_const, implies_true, exists_const, ne_eq, Int.reduceAdd, Int.reduceSub, Int.reduceMul, Int.reduceBEq, Int.reduceEq, Int.reduceLT, Int.reduceLE, Int.reduceToNat, Int.reduceNeg, Int.reduceBNe, e, encDk]
  · have e : setS d p = (d, (putM p).2) := by unfold setS; rw [if_pos h0]
    simp -implicitDefEqProofs only [↓aP, aQ, ↓reduceIte, Nat.reduceEqDiff, Nat.reduceAdd, Nat.reduceSub, Nat.reduceMul, Nat.reduceLT, Nat.reduceLeDiff, reduceCtorEq, Nat.reduceBEq, forall_const, implies_true, exists_const, ne_eq, Int.reduceAdd, Int.reduceSub, Int.reduceMul, Int.reduceBEq, Int.reduceEq, Int.reduceLT, Int.reduceLE, Int.reduceToNat, Int.reduceNeg, Int.reduceBNe, show ((putM p).2 != 0) = true by simpa using h0, e, encDk]
theorem sdel_spec (d : Dk) (q : Int) : Spec Try.prog 22 [.agg (encDk d), rI q] (.val (encSet (delS d q))) := by
  refine spec_val mixed fn22 (by simp) ?_
  unfold ac22
  simp -implicitDefEqProofs only [↓aP, aQ, ↓reduceIte, Nat.reduceEqDiff, Nat.reduceAdd, Nat.reduceSub, Nat.reduceMul, Nat.reduceLT, Nat.reduceLeDiff, reduceCtorEq, Nat.reduceBEq, forall_const, implies_true, exists_const, ne_eq, Int.reduceAdd, Int.reduceSub, Int.reduceMul, Int.reduceBEq, Int.reduceEq, Int.reduceLT, Int.reduceLE, Int.reduceToNat, Int.reduceNeg, Int.reduceBNe, encDk, encSet]
  refine ask absent_spec ?_
  simp -implicitDefEqProofs only [↓aP, aQ, ↓reduceIte, Nat.reduceEqDiff, Nat.reduceAdd, Nat.reduceSub, Nat.reduceMul, Nat.reduceLT, Nat.reduceLeDiff, reduceCtorEq, Nat.reduceBEq, forall_const, implies_true, exists_const, ne_eq, Int.reduceAdd, Int.reduceSub, Int.reduceMul, Int.reduceBEq, Int.reduceEq, Int.reduceLT, Int.reduceLE, Int.reduceToNat, Int.reduceNeg, Int.reduceBNe, encDk]
  refine ask (commit_spec d q nought32) ?_
  simp -implicitDefEqProofs only [↓aP, aQ, ↓reduceIte, Nat.reduceEqDiff, Nat.reduceAdd, Nat.reduceSub, Nat.reduceMul, Nat.reduceLT, Nat.reduceLeDiff, reduceCtorEq, Nat.reduceBEq, forall_const, implies_true, exists_const, ne_eq, Int.reduceAdd, Int.reduceSub, Int.reduceMul, Int.reduceBEq, Int.reduceEq, Int.reduceLT, Int.reduceLE, Int.reduceToNat, Int.reduceNeg, Int.reduceBNe, delS, encDk]
  first | done | decide +kernel
theorem ssteps_spec (d : Dk) (p : Pg) : Spec Try.prog 16 [.agg (encDk d), .agg (encPg p)] (.val (rL 3 ((stepsS d p).map encJo))) := by
  refine spec_val mixed fn16 (by simp) ?_
  unfold ac16
  simp -implicitDefEqProofs only [↓aP, aQ, ↓reduceIte, Nat.reduceEqDiff, Nat.reduceAdd, Nat.reduceSub, Nat.reduceMul, Nat.reduceLT, Nat.reduceLeDiff, reduceCtorEq, Nat.reduceBEq, forall_const, implies_true, exists_const, ne_eq, Int.reduceAdd, Int.reduceSub, Int.reduceMul, Int.reduceBEq, Int.reduceEq, Int.reduceLT, Int.reduceLE, Int.reduceToNat, Int.reduceNeg, Int.reduceBNe, encDk, encPg]
  refine ask absent_spec ?_
  have yes : (p.ver ≠ 0 ∨ p.body ≠ ⟨#[]⟩) → stepsS d p = if (putM p).2 ≠ 0 then [] else (Jn.planM d p.id (putM p).1).1 := fun h => by unfold stepsS; rw [if_pos h]
  by_cases hv : p.ver = 0
  · by_cases hb : p.body = ⟨#[]⟩
    · have e : stepsS d p = (Jn.planM d p.id nought32).1 := by unfold stepsS; rw [if_neg (by simp [hv, hb])]
      simp -implicitDefEqProofs only [↓aP, aQ, ↓reduceIte, Nat.reduceEqDiff, Nat.reduceAdd, Nat.reduceSub, Nat.reduceMul, Nat.reduceLT, Nat.reduceLeDiff, reduceCtorEq, Nat.reduceBEq, forall_const, implies_true, exists_const, ne_eq, Int.reduceAdd, Int.reduceSub, Int.reduceMul, Int.reduceBEq, Int.reduceEq, Int.reduceLT, Int.reduceLE, Int.reduceToNat, Int.reduceNeg, Int.reduceBNe, hv, bne_self_eq_false, tl_beq, decide_eq_true hb, Bool.not_true, encDk]
      refine ask (plan_spec d p.id nought32) ?_
      simp -implicitDefEqProofs only [↓aP, aQ, ↓reduceIte, Nat.reduceEqDiff, Nat.reduceAdd, Nat.reduceSub, Nat.reduceMul, Nat.reduceLT, Nat.reduceLeDiff, reduceCtorEq, Nat.reduceBEq, forall_const, implies_true, exists_const, ne_eq, Int.reduceAdd, Int.reduceSub, Int.reduceMul, Int.reduceBEq, Int.reduceEq, Int.reduceLT, Int.reduceLE, Int.reduceToNat, Int.reduceNeg, Int.reduceBNe, e]
    · have e := yes (.inr hb)
      simp -implicitDefEqProofs only [↓aP, aQ, ↓reduceIte, Nat.reduceEqDiff, Nat.reduceAdd, Nat.reduceSub, Nat.reduceMul, Nat.reduceLT, Nat.reduceLeDiff, reduceCtorEq, Nat.reduceBEq, forall_const, implies_true, exists_const, ne_eq, Int.reduceAdd, Int.reduceSub, Int.reduceMul, Int.reduceBEq, Int.reduceEq, Int.reduceLT, Int.reduceLE, Int.reduceToNat, Int.reduceNeg, Int.reduceBNe, hv, bne_self_eq_false, tl_beq, decide_eq_false hb, Bool.not_false]
      refine ask (by have := pput_spec p; rw [encPg, hv] at this; exact this) ?_
      by_cases h0 : (putM p).2 = 0
      · rw [if_neg (by simp [h0])] at e
        simp -implicitDefEqProofs only [↓aP, aQ, ↓reduceIte, Nat.reduceEqDiff, Nat.reduceAdd, Nat.reduceSub, Nat.reduceMul, Nat.reduceLT, Nat.reduceLeDiff, reduceCtorEq, Nat.reduceBEq, forall_const, implies_true, exists_const, ne_eq, Int.reduceAdd, Int.reduceSub, Int.reduceMul, Int.reduceBEq, Int.reduceEq, Int.reduceLT, Int.reduceLE, Int.reduceToNat, Int.reduceNeg, Int.reduceBNe, h0, bne_self_eq_false, encDk]
        refine ask (plan_spec d p.id (putM p).1) ?_
        simp -implicitDefEqProofs only [↓aP, aQ, ↓reduceIte, Nat.reduceEqDiff, Nat.reduceAdd, Nat.reduceSub, Nat.reduceMul, Nat.reduceLT, Nat.reduceLeDiff, reduceCtorEq, Nat.reduceBEq, forall_const, implies_true, exists_const, ne_eq, Int.reduceAdd, Int.reduceSub, Int.reduceMul, Int.reduceBEq, Int.reduceEq, Int.reduceLT, Int.reduceLE, Int.reduceToNat, Int.reduceNeg, Int.reduceBNe, e]
      · rw [if_pos h0] at e
        simp -implicitDefEqProofs only [↓aP, aQ, ↓reduceIte, Nat.reduceEqDiff, Nat.reduceAdd, Nat.reduceSub, Nat.reduceMul, Nat.reduceLT, Nat.reduceLeDiff, reduceCtorEq, Nat.reduceBEq, forall_const, implies_true, exists_const, ne_eq, Int.reduceAdd, Int.reduceSub, Int.reduceMul, Int.reduceBEq, Int.reduceEq, Int.reduceLT, Int.reduceLE, Int.reduceToNat, Int.reduceNeg, Int.reduceBNe, show ((putM p).2 != 0) = true by simpa using h0, e, List.map_nil]
  · have e := yes (.inl hv)
    simp -implicitDefEqProofs only [↓aP, aQ, ↓reduceIte, Nat.reduceEqDiff, Nat.reduceAdd, Nat.reduceSub, Nat.reduceMul, Nat.reduceLT, Nat.reduceLeDiff, reduceCtorEq, Nat.reduceBEq, forall_const, implies_true, exists_const, ne_eq, Int.reduceAdd, Int.reduceSub, Int.reduceMul, Int.reduceBEq, Int.reduceEq, Int.reduceLT, Int.reduceLE, Int.reduceToNat, Int.reduceNeg, Int.reduceBNe, show (p.ver != 0) = true by simpa using hv]
    refine ask (by have := pput_spec p; rw [encPg] at this; exact this) ?_
    by_cases h0 : (putM p).2 = 0
    · rw [if_neg (by simp [h0])] at e
      simp -implicitDefEqProofs only [↓aP, aQ, ↓reduceIte, Nat.reduceEqDiff, Nat.reduceAdd, Nat.reduceSub, Nat.reduceMul, Nat.reduceLT, Nat.reduceLeDiff, reduceCtorEq, Nat.reduceBEq, forall_const, implies_true, exists_const, ne_eq, Int.reduceAdd, Int.reduceSub, Int.reduceMul, Int.reduceBEq, Int.reduceEq, Int.reduceLT, Int.reduceLE, Int.reduceToNat, Int.reduceNeg, Int.reduceBNe, h0, bne_self_eq_false, encDk]
      refine ask (plan_spec d p.id (putM p).1) ?_
      simp -implicitDefEqProofs only [↓aP, aQ, ↓reduceIte, Nat.reduceEqDiff, Nat.reduceAdd, Nat.reduceSub, Nat.reduceMul, Nat.reduceLT, Nat.reduceLeDiff, reduceCtorEq, Nat.reduceBEq, forall_const, implies_true, exists_const, ne_eq, Int.reduceAdd, Int.reduceSub, Int.reduceMul, Int.reduceBEq, Int.reduceEq, Int.reduceLT, Int.reduceLE, Int.reduceToNat, Int.reduceNeg, Int.reduceBNe, e]
    · rw [if_pos h0] at e
      simp -implicitDefEqProofs only [↓aP, aQ, ↓reduceIte, Nat.reduceEqDiff, Nat.reduceAdd, Nat.reduceSub, Nat.reduceMul, Nat.reduceLT, Nat.reduceLeDiff, reduceCtorEq, Nat.reduceBEq, forall_const, implies_true, exists_const, ne_eq, Int.reduceAdd, Int.reduceSub, Int.reduceMul, Int.reduceBEq, Int.reduceEq, Int.reduceLT, Int.reduceLE, Int.reduceToNat, Int.reduceNeg, Int.reduceBNe, show ((putM p).2 != 0) = true by simpa using h0, e, List.map_nil]
theorem listS_len {d : Dk} : ∀ k : Nat, (listS d k).length ≤ k
  | 0 => by simp [listS]
  | k + 1 => by
    have := listS_len (d := d) k
    rw [listS, List.length_append]
    split <;> simp <;> omega

theorem slist_spec (d : Dk) : Spec Try.prog 23 [.agg (encDk d)] (.val (rL 3 ((listS d 16).map encPg))) := by
  refine spec_val mixed fn23 (by simp) ?_
  unfold ac23
  simp -implicitDefEqProofs only [↓aP, aQ, ↓reduceIte, Nat.reduceEqDiff, Nat.reduceAdd, Nat.reduceSub, Nat.reduceMul, Nat.reduceLT, Nat.reduceLeDiff, reduceCtorEq, Nat.reduceBEq, forall_const, implies_true, exists_const, ne_eq, Int.reduceAdd, Int.reduceSub, Int.reduceMul, Int.reduceBEq, Int.reduceEq, Int.reduceLT, Int.reduceLE, Int.reduceToNat, Int.reduceNeg, Int.reduceBNe, encDk]
  refine shift (sub_slot (s := 3) 22 27 3 rfl (by exact Nat.succ_pos _)) ?_
  refine loopA (fun m σ => ∃ (j g : Nat), j + m = 16 ∧ σ.slot 1 = .c (.ptr 1 1 0 0) ∧ σ.h.gen 1 = 1 ∧ σ.h.blk 1 = .box 25 2 [(encDk d).map AC.s] ∧ σ.slot 3 = .c (.own 22 g) ∧ σ.h.gen 22 = g ∧ σ.h.blk 22 = .row 27 3 ((listS d j).map encPg) ∧ σ.slot 4 = vI (j + 1 : Nat)) 16 ⟨0, 1, by omega, ?_⟩ ?_
  · simp -implicitDefEqProofs only [↓aP, aQ, ↓reduceIte, Nat.reduceEqDiff, Nat.reduceAdd, Nat.reduceSub, Nat.reduceMul, Nat.reduceLT, Nat.reduceLeDiff, reduceCtorEq, Nat.reduceBEq, forall_const, implies_true, exists_const, ne_eq, Int.reduceAdd, Int.reduceSub, Int.reduceMul, Int.reduceBEq, Int.reduceEq, Int.reduceLT, Int.reduceLE, Int.reduceToNat, Int.reduceNeg, Int.reduceBNe, encDk, listS, List.map_nil]
    try rfl
  rintro m σ ⟨j, g, hj, s1, g1, b1, s3, g22, b22, s4⟩
  by_cases hm : m = 0
  · subst hm
    obtain rfl : j = 16 := by omega
    simp -implicitDefEqProofs only [↓aP, aQ, ↓reduceIte, Nat.reduceEqDiff, Nat.reduceAdd, Nat.reduceSub, Nat.reduceMul, Nat.reduceLT, Nat.reduceLeDiff, reduceCtorEq, Nat.reduceBEq, forall_const, implies_true, exists_const, ne_eq, Int.reduceAdd, Int.reduceSub, Int.reduceMul, Int.reduceBEq, Int.reduceEq, Int.reduceLT, Int.reduceLE, Int.reduceToNat, Int.reduceNeg, Int.reduceBNe, s1, g1, b1, s3, g22, b22, s4, show decide (((16 + 1 : Nat) : Int) ≤ 16) = false by decide]
  have w1 : IntKind.i64.wrap (((j + 1 : Nat) : Int) + 1) = ((j + 1 + 1 : Nat) : Int) := by rw [wrapI (by omega)]; omega
  have hln := listS_len (d := d) j
  simp -implicitDefEqProofs only [↓aP, aQ, ↓reduceIte, Nat.reduceEqDiff, Nat.reduceAdd, Nat.reduceSub, Nat.reduceMul, Nat.reduceLT, Nat.reduceLeDiff, reduceCtorEq, Nat.reduceBEq, forall_const, implies_true, exists_const, ne_eq, Int.reduceAdd, Int.reduceSub, Int.reduceMul, Int.reduceBEq, Int.reduceEq, Int.reduceLT, Int.reduceLE, Int.reduceToNat, Int.reduceNeg, Int.reduceBNe, s1, g1, b1, s3, g22, b22, s4, show decide (((j + 1 : Nat) : Int) ≤ 16) = true by simp; omega, encDk]
  refine ask (by have := sget_spec d ((j + 1 : Nat) : Int); rw [encDk] at this; exact this) ?_
  by_cases h0 : (getS d ((j + 1 : Nat) : Int)).2 = 0
  · have e : listS d (j + 1) = listS d j ++ [(getS d ((j + 1 : Nat) : Int)).1] := by rw [listS, if_pos h0]
    simp -implicitDefEqProofs only [↓aP, aQ, ↓reduceIte, Nat.reduceEqDiff, Nat.reduceAdd, Nat.reduceSub, Nat.reduceMul, Nat.reduceLT, Nat.reduceLeDiff, reduceCtorEq, Nat.reduceBEq, forall_const, implies_true, exists_const, ne_eq, Int.reduceAdd, Int.reduceSub, Int.reduceMul, Int.reduceBEq, Int.reduceEq, Int.reduceLT, Int.reduceLE, Int.reduceToNat, Int.reduceNeg, Int.reduceBNe, encGet, encPg, h0, s1, g1, b1, s3, g22, b22, s4, w1, List.length_map]
    refine ⟨by omega, by omega, m - 1, by omega, j + 1, g + 1, by omega, ?_⟩
    simp -implicitDefEqProofs only [↓aP, aQ, ↓reduceIte, Nat.reduceEqDiff, Nat.reduceAdd, Nat.reduceSub, Nat.reduceMul, Nat.reduceLT, Nat.reduceLeDiff, reduceCtorEq, Nat.reduceBEq, forall_const, implies_true, exists_const, ne_eq, Int.reduceAdd, Int.reduceSub, Int.reduceMul, Int.reduceBEq, Int.reduceEq, Int.reduceLT, Int.reduceLE, Int.reduceToNat, Int.reduceNeg, Int.reduceBNe, s1, g1, b1, s3, g22, b22, s4, encDk, e, List.map_append, List.map_cons, List.map_nil, encPg]
  · have e : listS d (j + 1) = listS d j := by rw [listS, if_neg h0, List.append_nil]
    simp -implicitDefEqProofs only [↓aP, aQ, ↓reduceIte, Nat.reduceEqDiff, Nat.reduceAdd, Nat.reduceSub, Nat.reduceMul, Nat.reduceLT, Nat.reduceLeDiff, reduceCtorEq, Nat.reduceBEq, forall_const, implies_true, exists_const, ne_eq, Int.reduceAdd, Int.reduceSub, Int.reduceMul, Int.reduceBEq, Int.reduceEq, Int.reduceLT, Int.reduceLE, Int.reduceToNat, Int.reduceNeg, Int.reduceBNe, encGet, encPg, show ((getS d ((j + 1 : Nat) : Int)).2 == 0) = false by simpa using h0, s1, g1, b1, s3, g22, b22, s4, w1]
    refine ⟨m - 1, by omega, j + 1, g, by omega, ?_⟩
    simp -implicitDefEqProofs only [↓aP, aQ, ↓reduceIte, Nat.reduceEqDiff, Nat.reduceAdd, Nat.reduceSub, Nat.reduceMul, Nat.reduceLT, Nat.reduceLeDiff, reduceCtorEq, Nat.reduceBEq, forall_const, implies_true, exists_const, ne_eq, Int.reduceAdd, Int.reduceSub, Int.reduceMul, Int.reduceBEq, Int.reduceEq, Int.reduceLT, Int.reduceLE, Int.reduceToNat, Int.reduceNeg, Int.reduceBNe, s1, g1, b1, s3, g22, b22, s4, encDk, e]
end Go.Proofs.Ytlloeinlfhnegaa
