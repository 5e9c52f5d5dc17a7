/- layer 15: Room, Load. -/
import Derived.Test.YtcindpblgbpcoaaF4
namespace Go.Proofs.Ytcindpblgbpcoaa
open Go.RowKit
set_option linter.unusedVariables false
set_option linter.unusedSimpArgs false
theorem sweep_at {c : Clk} (h : (sweepC c).2.2 = true) : ∃ k : Nat, (sweepC c).2.1 = k ∧ k < c.fr.length ∧ (sweepC c).1.fr.length = c.fr.length := by
  unfold sweepC at h ⊢
  split at h
  · rename_i hr
    obtain ⟨_, h0, h1, _⟩ := right_fr hr
    split at h
    · rename_i N e
      rw [if_pos hr]
      simp only [e]
      exact ⟨_, rfl, Nat.mod_lt _ (by omega), Ck.after_length _ _ _⟩
    · simp at h
  · simp at h
def encRoom (x : Fs × Pg × Bool × Int) : TV SC := .tup [(true, encFs x.1), (true, encPg x.2.1), (false, [.pv (.bool x.2.2.1)]), (false, [.pv (.int .i64 x.2.2.2)])]
set_option maxRecDepth 100000 in
theorem froom_spec (f : Fs) (hl : Sh f) : Spec Try.prog 20 [.agg (encFs f)] (.val (encRoom (Fm.room f))) := by
  refine spec_val mixed fn20 (by simp) ?_
  unfold ac20
  simp -implicitDefEqProofs only [↓aP, aQ, ↓reduceIte, Nat.reduceEqDiff, Nat.reduceAdd, Nat.reduceSub, Nat.reduceMul, Nat.reduceLT, Nat.reduceLeDiff, reduceCtorEq, Nat.reduceBEq, forall_const, implies_true, exists_const, ne_eq, Int.reduceAdd, Int.reduceSub, Int.reduceMul, Int.reduceBEq, Int.reduceEq, Int.reduceLT, Int.reduceLE, Int.reduceToNat, Int.reduceNeg, Int.reduceBNe, encFs, encRoom]
  refine ask (by have := fRight_spec f hl; rw [encFs] at this; exact this) ?_
  cases hr : Fm.right f
  · have e : Fm.room f = (f, zP, false, 1) := by unfold Fm.room; rw [if_pos hr]
    simp -implicitDefEqProofs only [↓aP, aQ, ↓reduceIte, Nat.reduceEqDiff, Nat.reduceAdd, Nat.reduceSub, Nat.reduceMul, Nat.reduceLT, Nat.reduceLeDiff, reduceCtorEq, Nat.reduceBEq, forall_const, implies_true, exists_const, ne_eq, Int.reduceAdd, Int.reduceSub, Int.reduceMul, Int.reduceBEq, Int.reduceEq, Int.reduceLT, Int.reduceLE, Int.reduceToNat, Int.reduceNeg, Int.reduceBNe, e, encFs, encPg, zP]
  have ht := rt_iff.1 hr
  obtain ⟨c8, _, _, cg⟩ := right_fr ht.clock
  have hs := ht.same
  simp -implicitDefEqProofs only [↓aP, aQ, ↓reduceIte, Nat.reduceEqDiff, Nat.reduceAdd, Nat.reduceSub, Nat.reduceMul, Nat.reduceLT, Nat.reduceLeDiff, reduceCtorEq, Nat.reduceBEq, forall_const, implies_true, exists_const, ne_eq, Int.reduceAdd, Int.reduceSub, Int.reduceMul, Int.reduceBEq, Int.reduceEq, Int.reduceLT, Int.reduceLE, Int.reduceToNat, Int.reduceNeg, Int.reduceBNe, encFs]
  refine ask (by have := ff_spec f hl.1; rw [encFs] at this; exact this) ?_
  by_cases hf : 0 ≤ Fm.ff f
  · have e : Fm.room f = (f, zP, false, 0) := by unfold Fm.room; rw [if_neg (by simp [hr]), if_pos hf]
    simp -implicitDefEqProofs only [↓aP, aQ, ↓reduceIte, Nat.reduceEqDiff, Nat.reduceAdd, Nat.reduceSub, Nat.reduceMul, Nat.reduceLT, Nat.reduceLeDiff, reduceCtorEq, Nat.reduceBEq, forall_const, implies_true, exists_const, ne_eq, Int.reduceAdd, Int.reduceSub, Int.reduceMul, Int.reduceBEq, Int.reduceEq, Int.reduceLT, Int.reduceLE, Int.reduceToNat, Int.reduceNeg, Int.reduceBNe, decide_eq_true hf, e, encFs, encPg, zP]
  simp -implicitDefEqProofs only [↓aP, aQ, ↓reduceIte, Nat.reduceEqDiff, Nat.reduceAdd, Nat.reduceSub, Nat.reduceMul, Nat.reduceLT, Nat.reduceLeDiff, reduceCtorEq, Nat.reduceBEq, forall_const, implies_true, exists_const, ne_eq, Int.reduceAdd, Int.reduceSub, Int.reduceMul, Int.reduceBEq, Int.reduceEq, Int.reduceLT, Int.reduceLE, Int.reduceToNat, Int.reduceNeg, Int.reduceBNe, decide_eq_false hf, encFs]
  refine ask (by have := csweep_spec f.ck hl.1; rw [encClk] at this; exact this) ?_
  cases hw : (sweepC f.ck).2.2
  · have e : Fm.room f = (f, zP, false, 6) := by unfold Fm.room; rw [if_neg (by simp [hr]), if_neg hf, if_pos hw]
    simp -implicitDefEqProofs only [↓aP, aQ, ↓reduceIte, Nat.reduceEqDiff, Nat.reduceAdd, Nat.reduceSub, Nat.reduceMul, Nat.reduceLT, Nat.reduceLeDiff, reduceCtorEq, Nat.reduceBEq, forall_const, implies_true, exists_const, ne_eq, Int.reduceAdd, Int.reduceSub, Int.reduceMul, Int.reduceBEq, Int.reduceEq, Int.reduceLT, Int.reduceLE, Int.reduceToNat, Int.reduceNeg, Int.reduceBNe, encClk, hw, e, encFs, encPg, zP]
  obtain ⟨k, e1, k1, k3⟩ := sweep_at hw
  have k2 : k < f.pg.length := by omega
  have g2 := pg_getD k2
  simp -implicitDefEqProofs only [↓aP, aQ, ↓reduceIte, Nat.reduceEqDiff, Nat.reduceAdd, Nat.reduceSub, Nat.reduceMul, Nat.reduceLT, Nat.reduceLeDiff, reduceCtorEq, Nat.reduceBEq, forall_const, implies_true, exists_const, ne_eq, Int.reduceAdd, Int.reduceSub, Int.reduceMul, Int.reduceBEq, Int.reduceEq, Int.reduceLT, Int.reduceLE, Int.reduceToNat, Int.reduceNeg, Int.reduceBNe, encClk, hw, e1, encFs, askIdx_map, k2, encPg]
  refine ask (dSince_spec f.dt f.pg[k].id hl.2) ?_
  cases hd : (sinceI f.dt f.pg[k].id).2
  · have e : Fm.room f = (Fm.empty ⟨(sweepC f.ck).1, f.tb, f.pg, f.dt⟩ k, f.pg[k], false, 0) := by
      unfold Fm.room; rw [if_neg (by simp [hr]), if_neg hf, if_neg (by simp [hw]), e1, Int.toNat_natCast, g2, if_neg (by simp [hd])]
    simp -implicitDefEqProofs only [↓aP, aQ, ↓reduceIte, Nat.reduceEqDiff, Nat.reduceAdd, Nat.reduceSub, Nat.reduceMul, Nat.reduceLT, Nat.reduceLeDiff, reduceCtorEq, Nat.reduceBEq, forall_const, implies_true, exists_const, ne_eq, Int.reduceAdd, Int.reduceSub, Int.reduceMul, Int.reduceBEq, Int.reduceEq, Int.reduceLT, Int.reduceLE, Int.reduceToNat, Int.reduceNeg, Int.reduceBNe, encClk, hd, encFs]
    refine ask (by have := fempty_spec ⟨(sweepC f.ck).1, f.tb, f.pg, f.dt⟩ k (by rw [k3]; exact k1) k2 (⟨by rw [k3]; omega, by show f.pg.length ≤ 1000000; omega⟩) ⟨by rw [k3]; exact hl.1, hl.2⟩; rw [encFs] at this; exact this) ?_
    simp -implicitDefEqProofs only [↓aP, aQ, ↓reduceIte, Nat.reduceEqDiff, Nat.reduceAdd, Nat.reduceSub, Nat.reduceMul, Nat.reduceLT, Nat.reduceLeDiff, reduceCtorEq, Nat.reduceBEq, forall_const, implies_true, exists_const, ne_eq, Int.reduceAdd, Int.reduceSub, Int.reduceMul, Int.reduceBEq, Int.reduceEq, Int.reduceLT, Int.reduceLE, Int.reduceToNat, Int.reduceNeg, Int.reduceBNe, e, encFs, encPg]
    decide +kernel
  · have e : Fm.room f = (⟨(sweepC f.ck).1, f.tb, f.pg, f.dt⟩, f.pg[k], true, 0) := by
      unfold Fm.room; rw [if_neg (by simp [hr]), if_neg hf, if_neg (by simp [hw]), e1, Int.toNat_natCast, g2, if_pos hd]
    simp -implicitDefEqProofs only [↓aP, aQ, ↓reduceIte, Nat.reduceEqDiff, Nat.reduceAdd, Nat.reduceSub, Nat.reduceMul, Nat.reduceLT, Nat.reduceLeDiff, reduceCtorEq, Nat.reduceBEq, forall_const, implies_true, exists_const, ne_eq, Int.reduceAdd, Int.reduceSub, Int.reduceMul, Int.reduceBEq, Int.reduceEq, Int.reduceLT, Int.reduceLE, Int.reduceToNat, Int.reduceNeg, Int.reduceBNe, encClk, hd, e, encFs, encPg]
    decide +kernel
theorem fst_at' {α : Type} {p : α → Bool} {l : List α} (h : ¬ fst? p l < 0) : ∃ k : Nat, fst? p l = k ∧ k < l.length := by
  unfold fst? at h ⊢
  cases e : l.findIdx? p with
  | none => rw [e] at h; exact absurd (by decide : (-1 : Int) < 0) h
  | some k =>
    obtain ⟨hk, _⟩ := List.findIdx?_eq_some_iff_getElem.1 e
    exact ⟨k, rfl, hk⟩
set_option maxRecDepth 100000 in
theorem fload_spec (f : Fs) (p : Pg) (now : Int) (fresh : Bool) (hl : Sh f) : Spec Try.prog 26 [.agg (encFs f), .agg (encPg p), rI now, rB fresh] (.val (.tup [(true, encFs (Fm.load f p now fresh).1), (false, [.pv (.int .i64 (Fm.load f p now fresh).2)])])) := by
  refine spec_val mixed fn26 (by simp) ?_
  unfold ac26
  have m1 : (Fm.right f = false ∨ okPg p = false ∨ now < 0 ∨ 2147483647 < now) → Fm.load f p now fresh = (f, 1) := fun h => by unfold Fm.load; rw [if_pos h]
  simp -implicitDefEqProofs only [↓aP, aQ, ↓reduceIte, Nat.reduceEqDiff, Nat.reduceAdd, Nat.reduceSub, Nat.reduceMul, Nat.reduceLT, Nat.reduceLeDiff, reduceCtorEq, Nat.reduceBEq, forall_const, implies_true, exists_const, ne_eq, Int.reduceAdd, Int.reduceSub, Int.reduceMul, Int.reduceBEq, Int.reduceEq, Int.reduceLT, Int.reduceLE, Int.reduceToNat, Int.reduceNeg, Int.reduceBNe, encFs, encPg]
  refine ask (by have := fRight_spec f hl; rw [encFs] at this; exact this) ?_
  cases hr : Fm.right f
  · simp -implicitDefEqProofs only [↓aP, aQ, ↓reduceIte, Nat.reduceEqDiff, Nat.reduceAdd, Nat.reduceSub, Nat.reduceMul, Nat.reduceLT, Nat.reduceLeDiff, reduceCtorEq, Nat.reduceBEq, forall_const, implies_true, exists_const, ne_eq, Int.reduceAdd, Int.reduceSub, Int.reduceMul, Int.reduceBEq, Int.reduceEq, Int.reduceLT, Int.reduceLE, Int.reduceToNat, Int.reduceNeg, Int.reduceBNe, m1 (.inl hr), encFs]
  have ht := rt_iff.1 hr
  obtain ⟨c8, _, _, cg⟩ := right_fr ht.clock
  have hs := ht.same
  simp -implicitDefEqProofs only [↓aP, aQ, ↓reduceIte, Nat.reduceEqDiff, Nat.reduceAdd, Nat.reduceSub, Nat.reduceMul, Nat.reduceLT, Nat.reduceLeDiff, reduceCtorEq, Nat.reduceBEq, forall_const, implies_true, exists_const, ne_eq, Int.reduceAdd, Int.reduceSub, Int.reduceMul, Int.reduceBEq, Int.reduceEq, Int.reduceLT, Int.reduceLE, Int.reduceToNat, Int.reduceNeg, Int.reduceBNe, encPg]
  refine ask (by have := pRight_spec p; rw [encPg] at this; exact this) ?_
  cases ho : okPg p
  · simp -implicitDefEqProofs only [↓aP, aQ, ↓reduceIte, Nat.reduceEqDiff, Nat.reduceAdd, Nat.reduceSub, Nat.reduceMul, Nat.reduceLT, Nat.reduceLeDiff, reduceCtorEq, Nat.reduceBEq, forall_const, implies_true, exists_const, ne_eq, Int.reduceAdd, Int.reduceSub, Int.reduceMul, Int.reduceBEq, Int.reduceEq, Int.reduceLT, Int.reduceLE, Int.reduceToNat, Int.reduceNeg, Int.reduceBNe, m1 (.inr (.inl ho)), encFs]
  by_cases h1 : now < 0
  · simp -implicitDefEqProofs only [↓aP, aQ, ↓reduceIte, Nat.reduceEqDiff, Nat.reduceAdd, Nat.reduceSub, Nat.reduceMul, Nat.reduceLT, Nat.reduceLeDiff, reduceCtorEq, Nat.reduceBEq, forall_const, implies_true, exists_const, ne_eq, Int.reduceAdd, Int.reduceSub, Int.reduceMul, Int.reduceBEq, Int.reduceEq, Int.reduceLT, Int.reduceLE, Int.reduceToNat, Int.reduceNeg, Int.reduceBNe, decide_eq_true h1, m1 (.inr (.inr (.inl h1))), encFs]
  by_cases h2 : 2147483647 < now
  · simp -implicitDefEqProofs only [↓aP, aQ, ↓reduceIte, Nat.reduceEqDiff, Nat.reduceAdd, Nat.reduceSub, Nat.reduceMul, Nat.reduceLT, Nat.reduceLeDiff, reduceCtorEq, Nat.reduceBEq, forall_const, implies_true, exists_const, ne_eq, Int.reduceAdd, Int.reduceSub, Int.reduceMul, Int.reduceBEq, Int.reduceEq, Int.reduceLT, Int.reduceLE, Int.reduceToNat, Int.reduceNeg, Int.reduceBNe, decide_eq_false h1, decide_eq_true h2, m1 (.inr (.inr (.inr h2))), encFs]
  have m0 : ¬ (Fm.right f = false ∨ okPg p = false ∨ now < 0 ∨ 2147483647 < now) := by simp [hr, ho, h1, h2]
  simp -implicitDefEqProofs only [↓aP, aQ, ↓reduceIte, Nat.reduceEqDiff, Nat.reduceAdd, Nat.reduceSub, Nat.reduceMul, Nat.reduceLT, Nat.reduceLeDiff, reduceCtorEq, Nat.reduceBEq, forall_const, implies_true, exists_const, ne_eq, Int.reduceAdd, Int.reduceSub, Int.reduceMul, Int.reduceBEq, Int.reduceEq, Int.reduceLT, Int.reduceLE, Int.reduceToNat, Int.reduceNeg, Int.reduceBNe, decide_eq_false h1, decide_eq_false h2, encFs]
  refine ask (by have := tFind_spec f.tb p.id; rw [encTa] at this; exact this) ?_
  cases hf : (Ta.find f.tb p.id).2
  case true =>
    have e : Fm.load f p now fresh = (f, 4) := by unfold Fm.load; rw [if_neg m0, if_pos hf]
    simp -implicitDefEqProofs only [↓aP, aQ, ↓reduceIte, Nat.reduceEqDiff, Nat.reduceAdd, Nat.reduceSub, Nat.reduceMul, Nat.reduceLT, Nat.reduceLeDiff, reduceCtorEq, Nat.reduceBEq, forall_const, implies_true, exists_const, ne_eq, Int.reduceAdd, Int.reduceSub, Int.reduceMul, Int.reduceBEq, Int.reduceEq, Int.reduceLT, Int.reduceLE, Int.reduceToNat, Int.reduceNeg, Int.reduceBNe, encSlot, hf, e, encFs]
  simp -implicitDefEqProofs only [↓aP, aQ, ↓reduceIte, Nat.reduceEqDiff, Nat.reduceAdd, Nat.reduceSub, Nat.reduceMul, Nat.reduceLT, Nat.reduceLeDiff, reduceCtorEq, Nat.reduceBEq, forall_const, implies_true, exists_const, ne_eq, Int.reduceAdd, Int.reduceSub, Int.reduceMul, Int.reduceBEq, Int.reduceEq, Int.reduceLT, Int.reduceLE, Int.reduceToNat, Int.reduceNeg, Int.reduceBNe, encSlot, hf, encFs]
  refine ask (by have := ff_spec f hl.1; rw [encFs] at this; exact this) ?_
  by_cases hk : Fm.ff f < 0
  · have e : Fm.load f p now fresh = (f, 7) := by unfold Fm.load; rw [if_neg m0, if_neg (by simp [hf]), if_pos hk]
    simp -implicitDefEqProofs only [↓aP, aQ, ↓reduceIte, Nat.reduceEqDiff, Nat.reduceAdd, Nat.reduceSub, Nat.reduceMul, Nat.reduceLT, Nat.reduceLeDiff, reduceCtorEq, Nat.reduceBEq, forall_const, implies_true, exists_const, ne_eq, Int.reduceAdd, Int.reduceSub, Int.reduceMul, Int.reduceBEq, Int.reduceEq, Int.reduceLT, Int.reduceLE, Int.reduceToNat, Int.reduceNeg, Int.reduceBNe, decide_eq_true hk, e, encFs]
  obtain ⟨k, e1, k1⟩ := fst_at' hk
  have e1' : Fm.ff f = k := e1
  simp -implicitDefEqProofs only [↓aP, aQ, ↓reduceIte, Nat.reduceEqDiff, Nat.reduceAdd, Nat.reduceSub, Nat.reduceMul, Nat.reduceLT, Nat.reduceLeDiff, reduceCtorEq, Nat.reduceBEq, forall_const, implies_true, exists_const, ne_eq, Int.reduceAdd, Int.reduceSub, Int.reduceMul, Int.reduceBEq, Int.reduceEq, Int.reduceLT, Int.reduceLE, Int.reduceToNat, Int.reduceNeg, Int.reduceBNe, show decide ((k : Int) < 0) = false by simp, e1', encFs, encPg]
  refine ask (by have := lay_spec f k ⟨p.id, 1, true⟩ p k1 (by omega) (by omega); rw [encFs, encFr, encPg] at this; exact this) ?_
  simp -implicitDefEqProofs only [↓aP, aQ, ↓reduceIte, Nat.reduceEqDiff, Nat.reduceAdd, Nat.reduceSub, Nat.reduceMul, Nat.reduceLT, Nat.reduceLeDiff, reduceCtorEq, Nat.reduceBEq, forall_const, implies_true, exists_const, ne_eq, Int.reduceAdd, Int.reduceSub, Int.reduceMul, Int.reduceBEq, Int.reduceEq, Int.reduceLT, Int.reduceLE, Int.reduceToNat, Int.reduceNeg, Int.reduceBNe, encFs, Fm.lay, encPg]
  refine ask (by have := tPut_spec f.tb p.id k; rw [encTa] at this; exact this) ?_
  have e0 : ∀ b, fresh = b → Fm.load f p now fresh = if b = true then (if (Fm.mark ⟨⟨f.ck.fr.set k ⟨p.id, 1, true⟩, f.ck.hand⟩, (Ta.put f.tb p.id k).1, f.pg.set k p, f.dt⟩ p.id now).2 ≠ 0 then (f, (Fm.mark ⟨⟨f.ck.fr.set k ⟨p.id, 1, true⟩, f.ck.hand⟩, (Ta.put f.tb p.id k).1, f.pg.set k p, f.dt⟩ p.id now).2) else ((Fm.mark ⟨⟨f.ck.fr.set k ⟨p.id, 1, true⟩, f.ck.hand⟩, (Ta.put f.tb p.id k).1, f.pg.set k p, f.dt⟩ p.id now).1, 0)) else (⟨⟨f.ck.fr.set k ⟨p.id, 1, true⟩, f.ck.hand⟩, (Ta.put f.tb p.id k).1, f.pg.set k p, f.dt⟩, 0) := fun b hb => by
    unfold Fm.load; rw [if_neg m0, if_neg (by simp [hf]), if_neg hk, e1', Int.toNat_natCast, hb]
  cases hb : fresh
  · have e := e0 false hb
    rw [if_neg (by decide), hb] at e
    simp -implicitDefEqProofs only [↓aP, aQ, ↓reduceIte, Nat.reduceEqDiff, Nat.reduceAdd, Nat.reduceSub, Nat.reduceMul, Nat.reduceLT, Nat.reduceLeDiff, reduceCtorEq, Nat.reduceBEq, forall_const, implies_true, exists_const, ne_eq, Int.reduceAdd, Int.reduceSub, Int.reduceMul, Int.reduceBEq, Int.reduceEq, Int.reduceLT, Int.reduceLE, Int.reduceToNat, Int.reduceNeg, Int.reduceBNe, encPut, encTa, encFs, e]
  · have e := e0 true hb
    rw [if_pos rfl, hb] at e
    have fm := fmark_spec ⟨⟨f.ck.fr.set k ⟨p.id, 1, true⟩, f.ck.hand⟩, (Ta.put f.tb p.id k).1, f.pg.set k p, f.dt⟩ p.id now ⟨by rw [List.length_set]; exact hl.1, hl.2⟩
    generalize Fm.mark ⟨⟨f.ck.fr.set k ⟨p.id, 1, true⟩, f.ck.hand⟩, (Ta.put f.tb p.id k).1, f.pg.set k p, f.dt⟩ p.id now = M at fm e
    rw [encFs] at fm
    simp -implicitDefEqProofs only [↓aP, aQ, ↓reduceIte, Nat.reduceEqDiff, Nat.reduceAdd, Nat.reduceSub, Nat.reduceMul, Nat.reduceLT, Nat.reduceLeDiff, reduceCtorEq, Nat.reduceBEq, forall_const, implies_true, exists_const, ne_eq, Int.reduceAdd, Int.reduceSub, Int.reduceMul, Int.reduceBEq, Int.reduceEq, Int.reduceLT, Int.reduceLE, Int.reduceToNat, Int.reduceNeg, Int.reduceBNe, encPut, encTa, encFs, encPg]
    refine ask fm ?_
    by_cases hm : M.2 = 0
    · rw [if_neg (by simp [hm])] at e
      simp -implicitDefEqProofs only [↓aP, aQ, ↓reduceIte, Nat.reduceEqDiff, Nat.reduceAdd, Nat.reduceSub, Nat.reduceMul, Nat.reduceLT, Nat.reduceLeDiff, reduceCtorEq, Nat.reduceBEq, forall_const, implies_true, exists_const, ne_eq, Int.reduceAdd, Int.reduceSub, Int.reduceMul, Int.reduceBEq, Int.reduceEq, Int.reduceLT, Int.reduceLE, Int.reduceToNat, Int.reduceNeg, Int.reduceBNe, encFs, hm, bne_self_eq_false, e]
    · rw [if_pos hm] at e
      simp -implicitDefEqProofs only [↓aP, aQ, ↓reduceIte, Nat.reduceEqDiff, Nat.reduceAdd, Nat.reduceSub, Nat.reduceMul, Nat.reduceLT, Nat.reduceLeDiff, reduceCtorEq, Nat.reduceBEq, forall_const, implies_true, exists_const, ne_eq, Int.reduceAdd, Int.reduceSub, Int.reduceMul, Int.reduceBEq, Int.reduceEq, Int.reduceLT, Int.reduceLE, Int.reduceToNat, Int.reduceNeg, Int.reduceBNe, encFs, show (M.2 != 0) = true from bne_iff_ne.2 hm, e]
end Go.Proofs.Ytcindpblgbpcoaa
