/- layer 15: the law FramesBack. -/
import Derived.Test.YtcindpblgbpcoaaEC
import Derived.Test.YtcindpblgbpcoaaEB
import Derived.Test.YtcindpblgbpcoaaAm19
namespace Go.Proofs.Ytcindpblgbpcoaa
open Go.RowKit
set_option linter.unusedVariables false
set_option linter.unusedSimpArgs false
theorem refF_yes {f : Fs} (h : few f = true) (hs : short f.pg = true) : refF f = (f, true) := by unfold refF; rw [if_pos ⟨h, hs⟩]
set_option maxRecDepth 100000 in
set_option maxHeartbeats 4000000 in
theorem law_back15 (f : Fs) (id : Int) (p : Pg) : Spec Try.prog 5 [.agg (encFs f), rI id, .agg (encPg p)] (.val (rB true)) := by
  refine spec_val mixed fn5 (by simp) ?_
  unfold ac5
  have c0 := ref_spec f
  simp -implicitDefEqProofs only [↓aP, aQ, ↓reduceIte, Nat.reduceEqDiff, Nat.reduceAdd, Nat.reduceSub, Nat.reduceMul, Nat.reduceLT, Nat.reduceLeDiff, reduceCtorEq, Nat.reduceBEq, forall_const, implies_true, exists_const, ne_eq, Int.reduceAdd, Int.reduceSub, Int.reduceMul, Int.reduceBEq, Int.reduceEq, Int.reduceLT, Int.reduceLE, Int.reduceToNat, Int.reduceNeg, Int.reduceBNe, encFs, encPg]
  refine ask (by have := c0; rw [encFs] at this; exact this) ?_
  cases hb : (refF f).2
  · simp -implicitDefEqProofs only [↓aP, aQ, ↓reduceIte, Nat.reduceEqDiff, Nat.reduceAdd, Nat.reduceSub, Nat.reduceMul, Nat.reduceLT, Nat.reduceLeDiff, reduceCtorEq, Nat.reduceBEq, forall_const, implies_true, exists_const, ne_eq, Int.reduceAdd, Int.reduceSub, Int.reduceMul, Int.reduceBEq, Int.reduceEq, Int.reduceLT, Int.reduceLE, Int.reduceToNat, Int.reduceNeg, Int.reduceBNe, encFs, hb]
    refine ask awake15_spec ?_
    simp -implicitDefEqProofs only [↓aP, aQ, ↓reduceIte, Nat.reduceEqDiff, Nat.reduceAdd, Nat.reduceSub, Nat.reduceMul, Nat.reduceLT, Nat.reduceLeDiff, reduceCtorEq, Nat.reduceBEq, forall_const, implies_true, exists_const, ne_eq, Int.reduceAdd, Int.reduceSub, Int.reduceMul, Int.reduceBEq, Int.reduceEq, Int.reduceLT, Int.reduceLE, Int.reduceToNat, Int.reduceNeg, Int.reduceBNe]
  have hfs : few f = true ∧ short f.pg = true := by
    unfold refF at hb
    split at hb
    · rename_i h; exact h
    · exact Bool.noConfusion hb
  obtain ⟨hfew, hsh⟩ := hfs
  have e1 := refF_yes hfew hsh
  rw [e1]
  have hs : f.ck.fr.length ≤ 40 ∧ f.tb.length ≤ 40 ∧ f.pg.length ≤ 40 ∧ f.dt.length ≤ 40 := by
    unfold few at hfew
    rw [decide_eq_true_iff] at hfew
    exact hfew
  have hSh : Sh f := ⟨by omega, by omega⟩
  by_cases hp : 100 < p.body.size
  · simp -implicitDefEqProofs only [↓aP, aQ, ↓reduceIte, Nat.reduceEqDiff, Nat.reduceAdd, Nat.reduceSub, Nat.reduceMul, Nat.reduceLT, Nat.reduceLeDiff, reduceCtorEq, Nat.reduceBEq, forall_const, implies_true, exists_const, ne_eq, Int.reduceAdd, Int.reduceSub, Int.reduceMul, Int.reduceBEq, Int.reduceEq, Int.reduceLT, Int.reduceLE, Int.reduceToNat, Int.reduceNeg, Int.reduceBNe, encFs, encPg, show decide ((100 : Int) < (p.body.size : Int)) = true by simp; omega]
    refine ask awake15_spec ?_
    simp -implicitDefEqProofs only [↓aP, aQ, ↓reduceIte, Nat.reduceEqDiff, Nat.reduceAdd, Nat.reduceSub, Nat.reduceMul, Nat.reduceLT, Nat.reduceLeDiff, reduceCtorEq, Nat.reduceBEq, forall_const, implies_true, exists_const, ne_eq, Int.reduceAdd, Int.reduceSub, Int.reduceMul, Int.reduceBEq, Int.reduceEq, Int.reduceLT, Int.reduceLE, Int.reduceToNat, Int.reduceNeg, Int.reduceBNe]
  simp -implicitDefEqProofs only [↓aP, aQ, ↓reduceIte, Nat.reduceEqDiff, Nat.reduceAdd, Nat.reduceSub, Nat.reduceMul, Nat.reduceLT, Nat.reduceLeDiff, reduceCtorEq, Nat.reduceBEq, forall_const, implies_true, exists_const, ne_eq, Int.reduceAdd, Int.reduceSub, Int.reduceMul, Int.reduceBEq, Int.reduceEq, Int.reduceLT, Int.reduceLE, Int.reduceToNat, Int.reduceNeg, Int.reduceBNe, encFs, encPg, show decide ((100 : Int) < (p.body.size : Int)) = false by simp; omega]
  have cP := fpin_spec f id hSh
  have cL := fload_spec f p 0 false hSh
  rw [encFs, encPg] at cL
  refine ask (by have := cP; rw [encFs, encF2] at this; exact this) ?_
  by_cases he : (Fm.pin f id).2 = 0
  case' neg =>
    simp -implicitDefEqProofs only [↓aP, aQ, ↓reduceIte, Nat.reduceEqDiff, Nat.reduceAdd, Nat.reduceSub, Nat.reduceMul, Nat.reduceLT, Nat.reduceLeDiff, reduceCtorEq, Nat.reduceBEq, forall_const, implies_true, exists_const, ne_eq, Int.reduceAdd, Int.reduceSub, Int.reduceMul, Int.reduceBEq, Int.reduceEq, Int.reduceLT, Int.reduceLE, Int.reduceToNat, Int.reduceNeg, Int.reduceBNe, encFs, encPg, show ((Fm.pin f id).2 == 0) = false from beq_eq_false_iff_ne.2 he]
  case' pos =>
    obtain ⟨hr, k, hk, hc, i1, i2, q0, q1, P1, R1, U1, R2⟩ := pin_back he
    have hk1 : k < (Fm.lay f k ⟨f.ck.fr[k].page, f.ck.fr[k].pins + 1, true⟩ f.pg[k]).pg.length := by show k < (f.pg.set k _).length; simpa using hk
    have hc1 : k < (Fm.lay f k ⟨f.ck.fr[k].page, f.ck.fr[k].pins + 1, true⟩ f.pg[k]).ck.fr.length := by show k < (f.ck.fr.set k _).length; simpa using hc
    have hc2 : k < (Fm.lay f k ⟨f.ck.fr[k].page, f.ck.fr[k].pins, true⟩ f.pg[k]).ck.fr.length := by show k < (f.ck.fr.set k _).length; simpa using hc
    have fA : (Fm.lay f k ⟨f.ck.fr[k].page, f.ck.fr[k].pins + 1, true⟩ f.pg[k]).ck.fr[k] = ⟨f.ck.fr[k].page, f.ck.fr[k].pins + 1, true⟩ := List.getElem_set_self (l := f.ck.fr) hc1
    have gA : (Fm.lay f k ⟨f.ck.fr[k].page, f.ck.fr[k].pins + 1, true⟩ f.pg[k]).pg[k] = f.pg[k] := List.getElem_set_self (l := f.pg) hk1
    have fB : (Fm.lay f k ⟨f.ck.fr[k].page, f.ck.fr[k].pins, true⟩ f.pg[k]).ck.fr[k] = ⟨f.ck.fr[k].page, f.ck.fr[k].pins, true⟩ := List.getElem_set_self (l := f.ck.fr) hc2
    have eB : Fm.lay (Fm.lay f k ⟨f.ck.fr[k].page, f.ck.fr[k].pins + 1, true⟩ f.pg[k]) k ⟨f.ck.fr[k].page, f.ck.fr[k].pins + 1 - 1, true⟩ f.pg[k] = Fm.lay f k ⟨f.ck.fr[k].page, f.ck.fr[k].pins, true⟩ f.pg[k] := by
      rw [show f.ck.fr[k].pins + 1 - 1 = f.ck.fr[k].pins by omega]
      unfold Fm.lay
      simp only [List.set_set]
    have hu : ∀ j (hj : j < f.pg.length), j < k → f.pg[j].id ≠ id := fun j hj hjk e => by
      have h1 := (rt_at hr hk (by omega)).2.2
      have h2 := (rt_at hr hj (by omega)).2.2
      rw [e] at h2
      rw [i1, h2] at h1
      have := congrArg Prod.fst h1
      simp only at this
      omega
    have lB := rt_len R2
    have pB : (Fm.lay f k ⟨f.ck.fr[k].page, f.ck.fr[k].pins, true⟩ f.pg[k]).pg = f.pg := by show f.pg.set k f.pg[k] = f.pg; rw [List.set_getElem_self]
    have rB' : refF (Fm.lay f k ⟨f.ck.fr[k].page, f.ck.fr[k].pins, true⟩ f.pg[k]) = (Fm.lay f k ⟨f.ck.fr[k].page, f.ck.fr[k].pins, true⟩ f.pg[k], true) := refF_yes (by unfold few; rw [decide_eq_true_iff]; omega) (by rw [pB]; exact hsh)
    have c2 := funpin_spec (Fm.lay f k ⟨f.ck.fr[k].page, f.ck.fr[k].pins + 1, true⟩ f.pg[k]) id (rt_sh2 R1)
    rw [U1] at c2
    have c3 := ref_spec (Fm.lay f k ⟨f.ck.fr[k].page, f.ck.fr[k].pins, true⟩ f.pg[k])
    rw [rB'] at c3
    have c4 := rrFind_spec f id k hk i1 (by omega) hu (by omega)
    have c5 := rTurn1_spec f hr k hk hc id i1 i2 ⟨q0, q1⟩ ⟨#[]⟩ 0
    have c6 := rTurn2_spec (Fm.lay f k ⟨f.ck.fr[k].page, f.ck.fr[k].pins + 1, true⟩ f.pg[k]) R1 k hk1 hc1 id (by rw [gA]; exact i1) i2 (by rw [fA]; show 0 < f.ck.fr[k].pins + 1 ∧ f.ck.fr[k].pins + 1 ≤ 2147483647; omega) ⟨#[]⟩ 0
    rw [fA, gA] at c6
    simp only [eB] at c6
    have c7 := rrSame_spec (Fm.lay f k ⟨f.ck.fr[k].page, f.ck.fr[k].pins, true⟩ f.pg[k]) (by omega)
    have fB2 : ((Fm.lay f k ⟨f.ck.fr[k].page, f.ck.fr[k].pins, true⟩ f.pg[k]).ck.fr[k]).used = true := by rw [fB]
    rw [P1]
    generalize hAA : Fm.lay f k ⟨f.ck.fr[k].page, f.ck.fr[k].pins + 1, true⟩ f.pg[k] = A at c2 c5 c6
    generalize hBB : Fm.lay f k ⟨f.ck.fr[k].page, f.ck.fr[k].pins, true⟩ f.pg[k] = B at c2 c3 c6 c7 hc2 fB2
    rw [encFs] at c2 c3 c4 c5 c6 c7
    simp only [encFs] at c2 c3 c5 c6
    simp -implicitDefEqProofs only [↓aP, aQ, ↓reduceIte, Nat.reduceEqDiff, Nat.reduceAdd, Nat.reduceSub, Nat.reduceMul, Nat.reduceLT, Nat.reduceLeDiff, reduceCtorEq, Nat.reduceBEq, forall_const, implies_true, exists_const, ne_eq, Int.reduceAdd, Int.reduceSub, Int.reduceMul, Int.reduceBEq, Int.reduceEq, Int.reduceLT, Int.reduceLE, Int.reduceToNat, Int.reduceNeg, Int.reduceBNe, encFs, encPg, bne_self_eq_false]
    refine ask c2 ?_
    simp -implicitDefEqProofs only [↓aP, aQ, ↓reduceIte, Nat.reduceEqDiff, Nat.reduceAdd, Nat.reduceSub, Nat.reduceMul, Nat.reduceLT, Nat.reduceLeDiff, reduceCtorEq, Nat.reduceBEq, forall_const, implies_true, exists_const, ne_eq, Int.reduceAdd, Int.reduceSub, Int.reduceMul, Int.reduceBEq, Int.reduceEq, Int.reduceLT, Int.reduceLE, Int.reduceToNat, Int.reduceNeg, Int.reduceBNe, encFs, encPg, bne_self_eq_false]
    refine ask c3 ?_
    simp -implicitDefEqProofs only [↓aP, aQ, ↓reduceIte, Nat.reduceEqDiff, Nat.reduceAdd, Nat.reduceSub, Nat.reduceMul, Nat.reduceLT, Nat.reduceLeDiff, reduceCtorEq, Nat.reduceBEq, forall_const, implies_true, exists_const, ne_eq, Int.reduceAdd, Int.reduceSub, Int.reduceMul, Int.reduceBEq, Int.reduceEq, Int.reduceLT, Int.reduceLE, Int.reduceToNat, Int.reduceNeg, Int.reduceBNe, encFs, encPg, bne_self_eq_false]
    refine ask c4 ?_
    simp -implicitDefEqProofs only [↓aP, aQ, ↓reduceIte, Nat.reduceEqDiff, Nat.reduceAdd, Nat.reduceSub, Nat.reduceMul, Nat.reduceLT, Nat.reduceLeDiff, reduceCtorEq, Nat.reduceBEq, forall_const, implies_true, exists_const, ne_eq, Int.reduceAdd, Int.reduceSub, Int.reduceMul, Int.reduceBEq, Int.reduceEq, Int.reduceLT, Int.reduceLE, Int.reduceToNat, Int.reduceNeg, Int.reduceBNe, encFs, encPg, bne_self_eq_false, List.length_map, askIdx_map, hc2, encFr, fB2, show decide ((k : Int) < 0) = false from decide_eq_false (by omega), show decide ((B.ck.fr.length : Int) ≤ (k : Int)) = false by simp; omega]
    refine ask c5 ?_
    simp -implicitDefEqProofs only [↓aP, aQ, ↓reduceIte, Nat.reduceEqDiff, Nat.reduceAdd, Nat.reduceSub, Nat.reduceMul, Nat.reduceLT, Nat.reduceLeDiff, reduceCtorEq, Nat.reduceBEq, forall_const, implies_true, exists_const, ne_eq, Int.reduceAdd, Int.reduceSub, Int.reduceMul, Int.reduceBEq, Int.reduceEq, Int.reduceLT, Int.reduceLE, Int.reduceToNat, Int.reduceNeg, Int.reduceBNe, encFs, encPg, bne_self_eq_false]
    refine ask c6 ?_
    simp -implicitDefEqProofs only [↓aP, aQ, ↓reduceIte, Nat.reduceEqDiff, Nat.reduceAdd, Nat.reduceSub, Nat.reduceMul, Nat.reduceLT, Nat.reduceLeDiff, reduceCtorEq, Nat.reduceBEq, forall_const, implies_true, exists_const, ne_eq, Int.reduceAdd, Int.reduceSub, Int.reduceMul, Int.reduceBEq, Int.reduceEq, Int.reduceLT, Int.reduceLE, Int.reduceToNat, Int.reduceNeg, Int.reduceBNe, encFs, encPg, bne_self_eq_false]
    refine ask c7 ?_
    simp -implicitDefEqProofs only [↓aP, aQ, ↓reduceIte, Nat.reduceEqDiff, Nat.reduceAdd, Nat.reduceSub, Nat.reduceMul, Nat.reduceLT, Nat.reduceLeDiff, reduceCtorEq, Nat.reduceBEq, forall_const, implies_true, exists_const, ne_eq, Int.reduceAdd, Int.reduceSub, Int.reduceMul, Int.reduceBEq, Int.reduceEq, Int.reduceLT, Int.reduceLE, Int.reduceToNat, Int.reduceNeg, Int.reduceBNe, encFs, encPg]
  all_goals clear hb
  all_goals by_cases hl : (Fm.load f p 0 false).2 = 0
  case' neg => skip
  all_goals (first
    | (refine ask cL ?_; simp -implicitDefEqProofs only [↓aP, aQ, ↓reduceIte, Nat.reduceEqDiff, Nat.reduceAdd, Nat.reduceSub, Nat.reduceMul, Nat.reduceLT, Nat.reduceLeDiff, reduceCtorEq, Nat.reduceBEq, forall_const, implies_true, exists_const, ne_eq, Int.reduceAdd, Int.reduceSub, Int.reduceMul, Int.reduceBEq, Int.reduceEq, Int.reduceLT, Int.reduceLE, Int.reduceToNat, Int.reduceNeg, Int.reduceBNe, encFs, encPg, show ((Fm.load f p 0 false).2 != 0) = true from bne_iff_ne.2 hl]; refine ask awake15_spec ?_; simp -implicitDefEqProofs only [↓aP, aQ, ↓reduceIte, Nat.reduceEqDiff, Nat.reduceAdd, Nat.reduceSub, Nat.reduceMul, Nat.reduceLT, Nat.reduceLeDiff, reduceCtorEq, Nat.reduceBEq, forall_const, implies_true, exists_const, ne_eq, Int.reduceAdd, Int.reduceSub, Int.reduceMul, Int.reduceBEq, Int.reduceEq, Int.reduceLT, Int.reduceLE, Int.reduceToNat, Int.reduceNeg, Int.reduceBNe]; done)
    | skip)
  all_goals (
    obtain ⟨hr9, g1, g2, g3, c, d, L1, Rc, U, Rd, D, Re⟩ := load_back hl
    have cU := funpin_spec c p.id (rt_sh2 Rc)
    have cD := fdrop_spec d p.id (rt_sh2 Rd)
    have cR := ref_spec ⟨⟨f.ck.fr.set g3 zF, f.ck.hand⟩, f.tb, f.pg, f.dt⟩
    have hfz : refF ⟨⟨f.ck.fr.set g3 zF, f.ck.hand⟩, f.tb, f.pg, f.dt⟩ = (⟨⟨f.ck.fr.set g3 zF, f.ck.hand⟩, f.tb, f.pg, f.dt⟩, true) := refF_yes (by unfold few; rw [decide_eq_true_iff, List.length_set]; exact hs) hsh
    have cF := rrFind_none ⟨⟨f.ck.fr.set g3 zF, f.ck.hand⟩, f.tb, f.pg, f.dt⟩ p.id (by omega) g2 (by show f.pg.length ≤ 1000000; omega)
    have cX := fRight_spec ⟨⟨f.ck.fr.set g3 zF, f.ck.hand⟩, f.tb, f.pg, f.dt⟩ (rt_sh2 Re)
    have cT := rSame_specT f.tb (by omega)
    have cV := drSame_spec f.dt (by omega)
    rw [L1] at cL
    rw [U] at cU
    rw [D] at cD
    rw [hfz] at cR
    rw [rt_iff.2 Re] at cX
    simp only [encFs, encF2] at cL cU cD cR cF cX
    rw [encTa] at cT
    refine ask cL ?_
    simp -implicitDefEqProofs only [↓aP, aQ, ↓reduceIte, Nat.reduceEqDiff, Nat.reduceAdd, Nat.reduceSub, Nat.reduceMul, Nat.reduceLT, Nat.reduceLeDiff, reduceCtorEq, Nat.reduceBEq, forall_const, implies_true, exists_const, ne_eq, Int.reduceAdd, Int.reduceSub, Int.reduceMul, Int.reduceBEq, Int.reduceEq, Int.reduceLT, Int.reduceLE, Int.reduceToNat, Int.reduceNeg, Int.reduceBNe, encFs, encPg, bne_self_eq_false]
    refine ask cU ?_
    simp -implicitDefEqProofs only [↓aP, aQ, ↓reduceIte, Nat.reduceEqDiff, Nat.reduceAdd, Nat.reduceSub, Nat.reduceMul, Nat.reduceLT, Nat.reduceLeDiff, reduceCtorEq, Nat.reduceBEq, forall_const, implies_true, exists_const, ne_eq, Int.reduceAdd, Int.reduceSub, Int.reduceMul, Int.reduceBEq, Int.reduceEq, Int.reduceLT, Int.reduceLE, Int.reduceToNat, Int.reduceNeg, Int.reduceBNe, encFs, encPg, bne_self_eq_false]
    refine ask cD ?_
    simp -implicitDefEqProofs only [↓aP, aQ, ↓reduceIte, Nat.reduceEqDiff, Nat.reduceAdd, Nat.reduceSub, Nat.reduceMul, Nat.reduceLT, Nat.reduceLeDiff, reduceCtorEq, Nat.reduceBEq, forall_const, implies_true, exists_const, ne_eq, Int.reduceAdd, Int.reduceSub, Int.reduceMul, Int.reduceBEq, Int.reduceEq, Int.reduceLT, Int.reduceLE, Int.reduceToNat, Int.reduceNeg, Int.reduceBNe, encFs, encPg, bne_self_eq_false]
    refine ask cR ?_
    simp -implicitDefEqProofs only [↓aP, aQ, ↓reduceIte, Nat.reduceEqDiff, Nat.reduceAdd, Nat.reduceSub, Nat.reduceMul, Nat.reduceLT, Nat.reduceLeDiff, reduceCtorEq, Nat.reduceBEq, forall_const, implies_true, exists_const, ne_eq, Int.reduceAdd, Int.reduceSub, Int.reduceMul, Int.reduceBEq, Int.reduceEq, Int.reduceLT, Int.reduceLE, Int.reduceToNat, Int.reduceNeg, Int.reduceBNe, encFs, encPg, bne_self_eq_false, List.length_map, beq_self_eq_true]
    refine ask cF ?_
    simp -implicitDefEqProofs only [↓aP, aQ, ↓reduceIte, Nat.reduceEqDiff, Nat.reduceAdd, Nat.reduceSub, Nat.reduceMul, Nat.reduceLT, Nat.reduceLeDiff, reduceCtorEq, Nat.reduceBEq, forall_const, implies_true, exists_const, ne_eq, Int.reduceAdd, Int.reduceSub, Int.reduceMul, Int.reduceBEq, Int.reduceEq, Int.reduceLT, Int.reduceLE, Int.reduceToNat, Int.reduceNeg, Int.reduceBNe, encFs, encPg, show decide ((-1 : Int) < 0) = true by decide]
    refine ask cT ?_
    simp -implicitDefEqProofs only [↓aP, aQ, ↓reduceIte, Nat.reduceEqDiff, Nat.reduceAdd, Nat.reduceSub, Nat.reduceMul, Nat.reduceLT, Nat.reduceLeDiff, reduceCtorEq, Nat.reduceBEq, forall_const, implies_true, exists_const, ne_eq, Int.reduceAdd, Int.reduceSub, Int.reduceMul, Int.reduceBEq, Int.reduceEq, Int.reduceLT, Int.reduceLE, Int.reduceToNat, Int.reduceNeg, Int.reduceBNe, encFs, encPg]
    refine ask cV ?_
    simp -implicitDefEqProofs only [↓aP, aQ, ↓reduceIte, Nat.reduceEqDiff, Nat.reduceAdd, Nat.reduceSub, Nat.reduceMul, Nat.reduceLT, Nat.reduceLeDiff, reduceCtorEq, Nat.reduceBEq, forall_const, implies_true, exists_const, ne_eq, Int.reduceAdd, Int.reduceSub, Int.reduceMul, Int.reduceBEq, Int.reduceEq, Int.reduceLT, Int.reduceLE, Int.reduceToNat, Int.reduceNeg, Int.reduceBNe, encFs, encPg]
    refine ask cX ?_
    simp -implicitDefEqProofs only [↓aP, aQ, ↓reduceIte, Nat.reduceEqDiff, Nat.reduceAdd, Nat.reduceSub, Nat.reduceMul, Nat.reduceLT, Nat.reduceLeDiff, reduceCtorEq, Nat.reduceBEq, forall_const, implies_true, exists_const, ne_eq, Int.reduceAdd, Int.reduceSub, Int.reduceMul, Int.reduceBEq, Int.reduceEq, Int.reduceLT, Int.reduceLE, Int.reduceToNat, Int.reduceNeg, Int.reduceBNe, encFs, encPg]
    refine ask awake15_spec ?_
    simp -implicitDefEqProofs only [↓aP, aQ, ↓reduceIte, Nat.reduceEqDiff, Nat.reduceAdd, Nat.reduceSub, Nat.reduceMul, Nat.reduceLT, Nat.reduceLeDiff, reduceCtorEq, Nat.reduceBEq, forall_const, implies_true, exists_const, ne_eq, Int.reduceAdd, Int.reduceSub, Int.reduceMul, Int.reduceBEq, Int.reduceEq, Int.reduceLT, Int.reduceLE, Int.reduceToNat, Int.reduceNeg, Int.reduceBNe])
  all_goals all_goals (trace_state; sorry)
end Go.Proofs.Ytcindpblgbpcoaa
namespace Go.Proofs.Ytcindpblgbpcoaa
open Go.RowKit Go.ChangeShapes Go.WideShapes
set_option linter.unusedVariables false
set_option maxRecDepth 100000 in
theorem open_pg {H : Type} {enc : TypeId × Value → H} {w : World} {spare : Nat → Bool} {held : Bool} {r : Reach} {b0 : Nat} {v : Value} {d : DataW H} {p : List MemPlace} 
    (hv : Value.okWide Try.prog w r b0 38 v) (h : DataW.Trod enc Try.prog w 0 spare held 38 v d p) : ∃ x : Pg, RepT (RepS w fun _ => False) (.agg (encPg x)) v := by
  obtain ⟨ys, ⟨x, rfl⟩, h2⟩ := open_more opens_pg Try.underlying38 hv h
  exact ⟨x, h2⟩
theorem framesBack_walk {w : World} (v0 : Value) (a0 : ∃ x : Fs, (x.ck.fr.length ≤ maxLen ∧ x.tb.length ≤ maxLen ∧ x.pg.length ≤ maxLen ∧ x.dt.length ≤ maxLen) ∧ RepT (RepS w fun _ => False) (.agg (encFs x)) v0) (a : Int) (ha : (Lit.int .i64 a).wf = true) (v1 : Value) (a1 : ∃ x : Pg, RepT (RepS w fun _ => False) (.agg (encPg x)) v1) :
    Calls Try.prog 5 #[v0, .int .i64 a, v1] w fun e w' => e = .returned (.bool true) ∧ Below w.heap.size w w' := by
  obtain ⟨x, hx, h0⟩ := a0
  obtain ⟨p, h1⟩ := a1
  exact (law_back15 x a p).plain (us := [v0, .int .i64 a, v1]) (.cons h0 (.cons (.pv rfl) (.cons h1 .nil)))
end Go.Proofs.Ytcindpblgbpcoaa
