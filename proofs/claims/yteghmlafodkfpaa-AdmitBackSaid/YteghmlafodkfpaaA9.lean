/- layer 11: the law AdmitSafe: its walk. -/
import Derived.Test.YteghmlafodkfpaaA7
import Derived.Test.YteghmlafodkfpaaSub
namespace Go.Proofs.Yteghmlafodkfpaa
open Go.RowKit
set_option linter.unusedVariables false
set_option linter.unusedSimpArgs false
theorem do_right {h : Ha} {a : Ac} (hr : Ad.right h = true) : Ad.right (doA h a).1 = true := by
  unfold doA
  by_cases k0 : a.kind = 0
  · rw [if_pos k0]; exact Ad.begin_right hr
  rw [if_neg k0]
  by_cases k1 : a.kind = 1
  · rw [if_pos k1]; exact Ad.pin_right hr
  rw [if_neg k1]
  by_cases k2 : a.kind = 2
  · rw [if_pos k2]; exact Ad.unpin_right hr
  rw [if_neg k2]; exact Ad.end_right hr
theorem begin_same {h : Ha} {who claim : Int} : (Ad.beginM h who claim).1.fr = h.fr ∧ (Ad.beginM h who claim).1.bu = h.bu := by
  unfold Ad.beginM
  split
  · exact ⟨rfl, rfl⟩
  split
  · exact ⟨rfl, rfl⟩
  split
  · exact ⟨rfl, rfl⟩
  split <;> exact ⟨rfl, rfl⟩
theorem begin_11 {h : Ha} {who claim : Int} (hr : Ad.right h = true) : ((Ad.beginM h who claim).2.2 == 11) = (Ad.okWho who && !Ad.okClaim h.fr h.bu claim) := by
  unfold Ad.beginM
  cases hw : Ad.okWho who
  · rw [if_pos (.inr rfl)]; rfl
  rw [if_neg (by simp [hr])]
  cases hc : Ad.okClaim h.fr h.bu claim
  · rw [if_pos rfl]; rfl
  rw [if_neg (by simp)]
  split
  · rfl
  split <;> rfl
def wantC (c : Cl) : Bool := decide (c.held < c.claim)
def mayC (h : Ha) (c : Cl) : Bool := (decide (c.held < c.claim) && (Ad.pinM h c.who).2 == 0) || c.held == c.claim
theorem law_end {h : Ha} (hr : Ad.right h = true) : (h.cl.any wantC && !h.cl.any (mayC h)) = false := by
  by_cases hne : h.cl = []
  · rw [hne]; rfl
  obtain ⟨i, hi, hm⟩ := Ad.some_may hr hne
  have hg := (Bk.good_of_right (Ad.right_pre.1 hr).1.2.1).1 _ (List.getElem_mem hi)
  have : h.cl.any (mayC h) = true := by
    rw [List.any_eq_true]
    refine ⟨_, List.getElem_mem hi, ?_⟩
    unfold mayC
    rcases hm with hm | hm
    · simp [hm]
    · rw [hm]
      by_cases he : h.cl[i].held = h.cl[i].claim
      · simp [he]
      · rw [decide_eq_true (by omega)]; rfl
  rw [this]; simp
theorem any_succ {α : Type} {l : List α} {p : α → Bool} {i : Nat} (hi : i < l.length) : (l.take (i + 1)).any p = ((l.take i).any p || p l[i]) := by
  rw [take_snoc hi, List.any_append]; simp



set_option maxRecDepth 100000 in
set_option maxHeartbeats 8000000 in
theorem law_safe (a b : Int) (ha : 0 ≤ a ∧ a ≤ 255) (hb : 0 ≤ b ∧ b ≤ 255) (A : List Ac) (hA : A.length ≤ 9223372036854775807) : Spec Try.prog 5 [.c (.pv (.int .u8 a)), .c (.pv (.int .u8 b)), rL 3 (A.map encAc)] (.val (rB true)) := by
  refine spec_val mixed fn5 (by simp) ?_
  unfold ac5
  obtain ⟨f, hf, hf0, hf8⟩ : ∃ f : Int, IntKind.i64.wrap (1 + IntKind.i64.wrap (a.tmod 8)) = f ∧ 1 ≤ f ∧ f ≤ 8 := by
    rw [Int.tmod_eq_emod_of_nonneg ha.1, wrapI (x := a % 8) (by omega), wrapI (by omega)]
    exact ⟨1 + a % 8, rfl, by omega, by omega⟩
  obtain ⟨u, hu, hu0, hu100⟩ : ∃ u : Int, IntKind.i64.wrap (1 + IntKind.i64.wrap (b.tmod 100)) = u ∧ 1 ≤ u ∧ u ≤ 100 := by
    rw [Int.tmod_eq_emod_of_nonneg hb.1, wrapI (x := b % 100) (by omega), wrapI (by omega)]
    exact ⟨1 + b % 100, rfl, by omega, by omega⟩
  have r0 : Ad.right ⟨f, u, [], []⟩ = true := by
    refine Ad.right_pre.2 ⟨⟨Ad.size_iff.2 ⟨hf0, hf8, hu0, hu100⟩, rfl, by simp, by simp, by simp, by simp [Ad.whos], ?_⟩, rfl⟩
    refine (Bk.safe_iff _ _).2 ⟨rfl, ?_, .nil _⟩
    show 0 ≤ f - Ad.heldS [] ∧ f - Ad.heldS [] ≤ 1000
    rw [show Ad.heldS [] = 0 from rfl]; omega
  simp -implicitDefEqProofs only [↓aP, aQ, ↓reduceIte, Nat.reduceEqDiff, Nat.reduceAdd, Nat.reduceSub, Nat.reduceMul, Nat.reduceLT, Nat.reduceLeDiff, reduceCtorEq, Nat.reduceBEq, forall_const, implies_true, exists_const, ne_eq, Int.reduceAdd, Int.reduceSub, Int.reduceMul, Int.reduceBEq, Int.reduceEq, Int.reduceLT, Int.reduceLE, Int.reduceToNat, Int.reduceNeg, Int.reduceBNe, hf, hu]
  refine shift (sub_cnil (p := 7) (i := 0) (j := 2) 3 rfl (by simp) (by rfl) (by decide)) ?_
  refine shift (sub_cnil (p := 7) (i := 0) (j := 3) 2 rfl (by simp) (by rfl) (by decide)) ?_
  refine loopA (fun m σ => ∃ h i, Ad.right h = true ∧ i + m = A.length ∧ σ.slot 2 = vL 3 (A.map encAc) ∧ σ.slot 7 = .c (.ptr 7 1 0 0) ∧ σ.h.gen 7 = 1 ∧ σ.h.blk 7 = .box 25 4 [(encHa h).map AC.s] ∧ σ.slot 8 = vI i) A.length ?_ ?_
  · refine ⟨⟨f, u, [], []⟩, 0, r0, by omega, ?_⟩
    simp -implicitDefEqProofs only [↓aP, aQ, ↓reduceIte, Nat.reduceEqDiff, Nat.reduceAdd, Nat.reduceSub, Nat.reduceMul, Nat.reduceLT, Nat.reduceLeDiff, reduceCtorEq, Nat.reduceBEq, forall_const, implies_true, exists_const, ne_eq, Int.reduceAdd, Int.reduceSub, Int.reduceMul, Int.reduceBEq, Int.reduceEq, Int.reduceLT, Int.reduceLE, Int.reduceToNat, Int.reduceNeg, Int.reduceBNe]
    rfl
  · rintro m σ ⟨h, i, hr, him, s2, s7, g7, b7, s8⟩
    obtain ⟨h40, h8⟩ := right_len hr
    by_cases hi : i < A.length
    case neg =>
      simp -implicitDefEqProofs only [↓aP, aQ, ↓reduceIte, Nat.reduceEqDiff, Nat.reduceAdd, Nat.reduceSub, Nat.reduceMul, Nat.reduceLT, Nat.reduceLeDiff, reduceCtorEq, Nat.reduceBEq, forall_const, implies_true, exists_const, ne_eq, Int.reduceAdd, Int.reduceSub, Int.reduceMul, Int.reduceBEq, Int.reduceEq, Int.reduceLT, Int.reduceLE, Int.reduceToNat, Int.reduceNeg, Int.reduceBNe, s2, s7, g7, b7, s8, List.length_map, show decide ((i : Int) < (A.length : Int)) = false by simp; omega]
      refine ask awake_spec ?_
      simp -implicitDefEqProofs only [↓aP, aQ, ↓reduceIte, Nat.reduceEqDiff, Nat.reduceAdd, Nat.reduceSub, Nat.reduceMul, Nat.reduceLT, Nat.reduceLeDiff, reduceCtorEq, Nat.reduceBEq, forall_const, implies_true, exists_const, ne_eq, Int.reduceAdd, Int.reduceSub, Int.reduceMul, Int.reduceBEq, Int.reduceEq, Int.reduceLT, Int.reduceLE, Int.reduceToNat, Int.reduceNeg, Int.reduceBNe]
    by_cases hi2 : i < 100
    case neg =>
      simp -implicitDefEqProofs only [↓aP, aQ, ↓reduceIte, Nat.reduceEqDiff, Nat.reduceAdd, Nat.reduceSub, Nat.reduceMul, Nat.reduceLT, Nat.reduceLeDiff, reduceCtorEq, Nat.reduceBEq, forall_const, implies_true, exists_const, ne_eq, Int.reduceAdd, Int.reduceSub, Int.reduceMul, Int.reduceBEq, Int.reduceEq, Int.reduceLT, Int.reduceLE, Int.reduceToNat, Int.reduceNeg, Int.reduceBNe, s2, s7, g7, b7, s8, List.length_map, show decide ((i : Int) < (A.length : Int)) = true by simp; omega, show decide ((i : Int) < 100) = false by simp; omega]
      refine ask awake_spec ?_
      simp -implicitDefEqProofs only [↓aP, aQ, ↓reduceIte, Nat.reduceEqDiff, Nat.reduceAdd, Nat.reduceSub, Nat.reduceMul, Nat.reduceLT, Nat.reduceLeDiff, reduceCtorEq, Nat.reduceBEq, forall_const, implies_true, exists_const, ne_eq, Int.reduceAdd, Int.reduceSub, Int.reduceMul, Int.reduceBEq, Int.reduceEq, Int.reduceLT, Int.reduceLE, Int.reduceToNat, Int.reduceNeg, Int.reduceBNe]
    simp -implicitDefEqProofs only [↓aP, aQ, ↓reduceIte, Nat.reduceEqDiff, Nat.reduceAdd, Nat.reduceSub, Nat.reduceMul, Nat.reduceLT, Nat.reduceLeDiff, reduceCtorEq, Nat.reduceBEq, forall_const, implies_true, exists_const, ne_eq, Int.reduceAdd, Int.reduceSub, Int.reduceMul, Int.reduceBEq, Int.reduceEq, Int.reduceLT, Int.reduceLE, Int.reduceToNat, Int.reduceNeg, Int.reduceBNe, s2, s7, g7, b7, s8, List.length_map, show decide ((i : Int) < (A.length : Int)) = true by simp; omega, show decide ((i : Int) < 100) = true by simp; omega, encHa, encAc, askIdx_map, hi]
    refine ask (do_spec h A[i] (by omega)) ?_
    have hr2 := do_right (a := A[i]) hr
    have hk0 : A[i].kind = 0 → (((doA h A[i]).2 == 11) = (Ad.okWho A[i].who && !Ad.okClaim (doA h A[i]).1.fr (doA h A[i]).1.bu A[i].claim)) := fun k0 => by
      unfold doA
      rw [if_pos k0]
      simp only
      rw [begin_11 hr, begin_same.1, begin_same.2]
    generalize hx : (doA h A[i]).1 = x at hr2 hk0
    generalize he : (doA h A[i]).2 = e at hk0
    have hgood := (Ad.right_pre.1 hr2).1
    have hfine := fine_pre hgood
    obtain ⟨x40, x8⟩ := right_len hr2
    have w8 : IntKind.i64.wrap ((i : Int) + 1) = ((i + 1 : Nat) : Int) := wrapS (by omega)
    apply with_tail (F := fun σ => σ.slot 2 = vL 3 (A.map encAc) ∧ σ.slot 7 = .c (.ptr 7 1 0 0) ∧ σ.h.gen 7 = 1 ∧ σ.h.blk 7 = .box 25 4 [(encHa x).map AC.s] ∧ σ.slot 8 = vI i ∧ σ.slot 11 = vI 0 ∧ σ.slot 12 = vB false ∧ σ.slot 13 = vB false ∧ σ.slot 94 = vL 3 (x.cl.map encCl) ∧ σ.slot 95 = vI x.cl.length ∧ σ.slot 96 = vI 0)
    case h1 =>
      intro tail
      by_cases k0 : A[i].kind = 0
      case neg =>
        simp -implicitDefEqProofs only [↓aP, aQ, ↓reduceIte, Nat.reduceEqDiff, Nat.reduceAdd, Nat.reduceSub, Nat.reduceMul, Nat.reduceLT, Nat.reduceLeDiff, reduceCtorEq, Nat.reduceBEq, forall_const, implies_true, exists_const, ne_eq, Int.reduceAdd, Int.reduceSub, Int.reduceMul, Int.reduceBEq, Int.reduceEq, Int.reduceLT, Int.reduceLE, Int.reduceToNat, Int.reduceNeg, Int.reduceBNe, encPn, encHa, hx, he, s2, s7, g7, b7, s8, askIdx_map, hi, encAc, List.length_map, show (A[i].kind == 0) = false by simpa using k0]
        refine ⟨by decide +kernel, by decide +kernel, ?_⟩
        refine tail _ ?_
        simp -implicitDefEqProofs only [↓aP, aQ, ↓reduceIte, Nat.reduceEqDiff, Nat.reduceAdd, Nat.reduceSub, Nat.reduceMul, Nat.reduceLT, Nat.reduceLeDiff, reduceCtorEq, Nat.reduceBEq, forall_const, implies_true, exists_const, ne_eq, Int.reduceAdd, Int.reduceSub, Int.reduceMul, Int.reduceBEq, Int.reduceEq, Int.reduceLT, Int.reduceLE, Int.reduceToNat, Int.reduceNeg, Int.reduceBNe, s2, s7, g7, b7, s8, encHa, List.take_zero, show Ad.heldS [] = 0 from rfl, List.any_nil]
      have hk := hk0 k0
      by_cases x1 : 0 ≤ A[i].who
      case neg =>
        have ee : (e == 11) = false := by rw [hk]; simp [Ad.okWho, x1]
        simp -implicitDefEqProofs only [↓aP, aQ, ↓reduceIte, Nat.reduceEqDiff, Nat.reduceAdd, Nat.reduceSub, Nat.reduceMul, Nat.reduceLT, Nat.reduceLeDiff, reduceCtorEq, Nat.reduceBEq, forall_const, implies_true, exists_const, ne_eq, Int.reduceAdd, Int.reduceSub, Int.reduceMul, Int.reduceBEq, Int.reduceEq, Int.reduceLT, Int.reduceLE, Int.reduceToNat, Int.reduceNeg, Int.reduceBNe, encPn, encHa, hx, he, s2, s7, g7, b7, s8, askIdx_map, hi, encAc, List.length_map, k0, decide_eq_false x1, ee]
        repeat (refine And.intro (by decide +kernel) ?_)
        refine tail _ ?_
        simp -implicitDefEqProofs only [↓aP, aQ, ↓reduceIte, Nat.reduceEqDiff, Nat.reduceAdd, Nat.reduceSub, Nat.reduceMul, Nat.reduceLT, Nat.reduceLeDiff, reduceCtorEq, Nat.reduceBEq, forall_const, implies_true, exists_const, ne_eq, Int.reduceAdd, Int.reduceSub, Int.reduceMul, Int.reduceBEq, Int.reduceEq, Int.reduceLT, Int.reduceLE, Int.reduceToNat, Int.reduceNeg, Int.reduceBNe, s2, s7, g7, b7, s8, encHa, List.take_zero, show Ad.heldS [] = 0 from rfl, List.any_nil]
      by_cases x2 : A[i].who ≤ 2147483647
      case neg =>
        have ee : (e == 11) = false := by rw [hk]; simp [Ad.okWho, x2]
        simp -implicitDefEqProofs only [↓aP, aQ, ↓reduceIte, Nat.reduceEqDiff, Nat.reduceAdd, Nat.reduceSub, Nat.reduceMul, Nat.reduceLT, Nat.reduceLeDiff, reduceCtorEq, Nat.reduceBEq, forall_const, implies_true, exists_const, ne_eq, Int.reduceAdd, Int.reduceSub, Int.reduceMul, Int.reduceBEq, Int.reduceEq, Int.reduceLT, Int.reduceLE, Int.reduceToNat, Int.reduceNeg, Int.reduceBNe, encPn, encHa, hx, he, s2, s7, g7, b7, s8, askIdx_map, hi, encAc, List.length_map, k0, decide_eq_true x1, decide_eq_false x2, ee]
        repeat (refine And.intro (by decide +kernel) ?_)
        refine tail _ ?_
        simp -implicitDefEqProofs only [↓aP, aQ, ↓reduceIte, Nat.reduceEqDiff, Nat.reduceAdd, Nat.reduceSub, Nat.reduceMul, Nat.reduceLT, Nat.reduceLeDiff, reduceCtorEq, Nat.reduceBEq, forall_const, implies_true, exists_const, ne_eq, Int.reduceAdd, Int.reduceSub, Int.reduceMul, Int.reduceBEq, Int.reduceEq, Int.reduceLT, Int.reduceLE, Int.reduceToNat, Int.reduceNeg, Int.reduceBNe, s2, s7, g7, b7, s8, encHa, List.take_zero, show Ad.heldS [] = 0 from rfl, List.any_nil]
      have xw : Ad.okWho A[i].who = true := by unfold Ad.okWho; rw [decide_eq_true_iff]; exact ⟨x1, x2⟩
      by_cases x3 : A[i].claim < 1
      · have ee : (e == 11) = true := by rw [hk, xw]; simp [Ad.okClaim]; omega
        simp -implicitDefEqProofs only [↓aP, aQ, ↓reduceIte, Nat.reduceEqDiff, Nat.reduceAdd, Nat.reduceSub, Nat.reduceMul, Nat.reduceLT, Nat.reduceLeDiff, reduceCtorEq, Nat.reduceBEq, forall_const, implies_true, exists_const, ne_eq, Int.reduceAdd, Int.reduceSub, Int.reduceMul, Int.reduceBEq, Int.reduceEq, Int.reduceLT, Int.reduceLE, Int.reduceToNat, Int.reduceNeg, Int.reduceBNe, encPn, encHa, hx, he, s2, s7, g7, b7, s8, askIdx_map, hi, encAc, List.length_map, k0, decide_eq_true x1, decide_eq_true x2, decide_eq_true x3, ee]
        repeat (refine And.intro (by decide +kernel) ?_)
        refine tail _ ?_
        simp -implicitDefEqProofs only [↓aP, aQ, ↓reduceIte, Nat.reduceEqDiff, Nat.reduceAdd, Nat.reduceSub, Nat.reduceMul, Nat.reduceLT, Nat.reduceLeDiff, reduceCtorEq, Nat.reduceBEq, forall_const, implies_true, exists_const, ne_eq, Int.reduceAdd, Int.reduceSub, Int.reduceMul, Int.reduceBEq, Int.reduceEq, Int.reduceLT, Int.reduceLE, Int.reduceToNat, Int.reduceNeg, Int.reduceBNe, s2, s7, g7, b7, s8, encHa, List.take_zero, show Ad.heldS [] = 0 from rfl, List.any_nil]
      by_cases x4 : min x.fr x.bu < A[i].claim
      · have ee : (e == 11) = true := by rw [hk, xw]; simp [Ad.okClaim]; omega
        simp -implicitDefEqProofs only [↓aP, aQ, ↓reduceIte, Nat.reduceEqDiff, Nat.reduceAdd, Nat.reduceSub, Nat.reduceMul, Nat.reduceLT, Nat.reduceLeDiff, reduceCtorEq, Nat.reduceBEq, forall_const, implies_true, exists_const, ne_eq, Int.reduceAdd, Int.reduceSub, Int.reduceMul, Int.reduceBEq, Int.reduceEq, Int.reduceLT, Int.reduceLE, Int.reduceToNat, Int.reduceNeg, Int.reduceBNe, encPn, encHa, hx, he, s2, s7, g7, b7, s8, askIdx_map, hi, encAc, List.length_map, k0, decide_eq_true x1, decide_eq_true x2, decide_eq_false x3, decide_eq_true x4, ee]
        repeat (refine And.intro (by decide +kernel) ?_)
        refine tail _ ?_
        simp -implicitDefEqProofs only [↓aP, aQ, ↓reduceIte, Nat.reduceEqDiff, Nat.reduceAdd, Nat.reduceSub, Nat.reduceMul, Nat.reduceLT, Nat.reduceLeDiff, reduceCtorEq, Nat.reduceBEq, forall_const, implies_true, exists_const, ne_eq, Int.reduceAdd, Int.reduceSub, Int.reduceMul, Int.reduceBEq, Int.reduceEq, Int.reduceLT, Int.reduceLE, Int.reduceToNat, Int.reduceNeg, Int.reduceBNe, s2, s7, g7, b7, s8, encHa, List.take_zero, show Ad.heldS [] = 0 from rfl, List.any_nil]
      have ee : (e == 11) = false := by rw [hk, xw]; simp [Ad.okClaim]; omega
      simp -implicitDefEqProofs only [↓aP, aQ, ↓reduceIte, Nat.reduceEqDiff, Nat.reduceAdd, Nat.reduceSub, Nat.reduceMul, Nat.reduceLT, Nat.reduceLeDiff, reduceCtorEq, Nat.reduceBEq, forall_const, implies_true, exists_const, ne_eq, Int.reduceAdd, Int.reduceSub, Int.reduceMul, Int.reduceBEq, Int.reduceEq, Int.reduceLT, Int.reduceLE, Int.reduceToNat, Int.reduceNeg, Int.reduceBNe, encPn, encHa, hx, he, s2, s7, g7, b7, s8, askIdx_map, hi, encAc, List.length_map, k0, decide_eq_true x1, decide_eq_true x2, decide_eq_false x3, decide_eq_false x4, ee]
      repeat (refine And.intro (by decide +kernel) ?_)
      refine tail _ ?_
      simp -implicitDefEqProofs only [↓aP, aQ, ↓reduceIte, Nat.reduceEqDiff, Nat.reduceAdd, Nat.reduceSub, Nat.reduceMul, Nat.reduceLT, Nat.reduceLeDiff, reduceCtorEq, Nat.reduceBEq, forall_const, implies_true, exists_const, ne_eq, Int.reduceAdd, Int.reduceSub, Int.reduceMul, Int.reduceBEq, Int.reduceEq, Int.reduceLT, Int.reduceLE, Int.reduceToNat, Int.reduceNeg, Int.reduceBNe, s2, s7, g7, b7, s8, encHa, List.take_zero, show Ad.heldS [] = 0 from rfl, List.any_nil]
    case h2 =>
      clear s2 s7 g7 b7 s8 hr hi2 h40 h8
      rintro σ ⟨s2, s7, g7, b7, s8, s11, s12, s13, s94, s95, s96⟩
      refine rangeB x.cl.length (fun j σ => σ.slot 2 = vL 3 (A.map encAc) ∧ σ.slot 7 = .c (.ptr 7 1 0 0) ∧ σ.h.gen 7 = 1 ∧ σ.h.blk 7 = .box 25 4 [(encHa x).map AC.s] ∧ σ.slot 8 = vI i ∧ σ.slot 11 = vI (Ad.heldS (x.cl.take j)) ∧ σ.slot 12 = vB ((x.cl.take j).any wantC) ∧ σ.slot 13 = vB ((x.cl.take j).any (mayC x)) ∧ σ.slot 94 = vL 3 (x.cl.map encCl) ∧ σ.slot 95 = vI x.cl.length ∧ σ.slot 96 = vI j) ?_ ?_ ?_
      · refine ⟨s2, s7, g7, b7, s8, ?_, ?_, ?_, s94, s95, ?_⟩
        · rw [s11]; rfl
        · rw [s12]; rfl
        · rw [s13]; rfl
        · rw [s96]; rfl
      · clear s2 s7 g7 b7 s8 s11 s12 s13 s94 s95 s96
        rintro j k σ hjm hj hlt ⟨s2, s7, g7, b7, s8, s11, s12, s13, s94, s95, s96⟩
        have hb1 := take_bd hfine.2.2.2.1 j hfine.2.2.1
        have hc1 := hfine.2.2.2.1 _ (List.getElem_mem hj)
        have hg1 := (Bk.good_of_right hgood.2.1).1 _ (List.getElem_mem hj)
        have w1 : IntKind.i64.wrap (Ad.heldS (x.cl.take j) + x.cl[j].held) = Ad.heldS (x.cl.take (j + 1)) := by rw [wrapI (by omega), held_succ hj]
        have d1 : decide (x.cl[j].held < 0) = false := by simp; omega
        have d2 : decide (x.cl[j].claim < x.cl[j].held) = false := by simp; omega
        have n1 : (x.cl.take (j + 1)).any wantC = ((x.cl.take j).any wantC || wantC x.cl[j]) := any_succ hj
        have n2 : (x.cl.take (j + 1)).any (mayC x) = ((x.cl.take j).any (mayC x) || mayC x x.cl[j]) := any_succ hj
        by_cases hw : x.cl[j].held < x.cl[j].claim
        · have e1 : (x.cl[j].held == x.cl[j].claim) = false := by rw [beq_eq_false_iff_ne]; omega
          have e2 : wantC x.cl[j] = true := by unfold wantC; exact decide_eq_true hw
          have e3 : mayC x x.cl[j] = ((Ad.pinM x x.cl[j].who).2 == 0) := by unfold mayC; rw [decide_eq_true hw, e1, Bool.true_and, Bool.or_false]
          rw [e2, Bool.or_true] at n1
          rw [e3] at n2
          simp -implicitDefEqProofs only [↓aP, aQ, ↓reduceIte, Nat.reduceEqDiff, Nat.reduceAdd, Nat.reduceSub, Nat.reduceMul, Nat.reduceLT, Nat.reduceLeDiff, reduceCtorEq, Nat.reduceBEq, forall_const, implies_true, exists_const, ne_eq, Int.reduceAdd, Int.reduceSub, Int.reduceMul, Int.reduceBEq, Int.reduceEq, Int.reduceLT, Int.reduceLE, Int.reduceToNat, Int.reduceNeg, Int.reduceBNe, hlt, s2, s7, g7, b7, s8, s11, s12, s13, s94, s95, s96, askIdx_map, hj, encCl, w1, d1, d2, decide_eq_true hw, encHa]
          refine ask (adPin_spec x x.cl[j].who (by omega)) ?_
          cases hm : (x.cl.take j).any (mayC x)
          · cases hp : ((Ad.pinM x x.cl[j].who).2 == 0)
            · rw [hm, hp] at n2
              simp -implicitDefEqProofs only [↓aP, aQ, ↓reduceIte, Nat.reduceEqDiff, Nat.reduceAdd, Nat.reduceSub, Nat.reduceMul, Nat.reduceLT, Nat.reduceLeDiff, reduceCtorEq, Nat.reduceBEq, forall_const, implies_true, exists_const, ne_eq, Int.reduceAdd, Int.reduceSub, Int.reduceMul, Int.reduceBEq, Int.reduceEq, Int.reduceLT, Int.reduceLE, Int.reduceToNat, Int.reduceNeg, Int.reduceBNe, encPn, s2, s7, g7, b7, s8, s11, s12, s13, s94, s95, s96, hm, hp, e1, encHa, wrapS (show j < 4611686018427387904 by omega)]
              refine nextR hj hjm ?_
              simp -implicitDefEqProofs only [↓aP, aQ, ↓reduceIte, Nat.reduceEqDiff, Nat.reduceAdd, Nat.reduceSub, Nat.reduceMul, Nat.reduceLT, Nat.reduceLeDiff, reduceCtorEq, Nat.reduceBEq, forall_const, implies_true, exists_const, ne_eq, Int.reduceAdd, Int.reduceSub, Int.reduceMul, Int.reduceBEq, Int.reduceEq, Int.reduceLT, Int.reduceLE, Int.reduceToNat, Int.reduceNeg, Int.reduceBNe, s2, s7, g7, b7, s8, s11, s12, s13, s94, s95, s96, encHa, n1, n2]
              first | done | rfl
            · rw [hm, hp] at n2
              simp -implicitDefEqProofs only [↓aP, aQ, ↓reduceIte, Nat.reduceEqDiff, Nat.reduceAdd, Nat.reduceSub, Nat.reduceMul, Nat.reduceLT, Nat.reduceLeDiff, reduceCtorEq, Nat.reduceBEq, forall_const, implies_true, exists_const, ne_eq, Int.reduceAdd, Int.reduceSub, Int.reduceMul, Int.reduceBEq, Int.reduceEq, Int.reduceLT, Int.reduceLE, Int.reduceToNat, Int.reduceNeg, Int.reduceBNe, encPn, s2, s7, g7, b7, s8, s11, s12, s13, s94, s95, s96, hm, hp, e1, encHa, wrapS (show j < 4611686018427387904 by omega)]
              refine nextR hj hjm ?_
              simp -implicitDefEqProofs only [↓aP, aQ, ↓reduceIte, Nat.reduceEqDiff, Nat.reduceAdd, Nat.reduceSub, Nat.reduceMul, Nat.reduceLT, Nat.reduceLeDiff, reduceCtorEq, Nat.reduceBEq, forall_const, implies_true, exists_const, ne_eq, Int.reduceAdd, Int.reduceSub, Int.reduceMul, Int.reduceBEq, Int.reduceEq, Int.reduceLT, Int.reduceLE, Int.reduceToNat, Int.reduceNeg, Int.reduceBNe, s2, s7, g7, b7, s8, s11, s12, s13, s94, s95, s96, encHa, n1, n2]
              first | done | rfl
          · rw [hm] at n2
            simp -implicitDefEqProofs only [↓aP, aQ, ↓reduceIte, Nat.reduceEqDiff, Nat.reduceAdd, Nat.reduceSub, Nat.reduceMul, Nat.reduceLT, Nat.reduceLeDiff, reduceCtorEq, Nat.reduceBEq, forall_const, implies_true, exists_const, ne_eq, Int.reduceAdd, Int.reduceSub, Int.reduceMul, Int.reduceBEq, Int.reduceEq, Int.reduceLT, Int.reduceLE, Int.reduceToNat, Int.reduceNeg, Int.reduceBNe, encPn, s2, s7, g7, b7, s8, s11, s12, s13, s94, s95, s96, hm, e1, encHa, wrapS (show j < 4611686018427387904 by omega)]
            refine nextR hj hjm ?_
            simp -implicitDefEqProofs only [↓aP, aQ, ↓reduceIte, Nat.reduceEqDiff, Nat.reduceAdd, Nat.reduceSub, Nat.reduceMul, Nat.reduceLT, Nat.reduceLeDiff, reduceCtorEq, Nat.reduceBEq, forall_const, implies_true, exists_const, ne_eq, Int.reduceAdd, Int.reduceSub, Int.reduceMul, Int.reduceBEq, Int.reduceEq, Int.reduceLT, Int.reduceLE, Int.reduceToNat, Int.reduceNeg, Int.reduceBNe, s2, s7, g7, b7, s8, s11, s12, s13, s94, s95, s96, encHa, n1, n2, Bool.true_or]
        · have e1 : (x.cl[j].held == x.cl[j].claim) = true := by rw [beq_iff_eq]; omega
          have e2 : wantC x.cl[j] = false := by unfold wantC; exact decide_eq_false hw
          have e3 : mayC x x.cl[j] = true := by unfold mayC; rw [e1, Bool.or_true]
          rw [e2, Bool.or_false] at n1
          rw [e3, Bool.or_true] at n2
          cases hm : (x.cl.take j).any (mayC x)
          · simp -implicitDefEqProofs only [↓aP, aQ, ↓reduceIte, Nat.reduceEqDiff, Nat.reduceAdd, Nat.reduceSub, Nat.reduceMul, Nat.reduceLT, Nat.reduceLeDiff, reduceCtorEq, Nat.reduceBEq, forall_const, implies_true, exists_const, ne_eq, Int.reduceAdd, Int.reduceSub, Int.reduceMul, Int.reduceBEq, Int.reduceEq, Int.reduceLT, Int.reduceLE, Int.reduceToNat, Int.reduceNeg, Int.reduceBNe, hlt, s2, s7, g7, b7, s8, s11, s12, s13, s94, s95, s96, askIdx_map, hj, encCl, w1, d1, d2, decide_eq_false hw, encHa, hm, e1, wrapS (show j < 4611686018427387904 by omega)]
            refine nextR hj hjm ?_
            simp -implicitDefEqProofs only [↓aP, aQ, ↓reduceIte, Nat.reduceEqDiff, Nat.reduceAdd, Nat.reduceSub, Nat.reduceMul, Nat.reduceLT, Nat.reduceLeDiff, reduceCtorEq, Nat.reduceBEq, forall_const, implies_true, exists_const, ne_eq, Int.reduceAdd, Int.reduceSub, Int.reduceMul, Int.reduceBEq, Int.reduceEq, Int.reduceLT, Int.reduceLE, Int.reduceToNat, Int.reduceNeg, Int.reduceBNe, s2, s7, g7, b7, s8, s11, s12, s13, s94, s95, s96, encHa, n1, n2]
          · simp -implicitDefEqProofs only [↓aP, aQ, ↓reduceIte, Nat.reduceEqDiff, Nat.reduceAdd, Nat.reduceSub, Nat.reduceMul, Nat.reduceLT, Nat.reduceLeDiff, reduceCtorEq, Nat.reduceBEq, forall_const, implies_true, exists_const, ne_eq, Int.reduceAdd, Int.reduceSub, Int.reduceMul, Int.reduceBEq, Int.reduceEq, Int.reduceLT, Int.reduceLE, Int.reduceToNat, Int.reduceNeg, Int.reduceBNe, hlt, s2, s7, g7, b7, s8, s11, s12, s13, s94, s95, s96, askIdx_map, hj, encCl, w1, d1, d2, decide_eq_false hw, encHa, hm, e1, wrapS (show j < 4611686018427387904 by omega)]
            refine nextR hj hjm ?_
            simp -implicitDefEqProofs only [↓aP, aQ, ↓reduceIte, Nat.reduceEqDiff, Nat.reduceAdd, Nat.reduceSub, Nat.reduceMul, Nat.reduceLT, Nat.reduceLeDiff, reduceCtorEq, Nat.reduceBEq, forall_const, implies_true, exists_const, ne_eq, Int.reduceAdd, Int.reduceSub, Int.reduceMul, Int.reduceBEq, Int.reduceEq, Int.reduceLT, Int.reduceLE, Int.reduceToNat, Int.reduceNeg, Int.reduceBNe, s2, s7, g7, b7, s8, s11, s12, s13, s94, s95, s96, encHa, n1, n2]
      · clear s2 s7 g7 b7 s8 s11 s12 s13 s94 s95 s96
        rintro k σ hlt ⟨s2, s7, g7, b7, s8, s11, s12, s13, s94, s95, s96⟩
        rw [List.take_length] at s11 s12 s13
        have hs := (Bk.safe_iff _ _).1 hgood.2.2.2.2.2.2
        have hz := Ad.size_iff.1 hgood.1
        have hhb := held_bd hfine.2.2.2.1
        have w1 : IntKind.i64.wrap (x.fr - Ad.heldS x.cl) = x.fr - Ad.heldS x.cl := wrapI (by omega)
        have hle := law_end hr2
        simp -implicitDefEqProofs only [↓aP, aQ, ↓reduceIte, Nat.reduceEqDiff, Nat.reduceAdd, Nat.reduceSub, Nat.reduceMul, Nat.reduceLT, Nat.reduceLeDiff, reduceCtorEq, Nat.reduceBEq, forall_const, implies_true, exists_const, ne_eq, Int.reduceAdd, Int.reduceSub, Int.reduceMul, Int.reduceBEq, Int.reduceEq, Int.reduceLT, Int.reduceLE, Int.reduceToNat, Int.reduceNeg, Int.reduceBNe, hlt, s2, s7, g7, b7, s8, s11, s12, s13, s94, s95, s96, encHa, show decide (x.fr < Ad.heldS x.cl) = false by simp; omega, w1]
        refine ask (bkSafe_spec (x.fr - Ad.heldS x.cl) x.cl (by omega)) ?_
        have hsafe : Bk.safe (x.fr - Ad.heldS x.cl) x.cl = true := hgood.2.2.2.2.2.2
        cases hw : x.cl.any wantC
        · simp -implicitDefEqProofs only [↓aP, aQ, ↓reduceIte, Nat.reduceEqDiff, Nat.reduceAdd, Nat.reduceSub, Nat.reduceMul, Nat.reduceLT, Nat.reduceLeDiff, reduceCtorEq, Nat.reduceBEq, forall_const, implies_true, exists_const, ne_eq, Int.reduceAdd, Int.reduceSub, Int.reduceMul, Int.reduceBEq, Int.reduceEq, Int.reduceLT, Int.reduceLE, Int.reduceToNat, Int.reduceNeg, Int.reduceBNe, hsafe, s2, s7, g7, b7, s8, s11, s12, s13, s94, s95, s96, hw, encHa]
          refine ask (adRight_spec x (by omega)) ?_
          simp -implicitDefEqProofs only [↓aP, aQ, ↓reduceIte, Nat.reduceEqDiff, Nat.reduceAdd, Nat.reduceSub, Nat.reduceMul, Nat.reduceLT, Nat.reduceLeDiff, reduceCtorEq, Nat.reduceBEq, forall_const, implies_true, exists_const, ne_eq, Int.reduceAdd, Int.reduceSub, Int.reduceMul, Int.reduceBEq, Int.reduceEq, Int.reduceLT, Int.reduceLE, Int.reduceToNat, Int.reduceNeg, Int.reduceBNe, hr2, s2, s7, g7, b7, s8, s11, s12, s13, s94, s95, s96, w8]
          refine ⟨m - 1, by omega, x, i + 1, hr2, by omega, ?_⟩
          simp -implicitDefEqProofs only [↓aP, aQ, ↓reduceIte, Nat.reduceEqDiff, Nat.reduceAdd, Nat.reduceSub, Nat.reduceMul, Nat.reduceLT, Nat.reduceLeDiff, reduceCtorEq, Nat.reduceBEq, forall_const, implies_true, exists_const, ne_eq, Int.reduceAdd, Int.reduceSub, Int.reduceMul, Int.reduceBEq, Int.reduceEq, Int.reduceLT, Int.reduceLE, Int.reduceToNat, Int.reduceNeg, Int.reduceBNe, s2, s7, g7, b7, s8, s11, s12, s13, s94, s95, s96, encHa]
        · rw [hw, Bool.true_and, Bool.not_eq_false'] at hle
          simp -implicitDefEqProofs only [↓aP, aQ, ↓reduceIte, Nat.reduceEqDiff, Nat.reduceAdd, Nat.reduceSub, Nat.reduceMul, Nat.reduceLT, Nat.reduceLeDiff, reduceCtorEq, Nat.reduceBEq, forall_const, implies_true, exists_const, ne_eq, Int.reduceAdd, Int.reduceSub, Int.reduceMul, Int.reduceBEq, Int.reduceEq, Int.reduceLT, Int.reduceLE, Int.reduceToNat, Int.reduceNeg, Int.reduceBNe, hsafe, s2, s7, g7, b7, s8, s11, s12, s13, s94, s95, s96, hw, hle, encHa]
          refine ask (adRight_spec x (by omega)) ?_
          simp -implicitDefEqProofs only [↓aP, aQ, ↓reduceIte, Nat.reduceEqDiff, Nat.reduceAdd, Nat.reduceSub, Nat.reduceMul, Nat.reduceLT, Nat.reduceLeDiff, reduceCtorEq, Nat.reduceBEq, forall_const, implies_true, exists_const, ne_eq, Int.reduceAdd, Int.reduceSub, Int.reduceMul, Int.reduceBEq, Int.reduceEq, Int.reduceLT, Int.reduceLE, Int.reduceToNat, Int.reduceNeg, Int.reduceBNe, hr2, s2, s7, g7, b7, s8, s11, s12, s13, s94, s95, s96, w8]
          refine ⟨m - 1, by omega, x, i + 1, hr2, by omega, ?_⟩
          simp -implicitDefEqProofs only [↓aP, aQ, ↓reduceIte, Nat.reduceEqDiff, Nat.reduceAdd, Nat.reduceSub, Nat.reduceMul, Nat.reduceLT, Nat.reduceLeDiff, reduceCtorEq, Nat.reduceBEq, forall_const, implies_true, exists_const, ne_eq, Int.reduceAdd, Int.reduceSub, Int.reduceMul, Int.reduceBEq, Int.reduceEq, Int.reduceLT, Int.reduceLE, Int.reduceToNat, Int.reduceNeg, Int.reduceBNe, s2, s7, g7, b7, s8, s11, s12, s13, s94, s95, s96, encHa]
end Go.Proofs.Yteghmlafodkfpaa
