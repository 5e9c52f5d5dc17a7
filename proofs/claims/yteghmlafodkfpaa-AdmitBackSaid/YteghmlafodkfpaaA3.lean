/- layer 10 for layer 11: the contracts of bank. -/
import Derived.Test.YteghmlafodkfpaaCodeA
import Derived.Test.YteghmlafodkfpaaAm22
import Derived.Test.YteghmlafodkfpaaA2
namespace Go.Proofs.Yteghmlafodkfpaa
open Go.RowKit
set_option linter.unusedVariables false
set_option linter.unusedSimpArgs false
theorem mixed : Try.prog.follows .mixedOrders = true := by kernel_rfl
def encI (n : Int) : List SC := [.pv (.int .i64 n)]
def encNt (n : Nat) : List SC := [.pv (.int .i64 (n : Int))]
def encBo (b : Bool) : List SC := [.pv (.bool b)]
def encCl (c : Cl) : List SC := [.pv (.int .i64 c.who), .pv (.int .i64 c.claim), .pv (.int .i64 c.held)]


theorem bkRight_spec (l : List Cl) (hl : l.length ≤ 1000000) : Spec Try.prog 67 [rL 3 (l.map encCl)] (.val (rB (Bk.right l))) := by
  refine spec_val mixed fn67 (by simp) ?_
  unfold ac67
  simp -implicitDefEqProofs only [↓aP, aQ, ↓reduceIte, Nat.reduceEqDiff, Nat.reduceAdd, Nat.reduceSub, Nat.reduceMul, Nat.reduceLT, Nat.reduceLeDiff, reduceCtorEq, Nat.reduceBEq, forall_const, implies_true, exists_const, ne_eq, Int.reduceAdd, Int.reduceSub, Int.reduceMul, Int.reduceBEq, Int.reduceEq, Int.reduceLT, Int.reduceLE, Int.reduceToNat, Int.reduceNeg, Int.reduceBNe, List.length_map]
  by_cases h8 : 8 < l.length
  · have e : Bk.right l = false := by unfold Bk.right; rw [decide_eq_false (by omega)]; rfl
    simp -implicitDefEqProofs only [↓aP, aQ, ↓reduceIte, Nat.reduceEqDiff, Nat.reduceAdd, Nat.reduceSub, Nat.reduceMul, Nat.reduceLT, Nat.reduceLeDiff, reduceCtorEq, Nat.reduceBEq, forall_const, implies_true, exists_const, ne_eq, Int.reduceAdd, Int.reduceSub, Int.reduceMul, Int.reduceBEq, Int.reduceEq, Int.reduceLT, Int.reduceLE, Int.reduceToNat, Int.reduceNeg, Int.reduceBNe, show decide ((8 : Int) < (l.length : Int)) = true by simp; omega, e]
  simp -implicitDefEqProofs only [↓aP, aQ, ↓reduceIte, Nat.reduceEqDiff, Nat.reduceAdd, Nat.reduceSub, Nat.reduceMul, Nat.reduceLT, Nat.reduceLeDiff, reduceCtorEq, Nat.reduceBEq, forall_const, implies_true, exists_const, ne_eq, Int.reduceAdd, Int.reduceSub, Int.reduceMul, Int.reduceBEq, Int.reduceEq, Int.reduceLT, Int.reduceLE, Int.reduceToNat, Int.reduceNeg, Int.reduceBNe, show decide ((8 : Int) < (l.length : Int)) = false by simp; omega]
  have no : ∀ i, i < l.length → Bk.okAt l i = false → Bk.right l = false := fun i hi h => by
    unfold Bk.right
    have : (List.range l.length).all (Bk.okAt l) = false := by
      rw [List.all_eq_false]; exact ⟨i, by simpa using hi, by simp [h]⟩
    rw [this, Bool.and_false]
  refine rangeB l.length (fun i σ => (∀ k < i, Bk.okAt l k = true) ∧ σ.slot 0 = vL 3 (l.map encCl) ∧ σ.slot 10 = vL 3 (l.map encCl) ∧ σ.slot 11 = vI l.length ∧ σ.slot 12 = vI i) ?_ ?_ ?_
  · simp -implicitDefEqProofs only [↓aP, aQ, ↓reduceIte, Nat.reduceEqDiff, Nat.reduceAdd, Nat.reduceSub, Nat.reduceMul, Nat.reduceLT, Nat.reduceLeDiff, reduceCtorEq, Nat.reduceBEq, forall_const, implies_true, exists_const, ne_eq, Int.reduceAdd, Int.reduceSub, Int.reduceMul, Int.reduceBEq, Int.reduceEq, Int.reduceLT, Int.reduceLE, Int.reduceToNat, Int.reduceNeg, Int.reduceBNe, List.length_map]
    exact fun k hk => by omega
  · rintro i m σ him hi hlt ⟨hok, s0, s10, s11, s12⟩
    obtain ⟨GA, hGA⟩ : ∃ G, σ.h.gen 4 = G := ⟨_, rfl⟩
    have at' : Bk.okAt l i = (Bk.good l[i] && Bk.apart (l.take i) l[i]) := by unfold Bk.okAt; rw [List.getElem?_eq_getElem hi]
    simp -implicitDefEqProofs only [↓aP, aQ, ↓reduceIte, Nat.reduceEqDiff, Nat.reduceAdd, Nat.reduceSub, Nat.reduceMul, Nat.reduceLT, Nat.reduceLeDiff, reduceCtorEq, Nat.reduceBEq, forall_const, implies_true, exists_const, ne_eq, Int.reduceAdd, Int.reduceSub, Int.reduceMul, Int.reduceBEq, Int.reduceEq, Int.reduceLT, Int.reduceLE, Int.reduceToNat, Int.reduceNeg, Int.reduceBNe, hlt, s0, s10, s11, s12, askIdx_map, hi, encCl, List.length_map, hGA]
    by_cases hg : Bk.good l[i] = true
    case neg =>
      have e := no i hi (by rw [at', Bool.eq_false_iff.2 hg]; rfl)
      rw [Bool.not_eq_true] at hg
      unfold Bk.good at hg
      rw [decide_eq_false_iff_not] at hg
      by_cases x1 : l[i].who < 0
      · simp -implicitDefEqProofs only [↓aP, aQ, ↓reduceIte, Nat.reduceEqDiff, Nat.reduceAdd, Nat.reduceSub, Nat.reduceMul, Nat.reduceLT, Nat.reduceLeDiff, reduceCtorEq, Nat.reduceBEq, forall_const, implies_true, exists_const, ne_eq, Int.reduceAdd, Int.reduceSub, Int.reduceMul, Int.reduceBEq, Int.reduceEq, Int.reduceLT, Int.reduceLE, Int.reduceToNat, Int.reduceNeg, Int.reduceBNe, decide_eq_true x1, e]
      by_cases x2 : (2147483647 : Int) < l[i].who
      · simp -implicitDefEqProofs only [↓aP, aQ, ↓reduceIte, Nat.reduceEqDiff, Nat.reduceAdd, Nat.reduceSub, Nat.reduceMul, Nat.reduceLT, Nat.reduceLeDiff, reduceCtorEq, Nat.reduceBEq, forall_const, implies_true, exists_const, ne_eq, Int.reduceAdd, Int.reduceSub, Int.reduceMul, Int.reduceBEq, Int.reduceEq, Int.reduceLT, Int.reduceLE, Int.reduceToNat, Int.reduceNeg, Int.reduceBNe, decide_eq_false x1, decide_eq_true x2, e]
      by_cases x3 : l[i].claim < 0
      · simp -implicitDefEqProofs only [↓aP, aQ, ↓reduceIte, Nat.reduceEqDiff, Nat.reduceAdd, Nat.reduceSub, Nat.reduceMul, Nat.reduceLT, Nat.reduceLeDiff, reduceCtorEq, Nat.reduceBEq, forall_const, implies_true, exists_const, ne_eq, Int.reduceAdd, Int.reduceSub, Int.reduceMul, Int.reduceBEq, Int.reduceEq, Int.reduceLT, Int.reduceLE, Int.reduceToNat, Int.reduceNeg, Int.reduceBNe, decide_eq_false x1, decide_eq_false x2, decide_eq_true x3, e]
      by_cases x4 : (100 : Int) < l[i].claim
      · simp -implicitDefEqProofs only [↓aP, aQ, ↓reduceIte, Nat.reduceEqDiff, Nat.reduceAdd, Nat.reduceSub, Nat.reduceMul, Nat.reduceLT, Nat.reduceLeDiff, reduceCtorEq, Nat.reduceBEq, forall_const, implies_true, exists_const, ne_eq, Int.reduceAdd, Int.reduceSub, Int.reduceMul, Int.reduceBEq, Int.reduceEq, Int.reduceLT, Int.reduceLE, Int.reduceToNat, Int.reduceNeg, Int.reduceBNe, decide_eq_false x1, decide_eq_false x2, decide_eq_false x3, decide_eq_true x4, e]
      by_cases x5 : l[i].held < 0
      · simp -implicitDefEqProofs only [↓aP, aQ, ↓reduceIte, Nat.reduceEqDiff, Nat.reduceAdd, Nat.reduceSub, Nat.reduceMul, Nat.reduceLT, Nat.reduceLeDiff, reduceCtorEq, Nat.reduceBEq, forall_const, implies_true, exists_const, ne_eq, Int.reduceAdd, Int.reduceSub, Int.reduceMul, Int.reduceBEq, Int.reduceEq, Int.reduceLT, Int.reduceLE, Int.reduceToNat, Int.reduceNeg, Int.reduceBNe, decide_eq_false x1, decide_eq_false x2, decide_eq_false x3, decide_eq_false x4, decide_eq_true x5, e]
      have x6 : l[i].claim < l[i].held := by omega
      simp -implicitDefEqProofs only [↓aP, aQ, ↓reduceIte, Nat.reduceEqDiff, Nat.reduceAdd, Nat.reduceSub, Nat.reduceMul, Nat.reduceLT, Nat.reduceLeDiff, reduceCtorEq, Nat.reduceBEq, forall_const, implies_true, exists_const, ne_eq, Int.reduceAdd, Int.reduceSub, Int.reduceMul, Int.reduceBEq, Int.reduceEq, Int.reduceLT, Int.reduceLE, Int.reduceToNat, Int.reduceNeg, Int.reduceBNe, decide_eq_false x1, decide_eq_false x2, decide_eq_false x3, decide_eq_false x4, decide_eq_false x5, decide_eq_true x6, e]
    have hg2 := hg
    unfold Bk.good at hg2
    rw [decide_eq_true_iff] at hg2
    simp -implicitDefEqProofs only [↓aP, aQ, ↓reduceIte, Nat.reduceEqDiff, Nat.reduceAdd, Nat.reduceSub, Nat.reduceMul, Nat.reduceLT, Nat.reduceLeDiff, reduceCtorEq, Nat.reduceBEq, forall_const, implies_true, exists_const, ne_eq, Int.reduceAdd, Int.reduceSub, Int.reduceMul, Int.reduceBEq, Int.reduceEq, Int.reduceLT, Int.reduceLE, Int.reduceToNat, Int.reduceNeg, Int.reduceBNe, show decide (l[i].who < 0) = false by simp; omega, show decide ((2147483647 : Int) < l[i].who) = false by simp; omega, show decide (l[i].claim < 0) = false by simp; omega, show decide ((100 : Int) < l[i].claim) = false by simp; omega, show decide (l[i].held < 0) = false by simp; omega, show decide (l[i].claim < l[i].held) = false by simp; omega, s0, s10, s11, s12, List.length_map, List.length_take, hGA]
    refine ⟨by omega, ?_⟩
    refine rangeB i (fun j σ => (∀ k (h : k < j) (h2 : k < l.length), l[k].who ≠ l[i].who) ∧ σ.slot 0 = vL 3 (l.map encCl) ∧ σ.slot 4 = .c (.ptr 4 (GA + 1) 0 0) ∧ σ.h.gen 4 = GA + 1 ∧ σ.h.blk 4 = .box 59 3 [(encCl l[i]).map AC.s] ∧ σ.slot 10 = vL 3 (l.map encCl) ∧ σ.slot 11 = vI l.length ∧ σ.slot 12 = vI i ∧ σ.slot 49 = vL 3 ((l.take i).map encCl) ∧ σ.slot 50 = vI i ∧ σ.slot 51 = vI j) ?_ ?_ ?_
    · simp -implicitDefEqProofs only [↓aP, aQ, ↓reduceIte, Nat.reduceEqDiff, Nat.reduceAdd, Nat.reduceSub, Nat.reduceMul, Nat.reduceLT, Nat.reduceLeDiff, reduceCtorEq, Nat.reduceBEq, forall_const, implies_true, exists_const, ne_eq, Int.reduceAdd, Int.reduceSub, Int.reduceMul, Int.reduceBEq, Int.reduceEq, Int.reduceLT, Int.reduceLE, Int.reduceToNat, Int.reduceNeg, Int.reduceBNe, s0, s10, s11, s12, encCl, hGA, ← List.map_take, show min i l.length = i by omega]
      exact fun k hk => by omega
    · clear hlt s0 s10 s11 s12 hGA
      rintro j k σ hjm hj hlt ⟨hne, s0, s4, g4, b4, s10, s11, s12, s49, s50, s51⟩
      have hjt : j < (l.take i).length := by rw [List.length_take]; omega
      have gt : (l.take i)[j] = l[j] := List.getElem_take
      simp -implicitDefEqProofs only [↓aP, aQ, ↓reduceIte, Nat.reduceEqDiff, Nat.reduceAdd, Nat.reduceSub, Nat.reduceMul, Nat.reduceLT, Nat.reduceLeDiff, reduceCtorEq, Nat.reduceBEq, forall_const, implies_true, exists_const, ne_eq, Int.reduceAdd, Int.reduceSub, Int.reduceMul, Int.reduceBEq, Int.reduceEq, Int.reduceLT, Int.reduceLE, Int.reduceToNat, Int.reduceNeg, Int.reduceBNe, hlt, s0, s4, g4, b4, s10, s11, s12, s49, s50, s51, askIdx_map, hjt, gt, encCl, List.length_map]
      by_cases hw : l[j].who = l[i].who
      · have hg3 : Bk.okAt l i = false := by
          rw [at', hg, Bool.true_and]
          unfold Bk.apart
          rw [List.all_eq_false]
          exact ⟨l[j], List.mem_take_iff_getElem.2 ⟨j, by omega, rfl⟩, by simp [hw]⟩
        simp -implicitDefEqProofs only [↓aP, aQ, ↓reduceIte, Nat.reduceEqDiff, Nat.reduceAdd, Nat.reduceSub, Nat.reduceMul, Nat.reduceLT, Nat.reduceLeDiff, reduceCtorEq, Nat.reduceBEq, forall_const, implies_true, exists_const, ne_eq, Int.reduceAdd, Int.reduceSub, Int.reduceMul, Int.reduceBEq, Int.reduceEq, Int.reduceLT, Int.reduceLE, Int.reduceToNat, Int.reduceNeg, Int.reduceBNe, show (l[j].who == l[i].who) = true by simpa using hw, no i hi hg3]
      · simp -implicitDefEqProofs only [↓aP, aQ, ↓reduceIte, Nat.reduceEqDiff, Nat.reduceAdd, Nat.reduceSub, Nat.reduceMul, Nat.reduceLT, Nat.reduceLeDiff, reduceCtorEq, Nat.reduceBEq, forall_const, implies_true, exists_const, ne_eq, Int.reduceAdd, Int.reduceSub, Int.reduceMul, Int.reduceBEq, Int.reduceEq, Int.reduceLT, Int.reduceLE, Int.reduceToNat, Int.reduceNeg, Int.reduceBNe, show (l[j].who == l[i].who) = false by simpa using hw, s0, s4, g4, b4, s10, s11, s12, s49, s50, s51, wrapS (show j < 4611686018427387904 by omega)]
        refine nextR hj hjm ⟨fun k hk hkl => ?_, ?_⟩
        · by_cases e : k = j
          · subst e; exact hw
          · exact hne k (by omega) hkl
        · simp -implicitDefEqProofs only [↓aP, aQ, ↓reduceIte, Nat.reduceEqDiff, Nat.reduceAdd, Nat.reduceSub, Nat.reduceMul, Nat.reduceLT, Nat.reduceLeDiff, reduceCtorEq, Nat.reduceBEq, forall_const, implies_true, exists_const, ne_eq, Int.reduceAdd, Int.reduceSub, Int.reduceMul, Int.reduceBEq, Int.reduceEq, Int.reduceLT, Int.reduceLE, Int.reduceToNat, Int.reduceNeg, Int.reduceBNe, s0, s4, g4, b4, s10, s11, s12, s49, s50, s51, encCl]
    · clear hlt s0 s10 s11 s12 hGA
      rintro k σ hlt ⟨hne, s0, s4, g4, b4, s10, s11, s12, s49, s50, s51⟩
      simp -implicitDefEqProofs only [↓aP, aQ, ↓reduceIte, Nat.reduceEqDiff, Nat.reduceAdd, Nat.reduceSub, Nat.reduceMul, Nat.reduceLT, Nat.reduceLeDiff, reduceCtorEq, Nat.reduceBEq, forall_const, implies_true, exists_const, ne_eq, Int.reduceAdd, Int.reduceSub, Int.reduceMul, Int.reduceBEq, Int.reduceEq, Int.reduceLT, Int.reduceLE, Int.reduceToNat, Int.reduceNeg, Int.reduceBNe, hlt, s0, s4, g4, b4, s10, s11, s12, s49, s50, s51, wrapS (show i < 4611686018427387904 by omega)]
      refine nextR hi him ⟨fun k hk => ?_, ?_⟩
      · by_cases e : k = i
        · rw [e, at', hg, Bool.true_and]
          unfold Bk.apart
          rw [List.all_eq_true]
          intro o ho
          obtain ⟨q, hq, rfl⟩ := List.mem_take_iff_getElem.1 ho
          simpa using hne q (by omega) (by omega)
        · exact hok k (by omega)
      · simp -implicitDefEqProofs only [↓aP, aQ, ↓reduceIte, Nat.reduceEqDiff, Nat.reduceAdd, Nat.reduceSub, Nat.reduceMul, Nat.reduceLT, Nat.reduceLeDiff, reduceCtorEq, Nat.reduceBEq, forall_const, implies_true, exists_const, ne_eq, Int.reduceAdd, Int.reduceSub, Int.reduceMul, Int.reduceBEq, Int.reduceEq, Int.reduceLT, Int.reduceLE, Int.reduceToNat, Int.reduceNeg, Int.reduceBNe, s0, s4, g4, b4, s10, s11, s12, s49, s50, s51]
  · rintro m σ hlt ⟨hok, s0, s10, s11, s12⟩
    have e : Bk.right l = true := by
      unfold Bk.right
      rw [decide_eq_true (by omega), Bool.true_and, List.all_eq_true]
      intro k hk
      exact hok k (by simpa using hk)
    simp -implicitDefEqProofs only [↓aP, aQ, ↓reduceIte, Nat.reduceEqDiff, Nat.reduceAdd, Nat.reduceSub, Nat.reduceMul, Nat.reduceLT, Nat.reduceLeDiff, reduceCtorEq, Nat.reduceBEq, forall_const, implies_true, exists_const, ne_eq, Int.reduceAdd, Int.reduceSub, Int.reduceMul, Int.reduceBEq, Int.reduceEq, Int.reduceLT, Int.reduceLE, Int.reduceToNat, Int.reduceNeg, Int.reduceBNe, hlt, s0, s10, s11, s12, e]
def nxt (o : Option Nat) : TV SC := match o with
  | some i => .tup [(false, [.pv (.int .i64 (i : Int))]), (false, [.pv (.bool true)])]
  | none => .tup [(false, [.pv (.int .i64 0)]), (false, [.pv (.bool false)])]
theorem next_at {f : Int} {l : List Cl} {sv : List Bool} {i : Nat} (hi : i < l.length) (h : (!sv.getD i true && Bk.can f (l.getD i default)) = true) (hno : ∀ k < i, (!sv.getD k true && Bk.can f (l.getD k default)) = false) : Bk.next f l sv = some i := by
  unfold Bk.next
  rw [List.find?_range_eq_some]
  refine ⟨h, by simpa using hi, fun j hj => ?_⟩
  have := hno j hj
  rw [this]; rfl
theorem next_no {f : Int} {l : List Cl} {sv : List Bool} (hno : ∀ k < l.length, (!sv.getD k true && Bk.can f (l.getD k default)) = false) : Bk.next f l sv = none := by
  unfold Bk.next
  rw [List.find?_eq_none]
  intro j hj
  rw [hno j (by simpa using hj)]; simp

theorem bkNext_spec (f : Int) (l : List Cl) (sv : List Bool) (hl : l.length ≤ 8) (hs : sv.length = l.length) (hg : Bk.Good l) : Spec Try.prog 99 [rI f, rL 3 (l.map encCl), rL 1 (sv.map encBo)] (.val (nxt (Bk.next f l sv))) := by
  refine spec_val mixed fn99 (by simp) ?_
  unfold ac99
  simp -implicitDefEqProofs only [↓aP, aQ, ↓reduceIte, Nat.reduceEqDiff, Nat.reduceAdd, Nat.reduceSub, Nat.reduceMul, Nat.reduceLT, Nat.reduceLeDiff, reduceCtorEq, Nat.reduceBEq, forall_const, implies_true, exists_const, ne_eq, Int.reduceAdd, Int.reduceSub, Int.reduceMul, Int.reduceBEq, Int.reduceEq, Int.reduceLT, Int.reduceLE, Int.reduceToNat, Int.reduceNeg, Int.reduceBNe, List.length_map]
  refine rangeB l.length (fun i σ => (∀ k < i, (!sv.getD k true && Bk.can f (l.getD k default)) = false) ∧ σ.slot 0 = vI f ∧ σ.slot 2 = vL 1 (sv.map encBo) ∧ σ.slot 10 = vL 3 (l.map encCl) ∧ σ.slot 11 = vI l.length ∧ σ.slot 12 = vI i) ?_ ?_ ?_
  · simp -implicitDefEqProofs only [↓aP, aQ, ↓reduceIte, Nat.reduceEqDiff, Nat.reduceAdd, Nat.reduceSub, Nat.reduceMul, Nat.reduceLT, Nat.reduceLeDiff, reduceCtorEq, Nat.reduceBEq, forall_const, implies_true, exists_const, ne_eq, Int.reduceAdd, Int.reduceSub, Int.reduceMul, Int.reduceBEq, Int.reduceEq, Int.reduceLT, Int.reduceLE, Int.reduceToNat, Int.reduceNeg, Int.reduceBNe, List.length_map]
    exact fun k hk => by omega
  · rintro i m σ him hi hlt ⟨hno, s0, s2, s10, s11, s12⟩
    have hgi := hg l[i] (List.getElem_mem hi)
    have his : i < sv.length := by omega
    have e1 : l.getD i default = l[i] := by rw [List.getD_eq_getElem?_getD, List.getElem?_eq_getElem hi]; rfl
    have e2 : sv.getD i true = sv[i] := by rw [List.getD_eq_getElem?_getD, List.getElem?_eq_getElem his]; rfl
    have w : IntKind.i64.wrap (l[i].claim - l[i].held) = l[i].claim - l[i].held := wrapI (by omega)
    have fin : (!sv[i] && Bk.can f l[i]) = false → ∀ k < i + 1, (!sv.getD k true && Bk.can f (l.getD k default)) = false := fun h k hk => by
      by_cases e : k = i
      · rw [e, e1, e2]; exact h
      · exact hno k (by omega)
    simp -implicitDefEqProofs only [↓aP, aQ, ↓reduceIte, Nat.reduceEqDiff, Nat.reduceAdd, Nat.reduceSub, Nat.reduceMul, Nat.reduceLT, Nat.reduceLeDiff, reduceCtorEq, Nat.reduceBEq, forall_const, implies_true, exists_const, ne_eq, Int.reduceAdd, Int.reduceSub, Int.reduceMul, Int.reduceBEq, Int.reduceEq, Int.reduceLT, Int.reduceLE, Int.reduceToNat, Int.reduceNeg, Int.reduceBNe, hlt, s0, s2, s10, s11, s12, askIdx_map, hi, his, encCl, encBo, List.length_map]
    cases hsv : sv[i]
    · simp -implicitDefEqProofs only [↓aP, aQ, ↓reduceIte, Nat.reduceEqDiff, Nat.reduceAdd, Nat.reduceSub, Nat.reduceMul, Nat.reduceLT, Nat.reduceLeDiff, reduceCtorEq, Nat.reduceBEq, forall_const, implies_true, exists_const, ne_eq, Int.reduceAdd, Int.reduceSub, Int.reduceMul, Int.reduceBEq, Int.reduceEq, Int.reduceLT, Int.reduceLE, Int.reduceToNat, Int.reduceNeg, Int.reduceBNe, w, s0, s2, s10, s11, s12]
      by_cases hc : l[i].claim - l[i].held ≤ f
      · simp -implicitDefEqProofs only [↓aP, aQ, ↓reduceIte, Nat.reduceEqDiff, Nat.reduceAdd, Nat.reduceSub, Nat.reduceMul, Nat.reduceLT, Nat.reduceLeDiff, reduceCtorEq, Nat.reduceBEq, forall_const, implies_true, exists_const, ne_eq, Int.reduceAdd, Int.reduceSub, Int.reduceMul, Int.reduceBEq, Int.reduceEq, Int.reduceLT, Int.reduceLE, Int.reduceToNat, Int.reduceNeg, Int.reduceBNe, decide_eq_true hc, s0, s2, s10, s11, s12, next_at hi (by rw [e1, e2, hsv]; simp [Bk.can, hc]) hno, nxt]
      · simp -implicitDefEqProofs only [↓aP, aQ, ↓reduceIte, Nat.reduceEqDiff, Nat.reduceAdd, Nat.reduceSub, Nat.reduceMul, Nat.reduceLT, Nat.reduceLeDiff, reduceCtorEq, Nat.reduceBEq, forall_const, implies_true, exists_const, ne_eq, Int.reduceAdd, Int.reduceSub, Int.reduceMul, Int.reduceBEq, Int.reduceEq, Int.reduceLT, Int.reduceLE, Int.reduceToNat, Int.reduceNeg, Int.reduceBNe, decide_eq_false hc, s0, s2, s10, s11, s12, wrapS (show i < 4611686018427387904 by omega)]
        refine nextR hi him ⟨fin (by simp [Bk.can, hc]), ?_⟩
        simp -implicitDefEqProofs only [↓aP, aQ, ↓reduceIte, Nat.reduceEqDiff, Nat.reduceAdd, Nat.reduceSub, Nat.reduceMul, Nat.reduceLT, Nat.reduceLeDiff, reduceCtorEq, Nat.reduceBEq, forall_const, implies_true, exists_const, ne_eq, Int.reduceAdd, Int.reduceSub, Int.reduceMul, Int.reduceBEq, Int.reduceEq, Int.reduceLT, Int.reduceLE, Int.reduceToNat, Int.reduceNeg, Int.reduceBNe, s0, s2, s10, s11, s12]
    · simp -implicitDefEqProofs only [↓aP, aQ, ↓reduceIte, Nat.reduceEqDiff, Nat.reduceAdd, Nat.reduceSub, Nat.reduceMul, Nat.reduceLT, Nat.reduceLeDiff, reduceCtorEq, Nat.reduceBEq, forall_const, implies_true, exists_const, ne_eq, Int.reduceAdd, Int.reduceSub, Int.reduceMul, Int.reduceBEq, Int.reduceEq, Int.reduceLT, Int.reduceLE, Int.reduceToNat, Int.reduceNeg, Int.reduceBNe, s0, s2, s10, s11, s12, wrapS (show i < 4611686018427387904 by omega)]
      refine nextR hi him ⟨fin (by simp [hsv]), ?_⟩
      simp -implicitDefEqProofs only [↓aP, aQ, ↓reduceIte, Nat.reduceEqDiff, Nat.reduceAdd, Nat.reduceSub, Nat.reduceMul, Nat.reduceLT, Nat.reduceLeDiff, reduceCtorEq, Nat.reduceBEq, forall_const, implies_true, exists_const, ne_eq, Int.reduceAdd, Int.reduceSub, Int.reduceMul, Int.reduceBEq, Int.reduceEq, Int.reduceLT, Int.reduceLE, Int.reduceToNat, Int.reduceNeg, Int.reduceBNe, s0, s2, s10, s11, s12]
  · rintro m σ hlt ⟨hno, s0, s2, s10, s11, s12⟩
    simp -implicitDefEqProofs only [↓aP, aQ, ↓reduceIte, Nat.reduceEqDiff, Nat.reduceAdd, Nat.reduceSub, Nat.reduceMul, Nat.reduceLT, Nat.reduceLeDiff, reduceCtorEq, Nat.reduceBEq, forall_const, implies_true, exists_const, ne_eq, Int.reduceAdd, Int.reduceSub, Int.reduceMul, Int.reduceBEq, Int.reduceEq, Int.reduceLT, Int.reduceLE, Int.reduceToNat, Int.reduceNeg, Int.reduceBNe, hlt, s0, s2, s10, s11, s12, next_no hno, nxt]
def ordM (f : Int) (l : List Cl) : List Nat × Bool := if (Bk.right l && Bk.inRange f) = true then (Bk.order f l, decide ((Bk.order f l).length = l.length)) else ([], false)

theorem bkOrder_spec (f : Int) (l : List Cl) (hl : l.length ≤ 1000000) : Spec Try.prog 74 [rI f, rL 3 (l.map encCl)] (.val (.tup [(false, [.sl 1 ((ordM f l).1.map encNt)]), (false, [.pv (.bool (ordM f l).2)])])) := by
  refine spec_val mixed fn74 (by simp) ?_
  unfold ac74
  simp -implicitDefEqProofs only [↓aP, aQ, ↓reduceIte, Nat.reduceEqDiff, Nat.reduceAdd, Nat.reduceSub, Nat.reduceMul, Nat.reduceLT, Nat.reduceLeDiff, reduceCtorEq, Nat.reduceBEq, forall_const, implies_true, exists_const, ne_eq, Int.reduceAdd, Int.reduceSub, Int.reduceMul, Int.reduceBEq, Int.reduceEq, Int.reduceLT, Int.reduceLE, Int.reduceToNat, Int.reduceNeg, Int.reduceBNe]
  refine ask (bkRight_spec l hl) ?_
  cases hr : Bk.right l
  · simp -implicitDefEqProofs only [↓aP, aQ, ↓reduceIte, Nat.reduceEqDiff, Nat.reduceAdd, Nat.reduceSub, Nat.reduceMul, Nat.reduceLT, Nat.reduceLeDiff, reduceCtorEq, Nat.reduceBEq, forall_const, implies_true, exists_const, ne_eq, Int.reduceAdd, Int.reduceSub, Int.reduceMul, Int.reduceBEq, Int.reduceEq, Int.reduceLT, Int.reduceLE, Int.reduceToNat, Int.reduceNeg, Int.reduceBNe, ordM, hr, Bool.false_and, Bool.false_eq_true, if_false, List.map_nil]
  simp -implicitDefEqProofs only [↓aP, aQ, ↓reduceIte, Nat.reduceEqDiff, Nat.reduceAdd, Nat.reduceSub, Nat.reduceMul, Nat.reduceLT, Nat.reduceLeDiff, reduceCtorEq, Nat.reduceBEq, forall_const, implies_true, exists_const, ne_eq, Int.reduceAdd, Int.reduceSub, Int.reduceMul, Int.reduceBEq, Int.reduceEq, Int.reduceLT, Int.reduceLE, Int.reduceToNat, Int.reduceNeg, Int.reduceBNe]
  by_cases h0 : f < 0
  · simp -implicitDefEqProofs only [↓aP, aQ, ↓reduceIte, Nat.reduceEqDiff, Nat.reduceAdd, Nat.reduceSub, Nat.reduceMul, Nat.reduceLT, Nat.reduceLeDiff, reduceCtorEq, Nat.reduceBEq, forall_const, implies_true, exists_const, ne_eq, Int.reduceAdd, Int.reduceSub, Int.reduceMul, Int.reduceBEq, Int.reduceEq, Int.reduceLT, Int.reduceLE, Int.reduceToNat, Int.reduceNeg, Int.reduceBNe, decide_eq_true h0, ordM, hr, Bool.true_and, show Bk.inRange f = false by unfold Bk.inRange; rw [decide_eq_false (by omega)]; rfl, Bool.false_eq_true, if_false, List.map_nil]
  by_cases h1 : (1000 : Int) < f
  · simp -implicitDefEqProofs only [↓aP, aQ, ↓reduceIte, Nat.reduceEqDiff, Nat.reduceAdd, Nat.reduceSub, Nat.reduceMul, Nat.reduceLT, Nat.reduceLeDiff, reduceCtorEq, Nat.reduceBEq, forall_const, implies_true, exists_const, ne_eq, Int.reduceAdd, Int.reduceSub, Int.reduceMul, Int.reduceBEq, Int.reduceEq, Int.reduceLT, Int.reduceLE, Int.reduceToNat, Int.reduceNeg, Int.reduceBNe, decide_eq_false h0, decide_eq_true h1, ordM, hr, Bool.true_and, show Bk.inRange f = false by unfold Bk.inRange; rw [decide_eq_false (show ¬ f ≤ 1000 by omega), Bool.and_false], Bool.false_eq_true, if_false, List.map_nil]
  obtain ⟨hg, hl8⟩ := Bk.good_of_right hr
  have hin : Bk.inRange f = true := by unfold Bk.inRange; rw [decide_eq_true (by omega), decide_eq_true (by omega)]; rfl
  have eO : ordM f l = (Bk.order f l, decide ((Bk.order f l).length = l.length)) := by unfold ordM; rw [hr, hin]; rfl
  simp -implicitDefEqProofs only [↓aP, aQ, ↓reduceIte, Nat.reduceEqDiff, Nat.reduceAdd, Nat.reduceSub, Nat.reduceMul, Nat.reduceLT, Nat.reduceLeDiff, reduceCtorEq, Nat.reduceBEq, forall_const, implies_true, exists_const, ne_eq, Int.reduceAdd, Int.reduceSub, Int.reduceMul, Int.reduceBEq, Int.reduceEq, Int.reduceLT, Int.reduceLE, Int.reduceToNat, Int.reduceNeg, Int.reduceBNe, decide_eq_false h0, decide_eq_false h1, List.length_map]
  refine ⟨by omega, by omega, ?_⟩
  refine shift (sub_slot (s := 7) 45 3 1 rfl (by exact Nat.succ_pos _)) ?_
  refine loopA (fun m σ => ∃ x ord sv g, sv.length = l.length ∧ sv.count false = m ∧ ord.length + m = l.length ∧ 0 ≤ x ∧ x ≤ 1000 + 100 * (ord.length : Int) ∧ Bk.go (m + 1) x l sv ord = Bk.order f l ∧ σ.slot 0 = vI x ∧ σ.slot 1 = vL 3 (l.map encCl) ∧ σ.slot 6 = .c (.own 23 1) ∧ σ.h.gen 23 = 1 ∧ σ.h.blk 23 = .row 4 1 (sv.map encBo) ∧ σ.slot 7 = .c (.own 45 g) ∧ σ.h.gen 45 = g ∧ σ.h.blk 45 = .row 3 1 (ord.map encNt)) l.length ?_ ?_
  · simp -implicitDefEqProofs only [↓aP, aQ, ↓reduceIte, Nat.reduceEqDiff, Nat.reduceAdd, Nat.reduceSub, Nat.reduceMul, Nat.reduceLT, Nat.reduceLeDiff, reduceCtorEq, Nat.reduceBEq, forall_const, implies_true, exists_const, ne_eq, Int.reduceAdd, Int.reduceSub, Int.reduceMul, Int.reduceBEq, Int.reduceEq, Int.reduceLT, Int.reduceLE, Int.reduceToNat, Int.reduceNeg, Int.reduceBNe, List.length_map]
    refine ⟨f, [], List.replicate l.length false, 1, by simp, by simp, by simp, by omega, by simp; omega, rfl, ?_⟩
    simp -implicitDefEqProofs only [↓aP, aQ, ↓reduceIte, Nat.reduceEqDiff, Nat.reduceAdd, Nat.reduceSub, Nat.reduceMul, Nat.reduceLT, Nat.reduceLeDiff, reduceCtorEq, Nat.reduceBEq, forall_const, implies_true, exists_const, ne_eq, Int.reduceAdd, Int.reduceSub, Int.reduceMul, Int.reduceBEq, Int.reduceEq, Int.reduceLT, Int.reduceLE, Int.reduceToNat, Int.reduceNeg, Int.reduceBNe, List.map_replicate, encBo, List.map_nil]
  · rintro m σ ⟨x, ord, sv, g, hsl, hcnt, hol, hx0, hx1, hgo, s0, s1, s6, g23, b23, s7, g45, b45⟩
    simp -implicitDefEqProofs only [↓aP, aQ, ↓reduceIte, Nat.reduceEqDiff, Nat.reduceAdd, Nat.reduceSub, Nat.reduceMul, Nat.reduceLT, Nat.reduceLeDiff, reduceCtorEq, Nat.reduceBEq, forall_const, implies_true, exists_const, ne_eq, Int.reduceAdd, Int.reduceSub, Int.reduceMul, Int.reduceBEq, Int.reduceEq, Int.reduceLT, Int.reduceLE, Int.reduceToNat, Int.reduceNeg, Int.reduceBNe, s0, s1, s6, g23, b23, s7, g45, b45]
    refine ask (bkNext_spec x l sv hl8 hsl hg) ?_
    cases hn : Bk.next x l sv with
    | none =>
      rw [Bk.go_none hn] at hgo
      simp -implicitDefEqProofs only [↓aP, aQ, ↓reduceIte, Nat.reduceEqDiff, Nat.reduceAdd, Nat.reduceSub, Nat.reduceMul, Nat.reduceLT, Nat.reduceLeDiff, reduceCtorEq, Nat.reduceBEq, forall_const, implies_true, exists_const, ne_eq, Int.reduceAdd, Int.reduceSub, Int.reduceMul, Int.reduceBEq, Int.reduceEq, Int.reduceLT, Int.reduceLE, Int.reduceToNat, Int.reduceNeg, Int.reduceBNe, nxt, s0, s1, s6, g23, b23, s7, g45, b45, List.length_map, eO, hgo]
      rw [Bool.eq_iff_iff]; simp only [beq_iff_eq, decide_eq_true_eq]; omega
    | some i =>
      obtain ⟨n1, n2, n3⟩ := Bk.next_lt hn
      have hm0 : m ≠ 0 := by
        intro h0; have := count_set n2; omega
      obtain ⟨k, rfl⟩ : ∃ k, m = k + 1 := ⟨m - 1, by omega⟩
      rw [Bk.go_some hn] at hgo
      have hgi := hg l[i] (List.getElem_mem n1)
      have e1 : l.getD i default = l[i] := by rw [List.getD_eq_getElem?_getD, List.getElem?_eq_getElem n1]; rfl
      rw [e1] at hgo
      have w : IntKind.i64.wrap (x + l[i].held) = x + l[i].held := wrapI (by omega)
      simp -implicitDefEqProofs only [↓aP, aQ, ↓reduceIte, Nat.reduceEqDiff, Nat.reduceAdd, Nat.reduceSub, Nat.reduceMul, Nat.reduceLT, Nat.reduceLeDiff, reduceCtorEq, Nat.reduceBEq, forall_const, implies_true, exists_const, ne_eq, Int.reduceAdd, Int.reduceSub, Int.reduceMul, Int.reduceBEq, Int.reduceEq, Int.reduceLT, Int.reduceLE, Int.reduceToNat, Int.reduceNeg, Int.reduceBNe, nxt, s0, s1, s6, g23, b23, s7, g45, b45, List.length_map, askIdx_map, n1, show i < sv.length by omega, encCl, w]
      have hc2 := count_set n2
      refine ⟨by omega, by omega, k, by omega, x + l[i].held, ord ++ [i], sv.set i true, g + 1, by simpa using hsl, by omega, by simp; omega, by omega, by simp; omega, hgo, rfl, ?_, rfl, rfl, ?_⟩
      · rw [List.map_set]; rfl
      · simp [encNt]
theorem bkSafe_spec (f : Int) (l : List Cl) (hl : l.length ≤ 1000000) : Spec Try.prog 32 [rI f, rL 3 (l.map encCl)] (.val (rB (Bk.safe f l))) := by
  refine spec_val mixed fn32 (by simp) ?_
  unfold ac32
  simp -implicitDefEqProofs only [↓aP, aQ, ↓reduceIte, Nat.reduceEqDiff, Nat.reduceAdd, Nat.reduceSub, Nat.reduceMul, Nat.reduceLT, Nat.reduceLeDiff, reduceCtorEq, Nat.reduceBEq, forall_const, implies_true, exists_const, ne_eq, Int.reduceAdd, Int.reduceSub, Int.reduceMul, Int.reduceBEq, Int.reduceEq, Int.reduceLT, Int.reduceLE, Int.reduceToNat, Int.reduceNeg, Int.reduceBNe]
  refine ask (bkOrder_spec f l hl) ?_
  have e : (ordM f l).2 = Bk.safe f l := by
    unfold ordM Bk.safe
    cases h : (Bk.right l && Bk.inRange f) <;> simp
  simp -implicitDefEqProofs only [↓aP, aQ, ↓reduceIte, Nat.reduceEqDiff, Nat.reduceAdd, Nat.reduceSub, Nat.reduceMul, Nat.reduceLT, Nat.reduceLeDiff, reduceCtorEq, Nat.reduceBEq, forall_const, implies_true, exists_const, ne_eq, Int.reduceAdd, Int.reduceSub, Int.reduceMul, Int.reduceBEq, Int.reduceEq, Int.reduceLT, Int.reduceLE, Int.reduceToNat, Int.reduceNeg, Int.reduceBNe, e]
end Go.Proofs.Yteghmlafodkfpaa
