/- layer 11: the document's words, first part: layer 10's Right and Order; sums. -/
import Derived.Test.YteghmlafodkfpaaA7
import Derived.Test.YteghmlafodkfpaaSub
namespace Go.Proofs.Yteghmlafodkfpaa
open Go.RowKit
set_option linter.unusedVariables false
set_option linter.unusedSimpArgs false


theorem rRight10_spec (l : List Cl) (hl : l.length ≤ 1000000) : Spec Try.prog 64 [rL 3 (l.map encCl)] (.val (rB (Bk.right l))) := by
  refine spec_val mixed fn64 (by simp) ?_
  unfold ac64
  simp -implicitDefEqProofs only [↓aP, aQ, ↓reduceIte, Nat.reduceEqDiff, Nat.reduceAdd, Nat.reduceSub, Nat.reduceMul, Nat.reduceLT, Nat.reduceLeDiff, reduceCtorEq, Nat.reduceBEq, forall_const, implies_true, exists_const, ne_eq, Int.reduceAdd, Int.reduceSub, Int.reduceMul, Int.reduceBEq, Int.reduceEq, Int.reduceLT, Int.reduceLE, Int.reduceToNat, Int.reduceNeg, Int.reduceBNe, List.length_map]
  by_cases h8 : 8 < l.length
  · have e : Bk.right l = false := by unfold Bk.right; rw [decide_eq_false (by omega)]; rfl
    simp -implicitDefEqProofs only [↓aP, aQ, ↓reduceIte, Nat.reduceEqDiff, Nat.reduceAdd, Nat.reduceSub, Nat.reduceMul, Nat.reduceLT, Nat.reduceLeDiff, reduceCtorEq, Nat.reduceBEq, forall_const, implies_true, exists_const, ne_eq, Int.reduceAdd, Int.reduceSub, Int.reduceMul, Int.reduceBEq, Int.reduceEq, Int.reduceLT, Int.reduceLE, Int.reduceToNat, Int.reduceNeg, Int.reduceBNe, show decide ((8 : Int) < (l.length : Int)) = true by simp; omega, e]
  simp -implicitDefEqProofs only [↓aP, aQ, ↓reduceIte, Nat.reduceEqDiff, Nat.reduceAdd, Nat.reduceSub, Nat.reduceMul, Nat.reduceLT, Nat.reduceLeDiff, reduceCtorEq, Nat.reduceBEq, forall_const, implies_true, exists_const, ne_eq, Int.reduceAdd, Int.reduceSub, Int.reduceMul, Int.reduceBEq, Int.reduceEq, Int.reduceLT, Int.reduceLE, Int.reduceToNat, Int.reduceNeg, Int.reduceBNe, show decide ((8 : Int) < (l.length : Int)) = false by simp; omega]
  have no : ∀ i, i < l.length → Bk.okAt l i = false → Bk.right l = false := fun i hi h => by
    unfold Bk.right
    have : (List.range l.length).all (Bk.okAt l) = false := by
      rw [List.all_eq_false]; exact ⟨i, by simpa using hi, by simp [h]⟩
    rw [this, Bool.and_false]
  refine rangeB l.length (fun i σ => (∀ k < i, Bk.okAt l k = true) ∧ σ.slot 0 = vL 3 (l.map encCl) ∧ σ.slot 3 = vI i) ?_ ?_ ?_
  · simp -implicitDefEqProofs only [↓aP, aQ, ↓reduceIte, Nat.reduceEqDiff, Nat.reduceAdd, Nat.reduceSub, Nat.reduceMul, Nat.reduceLT, Nat.reduceLeDiff, reduceCtorEq, Nat.reduceBEq, forall_const, implies_true, exists_const, ne_eq, Int.reduceAdd, Int.reduceSub, Int.reduceMul, Int.reduceBEq, Int.reduceEq, Int.reduceLT, Int.reduceLE, Int.reduceToNat, Int.reduceNeg, Int.reduceBNe, List.length_map]
    exact fun k hk => by omega
  · rintro i m σ him hi hlt ⟨hok, s0, s3⟩
    obtain ⟨GA, hGA⟩ : ∃ G, σ.h.gen 4 = G := ⟨_, rfl⟩
    have at' : Bk.okAt l i = (Bk.good l[i] && Bk.apart (l.take i) l[i]) := by unfold Bk.okAt; rw [List.getElem?_eq_getElem hi]
    simp -implicitDefEqProofs only [↓aP, aQ, ↓reduceIte, Nat.reduceEqDiff, Nat.reduceAdd, Nat.reduceSub, Nat.reduceMul, Nat.reduceLT, Nat.reduceLeDiff, reduceCtorEq, Nat.reduceBEq, forall_const, implies_true, exists_const, ne_eq, Int.reduceAdd, Int.reduceSub, Int.reduceMul, Int.reduceBEq, Int.reduceEq, Int.reduceLT, Int.reduceLE, Int.reduceToNat, Int.reduceNeg, Int.reduceBNe, hlt, s0, s3, askIdx_map, hi, encCl, List.length_map, hGA]
    by_cases hg : Bk.good l[i] = true
    case neg =>
      have e := no i hi (by rw [at', Bool.eq_false_iff.2 hg]; rfl)
      rw [Bool.not_eq_true] at hg
      unfold Bk.good at hg
      rw [decide_eq_false_iff_not] at hg
      by_cases x1 : l[i].who < 0
      · simp -implicitDefEqProofs only [↓aP, aQ, ↓reduceIte, Nat.reduceEqDiff, Nat.reduceAdd, Nat.reduceSub, Nat.reduceMul, Nat.reduceLT, Nat.reduceLeDiff, reduceCtorEq, Nat.reduceBEq, forall_const, implies_true, exists_const, ne_eq, Int.reduceAdd, Int.reduceSub, Int.reduceMul, Int.reduceBEq, Int.reduceEq, Int.reduceLT, Int.reduceLE, Int.reduceToNat, Int.reduceNeg, Int.reduceBNe, decide_eq_true x1, e]
      by_cases x2 : (2147483647 : Int) < l[i].who
      · simp -implicitDefEqProofs only [↓aP, aQ, ↓reduceIte, Nat.reduceEqDiff, Nat.reduceAdd, Nat.reduceSub, Nat.reduceMul, Nat.reduceLT, Nat.reduceLeDiff, reduceCtorEq, Nat.reduceBEq, forall_const, implies_true, exists_const, ne_eq, Int.reduceAdd, Int.reduceSub, Int.reduceMul, Int.reduceBEq, Int.reduceEq, Int.reduceLT, Int.reduceLE, Int.reduceToNat, Int.reduceNeg, Int.reduceBNe, decide_eq_false x1, decide_eq_true x2, e]
      by_cases x3 : l[i].claim < 0
      · simp -implicitDefEqProofs only [↓aP, aQ, ↓reduceIte, Nat.reduceEqDiff, Nat.reduceAdd, Nat.reduceSub, Nat.reduceMul, Nat.reduceLT, Nat.reduceLeDiff, reduceCtorEq, Nat.reduceBEq, forall_const, implies_true, exists_const, ne_eq, Int.reduceAdd, Int.reduceSub, Int.reduceMul, Int.reduceBEq, Int.reduceEq, Int.reduceLT, Int.reduceLE, Int.reduceToNat, Int.reduceNeg, Int.reduceBNe, decide_eq_false x1, decide_eq_false x2, decide_eq_true x3, e]
      by_cases x4 : (100 : Int) < l[i].claim
      · simp -implicitDefEqProofs only [↓aP, aQ, ↓reduceIte, Nat.reduceEqDiff, Nat.reduceAdd, Nat.reduceSub, Nat.reduceMul, Nat.reduceLT, Nat.reduceLeDiff, reduceCtorEq, Nat.reduceBEq, forall_const, implies_true, exists_const, ne_eq, Int.reduceAdd, Int.reduceSub, Int.reduceMul, Int.reduceBEq, Int.reduceEq, Int.reduceLT, Int.reduceLE, Int.reduceToNat, Int.reduceNeg, Int.reduceBNe, decide_eq_false x1, decide_eq_false x2, decide_eq_false x3, decide_eq_true x4, e]
      by_cases x5 : l[i].held < 0
      · simp -implicitDefEqProofs only [↓aP, aQ, ↓reduceIte, Nat.reduceEqDiff, Nat.reduceAdd, Nat.reduceSub, Nat.reduceMul, Nat.reduceLT, Nat.reduceLeDiff, reduceCtorEq, Nat.reduceBEq, forall_const, implies_true, exists_const, ne_eq, Int.reduceAdd, Int.reduceSub, Int.reduceMul, Int.reduceBEq, Int.reduceEq, Int.reduceLT, Int.reduceLE, Int.reduceToNat, Int.reduceNeg, Int.reduceBNe, decide_eq_false x1, decide_eq_false x2, decide_eq_false x3, decide_eq_false x4, decide_eq_true x5, e]
      have x6 : l[i].claim < l[i].held := by omega
      simp -implicitDefEqProofs only [↓aP, aQ, ↓reduceIte, Nat.reduceEqDiff, Nat.reduceAdd, Nat.reduceSub, Nat.reduceMul, Nat.reduceLT, Nat.reduceLeDiff, reduceCtorEq, Nat.reduceBEq, forall_const, implies_true, exists_const, ne_eq, Int.reduceAdd, Int.reduceSub, Int.reduceMul, Int.reduceBEq, Int.reduceEq, Int.reduceLT, Int.reduceLE, Int.reduceToNat, Int.reduceNeg, Int.reduceBNe, decide_eq_false x1, decide_eq_false x2, decide_eq_false x3, decide_eq_false x4, decide_eq_false x5, decide_eq_true x6, e]
    have hg2 := hg
    unfold Bk.good at hg2
    rw [decide_eq_true_iff] at hg2
    simp -implicitDefEqProofs only [↓aP, aQ, ↓reduceIte, Nat.reduceEqDiff, Nat.reduceAdd, Nat.reduceSub, Nat.reduceMul, Nat.reduceLT, Nat.reduceLeDiff, reduceCtorEq, Nat.reduceBEq, forall_const, implies_true, exists_const, ne_eq, Int.reduceAdd, Int.reduceSub, Int.reduceMul, Int.reduceBEq, Int.reduceEq, Int.reduceLT, Int.reduceLE, Int.reduceToNat, Int.reduceNeg, Int.reduceBNe, show decide (l[i].who < 0) = false by simp; omega, show decide ((2147483647 : Int) < l[i].who) = false by simp; omega, show decide (l[i].claim < 0) = false by simp; omega, show decide ((100 : Int) < l[i].claim) = false by simp; omega, show decide (l[i].held < 0) = false by simp; omega, show decide (l[i].claim < l[i].held) = false by simp; omega, s0, s3, List.length_map, hGA]
    refine rangeB i (fun j σ => (∀ k (h : k < j) (h2 : k < l.length), l[k].who ≠ l[i].who) ∧ σ.slot 0 = vL 3 (l.map encCl) ∧ σ.slot 3 = vI i ∧ σ.slot 4 = .c (.ptr 4 (GA + 1) 0 0) ∧ σ.h.gen 4 = GA + 1 ∧ σ.h.blk 4 = .box 100 3 [(encCl l[i]).map AC.s] ∧ σ.slot 5 = vI j) ?_ ?_ ?_
    · simp -implicitDefEqProofs only [↓aP, aQ, ↓reduceIte, Nat.reduceEqDiff, Nat.reduceAdd, Nat.reduceSub, Nat.reduceMul, Nat.reduceLT, Nat.reduceLeDiff, reduceCtorEq, Nat.reduceBEq, forall_const, implies_true, exists_const, ne_eq, Int.reduceAdd, Int.reduceSub, Int.reduceMul, Int.reduceBEq, Int.reduceEq, Int.reduceLT, Int.reduceLE, Int.reduceToNat, Int.reduceNeg, Int.reduceBNe, s0, s3, encCl, hGA]
      exact fun k hk => by omega
    · clear hlt s0 s3 hGA
      rintro j k σ hjm hj hlt ⟨hne, s0, s3, s4, g4, b4, s5⟩
      have hjl : j < l.length := by omega
      simp -implicitDefEqProofs only [↓aP, aQ, ↓reduceIte, Nat.reduceEqDiff, Nat.reduceAdd, Nat.reduceSub, Nat.reduceMul, Nat.reduceLT, Nat.reduceLeDiff, reduceCtorEq, Nat.reduceBEq, forall_const, implies_true, exists_const, ne_eq, Int.reduceAdd, Int.reduceSub, Int.reduceMul, Int.reduceBEq, Int.reduceEq, Int.reduceLT, Int.reduceLE, Int.reduceToNat, Int.reduceNeg, Int.reduceBNe, hlt, s0, s3, s4, g4, b4, s5, askIdx_map, hjl, encCl, List.length_map]
      by_cases hw : l[j].who = l[i].who
      · have hg3 : Bk.okAt l i = false := by
          rw [at', hg, Bool.true_and]
          unfold Bk.apart
          rw [List.all_eq_false]
          exact ⟨l[j], List.mem_take_iff_getElem.2 ⟨j, by omega, rfl⟩, by simp [hw]⟩
        simp -implicitDefEqProofs only [↓aP, aQ, ↓reduceIte, Nat.reduceEqDiff, Nat.reduceAdd, Nat.reduceSub, Nat.reduceMul, Nat.reduceLT, Nat.reduceLeDiff, reduceCtorEq, Nat.reduceBEq, forall_const, implies_true, exists_const, ne_eq, Int.reduceAdd, Int.reduceSub, Int.reduceMul, Int.reduceBEq, Int.reduceEq, Int.reduceLT, Int.reduceLE, Int.reduceToNat, Int.reduceNeg, Int.reduceBNe, show (l[j].who == l[i].who) = true by simpa using hw, no i hi hg3]
        first | done | decide +kernel
      · simp -implicitDefEqProofs only [↓aP, aQ, ↓reduceIte, Nat.reduceEqDiff, Nat.reduceAdd, Nat.reduceSub, Nat.reduceMul, Nat.reduceLT, Nat.reduceLeDiff, reduceCtorEq, Nat.reduceBEq, forall_const, implies_true, exists_const, ne_eq, Int.reduceAdd, Int.reduceSub, Int.reduceMul, Int.reduceBEq, Int.reduceEq, Int.reduceLT, Int.reduceLE, Int.reduceToNat, Int.reduceNeg, Int.reduceBNe, show (l[j].who == l[i].who) = false by simpa using hw, s0, s3, s4, g4, b4, s5, wrapS (show j < 4611686018427387904 by omega)]
        refine ⟨by decide +kernel, ?_⟩
        refine nextR hj hjm ⟨fun k hk hkl => ?_, ?_⟩
        · by_cases e : k = j
          · subst e; exact hw
          · exact hne k (by omega) hkl
        · simp -implicitDefEqProofs only [↓aP, aQ, ↓reduceIte, Nat.reduceEqDiff, Nat.reduceAdd, Nat.reduceSub, Nat.reduceMul, Nat.reduceLT, Nat.reduceLeDiff, reduceCtorEq, Nat.reduceBEq, forall_const, implies_true, exists_const, ne_eq, Int.reduceAdd, Int.reduceSub, Int.reduceMul, Int.reduceBEq, Int.reduceEq, Int.reduceLT, Int.reduceLE, Int.reduceToNat, Int.reduceNeg, Int.reduceBNe, s0, s3, s4, g4, b4, s5, encCl]
    · clear hlt s0 s3 hGA
      rintro k σ hlt ⟨hne, s0, s3, s4, g4, b4, s5⟩
      simp -implicitDefEqProofs only [↓aP, aQ, ↓reduceIte, Nat.reduceEqDiff, Nat.reduceAdd, Nat.reduceSub, Nat.reduceMul, Nat.reduceLT, Nat.reduceLeDiff, reduceCtorEq, Nat.reduceBEq, forall_const, implies_true, exists_const, ne_eq, Int.reduceAdd, Int.reduceSub, Int.reduceMul, Int.reduceBEq, Int.reduceEq, Int.reduceLT, Int.reduceLE, Int.reduceToNat, Int.reduceNeg, Int.reduceBNe, hlt, s0, s3, s4, g4, b4, s5, wrapS (show i < 4611686018427387904 by omega)]
      refine nextR hi him ⟨fun k hk => ?_, ?_⟩
      · by_cases e : k = i
        · rw [e, at', hg, Bool.true_and]
          unfold Bk.apart
          rw [List.all_eq_true]
          intro o ho
          obtain ⟨q, hq, rfl⟩ := List.mem_take_iff_getElem.1 ho
          simpa using hne q (by omega) (by omega)
        · exact hok k (by omega)
      · simp -implicitDefEqProofs only [↓aP, aQ, ↓reduceIte, Nat.reduceEqDiff, Nat.reduceAdd, Nat.reduceSub, Nat.reduceMul, Nat.reduceLT, Nat.reduceLeDiff, reduceCtorEq, Nat.reduceBEq, forall_const, implies_true, exists_const, ne_eq, Int.reduceAdd, Int.reduceSub, Int.reduceMul, Int.reduceBEq, Int.reduceEq, Int.reduceLT, Int.reduceLE, Int.reduceToNat, Int.reduceNeg, Int.reduceBNe, s0, s3, s4, g4, b4, s5]
  · rintro m σ hlt ⟨hok, s0, s3⟩
    have e : Bk.right l = true := by
      unfold Bk.right
      rw [decide_eq_true (by omega), Bool.true_and, List.all_eq_true]
      intro k hk
      exact hok k (by simpa using hk)
    simp -implicitDefEqProofs only [↓aP, aQ, ↓reduceIte, Nat.reduceEqDiff, Nat.reduceAdd, Nat.reduceSub, Nat.reduceMul, Nat.reduceLT, Nat.reduceLeDiff, reduceCtorEq, Nat.reduceBEq, forall_const, implies_true, exists_const, ne_eq, Int.reduceAdd, Int.reduceSub, Int.reduceMul, Int.reduceBEq, Int.reduceEq, Int.reduceLT, Int.reduceLE, Int.reduceToNat, Int.reduceNeg, Int.reduceBNe, hlt, s0, s3, e]
/-- the first one from the back -/
def cand (f : Int) (l : List Cl) (sv : List Bool) (j : Nat) : Bool := !sv.getD j true && Bk.can f (l.getD j default)
theorem next_from {f : Int} {l : List Cl} {sv : List Bool} {a : Int} (h : (a = -1 ∧ ∀ k < l.length, cand f l sv k = false) ∨ ∃ i : Nat, a = i ∧ i < l.length ∧ cand f l sv i = true ∧ ∀ k < i, cand f l sv k = false) :
    (a = -1 ∧ Bk.next f l sv = none) ∨ ∃ i : Nat, a = i ∧ Bk.next f l sv = some i := by
  rcases h with ⟨h1, h2⟩ | ⟨i, h1, h2, h3, h4⟩
  · exact .inl ⟨h1, next_no h2⟩
  · exact .inr ⟨i, h1, next_at h2 h3 h4⟩


theorem rOrder_spec (f : Int) (l : List Cl) (hl8 : l.length ≤ 8) (hf0 : 0 ≤ f) (hf1 : f ≤ 1000) (hg : Bk.Good l) : Spec Try.prog 98 [rI f, rL 3 (l.map encCl)] (.val (rL 1 ((Bk.order f l).map encNt))) := by
  refine spec_val mixed fn98 (by simp) ?_
  unfold ac98
  simp -implicitDefEqProofs only [↓aP, aQ, ↓reduceIte, Nat.reduceEqDiff, Nat.reduceAdd, Nat.reduceSub, Nat.reduceMul, Nat.reduceLT, Nat.reduceLeDiff, reduceCtorEq, Nat.reduceBEq, forall_const, implies_true, exists_const, ne_eq, Int.reduceAdd, Int.reduceSub, Int.reduceMul, Int.reduceBEq, Int.reduceEq, Int.reduceLT, Int.reduceLE, Int.reduceToNat, Int.reduceNeg, Int.reduceBNe, List.length_map]
  refine ⟨by omega, by omega, ?_⟩
  refine shift (sub_slot (s := 5) 63 3 1 rfl (by exact Nat.succ_pos _)) ?_
  refine loopA (fun m σ => ∃ (x : Int) (ord : List Nat) (sv : List Bool) (g i : Nat), sv.length = l.length ∧ sv.count false = m ∧ ord.length + m = l.length ∧ i = ord.length ∧ 0 ≤ x ∧ x ≤ 1000 + 100 * (ord.length : Int) ∧ Bk.go (m + 1) x l sv ord = Bk.order f l ∧ σ.slot 0 = vI x ∧ σ.slot 1 = vL 3 (l.map encCl) ∧ σ.slot 6 = .c (.own 12 1) ∧ σ.h.gen 12 = 1 ∧ σ.h.blk 12 = .row 4 1 (sv.map encBo) ∧ σ.slot 5 = .c (.own 63 g) ∧ σ.h.gen 63 = g ∧ σ.h.blk 63 = .row 3 1 (ord.map encNt) ∧ σ.slot 7 = vI i) l.length ?_ ?_
  · simp -implicitDefEqProofs only [↓aP, aQ, ↓reduceIte, Nat.reduceEqDiff, Nat.reduceAdd, Nat.reduceSub, Nat.reduceMul, Nat.reduceLT, Nat.reduceLeDiff, reduceCtorEq, Nat.reduceBEq, forall_const, implies_true, exists_const, ne_eq, Int.reduceAdd, Int.reduceSub, Int.reduceMul, Int.reduceBEq, Int.reduceEq, Int.reduceLT, Int.reduceLE, Int.reduceToNat, Int.reduceNeg, Int.reduceBNe, List.length_map]
    refine ⟨f, [], List.replicate l.length false, 1, 0, by simp, by simp, by simp, rfl, by omega, by simp; omega, rfl, ?_⟩
    simp -implicitDefEqProofs only [↓aP, aQ, ↓reduceIte, Nat.reduceEqDiff, Nat.reduceAdd, Nat.reduceSub, Nat.reduceMul, Nat.reduceLT, Nat.reduceLeDiff, reduceCtorEq, Nat.reduceBEq, forall_const, implies_true, exists_const, ne_eq, Int.reduceAdd, Int.reduceSub, Int.reduceMul, Int.reduceBEq, Int.reduceEq, Int.reduceLT, Int.reduceLE, Int.reduceToNat, Int.reduceNeg, Int.reduceBNe, List.map_replicate, encBo, List.map_nil]
    try simp
  · rintro m σ ⟨x, ord, sv, g, i, hsl, hcnt, hol, hio, hx0, hx1, hgo, s0, s1, s6, g12, b12, s5, g63, b63, s7⟩
    by_cases hi : i < l.length
    case neg =>
      have hm : m = 0 := by omega
      subst hm
      have hn : Bk.next x l sv = none := by
        cases hn : Bk.next x l sv with
        | none => rfl
        | some j => have := count_set (Bk.next_lt hn).2.1; omega
      rw [Bk.go_none hn] at hgo
      simp -implicitDefEqProofs only [↓aP, aQ, ↓reduceIte, Nat.reduceEqDiff, Nat.reduceAdd, Nat.reduceSub, Nat.reduceMul, Nat.reduceLT, Nat.reduceLeDiff, reduceCtorEq, Nat.reduceBEq, forall_const, implies_true, exists_const, ne_eq, Int.reduceAdd, Int.reduceSub, Int.reduceMul, Int.reduceBEq, Int.reduceEq, Int.reduceLT, Int.reduceLE, Int.reduceToNat, Int.reduceNeg, Int.reduceBNe, s0, s1, s6, g12, b12, s5, g63, b63, s7, List.length_map, show decide ((i : Int) < (l.length : Int)) = false by simp; omega, hgo]
    have w1 : IntKind.i64.wrap ((l.length : Int) - 1) = (l.length : Int) - 1 := wrapI (by omega)
    simp -implicitDefEqProofs only [↓aP, aQ, ↓reduceIte, Nat.reduceEqDiff, Nat.reduceAdd, Nat.reduceSub, Nat.reduceMul, Nat.reduceLT, Nat.reduceLeDiff, reduceCtorEq, Nat.reduceBEq, forall_const, implies_true, exists_const, ne_eq, Int.reduceAdd, Int.reduceSub, Int.reduceMul, Int.reduceBEq, Int.reduceEq, Int.reduceLT, Int.reduceLE, Int.reduceToNat, Int.reduceNeg, Int.reduceBNe, s0, s1, s6, g12, b12, s5, g63, b63, s7, List.length_map, show decide ((i : Int) < (l.length : Int)) = true by simp; omega, w1]
    refine loopA (fun k σ => ∃ at' : Int, k ≤ l.length ∧ ((at' = -1 ∧ ∀ q < l.length, k ≤ q → cand x l sv q = false) ∨ ∃ j : Nat, at' = j ∧ k ≤ j ∧ j < l.length ∧ cand x l sv j = true ∧ ∀ q < j, k ≤ q → cand x l sv q = false) ∧ σ.slot 0 = vI x ∧ σ.slot 1 = vL 3 (l.map encCl) ∧ σ.slot 6 = .c (.own 12 1) ∧ σ.h.gen 12 = 1 ∧ σ.h.blk 12 = .row 4 1 (sv.map encBo) ∧ σ.slot 5 = .c (.own 63 g) ∧ σ.h.gen 63 = g ∧ σ.h.blk 63 = .row 3 1 (ord.map encNt) ∧ σ.slot 7 = vI i ∧ σ.slot 8 = vI at' ∧ σ.slot 9 = vI ((k : Int) - 1)) l.length ?_ ?_
    · refine ⟨-1, by omega, .inl ⟨rfl, fun q h1 h2 => by omega⟩, ?_⟩
      simp -implicitDefEqProofs only [↓aP, aQ, ↓reduceIte, Nat.reduceEqDiff, Nat.reduceAdd, Nat.reduceSub, Nat.reduceMul, Nat.reduceLT, Nat.reduceLeDiff, reduceCtorEq, Nat.reduceBEq, forall_const, implies_true, exists_const, ne_eq, Int.reduceAdd, Int.reduceSub, Int.reduceMul, Int.reduceBEq, Int.reduceEq, Int.reduceLT, Int.reduceLE, Int.reduceToNat, Int.reduceNeg, Int.reduceBNe, s0, s1, s6, g12, b12, s5, g63, b63, s7]
    · clear s0 s1 s6 g12 b12 s5 g63 b63 s7
      rintro k σ ⟨at', hk, hat, s0, s1, s6, g12, b12, s5, g63, b63, s7, s8, s9⟩
      by_cases hk0 : k = 0
      · subst hk0
        have hn := next_from (f := x) (l := l) (sv := sv) (a := at') (by
          rcases hat with ⟨h1, h2⟩ | ⟨j, h1, _, h2, h3, h4⟩
          · exact .inl ⟨h1, fun q hq => h2 q hq (by omega)⟩
          · exact .inr ⟨j, h1, h2, h3, fun q hq => h4 q hq (by omega)⟩)
        rcases hn with ⟨h1, hn⟩ | ⟨j, h1, hn⟩
        · subst h1
          rw [Bk.go_none hn] at hgo
          simp -implicitDefEqProofs only [↓aP, aQ, ↓reduceIte, Nat.reduceEqDiff, Nat.reduceAdd, Nat.reduceSub, Nat.reduceMul, Nat.reduceLT, Nat.reduceLeDiff, reduceCtorEq, Nat.reduceBEq, forall_const, implies_true, exists_const, ne_eq, Int.reduceAdd, Int.reduceSub, Int.reduceMul, Int.reduceBEq, Int.reduceEq, Int.reduceLT, Int.reduceLE, Int.reduceToNat, Int.reduceNeg, Int.reduceBNe, s0, s1, s6, g12, b12, s5, g63, b63, s7, s8, s9, List.length_map, hgo]
        · subst h1
          obtain ⟨n1, n2, n3⟩ := Bk.next_lt hn
          have hcs := count_set n2
          obtain ⟨q, rfl⟩ : ∃ q, m = q + 1 := ⟨m - 1, by omega⟩
          rw [Bk.go_some hn] at hgo
          have hgi := hg l[j] (List.getElem_mem n1)
          have e1 : l.getD j default = l[j] := by rw [List.getD_eq_getElem?_getD, List.getElem?_eq_getElem n1]; rfl
          rw [e1] at hgo
          have w2 : IntKind.i64.wrap (x + l[j].held) = x + l[j].held := wrapI (by omega)
          simp -implicitDefEqProofs only [↓aP, aQ, ↓reduceIte, Nat.reduceEqDiff, Nat.reduceAdd, Nat.reduceSub, Nat.reduceMul, Nat.reduceLT, Nat.reduceLeDiff, reduceCtorEq, Nat.reduceBEq, forall_const, implies_true, exists_const, ne_eq, Int.reduceAdd, Int.reduceSub, Int.reduceMul, Int.reduceBEq, Int.reduceEq, Int.reduceLT, Int.reduceLE, Int.reduceToNat, Int.reduceNeg, Int.reduceBNe, s0, s1, s6, g12, b12, s5, g63, b63, s7, s8, s9, show decide ((j : Int) < 0) = false by simp, List.length_map, askIdx_map, n1, show j < sv.length by omega, encCl, w2, wrapS (show i < 4611686018427387904 by omega)]
          refine ⟨by omega, by omega, q, by omega, x + l[j].held, ord ++ [j], sv.set j true, g + 1, i + 1, by simpa using hsl, by omega, by simp; omega, by simp; omega, by omega, by simp; omega, hgo, rfl, ?_, rfl, rfl, ?_, rfl⟩
          · rw [List.map_set]; rfl
          · simp [encNt]
      · have hk1 : k - 1 < l.length := by omega
        have e0 : ((k : Int) - 1) = ((k - 1 : Nat) : Int) := by omega
        have hks : k - 1 < sv.length := by omega
        rw [e0] at s9
        have w3 : IntKind.i64.wrap (((k - 1 : Nat) : Int) - 1) = ((k - 1 : Nat) : Int) - 1 := wrapI (by omega)
        have c1 : cand x l sv (k - 1) = (!sv[k - 1] && Bk.can x l[k - 1]) := by
          unfold cand
          rw [List.getD_eq_getElem?_getD, List.getElem?_eq_getElem hks, List.getD_eq_getElem?_getD, List.getElem?_eq_getElem hk1]; rfl
        have hgi := hg l[k - 1] (List.getElem_mem hk1)
        have w4 : IntKind.i64.wrap (l[k - 1].claim - l[k - 1].held) = l[k - 1].claim - l[k - 1].held := wrapI (by omega)
        have stay : cand x l sv (k - 1) = false → ((at' = -1 ∧ ∀ q < l.length, k - 1 ≤ q → cand x l sv q = false) ∨ ∃ j : Nat, at' = j ∧ k - 1 ≤ j ∧ j < l.length ∧ cand x l sv j = true ∧ ∀ q < j, k - 1 ≤ q → cand x l sv q = false) := fun hc => by
          rcases hat with ⟨h1, h2⟩ | ⟨j, h1, h5, h2, h3, h4⟩
          · refine .inl ⟨h1, fun q hq hkq => ?_⟩
            by_cases e : q = k - 1
            · rw [e]; exact hc
            · exact h2 q hq (by omega)
          · refine .inr ⟨j, h1, by omega, h2, h3, fun q hq hkq => ?_⟩
            by_cases e : q = k - 1
            · rw [e]; exact hc
            · exact h4 q hq (by omega)
        simp -implicitDefEqProofs only [↓aP, aQ, ↓reduceIte, Nat.reduceEqDiff, Nat.reduceAdd, Nat.reduceSub, Nat.reduceMul, Nat.reduceLT, Nat.reduceLeDiff, reduceCtorEq, Nat.reduceBEq, forall_const, implies_true, exists_const, ne_eq, Int.reduceAdd, Int.reduceSub, Int.reduceMul, Int.reduceBEq, Int.reduceEq, Int.reduceLT, Int.reduceLE, Int.reduceToNat, Int.reduceNeg, Int.reduceBNe, s0, s1, s6, g12, b12, s5, g63, b63, s7, s8, s9, List.length_map, askIdx_map, hk1, hks, encCl, encBo, show decide ((0 : Int) ≤ ((k - 1 : Nat) : Int)) = true by simp]
        cases hsv : sv[k - 1]
        · simp -implicitDefEqProofs only [↓aP, aQ, ↓reduceIte, Nat.reduceEqDiff, Nat.reduceAdd, Nat.reduceSub, Nat.reduceMul, Nat.reduceLT, Nat.reduceLeDiff, reduceCtorEq, Nat.reduceBEq, forall_const, implies_true, exists_const, ne_eq, Int.reduceAdd, Int.reduceSub, Int.reduceMul, Int.reduceBEq, Int.reduceEq, Int.reduceLT, Int.reduceLE, Int.reduceToNat, Int.reduceNeg, Int.reduceBNe, s0, s1, s6, g12, b12, s5, g63, b63, s7, s8, s9, w4, askIdx_map, hk1, encCl]
          by_cases hc : l[k - 1].claim - l[k - 1].held ≤ x
          · simp -implicitDefEqProofs only [↓aP, aQ, ↓reduceIte, Nat.reduceEqDiff, Nat.reduceAdd, Nat.reduceSub, Nat.reduceMul, Nat.reduceLT, Nat.reduceLeDiff, reduceCtorEq, Nat.reduceBEq, forall_const, implies_true, exists_const, ne_eq, Int.reduceAdd, Int.reduceSub, Int.reduceMul, Int.reduceBEq, Int.reduceEq, Int.reduceLT, Int.reduceLE, Int.reduceToNat, Int.reduceNeg, Int.reduceBNe, decide_eq_true hc, s0, s1, s6, g12, b12, s5, g63, b63, s7, s8, s9, w3]
            refine ⟨by decide +kernel, k - 1, by omega, ((k - 1 : Nat) : Int), by omega, .inr ⟨k - 1, rfl, Nat.le_refl _, hk1, by rw [c1, hsv]; simp [Bk.can, hc], fun q h1 h2 => by omega⟩, ?_⟩
            simp -implicitDefEqProofs only [↓aP, aQ, ↓reduceIte, Nat.reduceEqDiff, Nat.reduceAdd, Nat.reduceSub, Nat.reduceMul, Nat.reduceLT, Nat.reduceLeDiff, reduceCtorEq, Nat.reduceBEq, forall_const, implies_true, exists_const, ne_eq, Int.reduceAdd, Int.reduceSub, Int.reduceMul, Int.reduceBEq, Int.reduceEq, Int.reduceLT, Int.reduceLE, Int.reduceToNat, Int.reduceNeg, Int.reduceBNe, s0, s1, s6, g12, b12, s5, g63, b63, s7, s8, s9]
          · simp -implicitDefEqProofs only [↓aP, aQ, ↓reduceIte, Nat.reduceEqDiff, Nat.reduceAdd, Nat.reduceSub, Nat.reduceMul, Nat.reduceLT, Nat.reduceLeDiff, reduceCtorEq, Nat.reduceBEq, forall_const, implies_true, exists_const, ne_eq, Int.reduceAdd, Int.reduceSub, Int.reduceMul, Int.reduceBEq, Int.reduceEq, Int.reduceLT, Int.reduceLE, Int.reduceToNat, Int.reduceNeg, Int.reduceBNe, decide_eq_false hc, s0, s1, s6, g12, b12, s5, g63, b63, s7, s8, s9, w3]
            refine ⟨by decide +kernel, k - 1, by omega, at', by omega, stay (by rw [c1]; simp [Bk.can, hc]), ?_⟩
            simp -implicitDefEqProofs only [↓aP, aQ, ↓reduceIte, Nat.reduceEqDiff, Nat.reduceAdd, Nat.reduceSub, Nat.reduceMul, Nat.reduceLT, Nat.reduceLeDiff, reduceCtorEq, Nat.reduceBEq, forall_const, implies_true, exists_const, ne_eq, Int.reduceAdd, Int.reduceSub, Int.reduceMul, Int.reduceBEq, Int.reduceEq, Int.reduceLT, Int.reduceLE, Int.reduceToNat, Int.reduceNeg, Int.reduceBNe, s0, s1, s6, g12, b12, s5, g63, b63, s7, s8, s9]
        · simp -implicitDefEqProofs only [↓aP, aQ, ↓reduceIte, Nat.reduceEqDiff, Nat.reduceAdd, Nat.reduceSub, Nat.reduceMul, Nat.reduceLT, Nat.reduceLeDiff, reduceCtorEq, Nat.reduceBEq, forall_const, implies_true, exists_const, ne_eq, Int.reduceAdd, Int.reduceSub, Int.reduceMul, Int.reduceBEq, Int.reduceEq, Int.reduceLT, Int.reduceLE, Int.reduceToNat, Int.reduceNeg, Int.reduceBNe, s0, s1, s6, g12, b12, s5, g63, b63, s7, s8, s9, w3]
          refine ⟨by decide +kernel, k - 1, by omega, at', by omega, stay (by rw [c1, hsv]; rfl), ?_⟩
          simp -implicitDefEqProofs only [↓aP, aQ, ↓reduceIte, Nat.reduceEqDiff, Nat.reduceAdd, Nat.reduceSub, Nat.reduceMul, Nat.reduceLT, Nat.reduceLeDiff, reduceCtorEq, Nat.reduceBEq, forall_const, implies_true, exists_const, ne_eq, Int.reduceAdd, Int.reduceSub, Int.reduceMul, Int.reduceBEq, Int.reduceEq, Int.reduceLT, Int.reduceLE, Int.reduceToNat, Int.reduceNeg, Int.reduceBNe, s0, s1, s6, g12, b12, s5, g63, b63, s7, s8, s9]
end Go.Proofs.Yteghmlafodkfpaa
