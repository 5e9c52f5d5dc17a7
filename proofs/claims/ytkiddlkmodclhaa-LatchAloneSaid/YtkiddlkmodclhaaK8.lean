/- layer 8: the contracts: the document's Right, with, let, Ask, Drop. -/
import Derived.Test.YtkiddlkmodclhaaK7
namespace Go.Proofs.Ytkiddlkmodclhaa
open Go.RowKit La
set_option linter.unusedVariables false
set_option linter.unusedSimpArgs false
theorem count_one {l : List Int} : l.Nodup ↔ ∀ n ∈ l, l.count n = 1 := by
  constructor
  · intro h n hn
    rw [h.count, if_pos hn]
  · intro h
    rw [List.nodup_iff_count]
    intro a
    by_cases ha : a ∈ l
    · rw [h a ha]; exact Nat.le_refl _
    · rw [List.count_eq_zero_of_not_mem ha]; omega
theorem right_ref {l : Lt} : right l = true ↔ (l.h.length + l.q.length ≤ 64 ∧ (l.ex = true → l.h.length = 1)) ∧ may l = false ∧
    (∀ i (h : i < l.h.length), okWho l.h[i] = true ∧ (whos l).count l.h[i] = 1 ∧ ∀ _ : 0 < i, l.h[i - 1] ≤ l.h[i]) ∧ (∀ i (h : i < l.q.length), okWho l.q[i].who = true ∧ (whos l).count l.q[i].who = 1) := by
  unfold right people
  simp only [Bool.and_eq_true, decide_eq_true_eq, Bool.not_eq_true', List.all_eq_true]
  have e1 : l.h.Pairwise (· ≤ ·) ↔ ∀ i (h : i < l.h.length), ∀ _ : 0 < i, l.h[i - 1] ≤ l.h[i] := by
    rw [sorted_iff]
    constructor
    · intro h i hi h0
      have := h (i - 1) (by omega)
      simp only [show i - 1 + 1 = i by omega] at this
      exact this
    · intro h i hi
      exact h (i + 1) hi (by omega)
  have e2 : ((∀ n ∈ whos l, okWho n = true) ∧ (whos l).Nodup) ↔ (∀ i (h : i < l.h.length), okWho l.h[i] = true ∧ (whos l).count l.h[i] = 1) ∧ (∀ i (h : i < l.q.length), okWho l.q[i].who = true ∧ (whos l).count l.q[i].who = 1) := by
    rw [count_one]
    constructor
    · rintro ⟨h1, h2⟩
      refine ⟨fun i hi => ?_, fun i hi => ?_⟩
      · have : l.h[i] ∈ whos l := List.mem_append_left _ (List.getElem_mem hi)
        exact ⟨h1 _ this, h2 _ this⟩
      · have : l.q[i].who ∈ whos l := List.mem_append_right _ (List.mem_map.2 ⟨_, List.getElem_mem hi, rfl⟩)
        exact ⟨h1 _ this, h2 _ this⟩
    · rintro ⟨h1, h2⟩
      have key : ∀ n ∈ whos l, okWho n = true ∧ (whos l).count n = 1 := by
        intro n hn
        rcases List.mem_append.1 hn with hn | hn
        · obtain ⟨i, hi, rfl⟩ := List.getElem_of_mem hn; exact h1 i hi
        · obtain ⟨w, hw, rfl⟩ := List.mem_map.1 hn
          obtain ⟨i, hi, rfl⟩ := List.getElem_of_mem hw; exact h2 i hi
      exact ⟨fun n hn => (key n hn).1, fun n hn => (key n hn).2⟩
  constructor
  · rintro ⟨⟨h1, h2, h3⟩, h4⟩
    obtain ⟨h5, h6⟩ := e2.1 h3
    exact ⟨h1, h4, fun i hi => ⟨(h5 i hi).1, (h5 i hi).2, e1.1 h2 i hi⟩, h6⟩
  · rintro ⟨h1, h4, h5, h6⟩
    exact ⟨⟨h1, e1.2 fun i hi h0 => (h5 i hi).2.2 h0, e2.2 ⟨fun i hi => ⟨(h5 i hi).1, (h5 i hi).2.1⟩, h6⟩⟩, h4⟩


theorem ok_cases {n : Int} : okWho n = (!(decide (n < 0)) && !(decide (2147483647 < n))) := by
  unfold okWho
  by_cases h1 : n < 0 <;> by_cases h2 : 2147483647 < n <;> simp [h1, h2] <;> omega
theorem rRight_spec (l : Lt) (hl : l.h.length + l.q.length ≤ 1000000) : Spec Try.prog 26 [.agg (encLt l)] (.val (rB (right l))) := by
  refine spec_val mixed fn26 (by simp) ?_
  unfold ac26
  have w : IntKind.i64.wrap ((l.h.length : Int) + (l.q.length : Int)) = ((l.h.length + l.q.length : Nat) : Int) := by rw [wrapI (by omega)]; omega
  have hR := right_ref (l := l)
  have bad : ¬ ((l.h.length + l.q.length ≤ 64 ∧ (l.ex = true → l.h.length = 1)) ∧ may l = false ∧
    (∀ i (h : i < l.h.length), okWho l.h[i] = true ∧ (whos l).count l.h[i] = 1 ∧ ∀ _ : 0 < i, l.h[i - 1] ≤ l.h[i]) ∧ (∀ i (h : i < l.q.length), okWho l.q[i].who = true ∧ (whos l).count l.q[i].who = 1)) → right l = false := fun h => by
    cases hh : right l
    · rfl
    · exact absurd (hR.1 hh) h
  simp -implicitDefEqProofs only [↓aP, aQ, ↓reduceIte, Nat.reduceEqDiff, Nat.reduceAdd, Nat.reduceSub, Nat.reduceMul, Nat.reduceLT, Nat.reduceLeDiff, reduceCtorEq, Nat.reduceBEq, forall_const, implies_true, exists_const, ne_eq, Int.reduceAdd, Int.reduceSub, Int.reduceMul, Int.reduceBEq, Int.reduceEq, Int.reduceLT, Int.reduceLE, Int.reduceToNat, Int.reduceNeg, Int.reduceBNe, encLt, List.length_map, w]
  by_cases h64 : 64 < l.h.length + l.q.length
  · have e := bad (fun h => by omega)
    simp -implicitDefEqProofs only [↓aP, aQ, ↓reduceIte, Nat.reduceEqDiff, Nat.reduceAdd, Nat.reduceSub, Nat.reduceMul, Nat.reduceLT, Nat.reduceLeDiff, reduceCtorEq, Nat.reduceBEq, forall_const, implies_true, exists_const, ne_eq, Int.reduceAdd, Int.reduceSub, Int.reduceMul, Int.reduceBEq, Int.reduceEq, Int.reduceLT, Int.reduceLE, Int.reduceToNat, Int.reduceNeg, Int.reduceBNe, show decide ((64 : Int) < ((l.h.length + l.q.length : Nat) : Int)) = true by simp; omega, e]
  have d : decide ((64 : Int) < ((l.h.length + l.q.length : Nat) : Int)) = false := by simp; omega
  by_cases hx : l.ex = true ∧ l.h.length ≠ 1
  · have e := bad (fun h => hx.2 (h.1.2 hx.1))
    simp -implicitDefEqProofs only [↓aP, aQ, ↓reduceIte, Nat.reduceEqDiff, Nat.reduceAdd, Nat.reduceSub, Nat.reduceMul, Nat.reduceLT, Nat.reduceLeDiff, reduceCtorEq, Nat.reduceBEq, forall_const, implies_true, exists_const, ne_eq, Int.reduceAdd, Int.reduceSub, Int.reduceMul, Int.reduceBEq, Int.reduceEq, Int.reduceLT, Int.reduceLE, Int.reduceToNat, Int.reduceNeg, Int.reduceBNe, d, e, hx.1, encLt, List.length_map, show ((l.h.length : Int) != 1) = true by simp; omega]
  have hb : l.ex = true → l.h.length = 1 := fun h => by by_cases h1 : l.h.length = 1; exact h1; exact absurd ⟨h, h1⟩ hx
  cases hex : l.ex
  · simp -implicitDefEqProofs only [↓aP, aQ, ↓reduceIte, Nat.reduceEqDiff, Nat.reduceAdd, Nat.reduceSub, Nat.reduceMul, Nat.reduceLT, Nat.reduceLeDiff, reduceCtorEq, Nat.reduceBEq, forall_const, implies_true, exists_const, ne_eq, Int.reduceAdd, Int.reduceSub, Int.reduceMul, Int.reduceBEq, Int.reduceEq, Int.reduceLT, Int.reduceLE, Int.reduceToNat, Int.reduceNeg, Int.reduceBNe, d, hex, encLt]
    refine ask (by have := rmay_spec l; rw [encLt_eq, hex] at this; exact this) ?_
    cases hm : may l
    case true =>
      have e := bad (fun h => by rw [hm] at h; cases h.2.1)
      simp -implicitDefEqProofs only [↓aP, aQ, ↓reduceIte, Nat.reduceEqDiff, Nat.reduceAdd, Nat.reduceSub, Nat.reduceMul, Nat.reduceLT, Nat.reduceLeDiff, reduceCtorEq, Nat.reduceBEq, forall_const, implies_true, exists_const, ne_eq, Int.reduceAdd, Int.reduceSub, Int.reduceMul, Int.reduceBEq, Int.reduceEq, Int.reduceLT, Int.reduceLE, Int.reduceToNat, Int.reduceNeg, Int.reduceBNe, e]
    simp -implicitDefEqProofs only [↓aP, aQ, ↓reduceIte, Nat.reduceEqDiff, Nat.reduceAdd, Nat.reduceSub, Nat.reduceMul, Nat.reduceLT, Nat.reduceLeDiff, reduceCtorEq, Nat.reduceBEq, forall_const, implies_true, exists_const, ne_eq, Int.reduceAdd, Int.reduceSub, Int.reduceMul, Int.reduceBEq, Int.reduceEq, Int.reduceLT, Int.reduceLE, Int.reduceToNat, Int.reduceNeg, Int.reduceBNe, hm, encLt, hex]
    refine rangeB l.h.length (fun i σ => (∀ k (h : k < l.h.length), k < i → okWho l.h[k] = true ∧ (whos l).count l.h[k] = 1 ∧ ∀ _ : 0 < k, l.h[k - 1] ≤ l.h[k]) ∧ σ.slot 1 = .c (.ptr 1 1 0 0) ∧ σ.h.gen 1 = 1 ∧ σ.h.blk 1 = .box 57 3 [(encLt l).map AC.s] ∧ σ.slot 3 = vI i) ?_ ?_ ?_
    · simp -implicitDefEqProofs only [↓aP, aQ, ↓reduceIte, Nat.reduceEqDiff, Nat.reduceAdd, Nat.reduceSub, Nat.reduceMul, Nat.reduceLT, Nat.reduceLeDiff, reduceCtorEq, Nat.reduceBEq, forall_const, implies_true, exists_const, ne_eq, Int.reduceAdd, Int.reduceSub, Int.reduceMul, Int.reduceBEq, Int.reduceEq, Int.reduceLT, Int.reduceLE, Int.reduceToNat, Int.reduceNeg, Int.reduceBNe, encLt, hex]
      exact fun k _ h => by omega
    · rintro i m σ him hi hlt ⟨hall, s1, g1, b1, s3⟩
      simp -implicitDefEqProofs only [↓aP, aQ, ↓reduceIte, Nat.reduceEqDiff, Nat.reduceAdd, Nat.reduceSub, Nat.reduceMul, Nat.reduceLT, Nat.reduceLeDiff, reduceCtorEq, Nat.reduceBEq, forall_const, implies_true, exists_const, ne_eq, Int.reduceAdd, Int.reduceSub, Int.reduceMul, Int.reduceBEq, Int.reduceEq, Int.reduceLT, Int.reduceLE, Int.reduceToNat, Int.reduceNeg, Int.reduceBNe, hlt, s1, g1, b1, s3, encLt, askIdx_map, hi, encI, List.length_map]
      have hoki := ok_cases (n := l.h[i])
      by_cases hlo : l.h[i] < 0
      · have e := bad (fun h => by have := (h.2.2.1 i hi).1; rw [hoki, decide_eq_true hlo] at this; cases this)
        simp -implicitDefEqProofs only [↓aP, aQ, ↓reduceIte, Nat.reduceEqDiff, Nat.reduceAdd, Nat.reduceSub, Nat.reduceMul, Nat.reduceLT, Nat.reduceLeDiff, reduceCtorEq, Nat.reduceBEq, forall_const, implies_true, exists_const, ne_eq, Int.reduceAdd, Int.reduceSub, Int.reduceMul, Int.reduceBEq, Int.reduceEq, Int.reduceLT, Int.reduceLE, Int.reduceToNat, Int.reduceNeg, Int.reduceBNe, decide_eq_true hlo, e]
      by_cases hhi : 2147483647 < l.h[i]
      · have e := bad (fun h => by have := (h.2.2.1 i hi).1; rw [hoki, decide_eq_true hhi, Bool.not_true, Bool.and_false] at this; cases this)
        simp -implicitDefEqProofs only [↓aP, aQ, ↓reduceIte, Nat.reduceEqDiff, Nat.reduceAdd, Nat.reduceSub, Nat.reduceMul, Nat.reduceLT, Nat.reduceLeDiff, reduceCtorEq, Nat.reduceBEq, forall_const, implies_true, exists_const, ne_eq, Int.reduceAdd, Int.reduceSub, Int.reduceMul, Int.reduceBEq, Int.reduceEq, Int.reduceLT, Int.reduceLE, Int.reduceToNat, Int.reduceNeg, Int.reduceBNe, decide_eq_false hlo, s1, g1, b1, s3, encLt, decide_eq_true hhi, e]
      rw [decide_eq_false hlo, decide_eq_false hhi] at hoki
      simp -implicitDefEqProofs only [↓aP, aQ, ↓reduceIte, Nat.reduceEqDiff, Nat.reduceAdd, Nat.reduceSub, Nat.reduceMul, Nat.reduceLT, Nat.reduceLeDiff, reduceCtorEq, Nat.reduceBEq, forall_const, implies_true, exists_const, ne_eq, Int.reduceAdd, Int.reduceSub, Int.reduceMul, Int.reduceBEq, Int.reduceEq, Int.reduceLT, Int.reduceLE, Int.reduceToNat, Int.reduceNeg, Int.reduceBNe, decide_eq_false hlo, decide_eq_false hhi, s1, g1, b1, s3, encLt]
      refine ask (rIn_spec l l.h[i] (by omega)) ?_
      by_cases hc : (whos l).count l.h[i] = 1
      case neg =>
        have e := bad (fun h => hc (h.2.2.1 i hi).2.1)
        simp -implicitDefEqProofs only [↓aP, aQ, ↓reduceIte, Nat.reduceEqDiff, Nat.reduceAdd, Nat.reduceSub, Nat.reduceMul, Nat.reduceLT, Nat.reduceLeDiff, reduceCtorEq, Nat.reduceBEq, forall_const, implies_true, exists_const, ne_eq, Int.reduceAdd, Int.reduceSub, Int.reduceMul, Int.reduceBEq, Int.reduceEq, Int.reduceLT, Int.reduceLE, Int.reduceToNat, Int.reduceNeg, Int.reduceBNe, show ((((whos l).count l.h[i] : Nat) : Int) != 1) = true by simp; omega, e]
      have hcd : ((((whos l).count l.h[i] : Nat) : Int) != 1) = false := by simp; omega
      by_cases hi0 : i = 0
      · have d0 : decide ((0 : Int) < (i : Int)) = false := by simp; omega
        simp -implicitDefEqProofs only [↓aP, aQ, ↓reduceIte, Nat.reduceEqDiff, Nat.reduceAdd, Nat.reduceSub, Nat.reduceMul, Nat.reduceLT, Nat.reduceLeDiff, reduceCtorEq, Nat.reduceBEq, forall_const, implies_true, exists_const, ne_eq, Int.reduceAdd, Int.reduceSub, Int.reduceMul, Int.reduceBEq, Int.reduceEq, Int.reduceLT, Int.reduceLE, Int.reduceToNat, Int.reduceNeg, Int.reduceBNe, hcd, s1, g1, b1, s3, encLt, d0, wrapS (show i < 4611686018427387904 by omega)]
        refine nextR hi him ⟨fun k hk hki => ?_, ?_⟩
        · by_cases e : k = i
          · subst e; exact ⟨hoki, hc, fun h => by omega⟩
          · exact hall k hk (by omega)
        · simp -implicitDefEqProofs only [↓aP, aQ, ↓reduceIte, Nat.reduceEqDiff, Nat.reduceAdd, Nat.reduceSub, Nat.reduceMul, Nat.reduceLT, Nat.reduceLeDiff, reduceCtorEq, Nat.reduceBEq, forall_const, implies_true, exists_const, ne_eq, Int.reduceAdd, Int.reduceSub, Int.reduceMul, Int.reduceBEq, Int.reduceEq, Int.reduceLT, Int.reduceLE, Int.reduceToNat, Int.reduceNeg, Int.reduceBNe, s1, g1, b1, s3, encLt]
      · have d0 : decide ((0 : Int) < (i : Int)) = true := by simp; omega
        have hi1 : i - 1 < l.h.length := by omega
        have w1 : IntKind.i64.wrap ((i : Int) - 1) = ((i - 1 : Nat) : Int) := by rw [wrapI (by omega)]; omega
        simp -implicitDefEqProofs only [↓aP, aQ, ↓reduceIte, Nat.reduceEqDiff, Nat.reduceAdd, Nat.reduceSub, Nat.reduceMul, Nat.reduceLT, Nat.reduceLeDiff, reduceCtorEq, Nat.reduceBEq, forall_const, implies_true, exists_const, ne_eq, Int.reduceAdd, Int.reduceSub, Int.reduceMul, Int.reduceBEq, Int.reduceEq, Int.reduceLT, Int.reduceLE, Int.reduceToNat, Int.reduceNeg, Int.reduceBNe, hcd, s1, g1, b1, s3, encLt, d0, w1, askIdx_map, hi1, encI, List.length_map]
        by_cases hs : l.h[i] < l.h[i - 1]
        · have e := bad (fun h => by have := (h.2.2.1 i hi).2.2 (by omega); omega)
          simp -implicitDefEqProofs only [↓aP, aQ, ↓reduceIte, Nat.reduceEqDiff, Nat.reduceAdd, Nat.reduceSub, Nat.reduceMul, Nat.reduceLT, Nat.reduceLeDiff, reduceCtorEq, Nat.reduceBEq, forall_const, implies_true, exists_const, ne_eq, Int.reduceAdd, Int.reduceSub, Int.reduceMul, Int.reduceBEq, Int.reduceEq, Int.reduceLT, Int.reduceLE, Int.reduceToNat, Int.reduceNeg, Int.reduceBNe, decide_eq_true hs, e]
        · simp -implicitDefEqProofs only [↓aP, aQ, ↓reduceIte, Nat.reduceEqDiff, Nat.reduceAdd, Nat.reduceSub, Nat.reduceMul, Nat.reduceLT, Nat.reduceLeDiff, reduceCtorEq, Nat.reduceBEq, forall_const, implies_true, exists_const, ne_eq, Int.reduceAdd, Int.reduceSub, Int.reduceMul, Int.reduceBEq, Int.reduceEq, Int.reduceLT, Int.reduceLE, Int.reduceToNat, Int.reduceNeg, Int.reduceBNe, decide_eq_false hs, s1, g1, b1, s3, encLt, wrapS (show i < 4611686018427387904 by omega)]
          refine nextR hi him ⟨fun k hk hki => ?_, ?_⟩
          · by_cases e : k = i
            · subst e; exact ⟨hoki, hc, fun h => by omega⟩
            · exact hall k hk (by omega)
          · simp -implicitDefEqProofs only [↓aP, aQ, ↓reduceIte, Nat.reduceEqDiff, Nat.reduceAdd, Nat.reduceSub, Nat.reduceMul, Nat.reduceLT, Nat.reduceLeDiff, reduceCtorEq, Nat.reduceBEq, forall_const, implies_true, exists_const, ne_eq, Int.reduceAdd, Int.reduceSub, Int.reduceMul, Int.reduceBEq, Int.reduceEq, Int.reduceLT, Int.reduceLE, Int.reduceToNat, Int.reduceNeg, Int.reduceBNe, s1, g1, b1, s3, encLt]
    · rintro m σ hlt ⟨hall, s1, g1, b1, s3⟩
      simp -implicitDefEqProofs only [↓aP, aQ, ↓reduceIte, Nat.reduceEqDiff, Nat.reduceAdd, Nat.reduceSub, Nat.reduceMul, Nat.reduceLT, Nat.reduceLeDiff, reduceCtorEq, Nat.reduceBEq, forall_const, implies_true, exists_const, ne_eq, Int.reduceAdd, Int.reduceSub, Int.reduceMul, Int.reduceBEq, Int.reduceEq, Int.reduceLT, Int.reduceLE, Int.reduceToNat, Int.reduceNeg, Int.reduceBNe, hlt, s1, g1, b1, s3, encLt, List.length_map]
      refine rangeB l.q.length (fun i σ => (∀ k (h : k < l.q.length), k < i → okWho l.q[k].who = true ∧ (whos l).count l.q[k].who = 1) ∧ σ.slot 1 = .c (.ptr 1 1 0 0) ∧ σ.h.gen 1 = 1 ∧ σ.h.blk 1 = .box 57 3 [(encLt l).map AC.s] ∧ σ.slot 5 = vI i) ?_ ?_ ?_
      · simp -implicitDefEqProofs only [↓aP, aQ, ↓reduceIte, Nat.reduceEqDiff, Nat.reduceAdd, Nat.reduceSub, Nat.reduceMul, Nat.reduceLT, Nat.reduceLeDiff, reduceCtorEq, Nat.reduceBEq, forall_const, implies_true, exists_const, ne_eq, Int.reduceAdd, Int.reduceSub, Int.reduceMul, Int.reduceBEq, Int.reduceEq, Int.reduceLT, Int.reduceLE, Int.reduceToNat, Int.reduceNeg, Int.reduceBNe, s1, g1, b1, s3, encLt]
        exact fun k _ h => by omega
      · clear hlt s1 g1 b1 s3
        rintro i m σ him hi hlt ⟨hall2, s1, g1, b1, s5⟩
        simp -implicitDefEqProofs only [↓aP, aQ, ↓reduceIte, Nat.reduceEqDiff, Nat.reduceAdd, Nat.reduceSub, Nat.reduceMul, Nat.reduceLT, Nat.reduceLeDiff, reduceCtorEq, Nat.reduceBEq, forall_const, implies_true, exists_const, ne_eq, Int.reduceAdd, Int.reduceSub, Int.reduceMul, Int.reduceBEq, Int.reduceEq, Int.reduceLT, Int.reduceLE, Int.reduceToNat, Int.reduceNeg, Int.reduceBNe, hlt, s1, g1, b1, s5, encLt, askIdx_map, hi, encWt, List.length_map]
        have hoki := ok_cases (n := l.q[i].who)
        by_cases hlo : l.q[i].who < 0
        · have e := bad (fun h => by have := (h.2.2.2 i hi).1; rw [hoki, decide_eq_true hlo] at this; cases this)
          simp -implicitDefEqProofs only [↓aP, aQ, ↓reduceIte, Nat.reduceEqDiff, Nat.reduceAdd, Nat.reduceSub, Nat.reduceMul, Nat.reduceLT, Nat.reduceLeDiff, reduceCtorEq, Nat.reduceBEq, forall_const, implies_true, exists_const, ne_eq, Int.reduceAdd, Int.reduceSub, Int.reduceMul, Int.reduceBEq, Int.reduceEq, Int.reduceLT, Int.reduceLE, Int.reduceToNat, Int.reduceNeg, Int.reduceBNe, decide_eq_true hlo, e]
        by_cases hhi : 2147483647 < l.q[i].who
        · have e := bad (fun h => by have := (h.2.2.2 i hi).1; rw [hoki, decide_eq_true hhi, Bool.not_true, Bool.and_false] at this; cases this)
          simp -implicitDefEqProofs only [↓aP, aQ, ↓reduceIte, Nat.reduceEqDiff, Nat.reduceAdd, Nat.reduceSub, Nat.reduceMul, Nat.reduceLT, Nat.reduceLeDiff, reduceCtorEq, Nat.reduceBEq, forall_const, implies_true, exists_const, ne_eq, Int.reduceAdd, Int.reduceSub, Int.reduceMul, Int.reduceBEq, Int.reduceEq, Int.reduceLT, Int.reduceLE, Int.reduceToNat, Int.reduceNeg, Int.reduceBNe, decide_eq_false hlo, s1, g1, b1, s5, encLt, decide_eq_true hhi, e]
        rw [decide_eq_false hlo, decide_eq_false hhi] at hoki
        simp -implicitDefEqProofs only [↓aP, aQ, ↓reduceIte, Nat.reduceEqDiff, Nat.reduceAdd, Nat.reduceSub, Nat.reduceMul, Nat.reduceLT, Nat.reduceLeDiff, reduceCtorEq, Nat.reduceBEq, forall_const, implies_true, exists_const, ne_eq, Int.reduceAdd, Int.reduceSub, Int.reduceMul, Int.reduceBEq, Int.reduceEq, Int.reduceLT, Int.reduceLE, Int.reduceToNat, Int.reduceNeg, Int.reduceBNe, decide_eq_false hlo, decide_eq_false hhi, s1, g1, b1, s5, encLt]
        refine ask (rIn_spec l l.q[i].who (by omega)) ?_
        by_cases hc : (whos l).count l.q[i].who = 1
        case neg =>
          have e := bad (fun h => hc (h.2.2.2 i hi).2)
          simp -implicitDefEqProofs only [↓aP, aQ, ↓reduceIte, Nat.reduceEqDiff, Nat.reduceAdd, Nat.reduceSub, Nat.reduceMul, Nat.reduceLT, Nat.reduceLeDiff, reduceCtorEq, Nat.reduceBEq, forall_const, implies_true, exists_const, ne_eq, Int.reduceAdd, Int.reduceSub, Int.reduceMul, Int.reduceBEq, Int.reduceEq, Int.reduceLT, Int.reduceLE, Int.reduceToNat, Int.reduceNeg, Int.reduceBNe, show ((((whos l).count l.q[i].who : Nat) : Int) != 1) = true by simp; omega, e]
        have hcd : ((((whos l).count l.q[i].who : Nat) : Int) != 1) = false := by simp; omega
        simp -implicitDefEqProofs only [↓aP, aQ, ↓reduceIte, Nat.reduceEqDiff, Nat.reduceAdd, Nat.reduceSub, Nat.reduceMul, Nat.reduceLT, Nat.reduceLeDiff, reduceCtorEq, Nat.reduceBEq, forall_const, implies_true, exists_const, ne_eq, Int.reduceAdd, Int.reduceSub, Int.reduceMul, Int.reduceBEq, Int.reduceEq, Int.reduceLT, Int.reduceLE, Int.reduceToNat, Int.reduceNeg, Int.reduceBNe, hcd, s1, g1, b1, s5, encLt, wrapS (show i < 4611686018427387904 by omega)]
        refine nextR hi him ⟨fun k hk hki => ?_, ?_⟩
        · by_cases e : k = i
          · subst e; exact ⟨hoki, hc⟩
          · exact hall2 k hk (by omega)
        · simp -implicitDefEqProofs only [↓aP, aQ, ↓reduceIte, Nat.reduceEqDiff, Nat.reduceAdd, Nat.reduceSub, Nat.reduceMul, Nat.reduceLT, Nat.reduceLeDiff, reduceCtorEq, Nat.reduceBEq, forall_const, implies_true, exists_const, ne_eq, Int.reduceAdd, Int.reduceSub, Int.reduceMul, Int.reduceBEq, Int.reduceEq, Int.reduceLT, Int.reduceLE, Int.reduceToNat, Int.reduceNeg, Int.reduceBNe, s1, g1, b1, s5, encLt]
      · clear hlt s1 g1 b1 s3
        rintro m σ hlt ⟨hall2, s1, g1, b1, s5⟩
        have e : right l = true := hR.2 ⟨⟨by omega, hb⟩, hm, fun k hk => hall k hk hk, fun k hk => hall2 k hk hk⟩
        simp -implicitDefEqProofs only [↓aP, aQ, ↓reduceIte, Nat.reduceEqDiff, Nat.reduceAdd, Nat.reduceSub, Nat.reduceMul, Nat.reduceLT, Nat.reduceLeDiff, reduceCtorEq, Nat.reduceBEq, forall_const, implies_true, exists_const, ne_eq, Int.reduceAdd, Int.reduceSub, Int.reduceMul, Int.reduceBEq, Int.reduceEq, Int.reduceLT, Int.reduceLE, Int.reduceToNat, Int.reduceNeg, Int.reduceBNe, hlt, s1, g1, b1, s5, encLt, List.length_map, e]
  · have h1 := hb hex
    simp -implicitDefEqProofs only [↓aP, aQ, ↓reduceIte, Nat.reduceEqDiff, Nat.reduceAdd, Nat.reduceSub, Nat.reduceMul, Nat.reduceLT, Nat.reduceLeDiff, reduceCtorEq, Nat.reduceBEq, forall_const, implies_true, exists_const, ne_eq, Int.reduceAdd, Int.reduceSub, Int.reduceMul, Int.reduceBEq, Int.reduceEq, Int.reduceLT, Int.reduceLE, Int.reduceToNat, Int.reduceNeg, Int.reduceBNe, d, hex, encLt, List.length_map, show ((l.h.length : Int) != 1) = false by simp; omega]
    refine ask (by have := rmay_spec l; rw [encLt_eq, hex] at this; exact this) ?_
    cases hm : may l
    case true =>
      have e := bad (fun h => by rw [hm] at h; cases h.2.1)
      simp -implicitDefEqProofs only [↓aP, aQ, ↓reduceIte, Nat.reduceEqDiff, Nat.reduceAdd, Nat.reduceSub, Nat.reduceMul, Nat.reduceLT, Nat.reduceLeDiff, reduceCtorEq, Nat.reduceBEq, forall_const, implies_true, exists_const, ne_eq, Int.reduceAdd, Int.reduceSub, Int.reduceMul, Int.reduceBEq, Int.reduceEq, Int.reduceLT, Int.reduceLE, Int.reduceToNat, Int.reduceNeg, Int.reduceBNe, e]
    simp -implicitDefEqProofs only [↓aP, aQ, ↓reduceIte, Nat.reduceEqDiff, Nat.reduceAdd, Nat.reduceSub, Nat.reduceMul, Nat.reduceLT, Nat.reduceLeDiff, reduceCtorEq, Nat.reduceBEq, forall_const, implies_true, exists_const, ne_eq, Int.reduceAdd, Int.reduceSub, Int.reduceMul, Int.reduceBEq, Int.reduceEq, Int.reduceLT, Int.reduceLE, Int.reduceToNat, Int.reduceNeg, Int.reduceBNe, hm, encLt, hex]
    refine rangeB l.h.length (fun i σ => (∀ k (h : k < l.h.length), k < i → okWho l.h[k] = true ∧ (whos l).count l.h[k] = 1 ∧ ∀ _ : 0 < k, l.h[k - 1] ≤ l.h[k]) ∧ σ.slot 1 = .c (.ptr 1 1 0 0) ∧ σ.h.gen 1 = 1 ∧ σ.h.blk 1 = .box 57 3 [(encLt l).map AC.s] ∧ σ.slot 3 = vI i) ?_ ?_ ?_
    · simp -implicitDefEqProofs only [↓aP, aQ, ↓reduceIte, Nat.reduceEqDiff, Nat.reduceAdd, Nat.reduceSub, Nat.reduceMul, Nat.reduceLT, Nat.reduceLeDiff, reduceCtorEq, Nat.reduceBEq, forall_const, implies_true, exists_const, ne_eq, Int.reduceAdd, Int.reduceSub, Int.reduceMul, Int.reduceBEq, Int.reduceEq, Int.reduceLT, Int.reduceLE, Int.reduceToNat, Int.reduceNeg, Int.reduceBNe, encLt, hex]
      exact fun k _ h => by omega
    · rintro i m σ him hi hlt ⟨hall, s1, g1, b1, s3⟩
      simp -implicitDefEqProofs only [↓aP, aQ, ↓reduceIte, Nat.reduceEqDiff, Nat.reduceAdd, Nat.reduceSub, Nat.reduceMul, Nat.reduceLT, Nat.reduceLeDiff, reduceCtorEq, Nat.reduceBEq, forall_const, implies_true, exists_const, ne_eq, Int.reduceAdd, Int.reduceSub, Int.reduceMul, Int.reduceBEq, Int.reduceEq, Int.reduceLT, Int.reduceLE, Int.reduceToNat, Int.reduceNeg, Int.reduceBNe, hlt, s1, g1, b1, s3, encLt, askIdx_map, hi, encI, List.length_map]
      have hoki := ok_cases (n := l.h[i])
      by_cases hlo : l.h[i] < 0
      · have e := bad (fun h => by have := (h.2.2.1 i hi).1; rw [hoki, decide_eq_true hlo] at this; cases this)
        simp -implicitDefEqProofs only [↓aP, aQ, ↓reduceIte, Nat.reduceEqDiff, Nat.reduceAdd, Nat.reduceSub, Nat.reduceMul, Nat.reduceLT, Nat.reduceLeDiff, reduceCtorEq, Nat.reduceBEq, forall_const, implies_true, exists_const, ne_eq, Int.reduceAdd, Int.reduceSub, Int.reduceMul, Int.reduceBEq, Int.reduceEq, Int.reduceLT, Int.reduceLE, Int.reduceToNat, Int.reduceNeg, Int.reduceBNe, decide_eq_true hlo, e]
      by_cases hhi : 2147483647 < l.h[i]
      · have e := bad (fun h => by have := (h.2.2.1 i hi).1; rw [hoki, decide_eq_true hhi, Bool.not_true, Bool.and_false] at this; cases this)
        simp -implicitDefEqProofs only [↓aP, aQ, ↓reduceIte, Nat.reduceEqDiff, Nat.reduceAdd, Nat.reduceSub, Nat.reduceMul, Nat.reduceLT, Nat.reduceLeDiff, reduceCtorEq, Nat.reduceBEq, forall_const, implies_true, exists_const, ne_eq, Int.reduceAdd, Int.reduceSub, Int.reduceMul, Int.reduceBEq, Int.reduceEq, Int.reduceLT, Int.reduceLE, Int.reduceToNat, Int.reduceNeg, Int.reduceBNe, decide_eq_false hlo, s1, g1, b1, s3, encLt, decide_eq_true hhi, e]
      rw [decide_eq_false hlo, decide_eq_false hhi] at hoki
      simp -implicitDefEqProofs only [↓aP, aQ, ↓reduceIte, Nat.reduceEqDiff, Nat.reduceAdd, Nat.reduceSub, Nat.reduceMul, Nat.reduceLT, Nat.reduceLeDiff, reduceCtorEq, Nat.reduceBEq, forall_const, implies_true, exists_const, ne_eq, Int.reduceAdd, Int.reduceSub, Int.reduceMul, Int.reduceBEq, Int.reduceEq, Int.reduceLT, Int.reduceLE, Int.reduceToNat, Int.reduceNeg, Int.reduceBNe, decide_eq_false hlo, decide_eq_false hhi, s1, g1, b1, s3, encLt]
      refine ask (rIn_spec l l.h[i] (by omega)) ?_
      by_cases hc : (whos l).count l.h[i] = 1
      case neg =>
        have e := bad (fun h => hc (h.2.2.1 i hi).2.1)
        simp -implicitDefEqProofs only [↓aP, aQ, ↓reduceIte, Nat.reduceEqDiff, Nat.reduceAdd, Nat.reduceSub, Nat.reduceMul, Nat.reduceLT, Nat.reduceLeDiff, reduceCtorEq, Nat.reduceBEq, forall_const, implies_true, exists_const, ne_eq, Int.reduceAdd, Int.reduceSub, Int.reduceMul, Int.reduceBEq, Int.reduceEq, Int.reduceLT, Int.reduceLE, Int.reduceToNat, Int.reduceNeg, Int.reduceBNe, show ((((whos l).count l.h[i] : Nat) : Int) != 1) = true by simp; omega, e]
      have hcd : ((((whos l).count l.h[i] : Nat) : Int) != 1) = false := by simp; omega
      by_cases hi0 : i = 0
      · have d0 : decide ((0 : Int) < (i : Int)) = false := by simp; omega
        simp -implicitDefEqProofs only [↓aP, aQ, ↓reduceIte, Nat.reduceEqDiff, Nat.reduceAdd, Nat.reduceSub, Nat.reduceMul, Nat.reduceLT, Nat.reduceLeDiff, reduceCtorEq, Nat.reduceBEq, forall_const, implies_true, exists_const, ne_eq, Int.reduceAdd, Int.reduceSub, Int.reduceMul, Int.reduceBEq, Int.reduceEq, Int.reduceLT, Int.reduceLE, Int.reduceToNat, Int.reduceNeg, Int.reduceBNe, hcd, s1, g1, b1, s3, encLt, d0, wrapS (show i < 4611686018427387904 by omega)]
        refine nextR hi him ⟨fun k hk hki => ?_, ?_⟩
        · by_cases e : k = i
          · subst e; exact ⟨hoki, hc, fun h => by omega⟩
          · exact hall k hk (by omega)
        · simp -implicitDefEqProofs only [↓aP, aQ, ↓reduceIte, Nat.reduceEqDiff, Nat.reduceAdd, Nat.reduceSub, Nat.reduceMul, Nat.reduceLT, Nat.reduceLeDiff, reduceCtorEq, Nat.reduceBEq, forall_const, implies_true, exists_const, ne_eq, Int.reduceAdd, Int.reduceSub, Int.reduceMul, Int.reduceBEq, Int.reduceEq, Int.reduceLT, Int.reduceLE, Int.reduceToNat, Int.reduceNeg, Int.reduceBNe, s1, g1, b1, s3, encLt]
      · have d0 : decide ((0 : Int) < (i : Int)) = true := by simp; omega
        have hi1 : i - 1 < l.h.length := by omega
        have w1 : IntKind.i64.wrap ((i : Int) - 1) = ((i - 1 : Nat) : Int) := by rw [wrapI (by omega)]; omega
        simp -implicitDefEqProofs only [↓aP, aQ, ↓reduceIte, Nat.reduceEqDiff, Nat.reduceAdd, Nat.reduceSub, Nat.reduceMul, Nat.reduceLT, Nat.reduceLeDiff, reduceCtorEq, Nat.reduceBEq, forall_const, implies_true, exists_const, ne_eq, Int.reduceAdd, Int.reduceSub, Int.reduceMul, Int.reduceBEq, Int.reduceEq, Int.reduceLT, Int.reduceLE, Int.reduceToNat, Int.reduceNeg, Int.reduceBNe, hcd, s1, g1, b1, s3, encLt, d0, w1, askIdx_map, hi1, encI, List.length_map]
        by_cases hs : l.h[i] < l.h[i - 1]
        · have e := bad (fun h => by have := (h.2.2.1 i hi).2.2 (by omega); omega)
          simp -implicitDefEqProofs only [↓aP, aQ, ↓reduceIte, Nat.reduceEqDiff, Nat.reduceAdd, Nat.reduceSub, Nat.reduceMul, Nat.reduceLT, Nat.reduceLeDiff, reduceCtorEq, Nat.reduceBEq, forall_const, implies_true, exists_const, ne_eq, Int.reduceAdd, Int.reduceSub, Int.reduceMul, Int.reduceBEq, Int.reduceEq, Int.reduceLT, Int.reduceLE, Int.reduceToNat, Int.reduceNeg, Int.reduceBNe, decide_eq_true hs, e]
        · simp -implicitDefEqProofs only [↓aP, aQ, ↓reduceIte, Nat.reduceEqDiff, Nat.reduceAdd, Nat.reduceSub, Nat.reduceMul, Nat.reduceLT, Nat.reduceLeDiff, reduceCtorEq, Nat.reduceBEq, forall_const, implies_true, exists_const, ne_eq, Int.reduceAdd, Int.reduceSub, Int.reduceMul, Int.reduceBEq, Int.reduceEq, Int.reduceLT, Int.reduceLE, Int.reduceToNat, Int.reduceNeg, Int.reduceBNe, decide_eq_false hs, s1, g1, b1, s3, encLt, wrapS (show i < 4611686018427387904 by omega)]
          refine nextR hi him ⟨fun k hk hki => ?_, ?_⟩
          · by_cases e : k = i
            · subst e; exact ⟨hoki, hc, fun h => by omega⟩
            · exact hall k hk (by omega)
          · simp -implicitDefEqProofs only [↓aP, aQ, ↓reduceIte, Nat.reduceEqDiff, Nat.reduceAdd, Nat.reduceSub, Nat.reduceMul, Nat.reduceLT, Nat.reduceLeDiff, reduceCtorEq, Nat.reduceBEq, forall_const, implies_true, exists_const, ne_eq, Int.reduceAdd, Int.reduceSub, Int.reduceMul, Int.reduceBEq, Int.reduceEq, Int.reduceLT, Int.reduceLE, Int.reduceToNat, Int.reduceNeg, Int.reduceBNe, s1, g1, b1, s3, encLt]
    · rintro m σ hlt ⟨hall, s1, g1, b1, s3⟩
      simp -implicitDefEqProofs only [↓aP, aQ, ↓reduceIte, Nat.reduceEqDiff, Nat.reduceAdd, Nat.reduceSub, Nat.reduceMul, Nat.reduceLT, Nat.reduceLeDiff, reduceCtorEq, Nat.reduceBEq, forall_const, implies_true, exists_const, ne_eq, Int.reduceAdd, Int.reduceSub, Int.reduceMul, Int.reduceBEq, Int.reduceEq, Int.reduceLT, Int.reduceLE, Int.reduceToNat, Int.reduceNeg, Int.reduceBNe, hlt, s1, g1, b1, s3, encLt, List.length_map]
      refine rangeB l.q.length (fun i σ => (∀ k (h : k < l.q.length), k < i → okWho l.q[k].who = true ∧ (whos l).count l.q[k].who = 1) ∧ σ.slot 1 = .c (.ptr 1 1 0 0) ∧ σ.h.gen 1 = 1 ∧ σ.h.blk 1 = .box 57 3 [(encLt l).map AC.s] ∧ σ.slot 5 = vI i) ?_ ?_ ?_
      · simp -implicitDefEqProofs only [↓aP, aQ, ↓reduceIte, Nat.reduceEqDiff, Nat.reduceAdd, Nat.reduceSub, Nat.reduceMul, Nat.reduceLT, Nat.reduceLeDiff, reduceCtorEq, Nat.reduceBEq, forall_const, implies_true, exists_const, ne_eq, Int.reduceAdd, Int.reduceSub, Int.reduceMul, Int.reduceBEq, Int.reduceEq, Int.reduceLT, Int.reduceLE, Int.reduceToNat, Int.reduceNeg, Int.reduceBNe, s1, g1, b1, s3, encLt]
        exact fun k _ h => by omega
      · clear hlt s1 g1 b1 s3
        rintro i m σ him hi hlt ⟨hall2, s1, g1, b1, s5⟩
        simp -implicitDefEqProofs only [↓aP, aQ, ↓reduceIte, Nat.reduceEqDiff, Nat.reduceAdd, Nat.reduceSub, Nat.reduceMul, Nat.reduceLT, Nat.reduceLeDiff, reduceCtorEq, Nat.reduceBEq, forall_const, implies_true, exists_const, ne_eq, Int.reduceAdd, Int.reduceSub, Int.reduceMul, Int.reduceBEq, Int.reduceEq, Int.reduceLT, Int.reduceLE, Int.reduceToNat, Int.reduceNeg, Int.reduceBNe, hlt, s1, g1, b1, s5, encLt, askIdx_map, hi, encWt, List.length_map]
        have hoki := ok_cases (n := l.q[i].who)
        by_cases hlo : l.q[i].who < 0
        · have e := bad (fun h => by have := (h.2.2.2 i hi).1; rw [hoki, decide_eq_true hlo] at this; cases this)
          simp -implicitDefEqProofs only [↓aP, aQ, ↓reduceIte, Nat.reduceEqDiff, Nat.reduceAdd, Nat.reduceSub, Nat.reduceMul, Nat.reduceLT, Nat.reduceLeDiff, reduceCtorEq, Nat.reduceBEq, forall_const, implies_true, exists_const, ne_eq, Int.reduceAdd, Int.reduceSub, Int.reduceMul, Int.reduceBEq, Int.reduceEq, Int.reduceLT, Int.reduceLE, Int.reduceToNat, Int.reduceNeg, Int.reduceBNe, decide_eq_true hlo, e]
        by_cases hhi : 2147483647 < l.q[i].who
        · have e := bad (fun h => by have := (h.2.2.2 i hi).1; rw [hoki, decide_eq_true hhi, Bool.not_true, Bool.and_false] at this; cases this)
          simp -implicitDefEqProofs only [↓aP, aQ, ↓reduceIte, Nat.reduceEqDiff, Nat.reduceAdd, Nat.reduceSub, Nat.reduceMul, Nat.reduceLT, Nat.reduceLeDiff, reduceCtorEq, Nat.reduceBEq, forall_const, implies_true, exists_const, ne_eq, Int.reduceAdd, Int.reduceSub, Int.reduceMul, Int.reduceBEq, Int.reduceEq, Int.reduceLT, Int.reduceLE, Int.reduceToNat, Int.reduceNeg, Int.reduceBNe, decide_eq_false hlo, s1, g1, b1, s5, encLt, decide_eq_true hhi, e]
        rw [decide_eq_false hlo, decide_eq_false hhi] at hoki
        simp -implicitDefEqProofs only [↓aP, aQ, ↓reduceIte, Nat.reduceEqDiff, Nat.reduceAdd, Nat.reduceSub, Nat.reduceMul, Nat.reduceLT, Nat.reduceLeDiff, reduceCtorEq, Nat.reduceBEq, forall_const, implies_true, exists_const, ne_eq, Int.reduceAdd, Int.reduceSub, Int.reduceMul, Int.reduceBEq, Int.reduceEq, Int.reduceLT, Int.reduceLE, Int.reduceToNat, Int.reduceNeg, Int.reduceBNe, decide_eq_false hlo, decide_eq_false hhi, s1, g1, b1, s5, encLt]
        refine ask (rIn_spec l l.q[i].who (by omega)) ?_
        by_cases hc : (whos l).count l.q[i].who = 1
        case neg =>
          have e := bad (fun h => hc (h.2.2.2 i hi).2)
          simp -implicitDefEqProofs only [↓aP, aQ, ↓reduceIte, Nat.reduceEqDiff, Nat.reduceAdd, Nat.reduceSub, Nat.reduceMul, Nat.reduceLT, Nat.reduceLeDiff, reduceCtorEq, Nat.reduceBEq, forall_const, implies_true, exists_const, ne_eq, Int.reduceAdd, Int.reduceSub, Int.reduceMul, Int.reduceBEq, Int.reduceEq, Int.reduceLT, Int.reduceLE, Int.reduceToNat, Int.reduceNeg, Int.reduceBNe, show ((((whos l).count l.q[i].who : Nat) : Int) != 1) = true by simp; omega, e]
        have hcd : ((((whos l).count l.q[i].who : Nat) : Int) != 1) = false := by simp; omega
        simp -implicitDefEqProofs only [↓aP, aQ, ↓reduceIte, Nat.reduceEqDiff, Nat.reduceAdd, Nat.reduceSub, Nat.reduceMul, Nat.reduceLT, Nat.reduceLeDiff, reduceCtorEq, Nat.reduceBEq, forall_const, implies_true, exists_const, ne_eq, Int.reduceAdd, Int.reduceSub, Int.reduceMul, Int.reduceBEq, Int.reduceEq, Int.reduceLT, Int.reduceLE, Int.reduceToNat, Int.reduceNeg, Int.reduceBNe, hcd, s1, g1, b1, s5, encLt, wrapS (show i < 4611686018427387904 by omega)]
        refine nextR hi him ⟨fun k hk hki => ?_, ?_⟩
        · by_cases e : k = i
          · subst e; exact ⟨hoki, hc⟩
          · exact hall2 k hk (by omega)
        · simp -implicitDefEqProofs only [↓aP, aQ, ↓reduceIte, Nat.reduceEqDiff, Nat.reduceAdd, Nat.reduceSub, Nat.reduceMul, Nat.reduceLT, Nat.reduceLeDiff, reduceCtorEq, Nat.reduceBEq, forall_const, implies_true, exists_const, ne_eq, Int.reduceAdd, Int.reduceSub, Int.reduceMul, Int.reduceBEq, Int.reduceEq, Int.reduceLT, Int.reduceLE, Int.reduceToNat, Int.reduceNeg, Int.reduceBNe, s1, g1, b1, s5, encLt]
      · clear hlt s1 g1 b1 s3
        rintro m σ hlt ⟨hall2, s1, g1, b1, s5⟩
        have e : right l = true := hR.2 ⟨⟨by omega, hb⟩, hm, fun k hk => hall k hk hk, fun k hk => hall2 k hk hk⟩
        simp -implicitDefEqProofs only [↓aP, aQ, ↓reduceIte, Nat.reduceEqDiff, Nat.reduceAdd, Nat.reduceSub, Nat.reduceMul, Nat.reduceLT, Nat.reduceLeDiff, reduceCtorEq, Nat.reduceBEq, forall_const, implies_true, exists_const, ne_eq, Int.reduceAdd, Int.reduceSub, Int.reduceMul, Int.reduceBEq, Int.reduceEq, Int.reduceLT, Int.reduceLE, Int.reduceToNat, Int.reduceNeg, Int.reduceBNe, hlt, s1, g1, b1, s5, encLt, List.length_map, e]
end Go.Proofs.Ytkiddlkmodclhaa
