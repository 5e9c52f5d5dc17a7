/- layer 7: awake; the law TablePages. -/
import Derived.Test.YtkiddlkmodclhaaT5
import Derived.Test.YtkiddlkmodclhaaAm19
namespace Go.Proofs.Ytkiddlkmodclhaa
open Go.RowKit Go.ChangeShapes Go.WideShapes
set_option linter.unusedVariables false
set_option linter.unusedSimpArgs false
namespace Ta
def A1 : List Sl := [⟨0, 0⟩, ⟨1, 5⟩, ⟨0, 0⟩, ⟨0, 0⟩, ⟨0, 0⟩, ⟨0, 0⟩, ⟨0, 0⟩, ⟨0, 0⟩, ⟨0, 0⟩, ⟨0, 0⟩, ⟨0, 0⟩, ⟨0, 0⟩, ⟨0, 0⟩, ⟨0, 0⟩, ⟨0, 0⟩, ⟨0, 0⟩]
def A2 : List Sl := [⟨0, 0⟩, ⟨1, 5⟩, ⟨17, 6⟩, ⟨0, 0⟩, ⟨0, 0⟩, ⟨0, 0⟩, ⟨0, 0⟩, ⟨0, 0⟩, ⟨0, 0⟩, ⟨0, 0⟩, ⟨0, 0⟩, ⟨0, 0⟩, ⟨0, 0⟩, ⟨0, 0⟩, ⟨0, 0⟩, ⟨0, 0⟩]
def A3 : List Sl := [⟨0, 0⟩, ⟨17, 6⟩, ⟨0, 0⟩, ⟨0, 0⟩, ⟨0, 0⟩, ⟨0, 0⟩, ⟨0, 0⟩, ⟨0, 0⟩, ⟨0, 0⟩, ⟨0, 0⟩, ⟨0, 0⟩, ⟨0, 0⟩, ⟨0, 0⟩, ⟨0, 0⟩, ⟨0, 0⟩, ⟨0, 0⟩]
theorem okS_p {t : List Sl} (h : right t = true) {s : Sl} (hs : s ∈ t) : (s.p != 0) = !free s := by
  obtain ⟨h1, h2⟩ := right_iff.1 h
  obtain ⟨i, hi, rfl⟩ := List.getElem_of_mem hs
  have := h2 i (by omega)
  unfold okS at this
  rw [at_get hi] at this
  cases hf : free t[i]
  · rw [hf, Bool.false_or] at this
    simp only [Bool.and_eq_true] at this
    have hp := this.1.1
    unfold isP at hp
    simp only [decide_eq_true_eq] at hp
    simp; omega
  · have := (free_p hf).1
    simp [this]
def nzc (t : List Sl) : Nat := (t.filter fun s => s.p != 0).length
theorem nzc_eq {t : List Sl} (h : right t = true) : nzc t = (pgs t).length := by
  unfold nzc pgs
  rw [List.length_map]
  congr 1
  exact List.filter_congr (fun s hs => okS_p h hs)
theorem pgs_mem {t : List Sl} {p : Int} : p ∈ pgs t ↔ ∃ i, ∃ h : i < t.length, t[i].p = p ∧ free t[i] = false := by
  unfold pgs
  simp only [List.mem_map, List.mem_filter, Bool.not_eq_true']
  constructor
  · rintro ⟨s, ⟨hs, hf⟩, rfl⟩
    obtain ⟨i, hi, rfl⟩ := List.getElem_of_mem hs
    exact ⟨i, hi, rfl, hf⟩
  · rintro ⟨i, hi, rfl, hf⟩
    exact ⟨t[i], ⟨List.getElem_mem hi, hf⟩, rfl⟩
theorem pgs_cnt {t : List Sl} (h : right t = true) {p : Int} (hp : p ∈ pgs t) : cnt t p = 1 ∧ 1 ≤ p := by
  obtain ⟨h1, h2⟩ := right_iff.1 h
  obtain ⟨i, hi, rfl, hf⟩ := pgs_mem.1 hp
  have := okR_of h1 h2 (show i < 16 by omega)
  unfold okR at this
  rw [at_get hi, hf, Bool.false_or, Bool.and_eq_true, Bool.and_eq_true, Bool.and_eq_true, decide_eq_true_eq] at this
  have hP := this.1.1.1
  unfold isP at hP
  simp only [decide_eq_true_eq] at hP
  exact ⟨this.1.2, hP.1⟩
theorem pgs_nodup {t : List Sl} (h : right t = true) : (pgs t).Nodup := by
  rw [List.nodup_iff_count]
  intro a
  by_cases ha : a ∈ pgs t
  · have h1 := (pgs_cnt h ha).1
    have hsub : (pgs t).Sublist (t.map Sl.p) := (List.filter_sublist).map _
    have := hsub.count_le a
    unfold cnt at h1
    omega
  · rw [List.count_eq_zero_of_not_mem ha]; omega
theorem findM_pos {t : List Sl} (h : right t = true) {p : Int} (hp : p ∈ pgs t) : 0 ≤ findM t p := by
  have h1 := (pgs_cnt h hp).2
  obtain ⟨i, hi, e, hf⟩ := pgs_mem.1 hp
  unfold findM
  rw [if_neg (by omega)]
  cases hh : t.findIdx? (fun s => s.p == p) with
  | some k => simp
  | none =>
    have := List.findIdx?_eq_none_iff.1 hh t[i] (List.getElem_mem hi)
    simp [e] at this
theorem srtP {zs : List Int} : (srt zs).Perm zs := List.mergeSort_perm _ _
theorem srtS {zs : List Int} : (srt zs).Pairwise (· ≤ ·) := by
  have h := List.pairwise_mergeSort (le := fun x y : Int => decide (x ≤ y)) (fun a b c h1 h2 => by simp at h1 h2 ⊢; omega) (fun a b => by simp; omega) zs
  exact h.imp (fun x => by simpa using x)
theorem pages_lt {t : List Sl} (h : right t = true) {i : Nat} (hi : i < (pages t).length) (h0 : 0 < i) : (pages t)[i - 1] < (pages t)[i] := by
  have e : pages t = srt (pgs t) := by unfold pages; rw [if_pos h]
  have hn : (pages t).Nodup := by rw [e]; exact srtP.nodup_iff.2 (pgs_nodup h)
  have hs : (pages t).Pairwise (· ≤ ·) := by rw [e]; exact srtS
  have a := List.pairwise_iff_getElem.1 hs (i - 1) i (by omega) hi (by omega)
  have b := List.pairwise_iff_getElem.1 hn (i - 1) i (by omega) hi (by omega)
  omega
theorem pages_mem {t : List Sl} (h : right t = true) {p : Int} (hp : p ∈ pages t) : p ∈ pgs t := by
  unfold pages at hp
  rw [if_pos h] at hp
  exact srtP.mem_iff.1 hp
theorem pages_len {t : List Sl} (h : right t = true) : (pages t).length = (pgs t).length := by
  unfold pages
  rw [if_pos h, srt_len]
theorem pgs_len {t : List Sl} : (pgs t).length ≤ t.length := by
  unfold pgs
  rw [List.length_map]
  exact List.length_filter_le _ _
end Ta
theorem tawk1 : Spec Try.prog 19 [.agg (encTa (List.replicate 16 Ta.z)), rI 1, rI 5] (.val (encPut (Ta.A1, 0))) := by
  have h := tPut_spec (List.replicate 16 Ta.z) 1 5
  rwa [show Ta.put (List.replicate 16 Ta.z) 1 5 = (Ta.A1, 0) by decide +kernel] at h
theorem tawk2 : Spec Try.prog 19 [.agg (encTa Ta.A1), rI 17, rI 6] (.val (encPut (Ta.A2, 0))) := by
  have h := tPut_spec Ta.A1 17 6
  rwa [show Ta.put Ta.A1 17 6 = (Ta.A2, 0) by decide +kernel] at h
theorem tawk3 : Spec Try.prog 20 [.agg (encTa Ta.A2), rI 1] (.val (encPut (Ta.A3, 0))) := by
  have h := tDel_spec Ta.A2 1
  rwa [show Ta.del Ta.A2 1 = (Ta.A3, 0) by decide +kernel] at h
theorem tawk4 : Spec Try.prog 22 [.agg (encTa Ta.A3), rI 17] (.val (encSlot (6, true))) := by
  have h := tFind_spec Ta.A3 17
  rwa [show Ta.find Ta.A3 17 = (6, true) by decide +kernel] at h
theorem tawake_spec : Spec Try.prog 14 [] (.val (rB true)) := by
  refine spec_val mixed fn14 (by simp) ?_
  unfold ac14
  simp -implicitDefEqProofs only [↓aP, aQ, ↓reduceIte, Nat.reduceEqDiff, Nat.reduceAdd, Nat.reduceSub, Nat.reduceMul, Nat.reduceLT, Nat.reduceLeDiff, reduceCtorEq, Nat.reduceBEq, forall_const, implies_true, exists_const, ne_eq, Int.reduceAdd, Int.reduceSub, Int.reduceMul, Int.reduceBEq, Int.reduceEq, Int.reduceLT, Int.reduceLE, Int.reduceToNat, Int.reduceNeg, Int.reduceBNe]
  refine ask tNew_spec ?_
  simp -implicitDefEqProofs only [↓aP, aQ, ↓reduceIte, Nat.reduceEqDiff, Nat.reduceAdd, Nat.reduceSub, Nat.reduceMul, Nat.reduceLT, Nat.reduceLeDiff, reduceCtorEq, Nat.reduceBEq, forall_const, implies_true, exists_const, ne_eq, Int.reduceAdd, Int.reduceSub, Int.reduceMul, Int.reduceBEq, Int.reduceEq, Int.reduceLT, Int.reduceLE, Int.reduceToNat, Int.reduceNeg, Int.reduceBNe, encTa]
  refine ask (by have := tawk1; rw [encTa_eq] at this; exact this) ?_
  simp -implicitDefEqProofs only [↓aP, aQ, ↓reduceIte, Nat.reduceEqDiff, Nat.reduceAdd, Nat.reduceSub, Nat.reduceMul, Nat.reduceLT, Nat.reduceLeDiff, reduceCtorEq, Nat.reduceBEq, forall_const, implies_true, exists_const, ne_eq, Int.reduceAdd, Int.reduceSub, Int.reduceMul, Int.reduceBEq, Int.reduceEq, Int.reduceLT, Int.reduceLE, Int.reduceToNat, Int.reduceNeg, Int.reduceBNe, encPut, encTa]
  refine ask (by have := tawk2; rw [encTa_eq] at this; exact this) ?_
  simp -implicitDefEqProofs only [↓aP, aQ, ↓reduceIte, Nat.reduceEqDiff, Nat.reduceAdd, Nat.reduceSub, Nat.reduceMul, Nat.reduceLT, Nat.reduceLeDiff, reduceCtorEq, Nat.reduceBEq, forall_const, implies_true, exists_const, ne_eq, Int.reduceAdd, Int.reduceSub, Int.reduceMul, Int.reduceBEq, Int.reduceEq, Int.reduceLT, Int.reduceLE, Int.reduceToNat, Int.reduceNeg, Int.reduceBNe, encPut, encTa]
  refine ask (by have := tawk3; rw [encTa_eq] at this; exact this) ?_
  simp -implicitDefEqProofs only [↓aP, aQ, ↓reduceIte, Nat.reduceEqDiff, Nat.reduceAdd, Nat.reduceSub, Nat.reduceMul, Nat.reduceLT, Nat.reduceLeDiff, reduceCtorEq, Nat.reduceBEq, forall_const, implies_true, exists_const, ne_eq, Int.reduceAdd, Int.reduceSub, Int.reduceMul, Int.reduceBEq, Int.reduceEq, Int.reduceLT, Int.reduceLE, Int.reduceToNat, Int.reduceNeg, Int.reduceBNe, encPut, encTa]
  refine ask (by have := tawk4; rw [encTa_eq] at this; exact this) ?_
  simp -implicitDefEqProofs only [↓aP, aQ, ↓reduceIte, Nat.reduceEqDiff, Nat.reduceAdd, Nat.reduceSub, Nat.reduceMul, Nat.reduceLT, Nat.reduceLeDiff, reduceCtorEq, Nat.reduceBEq, forall_const, implies_true, exists_const, ne_eq, Int.reduceAdd, Int.reduceSub, Int.reduceMul, Int.reduceBEq, Int.reduceEq, Int.reduceLT, Int.reduceLE, Int.reduceToNat, Int.reduceNeg, Int.reduceBNe, encSlot, Ta.A2, Ta.A3, encSl, List.map_cons, List.map_nil]


theorem law_pages (t : List Sl) (hl : t.length ≤ 9223372036854775807) : Spec Try.prog 3 [.agg (encTa t)] (.val (rB true)) := by
  refine spec_val mixed fn3 (by simp) ?_
  unfold ac3
  simp -implicitDefEqProofs only [↓aP, aQ, ↓reduceIte, Nat.reduceEqDiff, Nat.reduceAdd, Nat.reduceSub, Nat.reduceMul, Nat.reduceLT, Nat.reduceLeDiff, reduceCtorEq, Nat.reduceBEq, forall_const, implies_true, exists_const, ne_eq, Int.reduceAdd, Int.reduceSub, Int.reduceMul, Int.reduceBEq, Int.reduceEq, Int.reduceLT, Int.reduceLE, Int.reduceToNat, Int.reduceNeg, Int.reduceBNe, encTa]
  refine ask (tref_spec t hl) ?_
  by_cases h40 : 40 < t.length
  · have e : Ta.refM t = ([], false) := by unfold Ta.refM; rw [if_pos h40]
    simp -implicitDefEqProofs only [↓aP, aQ, ↓reduceIte, Nat.reduceEqDiff, Nat.reduceAdd, Nat.reduceSub, Nat.reduceMul, Nat.reduceLT, Nat.reduceLeDiff, reduceCtorEq, Nat.reduceBEq, forall_const, implies_true, exists_const, ne_eq, Int.reduceAdd, Int.reduceSub, Int.reduceMul, Int.reduceBEq, Int.reduceEq, Int.reduceLT, Int.reduceLE, Int.reduceToNat, Int.reduceNeg, Int.reduceBNe, encTR, e, encTa]
    refine ask tawake_spec ?_
    simp -implicitDefEqProofs only [↓aP, aQ, ↓reduceIte, Nat.reduceEqDiff, Nat.reduceAdd, Nat.reduceSub, Nat.reduceMul, Nat.reduceLT, Nat.reduceLeDiff, reduceCtorEq, Nat.reduceBEq, forall_const, implies_true, exists_const, ne_eq, Int.reduceAdd, Int.reduceSub, Int.reduceMul, Int.reduceBEq, Int.reduceEq, Int.reduceLT, Int.reduceLE, Int.reduceToNat, Int.reduceNeg, Int.reduceBNe]
  have e : Ta.refM t = (t, true) := by unfold Ta.refM; rw [if_neg h40]
  simp -implicitDefEqProofs only [↓aP, aQ, ↓reduceIte, Nat.reduceEqDiff, Nat.reduceAdd, Nat.reduceSub, Nat.reduceMul, Nat.reduceLT, Nat.reduceLeDiff, reduceCtorEq, Nat.reduceBEq, forall_const, implies_true, exists_const, ne_eq, Int.reduceAdd, Int.reduceSub, Int.reduceMul, Int.reduceBEq, Int.reduceEq, Int.reduceLT, Int.reduceLE, Int.reduceToNat, Int.reduceNeg, Int.reduceBNe, encTR, e, encTa]
  refine ask (tPages_spec t) ?_
  simp -implicitDefEqProofs only [↓aP, aQ, ↓reduceIte, Nat.reduceEqDiff, Nat.reduceAdd, Nat.reduceSub, Nat.reduceMul, Nat.reduceLT, Nat.reduceLeDiff, reduceCtorEq, Nat.reduceBEq, forall_const, implies_true, exists_const, ne_eq, Int.reduceAdd, Int.reduceSub, Int.reduceMul, Int.reduceBEq, Int.reduceEq, Int.reduceLT, Int.reduceLE, Int.reduceToNat, Int.reduceNeg, Int.reduceBNe, encTa]
  refine ask (rRight_specT t) ?_
  cases hr : Ta.right t
  · have e2 : Ta.pages t = [] := by unfold Ta.pages; rw [if_neg (by rw [hr]; simp)]
    simp -implicitDefEqProofs only [↓aP, aQ, ↓reduceIte, Nat.reduceEqDiff, Nat.reduceAdd, Nat.reduceSub, Nat.reduceMul, Nat.reduceLT, Nat.reduceLeDiff, reduceCtorEq, Nat.reduceBEq, forall_const, implies_true, exists_const, ne_eq, Int.reduceAdd, Int.reduceSub, Int.reduceMul, Int.reduceBEq, Int.reduceEq, Int.reduceLT, Int.reduceLE, Int.reduceToNat, Int.reduceNeg, Int.reduceBNe, e2, List.map_nil, List.length_nil]
    refine ask tawake_spec ?_
    simp -implicitDefEqProofs only [↓aP, aQ, ↓reduceIte, Nat.reduceEqDiff, Nat.reduceAdd, Nat.reduceSub, Nat.reduceMul, Nat.reduceLT, Nat.reduceLeDiff, reduceCtorEq, Nat.reduceBEq, forall_const, implies_true, exists_const, ne_eq, Int.reduceAdd, Int.reduceSub, Int.reduceMul, Int.reduceBEq, Int.reduceEq, Int.reduceLT, Int.reduceLE, Int.reduceToNat, Int.reduceNeg, Int.reduceBNe]
  have ht := right_len hr
  have hpl := Ta.pages_len hr
  have hpl2 := Ta.pgs_len (t := t)
  simp -implicitDefEqProofs only [↓aP, aQ, ↓reduceIte, Nat.reduceEqDiff, Nat.reduceAdd, Nat.reduceSub, Nat.reduceMul, Nat.reduceLT, Nat.reduceLeDiff, reduceCtorEq, Nat.reduceBEq, forall_const, implies_true, exists_const, ne_eq, Int.reduceAdd, Int.reduceSub, Int.reduceMul, Int.reduceBEq, Int.reduceEq, Int.reduceLT, Int.reduceLE, Int.reduceToNat, Int.reduceNeg, Int.reduceBNe, encTa, List.length_map]
  refine rangeB t.length (fun i σ => Ta.nzc (t.take i) ≤ i ∧ σ.slot 1 = .c (.ptr 1 1 0 0) ∧ σ.h.gen 1 = 1 ∧ σ.h.blk 1 = .box 24 1 [(encTa t).map AC.s] ∧ σ.slot 3 = .c (.ptr 3 1 0 0) ∧ σ.h.gen 3 = 1 ∧ σ.h.blk 3 = .box 27 1 [(encTa t).map AC.s] ∧ σ.slot 5 = vL 1 ((Ta.pages t).map encI) ∧ σ.slot 6 = vI (Ta.nzc (t.take i) : Nat) ∧ σ.slot 31 = vL 2 (t.map encSl) ∧ σ.slot 32 = vI t.length ∧ σ.slot 33 = vI i) ?_ ?_ ?_
  · refine ⟨by simp [Ta.nzc], ?_⟩
    simp -implicitDefEqProofs only [↓aP, aQ, ↓reduceIte, Nat.reduceEqDiff, Nat.reduceAdd, Nat.reduceSub, Nat.reduceMul, Nat.reduceLT, Nat.reduceLeDiff, reduceCtorEq, Nat.reduceBEq, forall_const, implies_true, exists_const, ne_eq, Int.reduceAdd, Int.reduceSub, Int.reduceMul, Int.reduceBEq, Int.reduceEq, Int.reduceLT, Int.reduceLE, Int.reduceToNat, Int.reduceNeg, Int.reduceBNe, encTa]
    rfl
  · rintro i m σ him hi hlt ⟨hle, s1, g1, b1, s3, g3, b3, s5, s6, s31, s32, s33⟩
    have hsn : Ta.nzc (t.take (i + 1)) = Ta.nzc (t.take i) + (if t[i].p = 0 then 0 else 1) := by
      unfold Ta.nzc
      rw [take_snoc hi, List.filter_append, List.length_append]
      congr 1
      by_cases h : t[i].p = 0
      · rw [if_pos h, List.filter_cons_of_neg (by simp [h])]; rfl
      · rw [if_neg h, List.filter_cons_of_pos (by simpa using h)]; rfl
    simp -implicitDefEqProofs only [↓aP, aQ, ↓reduceIte, Nat.reduceEqDiff, Nat.reduceAdd, Nat.reduceSub, Nat.reduceMul, Nat.reduceLT, Nat.reduceLeDiff, reduceCtorEq, Nat.reduceBEq, forall_const, implies_true, exists_const, ne_eq, Int.reduceAdd, Int.reduceSub, Int.reduceMul, Int.reduceBEq, Int.reduceEq, Int.reduceLT, Int.reduceLE, Int.reduceToNat, Int.reduceNeg, Int.reduceBNe, hlt, s1, g1, b1, s3, g3, b3, s5, s6, s31, s32, s33, askIdx_map, hi, encSl]
    by_cases h0 : t[i].p = 0
    · rw [if_pos h0, Nat.add_zero] at hsn
      simp -implicitDefEqProofs only [↓aP, aQ, ↓reduceIte, Nat.reduceEqDiff, Nat.reduceAdd, Nat.reduceSub, Nat.reduceMul, Nat.reduceLT, Nat.reduceLeDiff, reduceCtorEq, Nat.reduceBEq, forall_const, implies_true, exists_const, ne_eq, Int.reduceAdd, Int.reduceSub, Int.reduceMul, Int.reduceBEq, Int.reduceEq, Int.reduceLT, Int.reduceLE, Int.reduceToNat, Int.reduceNeg, Int.reduceBNe, show (t[i].p != 0) = false by simpa using h0, s1, g1, b1, s3, g3, b3, s5, s6, s31, s32, s33, wrapS (show i < 4611686018427387904 by omega)]
      refine nextR hi him ⟨by omega, ?_⟩
      simp -implicitDefEqProofs only [↓aP, aQ, ↓reduceIte, Nat.reduceEqDiff, Nat.reduceAdd, Nat.reduceSub, Nat.reduceMul, Nat.reduceLT, Nat.reduceLeDiff, reduceCtorEq, Nat.reduceBEq, forall_const, implies_true, exists_const, ne_eq, Int.reduceAdd, Int.reduceSub, Int.reduceMul, Int.reduceBEq, Int.reduceEq, Int.reduceLT, Int.reduceLE, Int.reduceToNat, Int.reduceNeg, Int.reduceBNe, s1, g1, b1, s3, g3, b3, s5, s6, s31, s32, s33, encTa, hsn]
    · rw [if_neg h0] at hsn
      simp -implicitDefEqProofs only [↓aP, aQ, ↓reduceIte, Nat.reduceEqDiff, Nat.reduceAdd, Nat.reduceSub, Nat.reduceMul, Nat.reduceLT, Nat.reduceLeDiff, reduceCtorEq, Nat.reduceBEq, forall_const, implies_true, exists_const, ne_eq, Int.reduceAdd, Int.reduceSub, Int.reduceMul, Int.reduceBEq, Int.reduceEq, Int.reduceLT, Int.reduceLE, Int.reduceToNat, Int.reduceNeg, Int.reduceBNe, show (t[i].p != 0) = true by simpa using h0, s1, g1, b1, s3, g3, b3, s5, s6, s31, s32, s33, wrapS (show i < 4611686018427387904 by omega), wrapS (show Ta.nzc (t.take i) < 4611686018427387904 by omega)]
      refine nextR hi him ⟨by omega, ?_⟩
      simp -implicitDefEqProofs only [↓aP, aQ, ↓reduceIte, Nat.reduceEqDiff, Nat.reduceAdd, Nat.reduceSub, Nat.reduceMul, Nat.reduceLT, Nat.reduceLeDiff, reduceCtorEq, Nat.reduceBEq, forall_const, implies_true, exists_const, ne_eq, Int.reduceAdd, Int.reduceSub, Int.reduceMul, Int.reduceBEq, Int.reduceEq, Int.reduceLT, Int.reduceLE, Int.reduceToNat, Int.reduceNeg, Int.reduceBNe, s1, g1, b1, s3, g3, b3, s5, s6, s31, s32, s33, encTa, hsn]
  · rintro m σ hlt ⟨hle, s1, g1, b1, s3, g3, b3, s5, s6, s31, s32, s33⟩
    rw [List.take_length] at s6
    simp -implicitDefEqProofs only [↓aP, aQ, ↓reduceIte, Nat.reduceEqDiff, Nat.reduceAdd, Nat.reduceSub, Nat.reduceMul, Nat.reduceLT, Nat.reduceLeDiff, reduceCtorEq, Nat.reduceBEq, forall_const, implies_true, exists_const, ne_eq, Int.reduceAdd, Int.reduceSub, Int.reduceMul, Int.reduceBEq, Int.reduceEq, Int.reduceLT, Int.reduceLE, Int.reduceToNat, Int.reduceNeg, Int.reduceBNe, hlt, s1, g1, b1, s3, g3, b3, s5, s6, s31, s32, s33, List.length_map]
    refine rangeB (Ta.pages t).length (fun i σ => σ.slot 3 = .c (.ptr 3 1 0 0) ∧ σ.h.gen 3 = 1 ∧ σ.h.blk 3 = .box 27 1 [(encTa t).map AC.s] ∧ σ.slot 5 = vL 1 ((Ta.pages t).map encI) ∧ σ.slot 6 = vI (Ta.nzc t : Nat) ∧ σ.slot 43 = vL 1 ((Ta.pages t).map encI) ∧ σ.slot 44 = vI (Ta.pages t).length ∧ σ.slot 45 = vI i) ?_ ?_ ?_
    · simp -implicitDefEqProofs only [↓aP, aQ, ↓reduceIte, Nat.reduceEqDiff, Nat.reduceAdd, Nat.reduceSub, Nat.reduceMul, Nat.reduceLT, Nat.reduceLeDiff, reduceCtorEq, Nat.reduceBEq, forall_const, implies_true, exists_const, ne_eq, Int.reduceAdd, Int.reduceSub, Int.reduceMul, Int.reduceBEq, Int.reduceEq, Int.reduceLT, Int.reduceLE, Int.reduceToNat, Int.reduceNeg, Int.reduceBNe, s1, g1, b1, s3, g3, b3, s5, s6, s31, s32, s33, encTa]
    · clear hlt s1 g1 b1 s3 g3 b3 s5 s6 s31 s32 s33
      rintro i m σ him hi hlt ⟨s3, g3, b3, s5, s6, s43, s44, s45⟩
      have hfp := Ta.findM_pos hr (Ta.pages_mem hr (List.getElem_mem hi))
      simp -implicitDefEqProofs only [↓aP, aQ, ↓reduceIte, Nat.reduceEqDiff, Nat.reduceAdd, Nat.reduceSub, Nat.reduceMul, Nat.reduceLT, Nat.reduceLeDiff, reduceCtorEq, Nat.reduceBEq, forall_const, implies_true, exists_const, ne_eq, Int.reduceAdd, Int.reduceSub, Int.reduceMul, Int.reduceBEq, Int.reduceEq, Int.reduceLT, Int.reduceLE, Int.reduceToNat, Int.reduceNeg, Int.reduceBNe, hlt, s3, g3, b3, s5, s6, s43, s44, s45, encTa, askIdx_map, hi, encI]
      refine ask (rFind_spec t (Ta.pages t)[i] (by omega)) ?_
      have d0 : decide (Ta.findM t (Ta.pages t)[i] < 0) = false := by simp; omega
      by_cases hi0 : i = 0
      · simp -implicitDefEqProofs only [↓aP, aQ, ↓reduceIte, Nat.reduceEqDiff, Nat.reduceAdd, Nat.reduceSub, Nat.reduceMul, Nat.reduceLT, Nat.reduceLeDiff, reduceCtorEq, Nat.reduceBEq, forall_const, implies_true, exists_const, ne_eq, Int.reduceAdd, Int.reduceSub, Int.reduceMul, Int.reduceBEq, Int.reduceEq, Int.reduceLT, Int.reduceLE, Int.reduceToNat, Int.reduceNeg, Int.reduceBNe, d0, s3, g3, b3, s5, s6, s43, s44, s45, show decide ((0 : Int) < (i : Int)) = false by simp; omega, wrapS (show i < 4611686018427387904 by omega)]
        refine nextR hi him ?_
        simp -implicitDefEqProofs only [↓aP, aQ, ↓reduceIte, Nat.reduceEqDiff, Nat.reduceAdd, Nat.reduceSub, Nat.reduceMul, Nat.reduceLT, Nat.reduceLeDiff, reduceCtorEq, Nat.reduceBEq, forall_const, implies_true, exists_const, ne_eq, Int.reduceAdd, Int.reduceSub, Int.reduceMul, Int.reduceBEq, Int.reduceEq, Int.reduceLT, Int.reduceLE, Int.reduceToNat, Int.reduceNeg, Int.reduceBNe, s3, g3, b3, s5, s6, s43, s44, s45, encTa]
      · have hi1 : i - 1 < (Ta.pages t).length := by omega
        have w1 : IntKind.i64.wrap ((i : Int) - 1) = ((i - 1 : Nat) : Int) := by rw [wrapI (by omega)]; omega
        have hlt2 := Ta.pages_lt hr hi (by omega)
        have d1 : decide ((Ta.pages t)[i] ≤ (Ta.pages t)[i - 1]) = false := by simp; omega
        simp -implicitDefEqProofs only [↓aP, aQ, ↓reduceIte, Nat.reduceEqDiff, Nat.reduceAdd, Nat.reduceSub, Nat.reduceMul, Nat.reduceLT, Nat.reduceLeDiff, reduceCtorEq, Nat.reduceBEq, forall_const, implies_true, exists_const, ne_eq, Int.reduceAdd, Int.reduceSub, Int.reduceMul, Int.reduceBEq, Int.reduceEq, Int.reduceLT, Int.reduceLE, Int.reduceToNat, Int.reduceNeg, Int.reduceBNe, d0, s3, g3, b3, s5, s6, s43, s44, s45, show decide ((0 : Int) < (i : Int)) = true by simp; omega, w1, askIdx_map, hi1, encI, d1, wrapS (show i < 4611686018427387904 by omega)]
        refine nextR hi him ?_
        simp -implicitDefEqProofs only [↓aP, aQ, ↓reduceIte, Nat.reduceEqDiff, Nat.reduceAdd, Nat.reduceSub, Nat.reduceMul, Nat.reduceLT, Nat.reduceLeDiff, reduceCtorEq, Nat.reduceBEq, forall_const, implies_true, exists_const, ne_eq, Int.reduceAdd, Int.reduceSub, Int.reduceMul, Int.reduceBEq, Int.reduceEq, Int.reduceLT, Int.reduceLE, Int.reduceToNat, Int.reduceNeg, Int.reduceBNe, s3, g3, b3, s5, s6, s43, s44, s45, encTa]
    · clear hlt s1 g1 b1 s3 g3 b3 s5 s6 s31 s32 s33
      rintro m σ hlt ⟨s3, g3, b3, s5, s6, s43, s44, s45⟩
      have hq : (((Ta.pages t).length : Int) == ((Ta.nzc t : Nat) : Int)) = true := by rw [hpl, Ta.nzc_eq hr, beq_self_eq_true]
      simp -implicitDefEqProofs only [↓aP, aQ, ↓reduceIte, Nat.reduceEqDiff, Nat.reduceAdd, Nat.reduceSub, Nat.reduceMul, Nat.reduceLT, Nat.reduceLeDiff, reduceCtorEq, Nat.reduceBEq, forall_const, implies_true, exists_const, ne_eq, Int.reduceAdd, Int.reduceSub, Int.reduceMul, Int.reduceBEq, Int.reduceEq, Int.reduceLT, Int.reduceLE, Int.reduceToNat, Int.reduceNeg, Int.reduceBNe, hlt, s3, g3, b3, s5, s6, s43, s44, s45, List.length_map, hq]
      refine ask tawake_spec ?_
      simp -implicitDefEqProofs only [↓aP, aQ, ↓reduceIte, Nat.reduceEqDiff, Nat.reduceAdd, Nat.reduceSub, Nat.reduceMul, Nat.reduceLT, Nat.reduceLeDiff, reduceCtorEq, Nat.reduceBEq, forall_const, implies_true, exists_const, ne_eq, Int.reduceAdd, Int.reduceSub, Int.reduceMul, Int.reduceBEq, Int.reduceEq, Int.reduceLT, Int.reduceLE, Int.reduceToNat, Int.reduceNeg, Int.reduceBNe]
theorem opens_sl {H : Type} {enc : TypeId × Value → H} {w : World} {spare : Nat → Bool} {held : Bool} : Opens Try.prog enc w spare held 80 2 (fun ys => ∃ x : Sl, ys = encSl x) := by
  have h := opens_struct (enc := enc) (w := w) (spare := spare) (held := held) Try.underlying80 (by kernel_rfl) (.cons rfl (opens_int Try.underlying3 (by kernel_rfl)) (.cons rfl (opens_int Try.underlying3 (by kernel_rfl)) (.nil _)))
  refine ⟨h.1, fun fuel cs x hx => ?_⟩
  obtain ⟨ys, ⟨a, b, rfl, ⟨n, rfl, hn⟩, a2, b2, rfl, ⟨n2, rfl, hn2⟩, rfl⟩, h2, h3⟩ := h.2 _ _ _ hx
  exact ⟨_, ⟨⟨n, n2⟩, rfl⟩, h2, h3⟩
theorem opens_ta {H : Type} {enc : TypeId × Value → H} {w : World} {spare : Nat → Bool} {held : Bool} : Opens Try.prog enc w spare held 24 1 (fun ys => ∃ l : List Sl, ys = encTa l ∧ l.length ≤ maxLen) := by
  have h := opens_struct (enc := enc) (w := w) (spare := spare) (held := held) Try.underlying24 (by kernel_rfl) (.cons rfl (opens_slice Try.underlying22 (by kernel_rfl) (by decide) opens_sl) (.nil _))
  refine ⟨h.1, fun fuel cs x hx => ?_⟩
  obtain ⟨ys, ⟨a, b, rfl, ⟨els, rfl, he, hm⟩, rfl⟩, h2, h3⟩ := h.2 _ _ _ hx
  obtain ⟨l, rfl⟩ := all_of_mem (f := encSl) he
  exact ⟨_, ⟨l, rfl, by simpa using hm⟩, h2, h3⟩
set_option maxRecDepth 100000 in
theorem open_ta {H : Type} {enc : TypeId × Value → H} {w : World} {spare : Nat → Bool} {held : Bool} {r : Reach} {b0 : Nat} {v : Value} {d : DataW H} {p : List MemPlace} 
    (hv : Value.okWide Try.prog w r b0 24 v) (h : DataW.Trod enc Try.prog w 0 spare held 24 v d p) : ∃ l : List Sl, l.length ≤ maxLen ∧ RepT (RepS w fun _ => False) (.agg (encTa l)) v := by
  obtain ⟨ys, ⟨x, rfl, hm⟩, h2⟩ := open_more opens_ta Try.underlying24 hv h
  exact ⟨x, hm, h2⟩
theorem tablePages_walk {w : World} (v0 : Value) (a0 : ∃ l : List Sl, l.length ≤ maxLen ∧ RepT (RepS w fun _ => False) (.agg (encTa l)) v0) :
    Calls Try.prog 3 #[v0] w fun e w' => e = .returned (.bool true) ∧ Below w.heap.size w w' := by
  obtain ⟨m, hm, h0⟩ := a0
  unfold maxLen at hm
  exact (law_pages m hm).plain (us := [v0]) (.cons h0 .nil)
end Go.Proofs.Ytkiddlkmodclhaa
