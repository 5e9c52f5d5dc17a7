/- layer 7: the law TableHomes. -/
import Derived.Test.YtkiddlkmodclhaaT9
namespace Go.Proofs.Ytkiddlkmodclhaa
open Go.RowKit
set_option linter.unusedVariables false
set_option linter.unusedSimpArgs false
namespace Ta
def e0 (h i : Nat) : Sl := ⟨16 * ((i : Int) + 1) + h, i⟩
def Lp (h : Nat) (js : List Nat) : List Sl := js.map (e0 h)
theorem lp_hm {h : Nat} {js : List Nat} (hh : h < 16) (hj : ∀ j ∈ js, j < 16) (hn : js.Nodup) (hl : js.length ≤ 16) : Hm h (Lp h js) := by
  refine ⟨hh, by simpa [Lp] using hl, ?_, ?_⟩
  · intro s hs
    obtain ⟨j, hjm, rfl⟩ := List.mem_map.1 hs
    have := hj j hjm
    unfold e0 isP isF
    simp only [decide_eq_true_eq]
    omega
  · unfold Lp
    rw [List.map_map]
    refine List.Pairwise.map _ ?_ hn
    intro a b hab
    simp only [Function.comp, e0]
    omega
theorem lp_p {h j : Nat} : (e0 h j).p = 16 * ((j : Int) + 1) + h := rfl
theorem lp_nil {h : Nat} : QH h (Lp h []) = List.replicate 16 z := by
  unfold QH QF Lp
  simp only [List.map_nil, List.getD_nil]
  decide +kernel
theorem lp_put {h i : Nat} (hh : h < 16) (hi : i < 16) : put (QH h (Lp h (List.range i))) (16 * ((i : Int) + 1) + h) i = (QH h (Lp h (List.range (i + 1))), 0) := by
  have hm := lp_hm hh (js := List.range i) (fun j hj => by have := List.mem_range.1 hj; omega) List.nodup_range (by simp; omega)
  rw [put_Q hm (by unfold isP; simp; omega) (by unfold isF; simp; omega) (by omega), if_neg (by simp [Lp]; omega)]
  · congr 2
    unfold Lp
    rw [List.range_succ, List.map_append]
    rfl
  · unfold Lp
    rw [List.map_map]
    intro hx
    obtain ⟨j, hj, e⟩ := List.mem_map.1 hx
    have := List.mem_range.1 hj
    simp only [Function.comp, e0] at e
    omega
theorem lp_full {h : Nat} (hh : h < 16) : (put (QH h (Lp h (List.range 16))) (640 + (h : Int)) 1).2 = 7 := by
  have hm := lp_hm hh (js := List.range 16) (fun j hj => by have := List.mem_range.1 hj; omega) List.nodup_range (by simp)
  rw [put_Q hm (by unfold isP; simp; omega) (by decide) (by omega), if_pos (by simp [Lp])]
  unfold Lp
  rw [List.map_map]
  intro hx
  obtain ⟨j, hj, e⟩ := List.mem_map.1 hx
  have := List.mem_range.1 hj
  simp only [Function.comp, e0] at e
  omega
theorem lp_del {h : Nat} {js : List Nat} (hh : h < 16) (hj : ∀ j ∈ js, j < 16) (hn : js.Nodup) (hl : js.length ≤ 16) {a : Nat} (ha : a ∈ js) : del (QH h (Lp h js)) (16 * ((a : Int) + 1) + h) = (QH h (Lp h (js.erase a)), 0) := by
  have hm := lp_hm hh hj hn hl
  have hi : js.idxOf a < js.length := List.idxOf_lt_length_of_mem ha
  have hi2 : js.idxOf a < (Lp h js).length := by simpa [Lp] using hi
  have e : ((Lp h js)[js.idxOf a]'hi2).p = 16 * ((a : Int) + 1) + h := by
    simp only [Lp, List.getElem_map, List.getElem_idxOf, e0]
  have := (del_Q hm hi2).1
  rw [e] at this
  rw [this]
  congr 2
  unfold Lp
  rw [List.erase_eq_eraseIdx_of_idxOf rfl, List.eraseIdx_eq_take_drop_succ, List.eraseIdx_eq_take_drop_succ, List.map_append, List.map_take, List.map_drop]
/-- as many as are there -/
theorem pgs_Q {h : Nat} {js : List Nat} (hh : h < 16) (hj : ∀ j ∈ js, j < 16) (hn : js.Nodup) (hl : js.length ≤ 16) : right (QH h (Lp h js)) = true ∧ (pages (QH h (Lp h js))).length = js.length := by
  have hm := lp_hm hh hj hn hl
  have hr := right_Q hm
  refine ⟨hr, ?_⟩
  rw [pages_len hr]
  have hlen : (Lp h js).length = js.length := by simp [Lp]
  have hfr : ∀ k, (!free ((Lp h js).getD ((k + 16 - h) % 16) z)) = decide ((k + 16 - h) % 16 < js.length) := by
    intro k
    rcases Nat.lt_or_ge ((k + 16 - h) % 16) js.length with h1 | h1
    · rw [getD_lt (by rw [hlen]; exact h1), isP_free (hm.ok _ (List.getElem_mem _)).1, decide_eq_true h1]; rfl
    · rw [getD_ge (by rw [hlen]; exact h1), decide_eq_false (by omega)]; rfl
  have key : ∀ h, h < 16 → ∀ n, n ≤ 16 → ((List.range 16).filter fun k => decide ((k + 16 - h) % 16 < n)).length = n := by
    have : ∀ h, h < 16 → ∀ n, n < 17 → ((List.range 16).filter fun k => decide ((k + 16 - h) % 16 < n)).length = n := by decide +kernel
    exact fun h hh n hn => this h hh n (by omega)
  unfold pgs QH QF
  rw [List.length_map, List.filter_map, List.length_map]
  have : ((fun s => !free s) ∘ fun k => (Lp h js).getD ((k + 16 - h) % 16) z) = fun k => decide ((k + 16 - h) % 16 < js.length) := funext hfr
  rw [this]
  exact key h hh _ hl
def at2 (s n : Nat) : Nat := (n * (1 + 2 * s)) % 16
def Js (s : Nat) : Nat → List Nat
  | 0 => List.range 16
  | n + 1 => (Js s n).erase (at2 s n)
theorem js_facts (s : Nat) : ∀ n, (∀ j ∈ Js s n, j < 16) ∧ (Js s n).Nodup
  | 0 => ⟨fun j hj => List.mem_range.1 hj, List.nodup_range⟩
  | n + 1 => by
    obtain ⟨h1, h2⟩ := js_facts s n
    exact ⟨fun j hj => h1 j (List.mem_of_mem_erase hj), h2.erase _⟩
theorem js_at {s n : Nat} (hs : s < 8) (hn : n < 16) : at2 s n ∈ Js s n := by
  have : ∀ s, s < 8 → ∀ n, n < 16 → at2 s n ∈ Js s n := by decide +kernel
  exact this s hs n hn
theorem js_len {s n : Nat} (hs : s < 8) (hn : n ≤ 16) : (Js s n).length = 16 - n := by
  have : ∀ s, s < 8 → ∀ n, n < 17 → (Js s n).length = 16 - n := by decide +kernel
  exact this s hs n (by omega)
theorem at2_next {s n : Nat} : (at2 s n + 1 + 2 * s) % 16 = at2 s (n + 1) := by
  unfold at2
  rw [Nat.add_mul, Nat.one_mul]
  omega
end Ta


theorem law_homes (a b : Int) (ha : 0 ≤ a ∧ a ≤ 255) (hb : 0 ≤ b ∧ b ≤ 255) : Spec Try.prog 6 [.c (.pv (.int .u8 a)), .c (.pv (.int .u8 b))] (.val (rB true)) := by
  refine spec_val mixed fn6 (by simp) ?_
  unfold ac6
  obtain ⟨h, hh, hh16⟩ : ∃ h : Nat, IntKind.i64.wrap (a.tmod 16) = (h : Int) ∧ h < 16 := by
    rw [Int.tmod_eq_emod_of_nonneg ha.1, wrapI (x := a % 16) (by omega)]
    exact ⟨(a % 16).toNat, by omega, by omega⟩
  obtain ⟨s, hs, hs8⟩ : ∃ s : Nat, IntKind.i64.wrap (b.tmod 8) = (s : Int) ∧ s < 8 := by
    rw [Int.tmod_eq_emod_of_nonneg hb.1, wrapI (x := b % 8) (by omega)]
    exact ⟨(b % 8).toNat, by omega, by omega⟩
  simp -implicitDefEqProofs only [↓aP, aQ, ↓reduceIte, Nat.reduceEqDiff, Nat.reduceAdd, Nat.reduceSub, Nat.reduceMul, Nat.reduceLT, Nat.reduceLeDiff, reduceCtorEq, Nat.reduceBEq, forall_const, implies_true, exists_const, ne_eq, Int.reduceAdd, Int.reduceSub, Int.reduceMul, Int.reduceBEq, Int.reduceEq, Int.reduceLT, Int.reduceLE, Int.reduceToNat, Int.reduceNeg, Int.reduceBNe]
  refine ask tNew_spec ?_
  simp -implicitDefEqProofs only [↓aP, aQ, ↓reduceIte, Nat.reduceEqDiff, Nat.reduceAdd, Nat.reduceSub, Nat.reduceMul, Nat.reduceLT, Nat.reduceLeDiff, reduceCtorEq, Nat.reduceBEq, forall_const, implies_true, exists_const, ne_eq, Int.reduceAdd, Int.reduceSub, Int.reduceMul, Int.reduceBEq, Int.reduceEq, Int.reduceLT, Int.reduceLE, Int.reduceToNat, Int.reduceNeg, Int.reduceBNe, hh, encTa]
  refine rangeB 16 (fun i σ => σ.slot 5 = .c (.ptr 5 1 0 0) ∧ σ.h.gen 5 = 1 ∧ σ.h.blk 5 = .box 24 1 [(encTa (Ta.QH h (Ta.Lp h (List.range i)))).map AC.s] ∧ σ.slot 1 = .c (.s (.pv (.int .u8 b))) ∧ σ.slot 6 = vI h ∧ σ.slot 20 = vI i) ?_ ?_ ?_
  · simp -implicitDefEqProofs only [↓aP, aQ, ↓reduceIte, Nat.reduceEqDiff, Nat.reduceAdd, Nat.reduceSub, Nat.reduceMul, Nat.reduceLT, Nat.reduceLeDiff, reduceCtorEq, Nat.reduceBEq, forall_const, implies_true, exists_const, ne_eq, Int.reduceAdd, Int.reduceSub, Int.reduceMul, Int.reduceBEq, Int.reduceEq, Int.reduceLT, Int.reduceLE, Int.reduceToNat, Int.reduceNeg, Int.reduceBNe, encTa]
    rw [show List.range 0 = [] from rfl, Ta.lp_nil]
    rfl
  · rintro i m σ him hi hlt ⟨s5, g5, b5, s1, s6, s20⟩
    have hi16 : decide ((i : Int) < 16) = true := by simp; omega
    have w : IntKind.i64.wrap (IntKind.i64.wrap (16 * IntKind.i64.wrap ((i : Int) + 1)) + (h : Int)) = 16 * ((i : Int) + 1) + h := by
      rw [wrapI (x := (i : Int) + 1) (by omega), wrapI (x := 16 * ((i : Int) + 1)) (by omega), wrapI (by omega)]
    have w2 : IntKind.i64.wrap (IntKind.i64.wrap (16 * ((i + 1 : Nat) : Int)) + (h : Int)) = 16 * ((i : Int) + 1) + h := by
      rw [wrapI (x := 16 * ((i + 1 : Nat) : Int)) (by omega), wrapI (by omega)]; omega
    have hsp := tPut_spec (Ta.QH h (Ta.Lp h (List.range i))) (16 * ((i : Int) + 1) + h) i
    rw [Ta.lp_put hh16 hi] at hsp
    simp -implicitDefEqProofs only [↓aP, aQ, ↓reduceIte, Nat.reduceEqDiff, Nat.reduceAdd, Nat.reduceSub, Nat.reduceMul, Nat.reduceLT, Nat.reduceLeDiff, reduceCtorEq, Nat.reduceBEq, forall_const, implies_true, exists_const, ne_eq, Int.reduceAdd, Int.reduceSub, Int.reduceMul, Int.reduceBEq, Int.reduceEq, Int.reduceLT, Int.reduceLE, Int.reduceToNat, Int.reduceNeg, Int.reduceBNe, hi16, s5, g5, b5, s1, s6, s20, encTa, wrapS (show i < 4611686018427387904 by omega), w2]
    refine ask hsp ?_
    simp -implicitDefEqProofs only [↓aP, aQ, ↓reduceIte, Nat.reduceEqDiff, Nat.reduceAdd, Nat.reduceSub, Nat.reduceMul, Nat.reduceLT, Nat.reduceLeDiff, reduceCtorEq, Nat.reduceBEq, forall_const, implies_true, exists_const, ne_eq, Int.reduceAdd, Int.reduceSub, Int.reduceMul, Int.reduceBEq, Int.reduceEq, Int.reduceLT, Int.reduceLE, Int.reduceToNat, Int.reduceNeg, Int.reduceBNe, encPut, encTa, bne_self_eq_false, s5, g5, b5, s1, s6, s20, wrapS (show i < 4611686018427387904 by omega)]
    refine nextR hi him ?_
    simp -implicitDefEqProofs only [↓aP, aQ, ↓reduceIte, Nat.reduceEqDiff, Nat.reduceAdd, Nat.reduceSub, Nat.reduceMul, Nat.reduceLT, Nat.reduceLeDiff, reduceCtorEq, Nat.reduceBEq, forall_const, implies_true, exists_const, ne_eq, Int.reduceAdd, Int.reduceSub, Int.reduceMul, Int.reduceBEq, Int.reduceEq, Int.reduceLT, Int.reduceLE, Int.reduceToNat, Int.reduceNeg, Int.reduceBNe, s5, g5, b5, s1, s6, s20, encTa]
  · rintro m σ hlt ⟨s5, g5, b5, s1, s6, s20⟩
    have w3 : IntKind.i64.wrap (640 + (h : Int)) = 640 + (h : Int) := wrapI (by omega)
    have hfull := Ta.lp_full hh16
    simp -implicitDefEqProofs only [↓aP, aQ, ↓reduceIte, Nat.reduceEqDiff, Nat.reduceAdd, Nat.reduceSub, Nat.reduceMul, Nat.reduceLT, Nat.reduceLeDiff, reduceCtorEq, Nat.reduceBEq, forall_const, implies_true, exists_const, ne_eq, Int.reduceAdd, Int.reduceSub, Int.reduceMul, Int.reduceBEq, Int.reduceEq, Int.reduceLT, Int.reduceLE, Int.reduceToNat, Int.reduceNeg, Int.reduceBNe, s5, g5, b5, s1, s6, s20, encTa, w3, show decide (((16 : Nat) : Int) < 16) = false by decide]
    refine ask (tPut_spec _ (640 + (h : Int)) 1) ?_
    simp -implicitDefEqProofs only [↓aP, aQ, ↓reduceIte, Nat.reduceEqDiff, Nat.reduceAdd, Nat.reduceSub, Nat.reduceMul, Nat.reduceLT, Nat.reduceLeDiff, reduceCtorEq, Nat.reduceBEq, forall_const, implies_true, exists_const, ne_eq, Int.reduceAdd, Int.reduceSub, Int.reduceMul, Int.reduceBEq, Int.reduceEq, Int.reduceLT, Int.reduceLE, Int.reduceToNat, Int.reduceNeg, Int.reduceBNe, encPut, encTa, hfull, s5, g5, b5, s1, s6, s20]
    refine rangeB 16 (fun i σ => σ.slot 5 = .c (.ptr 5 1 0 0) ∧ σ.h.gen 5 = 1 ∧ σ.h.blk 5 = .box 24 1 [(encTa (Ta.QH h (Ta.Lp h (Ta.Js s i)))).map AC.s] ∧ σ.slot 1 = .c (.s (.pv (.int .u8 b))) ∧ σ.slot 6 = vI h ∧ σ.slot 11 = vI 7 ∧ σ.slot 12 = vI (Ta.at2 s i : Nat) ∧ σ.slot 45 = vI i) ?_ ?_ ?_
    · simp -implicitDefEqProofs only [↓aP, aQ, ↓reduceIte, Nat.reduceEqDiff, Nat.reduceAdd, Nat.reduceSub, Nat.reduceMul, Nat.reduceLT, Nat.reduceLeDiff, reduceCtorEq, Nat.reduceBEq, forall_const, implies_true, exists_const, ne_eq, Int.reduceAdd, Int.reduceSub, Int.reduceMul, Int.reduceBEq, Int.reduceEq, Int.reduceLT, Int.reduceLE, Int.reduceToNat, Int.reduceNeg, Int.reduceBNe, s5, g5, b5, s1, s6, s20, encTa]
      exact ⟨rfl, by simp [Ta.at2]⟩
    · clear hlt s5 g5 b5 s1 s6 s20
      rintro i m σ him hi hlt ⟨s5, g5, b5, s1, s6, s11, s12, s45⟩
      have hi16 : decide ((i : Int) < 16) = true := by simp; omega
      obtain ⟨j1, j2⟩ := Ta.js_facts s i
      obtain ⟨k1, k2⟩ := Ta.js_facts s (i + 1)
      have jl := Ta.js_len hs8 (show i ≤ 16 by omega)
      have kl := Ta.js_len hs8 (show i + 1 ≤ 16 by omega)
      have hat16 : Ta.at2 s i < 16 := Nat.mod_lt _ (by decide)
      obtain ⟨A, hA⟩ : ∃ A, A = Ta.at2 s i := ⟨_, rfl⟩
      have hd := Ta.lp_del hh16 j1 j2 (by omega) (Ta.js_at hs8 hi)
      have hje : (Ta.Js s i).erase (Ta.at2 s i) = Ta.Js s (i + 1) := rfl
      rw [hje] at hd
      obtain ⟨r1, r2⟩ := Ta.pgs_Q hh16 k1 k2 (by omega)
      have hnx := Ta.at2_next (s := s) (n := i)
      rw [← hA] at hd s12 hnx hat16
      have w2 : IntKind.i64.wrap (IntKind.i64.wrap (16 * ((A + 1 : Nat) : Int)) + (h : Int)) = 16 * ((A : Int) + 1) + h := by
        rw [wrapI (x := 16 * ((A + 1 : Nat) : Int)) (by omega), wrapI (by omega)]; omega
      have hsp := tDel_spec (Ta.QH h (Ta.Lp h (Ta.Js s i))) (16 * ((A : Int) + 1) + h)
      rw [hd] at hsp
      simp -implicitDefEqProofs only [↓aP, aQ, ↓reduceIte, Nat.reduceEqDiff, Nat.reduceAdd, Nat.reduceSub, Nat.reduceMul, Nat.reduceLT, Nat.reduceLeDiff, reduceCtorEq, Nat.reduceBEq, forall_const, implies_true, exists_const, ne_eq, Int.reduceAdd, Int.reduceSub, Int.reduceMul, Int.reduceBEq, Int.reduceEq, Int.reduceLT, Int.reduceLE, Int.reduceToNat, Int.reduceNeg, Int.reduceBNe, hi16, s5, g5, b5, s1, s6, s11, s12, s45, encTa, wrapS (show A < 4611686018427387904 by omega), w2]
      refine ask hsp ?_
      simp -implicitDefEqProofs only [↓aP, aQ, ↓reduceIte, Nat.reduceEqDiff, Nat.reduceAdd, Nat.reduceSub, Nat.reduceMul, Nat.reduceLT, Nat.reduceLeDiff, reduceCtorEq, Nat.reduceBEq, forall_const, implies_true, exists_const, ne_eq, Int.reduceAdd, Int.reduceSub, Int.reduceMul, Int.reduceBEq, Int.reduceEq, Int.reduceLT, Int.reduceLE, Int.reduceToNat, Int.reduceNeg, Int.reduceBNe, encPut, encTa, bne_self_eq_false]
      refine ask (tRight_spec _) ?_
      simp -implicitDefEqProofs only [↓aP, aQ, ↓reduceIte, Nat.reduceEqDiff, Nat.reduceAdd, Nat.reduceSub, Nat.reduceMul, Nat.reduceLT, Nat.reduceLeDiff, reduceCtorEq, Nat.reduceBEq, forall_const, implies_true, exists_const, ne_eq, Int.reduceAdd, Int.reduceSub, Int.reduceMul, Int.reduceBEq, Int.reduceEq, Int.reduceLT, Int.reduceLE, Int.reduceToNat, Int.reduceNeg, Int.reduceBNe, r1, encTa]
      refine ask (tPages_spec _) ?_
      have w4 : IntKind.i64.wrap (15 - (i : Int)) = ((16 - (i + 1) : Nat) : Int) := by rw [wrapI (by omega)]; omega
      have w5 : (IntKind.i64.wrap (((A + 1 : Nat) : Int) + IntKind.i64.wrap (2 * (s : Int)))).tmod 16 = ((Ta.at2 s (i + 1) : Nat) : Int) := by
        rw [wrapI (x := 2 * (s : Int)) (by omega), wrapI (by omega), Int.tmod_eq_emod_of_nonneg (by omega), ← hnx]
        omega
      simp -implicitDefEqProofs only [↓aP, aQ, ↓reduceIte, Nat.reduceEqDiff, Nat.reduceAdd, Nat.reduceSub, Nat.reduceMul, Nat.reduceLT, Nat.reduceLeDiff, reduceCtorEq, Nat.reduceBEq, forall_const, implies_true, exists_const, ne_eq, Int.reduceAdd, Int.reduceSub, Int.reduceMul, Int.reduceBEq, Int.reduceEq, Int.reduceLT, Int.reduceLE, Int.reduceToNat, Int.reduceNeg, Int.reduceBNe, List.length_map, r2, kl, w4, bne_self_eq_false, s5, g5, b5, s1, s6, s11, s12, s45, encTa, hs, wrapS (show A < 4611686018427387904 by omega), wrapS (show i < 4611686018427387904 by omega), w5]
      refine nextR hi him ?_
      simp -implicitDefEqProofs only [↓aP, aQ, ↓reduceIte, Nat.reduceEqDiff, Nat.reduceAdd, Nat.reduceSub, Nat.reduceMul, Nat.reduceLT, Nat.reduceLeDiff, reduceCtorEq, Nat.reduceBEq, forall_const, implies_true, exists_const, ne_eq, Int.reduceAdd, Int.reduceSub, Int.reduceMul, Int.reduceBEq, Int.reduceEq, Int.reduceLT, Int.reduceLE, Int.reduceToNat, Int.reduceNeg, Int.reduceBNe, s5, g5, b5, s1, s6, s11, s12, s45, encTa]
    · clear hlt s5 g5 b5 s1 s6 s20
      rintro m σ hlt ⟨s5, g5, b5, s1, s6, s11, s12, s45⟩
      simp -implicitDefEqProofs only [↓aP, aQ, ↓reduceIte, Nat.reduceEqDiff, Nat.reduceAdd, Nat.reduceSub, Nat.reduceMul, Nat.reduceLT, Nat.reduceLeDiff, reduceCtorEq, Nat.reduceBEq, forall_const, implies_true, exists_const, ne_eq, Int.reduceAdd, Int.reduceSub, Int.reduceMul, Int.reduceBEq, Int.reduceEq, Int.reduceLT, Int.reduceLE, Int.reduceToNat, Int.reduceNeg, Int.reduceBNe, s5, g5, b5, s1, s6, s11, s12, s45, show decide (((16 : Nat) : Int) < 16) = false by decide]
      refine ask tawake_spec ?_
      simp -implicitDefEqProofs only [↓aP, aQ, ↓reduceIte, Nat.reduceEqDiff, Nat.reduceAdd, Nat.reduceSub, Nat.reduceMul, Nat.reduceLT, Nat.reduceLeDiff, reduceCtorEq, Nat.reduceBEq, forall_const, implies_true, exists_const, ne_eq, Int.reduceAdd, Int.reduceSub, Int.reduceMul, Int.reduceBEq, Int.reduceEq, Int.reduceLT, Int.reduceLE, Int.reduceToNat, Int.reduceNeg, Int.reduceBNe]
theorem tableHomes_walk {w : World} (a : Int) (ha : (Lit.int .u8 a).wf = true) (b : Int) (hb : (Lit.int .u8 b).wf = true) :
    Calls Try.prog 6 #[.int .u8 a, .int .u8 b] w fun e w' => e = .returned (.bool true) ∧ Below w.heap.size w w' := by
  have u8 : ∀ {k : Int}, (Lit.int .u8 k).wf = true → 0 ≤ k ∧ k ≤ 255 := fun h => by
    simpa [Lit.wf, IntKind.min, IntKind.max, IntKind.signed, IntKind.bits] using h
  exact (law_homes a b (u8 ha) (u8 hb)).plain (us := [.int .u8 a, .int .u8 b]) (.cons (.pv rfl) (.cons (.pv rfl) .nil))
end Go.Proofs.Ytkiddlkmodclhaa
