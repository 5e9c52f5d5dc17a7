/- layer 12: a new disk, whose sectors are the caller's own; calm. -/
import Derived.Test.YteghmlafodkfpaaJ4
namespace Go.Proofs.Yteghmlafodkfpaa
open Go.RowKit
set_option linter.unusedVariables false
set_option linter.unusedSimpArgs false
set_option maxRecDepth 100000 in
theorem new_own : Spec Try.prog 51 [rI 35] (.trow 9 1 (List.replicate 35 (encS noughts)) [.zc] [(false, [.s (.pv (.int .i64 0))])]) := by
  intro w O us hO hus
  obtain ⟨a, us', rfl, ha, hn⟩ := hus.cons_inv
  obtain rfl := hn.nil_inv
  have e1 : a = .int .i64 35 := RepS.flat ha
  subst e1
  clear ha hn
  go_enter Try.func51, Try.ntmps51
  go_wp2_with fail
  refine (Try.strings_Repeat ⟨#[0]⟩ 16 _ (by omega) (by decide)).mono ?_
  rintro e W1 ⟨rfl, hB1⟩
  go_wp2_with fail
  have hb1 : Blk W1 w.heap.size 68 #[.slice none 0 0, .slice none 0 0] := (Blk.new w 68 #[.slice none 0 0, .slice none 0 0]).keep hB1
  have hlt : w.heap.size < W1.heap.size := hb1.lt
  have hc1 : (W1.alloc (.cells #[.string noughts] 9)).cell? ⟨W1.heap.size, 0, none⟩ = some (.string noughts) := heapCell (World.alloc_heap_new W1 _) rfl
  refine (rep_sl W1.heap.size 0 1 35 noughts _ (by omega) (by omega) hc1 (by have := (Array.getElem?_eq_some_iff.1 (World.alloc_heap_new W1 (.cells #[.string noughts] 9))).1; exact this) (by omega)).mono ?_
  rintro e W2 ⟨g, rfl, hg, hk, hB2⟩
  have hB3 : Below W1.heap.size W1 W2 := ((Below.refl _ _).alloc (Nat.le_refl _) _).trans (hB2.mono (by
    have := (Below.refl W1.heap.size W1).alloc (Nat.le_refl _) (.cells #[.string noughts] 9)
    exact this.size))
  have hb2 : Blk W2 w.heap.size 68 #[.slice none 0 0, .slice none 0 0] := hb1.keep hB3
  have c0 := hb2.cell 0
  have c1 := hb2.cell 1
  have f0 := hb2.frozen 0
  have hb3 := hb2.put 0 (.slice (some ⟨g, 0, none⟩) 35 35)
  have c1' := hb3.cell 1
  have f1' := hb3.frozen 1
  have hb4 := hb3.put 1 (.slice none 0 0)
  have c0'' := hb4.cell 0
  have c1'' := hb4.cell 1
  simp at c0 c1 c1' c0'' c1''
  have hg0 : W1.heap.size < g := Nat.lt_of_lt_of_le (Array.getElem?_eq_some_iff.1 (World.alloc_heap_new W1 (.cells #[.string noughts] 9))).1 hg
  have hgne : g ≠ w.heap.size := by omega
  have hbg : Blk W2 g 9 (List.replicate 35 (.string noughts)).toArray := hk
  have hg5 := (hbg.far (p := ⟨w.heap.size, 0, none⟩) hgne (.slice (some ⟨g, 0, none⟩) 35 35)).far (p := ⟨w.heap.size, 1, none⟩) hgne (.slice none 0 0)
  have hB5 : Below w.heap.size w (((W2.setCell ⟨w.heap.size, 0, none⟩ (.slice (some ⟨g, 0, none⟩) 35 35)).setCell ⟨w.heap.size, 1, none⟩ (.slice none 0 0))) := by
    have h0 : Below w.heap.size w W1 := ((Below.refl _ _).alloc (Nat.le_refl _) _).trans (hB1.mono (by
      have := (Below.refl w.heap.size w).alloc (Nat.le_refl _) (.cells #[.slice none 0 0, .slice none 0 0] 68)
      exact this.size))
    have h1 := h0.trans (hB3.mono h0.size)
    exact (h1.setCell (Nat.le_refl _) _).setCell (Nat.le_refl _) _
  go_wp2_with fail
  have hne : w.heap.size ≠ g := fun e => hgne e.symm
  refine bodyPost_ret (v := .tuple #[.agg #[.slice (some ⟨g, 0, none⟩) 35 35, .slice none 0 0], .int .i64 0]) (by simp [results, Try.results51, go_sem, c0'', c1'']) rfl ⟨_, rfl, ⟨.slice (some ⟨g, 0, none⟩) 35 35, [.slice none 0 0], [.int .i64 0], rfl, ⟨by omega, fun x hx => by rw [List.mem_replicate] at hx; rw [hx.2]; rfl, .inr ⟨g, 35, _, rfl, by omega, hg5, by simp, by unfold maxLen; omega, by simp, ?_⟩⟩, ?_, ?_⟩, hB5⟩
  · have e1 : (List.replicate 35 (encS noughts)).flatten = List.replicate 35 (.pv (.string noughts)) := rfl
    rw [e1]
    refine ⟨by simp, fun i a b => ?_⟩
    simp only [List.getElem_replicate, List.getElem_take]
    exact RepS.pv rfl
  · exact .cons ⟨none, rfl⟩ .nil
  · refine ⟨[.int .i64 0], rfl, rfl, fun i a b => ?_⟩
    have hi : i = 0 := by simp at a; omega
    subst hi
    exact ⟨fun e => by simp at e, fun _ => ⟨_, rfl, rfl, rfl⟩⟩
/-- the sectors of a calm disk -/
def calm1 (s : List ByteArray) (i : Nat) (x : ByteArray) : List ByteArray := if i < 16 ∧ x.size = 32 then (s.set (2 * i + 3) (Jn.lo x)).set (2 * i + 4) (Jn.hi x) else s
def calmS (l : List ByteArray) : Nat → List ByteArray
  | 0 => Jn.new35
  | k + 1 => calm1 (calmS l k) k (l.getD k ⟨#[]⟩)
theorem calm1_ok {s : List ByteArray} {i : Nat} {x : ByteArray} (h : Jn.Ok 35 s ∧ Jn.rd s [] 0 = noughts) : Jn.Ok 35 (calm1 s i x) ∧ Jn.rd (calm1 s i x) [] 0 = noughts := by
  unfold calm1
  split
  · rename_i hc
    have o1 := Jn.ok_set (i := 2 * i + 3) h.1 (Jn.size_lo hc.2)
    refine ⟨Jn.ok_set o1 (Jn.size_hi hc.2), ?_⟩
    rw [Jn.rd_set o1 (by omega) (by omega), if_neg (by omega), Jn.rd_set h.1 (by omega) (by omega), if_neg (by omega)]
    exact h.2
  · exact h
theorem calmS_ok (l : List ByteArray) : ∀ k, Jn.Ok 35 (calmS l k) ∧ Jn.rd (calmS l k) [] 0 = noughts
  | 0 => ⟨Jn.ok_new, Jn.rd_new (by omega)⟩
  | k + 1 => calm1_ok (calmS_ok l k)

set_option maxRecDepth 100000 in
theorem calm_spec (l : List ByteArray) (hl : l.length ≤ 9223372036854775807) : Spec Try.prog 45 [rL 1 (l.map encS)] (.val (.agg (encDk ⟨calmS l l.length, []⟩))) := by
  refine spec_val mixed fn45 (by simp) ?_
  unfold ac45
  simp -implicitDefEqProofs only [↓aP, aQ, ↓reduceIte, Nat.reduceEqDiff, Nat.reduceAdd, Nat.reduceSub, Nat.reduceMul, Nat.reduceLT, Nat.reduceLeDiff, reduceCtorEq, Nat.reduceBEq, forall_const, implies_true, exists_const, ne_eq, Int.reduceAdd, Int.reduceSub, Int.reduceMul, Int.reduceBEq, Int.reduceEq, Int.reduceLT, Int.reduceLE, Int.reduceToNat, Int.reduceNeg, Int.reduceBNe]
  refine ask new_own ?_
  simp -implicitDefEqProofs only [↓aP, aQ, ↓reduceIte, Nat.reduceEqDiff, Nat.reduceAdd, Nat.reduceSub, Nat.reduceMul, Nat.reduceLT, Nat.reduceLeDiff, reduceCtorEq, Nat.reduceBEq, forall_const, implies_true, exists_const, ne_eq, Int.reduceAdd, Int.reduceSub, Int.reduceMul, Int.reduceBEq, Int.reduceEq, Int.reduceLT, Int.reduceLE, Int.reduceToNat, Int.reduceNeg, Int.reduceBNe, after_trow, List.length_replicate]
  refine rangeB l.length (fun i σ => σ.slot 2 = .c (.ptr 2 1 0 0) ∧ σ.h.gen 2 = 1 ∧ σ.h.blk 2 = .box 68 2 [[.zc, .zc]] ∧ σ.slot 3 = .c (.ptr 3 1 0 0) ∧ σ.h.gen 3 = 1 ∧ σ.h.blk 3 = .box 68 2 [[.own 8 1, .zc]] ∧ σ.h.gen 8 = 1 ∧ σ.h.blk 8 = .row 9 1 ((calmS l i).map encS) ∧ σ.slot 16 = vL 1 (l.map encS) ∧ σ.slot 17 = vI l.length ∧ σ.slot 18 = vI i) ?_ ?_ ?_
  · simp -implicitDefEqProofs only [↓aP, aQ, ↓reduceIte, Nat.reduceEqDiff, Nat.reduceAdd, Nat.reduceSub, Nat.reduceMul, Nat.reduceLT, Nat.reduceLeDiff, reduceCtorEq, Nat.reduceBEq, forall_const, implies_true, exists_const, ne_eq, Int.reduceAdd, Int.reduceSub, Int.reduceMul, Int.reduceBEq, Int.reduceEq, Int.reduceLT, Int.reduceLE, Int.reduceToNat, Int.reduceNeg, Int.reduceBNe]
    rfl
  · rintro i m σ him hi hlt ⟨s2, g2, b2, s3, g3, b3, g8, b8, s16, s17, s18⟩
    have e0 : l.getD i ⟨#[]⟩ = l[i] := by rw [List.getD_eq_getElem?_getD, List.getElem?_eq_getElem hi]; rfl
    have e1 : calmS l (i + 1) = calm1 (calmS l i) i l[i] := by rw [calmS, e0]
    obtain ⟨hok, _⟩ := calmS_ok l i
    have wi : IntKind.i64.wrap ((i : Int) + 1) = ((i + 1 : Nat) : Int) := by rw [wrapI (by omega)]; omega
    by_cases h16 : i < 16
    · by_cases h32 : l[i].size = 32
      · have e2 : calm1 (calmS l i) i l[i] = ((calmS l i).set (2 * i + 3) (Jn.lo l[i])).set (2 * i + 4) (Jn.hi l[i]) := by unfold calm1; rw [if_pos ⟨h16, h32⟩]
        have w1 : IntKind.i64.wrap (2 * (i : Int)) = 2 * (i : Int) := wrapI (by omega)
        have w2 : IntKind.i64.wrap (2 * (i : Int) + 3) = ((2 * i + 3 : Nat) : Int) := by rw [wrapI (by omega)]; omega
        have w3 : IntKind.i64.wrap (2 * (i : Int) + 4) = ((2 * i + 4 : Nat) : Int) := by rw [wrapI (by omega)]; omega
        have k1 : 2 * i + 3 < (calmS l i).length := by rw [hok.1]; omega
        have k2 : 2 * i + 4 < ((calmS l i).set (2 * i + 3) (Jn.lo l[i])).length := by rw [List.length_set, hok.1]; omega
        have m1 : ((calmS l i).map encS).set (2 * i + 3) [.pv (.string (l[i].extract 0 16))] = ((calmS l i).set (2 * i + 3) (Jn.lo l[i])).map encS := by rw [List.map_set]; rfl
        have m2 : (((calmS l i).set (2 * i + 3) (Jn.lo l[i])).map encS).set (2 * i + 4) [.pv (.string (l[i].extract 16 32))] = (((calmS l i).set (2 * i + 3) (Jn.lo l[i])).set (2 * i + 4) (Jn.hi l[i])).map encS := by rw [List.map_set (l := (calmS l i).set (2 * i + 3) (Jn.lo l[i]))]; rfl
        simp -implicitDefEqProofs only [↓aP, aQ, ↓reduceIte, Nat.reduceEqDiff, Nat.reduceAdd, Nat.reduceSub, Nat.reduceMul, Nat.reduceLT, Nat.reduceLeDiff, reduceCtorEq, Nat.reduceBEq, forall_const, implies_true, exists_const, ne_eq, Int.reduceAdd, Int.reduceSub, Int.reduceMul, Int.reduceBEq, Int.reduceEq, Int.reduceLT, Int.reduceLE, Int.reduceToNat, Int.reduceNeg, Int.reduceBNe, hlt, s2, g2, b2, s3, g3, b3, g8, b8, s16, s17, s18, askIdx_map, hi, encS, show decide ((i : Int) < 16) = true by simp; omega, h32, List.length_map, w1, w2, w3, k1]
        rw [m1]
        refine ⟨by rw [List.length_map]; exact k2, ?_⟩
        simp -implicitDefEqProofs only [↓aP, aQ, ↓reduceIte, Nat.reduceEqDiff, Nat.reduceAdd, Nat.reduceSub, Nat.reduceMul, Nat.reduceLT, Nat.reduceLeDiff, reduceCtorEq, Nat.reduceBEq, forall_const, implies_true, exists_const, ne_eq, Int.reduceAdd, Int.reduceSub, Int.reduceMul, Int.reduceBEq, Int.reduceEq, Int.reduceLT, Int.reduceLE, Int.reduceToNat, Int.reduceNeg, Int.reduceBNe, s2, g2, b2, s3, g3, b3, g8, b8, s16, s17, s18, askIdx_map, k2, encS, m2, wi]
        refine ⟨by decide +kernel, ?_⟩
        refine nextR hi him ?_
        simp -implicitDefEqProofs only [↓aP, aQ, ↓reduceIte, Nat.reduceEqDiff, Nat.reduceAdd, Nat.reduceSub, Nat.reduceMul, Nat.reduceLT, Nat.reduceLeDiff, reduceCtorEq, Nat.reduceBEq, forall_const, implies_true, exists_const, ne_eq, Int.reduceAdd, Int.reduceSub, Int.reduceMul, Int.reduceBEq, Int.reduceEq, Int.reduceLT, Int.reduceLE, Int.reduceToNat, Int.reduceNeg, Int.reduceBNe, s2, g2, b2, s3, g3, b3, g8, b8, s16, s17, s18, e1, e2]
      · have e2 : calm1 (calmS l i) i l[i] = calmS l i := by unfold calm1; rw [if_neg (fun h => h32 h.2)]
        simp -implicitDefEqProofs only [↓aP, aQ, ↓reduceIte, Nat.reduceEqDiff, Nat.reduceAdd, Nat.reduceSub, Nat.reduceMul, Nat.reduceLT, Nat.reduceLeDiff, reduceCtorEq, Nat.reduceBEq, forall_const, implies_true, exists_const, ne_eq, Int.reduceAdd, Int.reduceSub, Int.reduceMul, Int.reduceBEq, Int.reduceEq, Int.reduceLT, Int.reduceLE, Int.reduceToNat, Int.reduceNeg, Int.reduceBNe, hlt, s2, g2, b2, s3, g3, b3, g8, b8, s16, s17, s18, askIdx_map, hi, encS, show decide ((i : Int) < 16) = true by simp; omega, show ((l[i].size : Int) == 32) = false by rw [beq_eq_false_iff_ne]; omega, wi]
        refine nextR hi him ?_
        simp -implicitDefEqProofs only [↓aP, aQ, ↓reduceIte, Nat.reduceEqDiff, Nat.reduceAdd, Nat.reduceSub, Nat.reduceMul, Nat.reduceLT, Nat.reduceLeDiff, reduceCtorEq, Nat.reduceBEq, forall_const, implies_true, exists_const, ne_eq, Int.reduceAdd, Int.reduceSub, Int.reduceMul, Int.reduceBEq, Int.reduceEq, Int.reduceLT, Int.reduceLE, Int.reduceToNat, Int.reduceNeg, Int.reduceBNe, s2, g2, b2, s3, g3, b3, g8, b8, s16, s17, s18, e1, e2]
    · have e2 : calm1 (calmS l i) i l[i] = calmS l i := by unfold calm1; rw [if_neg (fun h => h16 h.1)]
      simp -implicitDefEqProofs only [↓aP, aQ, ↓reduceIte, Nat.reduceEqDiff, Nat.reduceAdd, Nat.reduceSub, Nat.reduceMul, Nat.reduceLT, Nat.reduceLeDiff, reduceCtorEq, Nat.reduceBEq, forall_const, implies_true, exists_const, ne_eq, Int.reduceAdd, Int.reduceSub, Int.reduceMul, Int.reduceBEq, Int.reduceEq, Int.reduceLT, Int.reduceLE, Int.reduceToNat, Int.reduceNeg, Int.reduceBNe, hlt, s2, g2, b2, s3, g3, b3, g8, b8, s16, s17, s18, askIdx_map, hi, encS, show decide ((i : Int) < 16) = false by simp; omega, wi]
      refine nextR hi him ?_
      simp -implicitDefEqProofs only [↓aP, aQ, ↓reduceIte, Nat.reduceEqDiff, Nat.reduceAdd, Nat.reduceSub, Nat.reduceMul, Nat.reduceLT, Nat.reduceLeDiff, reduceCtorEq, Nat.reduceBEq, forall_const, implies_true, exists_const, ne_eq, Int.reduceAdd, Int.reduceSub, Int.reduceMul, Int.reduceBEq, Int.reduceEq, Int.reduceLT, Int.reduceLE, Int.reduceToNat, Int.reduceNeg, Int.reduceBNe, s2, g2, b2, s3, g3, b3, g8, b8, s16, s17, s18, e1, e2]
  · rintro m σ hlt ⟨s2, g2, b2, s3, g3, b3, g8, b8, s16, s17, s18⟩
    simp -implicitDefEqProofs only [↓aP, aQ, ↓reduceIte, Nat.reduceEqDiff, Nat.reduceAdd, Nat.reduceSub, Nat.reduceMul, Nat.reduceLT, Nat.reduceLeDiff, reduceCtorEq, Nat.reduceBEq, forall_const, implies_true, exists_const, ne_eq, Int.reduceAdd, Int.reduceSub, Int.reduceMul, Int.reduceBEq, Int.reduceEq, Int.reduceLT, Int.reduceLE, Int.reduceToNat, Int.reduceNeg, Int.reduceBNe, hlt, s2, g2, b2, s3, g3, b3, g8, b8, s16, s17, s18, encDk, List.map_nil]
end Go.Proofs.Yteghmlafodkfpaa
