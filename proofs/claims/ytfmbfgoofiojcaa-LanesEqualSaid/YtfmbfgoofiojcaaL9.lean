/- layer 5: how lanes are handed to the document's. -/
import Derived.Test.YtfmbfgoofiojcaaL8
namespace Go.Proofs.Ytfmbfgoofiojcaa
open Go.RowKit Lk
set_option linter.unusedVariables false
set_option linter.unusedSimpArgs false
set_option maxRecDepth 4000
def shortB (y : Ln) : Bool := !(decide (220 < (y.cs.length : Int)))
def refI (x : Ls) : Ls × Bool := if (x.l.length : Int) ≤ 20 then (⟨x.l.takeWhile shortB, x.at', x.g⟩, x.l.all shortB) else (⟨[], x.at', x.g⟩, false)
def encF (x : Ls × Bool) : TV SC := .tup [(true, encLs x.1), (false, [.pv (.bool x.2)])]
theorem takeWhile_at {α : Type} {l : List α} {p : α → Bool} {i : Nat} (hi : i < l.length) (h : ∀ x ∈ l.take i, p x = true) (hb : p l[i] = false) : l.takeWhile p = l.take i := by
  induction l generalizing i with
  | nil => simp at hi
  | cons x l ih =>
    cases i with
    | zero => simp at hb; simp [hb]
    | succ i =>
      have hx : p x = true := h x (by simp)
      simp only [List.takeWhile_cons, hx, List.take_succ_cons, if_true]
      rw [ih (by simpa using hi) (fun y hy => h y (by simp [hy])) (by simpa using hb)]
theorem takeWhile_all {α : Type} {l : List α} {p : α → Bool} (h : ∀ x ∈ l, p x = true) : l.takeWhile p = l := by
  induction l with
  | nil => rfl
  | cons x l ih => simp only [List.takeWhile_cons, h x (by simp), if_true]; rw [ih (fun y hy => h y (by simp [hy]))]

theorem ref_spec (x : Ls) : Spec Try.prog 15 [.agg (encLs x)] (.val (encF (refI x))) := by
  refine spec_val mixed fn15 (by simp) ?_
  unfold ac15
  simp -implicitDefEqProofs only [↓aP, aQ, ↓reduceIte, Nat.reduceEqDiff, Nat.reduceAdd, Nat.reduceSub, Nat.reduceMul, Nat.reduceLT, Nat.reduceLeDiff, reduceCtorEq, Nat.reduceBEq, forall_const, implies_true, exists_const, ne_eq, Int.reduceAdd, Int.reduceSub, Int.reduceMul, Int.reduceBEq, Int.reduceEq, Int.reduceLT, Int.reduceLE, Int.reduceToNat, Int.reduceNeg, Int.reduceBNe, encLs, encF]
  refine fork ?_ ?_ <;> intro h20
  · have := t_dt h20
    have e : refI x = (⟨[], x.at', x.g⟩, false) := if_neg (by omega)
    rw [e]
    simp -implicitDefEqProofs only [↓aP, aQ, ↓reduceIte, Nat.reduceEqDiff, Nat.reduceAdd, Nat.reduceSub, Nat.reduceMul, Nat.reduceLT, Nat.reduceLeDiff, reduceCtorEq, Nat.reduceBEq, forall_const, implies_true, exists_const, ne_eq, Int.reduceAdd, Int.reduceSub, Int.reduceMul, Int.reduceBEq, Int.reduceEq, Int.reduceLT, Int.reduceLE, Int.reduceToNat, Int.reduceNeg, Int.reduceBNe]
  have h20' := t_df h20
  have hrf : refI x = (⟨x.l.takeWhile shortB, x.at', x.g⟩, x.l.all shortB) := if_pos (by omega)
  simp -implicitDefEqProofs only [↓aP, aQ, ↓reduceIte, Nat.reduceEqDiff, Nat.reduceAdd, Nat.reduceSub, Nat.reduceMul, Nat.reduceLT, Nat.reduceLeDiff, reduceCtorEq, Nat.reduceBEq, forall_const, implies_true, exists_const, ne_eq, Int.reduceAdd, Int.reduceSub, Int.reduceMul, Int.reduceBEq, Int.reduceEq, Int.reduceLT, Int.reduceLE, Int.reduceToNat, Int.reduceNeg, Int.reduceBNe]
  refine shift (sub_cell (p := 4) (i := 0) (j := 0) 33 36 3 rfl (by exact Nat.succ_pos _) (by rfl) (by decide) (by decide)) ?_
  refine rangeB x.l.length (fun i σ => (∀ y ∈ x.l.take i, shortB y = true) ∧ ∃ g, σ.slot 2 = .c (.ptr 2 1 0 0) ∧ σ.h.gen 2 = 1 ∧ σ.h.blk 2 = .box 28 3 [[.zc, .s (.pv (.int .i64 0)), .s (.pv (.bool false))]] ∧ σ.slot 4 = .c (.ptr 4 1 0 0) ∧ σ.h.gen 4 = 1 ∧ σ.h.blk 4 = .box 28 3 [[.own 33 g, .s (.pv (.int .i64 x.at')), .s (.pv (.bool x.g))]] ∧ σ.slot 18 = vL 3 (x.l.map encLn) ∧ σ.slot 19 = vI x.l.length ∧ σ.slot 20 = vI i ∧ σ.h.gen 33 = g ∧ σ.h.blk 33 = .row 36 3 ((x.l.take i).map encLn)) ?_ ?_ ?_
  · simp -implicitDefEqProofs only [↓aP, aQ, ↓reduceIte, Nat.reduceEqDiff, Nat.reduceAdd, Nat.reduceSub, Nat.reduceMul, Nat.reduceLT, Nat.reduceLeDiff, reduceCtorEq, Nat.reduceBEq, forall_const, implies_true, exists_const, ne_eq, Int.reduceAdd, Int.reduceSub, Int.reduceMul, Int.reduceBEq, Int.reduceEq, Int.reduceLT, Int.reduceLE, Int.reduceToNat, Int.reduceNeg, Int.reduceBNe]
    exact ⟨by simp, 1, by simp⟩
  · rintro i m σ him hi hlt ⟨hall, g, s2, g2, b2, s4, g4, b4, s18, s19, s20, g33, b33⟩
    simp -implicitDefEqProofs only [↓aP, aQ, ↓reduceIte, Nat.reduceEqDiff, Nat.reduceAdd, Nat.reduceSub, Nat.reduceMul, Nat.reduceLT, Nat.reduceLeDiff, reduceCtorEq, Nat.reduceBEq, forall_const, implies_true, exists_const, ne_eq, Int.reduceAdd, Int.reduceSub, Int.reduceMul, Int.reduceBEq, Int.reduceEq, Int.reduceLT, Int.reduceLE, Int.reduceToNat, Int.reduceNeg, Int.reduceBNe, hlt, s2, g2, b2, s4, g4, b4, s18, s19, s20, g33, b33, askIdx_map, hi, encLn, List.length_map]
    refine fork ?_ ?_ <;> intro h100
    · have hb : shortB x.l[i] = false := by simp only [shortB, h100]; rfl
      have e1 : x.l.all shortB = false := by simp only [List.all_eq_false]; exact ⟨_, List.getElem_mem hi, by simp [hb]⟩
      simp -implicitDefEqProofs only [↓aP, aQ, ↓reduceIte, Nat.reduceEqDiff, Nat.reduceAdd, Nat.reduceSub, Nat.reduceMul, Nat.reduceLT, Nat.reduceLeDiff, reduceCtorEq, Nat.reduceBEq, forall_const, implies_true, exists_const, ne_eq, Int.reduceAdd, Int.reduceSub, Int.reduceMul, Int.reduceBEq, Int.reduceEq, Int.reduceLT, Int.reduceLE, Int.reduceToNat, Int.reduceNeg, Int.reduceBNe, s2, g2, b2, s4, g4, b4, s18, s19, s20, g33, b33, hrf, e1, takeWhile_at hi hall hb, encLn]
    · have hb : shortB x.l[i] = true := by simp only [shortB, h100]; rfl
      simp -implicitDefEqProofs only [↓aP, aQ, ↓reduceIte, Nat.reduceEqDiff, Nat.reduceAdd, Nat.reduceSub, Nat.reduceMul, Nat.reduceLT, Nat.reduceLeDiff, reduceCtorEq, Nat.reduceBEq, forall_const, implies_true, exists_const, ne_eq, Int.reduceAdd, Int.reduceSub, Int.reduceMul, Int.reduceBEq, Int.reduceEq, Int.reduceLT, Int.reduceLE, Int.reduceToNat, Int.reduceNeg, Int.reduceBNe, s2, g2, b2, s4, g4, b4, s18, s19, s20, g33, b33, wrapS (show i < 4611686018427387904 by omega)]
      have e9 : (x.l.take i).length ≤ 20 := by rw [List.length_take]; omega
      refine ⟨by omega, by omega, ?_⟩
      refine nextR hi him ⟨?_, g + 1, ?_⟩
      · intro y hy
        rw [take_snoc hi] at hy
        rcases List.mem_append.1 hy with h | h
        · exact hall y h
        · rw [List.mem_singleton.1 h]; exact hb
      · simp -implicitDefEqProofs only [↓aP, aQ, ↓reduceIte, Nat.reduceEqDiff, Nat.reduceAdd, Nat.reduceSub, Nat.reduceMul, Nat.reduceLT, Nat.reduceLeDiff, reduceCtorEq, Nat.reduceBEq, forall_const, implies_true, exists_const, ne_eq, Int.reduceAdd, Int.reduceSub, Int.reduceMul, Int.reduceBEq, Int.reduceEq, Int.reduceLT, Int.reduceLE, Int.reduceToNat, Int.reduceNeg, Int.reduceBNe, s2, g2, b2, s4, g4, b4, s18, s19, s20, g33, b33, take_snoc hi, List.map_append, encLn]
  · rintro m σ hlt ⟨hall, g, s2, g2, b2, s4, g4, b4, s18, s19, s20, g33, b33⟩
    rw [List.take_length] at hall b33
    have e1 : x.l.all shortB = true := by simp only [List.all_eq_true]; exact hall
    simp -implicitDefEqProofs only [↓aP, aQ, ↓reduceIte, Nat.reduceEqDiff, Nat.reduceAdd, Nat.reduceSub, Nat.reduceMul, Nat.reduceLT, Nat.reduceLeDiff, reduceCtorEq, Nat.reduceBEq, forall_const, implies_true, exists_const, ne_eq, Int.reduceAdd, Int.reduceSub, Int.reduceMul, Int.reduceBEq, Int.reduceEq, Int.reduceLT, Int.reduceLE, Int.reduceToNat, Int.reduceNeg, Int.reduceBNe, hlt, s2, g2, b2, s4, g4, b4, s18, s19, s20, g33, b33, hrf, e1, takeWhile_all hall, encLn]
end Go.Proofs.Ytfmbfgoofiojcaa
