/- layer 15: Right, Find, locate, New, mark, empty. -/
import Derived.Test.YtcindpblgbpcoaaF2
namespace Go.Proofs.Ytcindpblgbpcoaa
open Go.RowKit
set_option linter.unusedVariables false
set_option linter.unusedSimpArgs false
theorem right_cases (f : Fs) : Fm.right f = (Ck.right f.ck.fr f.ck.hand && (Ta.right f.tb && (Dy.right f.dt && ((f.pg.length == f.ck.fr.length) && ((List.range f.pg.length).all (Fm.okAt f) && (((Ta.pgs f.tb).length == Fm.taken f.pg) && f.dt.all fun i => (Ta.find f.tb i.page).2)))))) := by
  unfold Fm.right
  simp only [Bool.and_assoc]
theorem taken_snoc {l : List Pg} {i : Nat} (h : i < l.length) : Fm.taken (l.take (i + 1)) = Fm.taken (l.take i) + (if l[i].id = 0 then 0 else 1) := by
  unfold Fm.taken
  rw [take_snoc h, List.countP_append]
  by_cases e : l[i].id = 0 <;> simp [e]
theorem taken_le {l : List Pg} {i : Nat} : Fm.taken (l.take i) ≤ l.length := by
  unfold Fm.taken
  exact Nat.le_trans (List.countP_le_length) (by simp; omega)


set_option maxRecDepth 100000 in
theorem fRight_spec (f : Fs) (hl : f.ck.fr.length < 4611686018427387904 ∧ f.dt.length < 4611686018427387904) : Spec Try.prog 15 [.agg (encFs f)] (.val (rB (Fm.right f))) := by
  refine spec_val mixed fn15 (by simp) ?_
  unfold ac15
  have hrc := right_cases f
  simp -implicitDefEqProofs only [↓aP, aQ, ↓reduceIte, Nat.reduceEqDiff, Nat.reduceAdd, Nat.reduceSub, Nat.reduceMul, Nat.reduceLT, Nat.reduceLeDiff, reduceCtorEq, Nat.reduceBEq, forall_const, implies_true, exists_const, ne_eq, Int.reduceAdd, Int.reduceSub, Int.reduceMul, Int.reduceBEq, Int.reduceEq, Int.reduceLT, Int.reduceLE, Int.reduceToNat, Int.reduceNeg, Int.reduceBNe, encFs]
  refine ask (by have := cRight_spec f.ck hl.1; rw [encClk] at this; exact this) ?_
  cases r1 : Ck.right f.ck.fr f.ck.hand
  · rw [r1, Bool.false_and] at hrc
    simp -implicitDefEqProofs only [↓aP, aQ, ↓reduceIte, Nat.reduceEqDiff, Nat.reduceAdd, Nat.reduceSub, Nat.reduceMul, Nat.reduceLT, Nat.reduceLeDiff, reduceCtorEq, Nat.reduceBEq, forall_const, implies_true, exists_const, ne_eq, Int.reduceAdd, Int.reduceSub, Int.reduceMul, Int.reduceBEq, Int.reduceEq, Int.reduceLT, Int.reduceLE, Int.reduceToNat, Int.reduceNeg, Int.reduceBNe, hrc]
  rw [r1, Bool.true_and] at hrc
  obtain ⟨h8, _, _, _⟩ := right_fr r1
  simp -implicitDefEqProofs only [↓aP, aQ, ↓reduceIte, Nat.reduceEqDiff, Nat.reduceAdd, Nat.reduceSub, Nat.reduceMul, Nat.reduceLT, Nat.reduceLeDiff, reduceCtorEq, Nat.reduceBEq, forall_const, implies_true, exists_const, ne_eq, Int.reduceAdd, Int.reduceSub, Int.reduceMul, Int.reduceBEq, Int.reduceEq, Int.reduceLT, Int.reduceLE, Int.reduceToNat, Int.reduceNeg, Int.reduceBNe, encFs]
  refine ask (by have := tRight_spec f.tb; rw [encTa] at this; exact this) ?_
  cases r2 : Ta.right f.tb
  · rw [r2, Bool.false_and] at hrc
    simp -implicitDefEqProofs only [↓aP, aQ, ↓reduceIte, Nat.reduceEqDiff, Nat.reduceAdd, Nat.reduceSub, Nat.reduceMul, Nat.reduceLT, Nat.reduceLeDiff, reduceCtorEq, Nat.reduceBEq, forall_const, implies_true, exists_const, ne_eq, Int.reduceAdd, Int.reduceSub, Int.reduceMul, Int.reduceBEq, Int.reduceEq, Int.reduceLT, Int.reduceLE, Int.reduceToNat, Int.reduceNeg, Int.reduceBNe, hrc]
  rw [r2, Bool.true_and] at hrc
  simp -implicitDefEqProofs only [↓aP, aQ, ↓reduceIte, Nat.reduceEqDiff, Nat.reduceAdd, Nat.reduceSub, Nat.reduceMul, Nat.reduceLT, Nat.reduceLeDiff, reduceCtorEq, Nat.reduceBEq, forall_const, implies_true, exists_const, ne_eq, Int.reduceAdd, Int.reduceSub, Int.reduceMul, Int.reduceBEq, Int.reduceEq, Int.reduceLT, Int.reduceLE, Int.reduceToNat, Int.reduceNeg, Int.reduceBNe, encFs]
  refine ask (dRight_spec f.dt hl.2) ?_
  cases r3 : Dy.right f.dt
  · rw [r3, Bool.false_and] at hrc
    simp -implicitDefEqProofs only [↓aP, aQ, ↓reduceIte, Nat.reduceEqDiff, Nat.reduceAdd, Nat.reduceSub, Nat.reduceMul, Nat.reduceLT, Nat.reduceLeDiff, reduceCtorEq, Nat.reduceBEq, forall_const, implies_true, exists_const, ne_eq, Int.reduceAdd, Int.reduceSub, Int.reduceMul, Int.reduceBEq, Int.reduceEq, Int.reduceLT, Int.reduceLE, Int.reduceToNat, Int.reduceNeg, Int.reduceBNe, hrc]
  rw [r3, Bool.true_and] at hrc
  have hd := right_len r3
  simp -implicitDefEqProofs only [↓aP, aQ, ↓reduceIte, Nat.reduceEqDiff, Nat.reduceAdd, Nat.reduceSub, Nat.reduceMul, Nat.reduceLT, Nat.reduceLeDiff, reduceCtorEq, Nat.reduceBEq, forall_const, implies_true, exists_const, ne_eq, Int.reduceAdd, Int.reduceSub, Int.reduceMul, Int.reduceBEq, Int.reduceEq, Int.reduceLT, Int.reduceLE, Int.reduceToNat, Int.reduceNeg, Int.reduceBNe, encFs, List.length_map]
  by_cases r4 : f.pg.length = f.ck.fr.length
  case neg =>
    rw [show (f.pg.length == f.ck.fr.length) = false from beq_eq_false_iff_ne.2 r4, Bool.false_and] at hrc
    simp -implicitDefEqProofs only [↓aP, aQ, ↓reduceIte, Nat.reduceEqDiff, Nat.reduceAdd, Nat.reduceSub, Nat.reduceMul, Nat.reduceLT, Nat.reduceLeDiff, reduceCtorEq, Nat.reduceBEq, forall_const, implies_true, exists_const, ne_eq, Int.reduceAdd, Int.reduceSub, Int.reduceMul, Int.reduceBEq, Int.reduceEq, Int.reduceLT, Int.reduceLE, Int.reduceToNat, Int.reduceNeg, Int.reduceBNe, show ((f.pg.length : Int) != (f.ck.fr.length : Int)) = true by rw [bne_iff_ne]; omega, hrc]
  rw [show (f.pg.length == f.ck.fr.length) = true from beq_iff_eq.2 r4, Bool.true_and] at hrc
  simp -implicitDefEqProofs only [↓aP, aQ, ↓reduceIte, Nat.reduceEqDiff, Nat.reduceAdd, Nat.reduceSub, Nat.reduceMul, Nat.reduceLT, Nat.reduceLeDiff, reduceCtorEq, Nat.reduceBEq, forall_const, implies_true, exists_const, ne_eq, Int.reduceAdd, Int.reduceSub, Int.reduceMul, Int.reduceBEq, Int.reduceEq, Int.reduceLT, Int.reduceLE, Int.reduceToNat, Int.reduceNeg, Int.reduceBNe, show ((f.pg.length : Int) != (f.ck.fr.length : Int)) = false by rw [bne_eq_false_iff_eq]; omega]
  refine rangeB f.pg.length (fun i σ => (∀ j, j < i → Fm.okAt f j = true) ∧ σ.slot 1 = .c (.ptr 1 1 0 0) ∧ σ.h.gen 1 = 1 ∧ σ.h.blk 1 = .box 32 5 [(encFs f).map AC.s] ∧ σ.slot 3 = vI (Fm.taken (f.pg.take i)) ∧ σ.slot 37 = vL 3 (f.pg.map encPg) ∧ σ.slot 38 = vI f.pg.length ∧ σ.slot 39 = vI i) ?_ ?_ ?_
  · simp -implicitDefEqProofs only [↓aP, aQ, ↓reduceIte, Nat.reduceEqDiff, Nat.reduceAdd, Nat.reduceSub, Nat.reduceMul, Nat.reduceLT, Nat.reduceLeDiff, reduceCtorEq, Nat.reduceBEq, forall_const, implies_true, exists_const, ne_eq, Int.reduceAdd, Int.reduceSub, Int.reduceMul, Int.reduceBEq, Int.reduceEq, Int.reduceLT, Int.reduceLE, Int.reduceToNat, Int.reduceNeg, Int.reduceBNe, encFs, List.take_zero, Fm.taken, List.countP_nil]
    simp
  · rintro i m σ him hi hlt ⟨hok, s1, g1, b1, s3, s37, s38, s39⟩
    have hos := okAt_spec f i (by omega) hi
    rw [encFs] at hos
    simp -implicitDefEqProofs only [↓aP, aQ, ↓reduceIte, Nat.reduceEqDiff, Nat.reduceAdd, Nat.reduceSub, Nat.reduceMul, Nat.reduceLT, Nat.reduceLeDiff, reduceCtorEq, Nat.reduceBEq, forall_const, implies_true, exists_const, ne_eq, Int.reduceAdd, Int.reduceSub, Int.reduceMul, Int.reduceBEq, Int.reduceEq, Int.reduceLT, Int.reduceLE, Int.reduceToNat, Int.reduceNeg, Int.reduceBNe, hlt, s1, g1, b1, s3, s37, s38, s39, askIdx_map, hi, encPg, encFs]
    refine ask hos ?_
    cases ho : Fm.okAt f i
    · have : (List.range f.pg.length).all (Fm.okAt f) = false := by
        rw [List.all_eq_false]; exact ⟨i, List.mem_range.2 hi, by simp [ho]⟩
      rw [this, Bool.false_and] at hrc
      simp -implicitDefEqProofs only [↓aP, aQ, ↓reduceIte, Nat.reduceEqDiff, Nat.reduceAdd, Nat.reduceSub, Nat.reduceMul, Nat.reduceLT, Nat.reduceLeDiff, reduceCtorEq, Nat.reduceBEq, forall_const, implies_true, exists_const, ne_eq, Int.reduceAdd, Int.reduceSub, Int.reduceMul, Int.reduceBEq, Int.reduceEq, Int.reduceLT, Int.reduceLE, Int.reduceToNat, Int.reduceNeg, Int.reduceBNe, hrc]
    have hok2 : ∀ j, j < i + 1 → Fm.okAt f j = true := fun j hj => by
      by_cases e : j = i
      · rw [e]; exact ho
      · exact hok j (by omega)
    have hts := taken_snoc hi
    have htl := taken_le (l := f.pg) (i := i)
    by_cases hz : f.pg[i].id = 0
    · rw [if_pos hz] at hts
      simp -implicitDefEqProofs only [↓aP, aQ, ↓reduceIte, Nat.reduceEqDiff, Nat.reduceAdd, Nat.reduceSub, Nat.reduceMul, Nat.reduceLT, Nat.reduceLeDiff, reduceCtorEq, Nat.reduceBEq, forall_const, implies_true, exists_const, ne_eq, Int.reduceAdd, Int.reduceSub, Int.reduceMul, Int.reduceBEq, Int.reduceEq, Int.reduceLT, Int.reduceLE, Int.reduceToNat, Int.reduceNeg, Int.reduceBNe, s1, g1, b1, s3, s37, s38, s39, hz, bne_self_eq_false, wrapS (show i < 4611686018427387904 by omega)]
      refine nextR hi him ⟨hok2, ?_⟩
      simp -implicitDefEqProofs only [↓aP, aQ, ↓reduceIte, Nat.reduceEqDiff, Nat.reduceAdd, Nat.reduceSub, Nat.reduceMul, Nat.reduceLT, Nat.reduceLeDiff, reduceCtorEq, Nat.reduceBEq, forall_const, implies_true, exists_const, ne_eq, Int.reduceAdd, Int.reduceSub, Int.reduceMul, Int.reduceBEq, Int.reduceEq, Int.reduceLT, Int.reduceLE, Int.reduceToNat, Int.reduceNeg, Int.reduceBNe, s1, g1, b1, s3, s37, s38, s39, encFs, hts, Nat.add_zero]
    · rw [if_neg hz] at hts
      simp -implicitDefEqProofs only [↓aP, aQ, ↓reduceIte, Nat.reduceEqDiff, Nat.reduceAdd, Nat.reduceSub, Nat.reduceMul, Nat.reduceLT, Nat.reduceLeDiff, reduceCtorEq, Nat.reduceBEq, forall_const, implies_true, exists_const, ne_eq, Int.reduceAdd, Int.reduceSub, Int.reduceMul, Int.reduceBEq, Int.reduceEq, Int.reduceLT, Int.reduceLE, Int.reduceToNat, Int.reduceNeg, Int.reduceBNe, s1, g1, b1, s3, s37, s38, s39, show (f.pg[i].id != 0) = true from bne_iff_ne.2 hz, wrapS (show i < 4611686018427387904 by omega), show IntKind.i64.wrap ((Fm.taken (f.pg.take i) : Int) + 1) = ((Fm.taken (f.pg.take i) + 1 : Nat) : Int) by rw [wrapI (by omega)]; omega]
      refine nextR hi him ⟨hok2, ?_⟩
      simp -implicitDefEqProofs only [↓aP, aQ, ↓reduceIte, Nat.reduceEqDiff, Nat.reduceAdd, Nat.reduceSub, Nat.reduceMul, Nat.reduceLT, Nat.reduceLeDiff, reduceCtorEq, Nat.reduceBEq, forall_const, implies_true, exists_const, ne_eq, Int.reduceAdd, Int.reduceSub, Int.reduceMul, Int.reduceBEq, Int.reduceEq, Int.reduceLT, Int.reduceLE, Int.reduceToNat, Int.reduceNeg, Int.reduceBNe, s1, g1, b1, s3, s37, s38, s39, encFs, hts]
  · rintro m σ hlt ⟨hok, s1, g1, b1, s3, s37, s38, s39⟩
    rw [List.take_length] at s3
    have r5 : (List.range f.pg.length).all (Fm.okAt f) = true := by rw [List.all_eq_true]; intro x hx; exact hok x (List.mem_range.1 hx)
    rw [r5, Bool.true_and] at hrc
    simp -implicitDefEqProofs only [↓aP, aQ, ↓reduceIte, Nat.reduceEqDiff, Nat.reduceAdd, Nat.reduceSub, Nat.reduceMul, Nat.reduceLT, Nat.reduceLeDiff, reduceCtorEq, Nat.reduceBEq, forall_const, implies_true, exists_const, ne_eq, Int.reduceAdd, Int.reduceSub, Int.reduceMul, Int.reduceBEq, Int.reduceEq, Int.reduceLT, Int.reduceLE, Int.reduceToNat, Int.reduceNeg, Int.reduceBNe, hlt, s1, g1, b1, s3, s37, s38, s39, encFs]
    refine ask (by have := tPages_spec f.tb; rw [encTa] at this; exact this) ?_
    have hpl : (Ta.pages f.tb).length = (Ta.pgs f.tb).length := by unfold Ta.pages; rw [if_pos r2, srt_len]
    by_cases r6 : (Ta.pgs f.tb).length = Fm.taken f.pg
    case neg =>
      rw [show ((Ta.pgs f.tb).length == Fm.taken f.pg) = false from beq_eq_false_iff_ne.2 r6, Bool.false_and] at hrc
      simp -implicitDefEqProofs only [↓aP, aQ, ↓reduceIte, Nat.reduceEqDiff, Nat.reduceAdd, Nat.reduceSub, Nat.reduceMul, Nat.reduceLT, Nat.reduceLeDiff, reduceCtorEq, Nat.reduceBEq, forall_const, implies_true, exists_const, ne_eq, Int.reduceAdd, Int.reduceSub, Int.reduceMul, Int.reduceBEq, Int.reduceEq, Int.reduceLT, Int.reduceLE, Int.reduceToNat, Int.reduceNeg, Int.reduceBNe, List.length_map, s3, hpl, show (((Ta.pgs f.tb).length : Int) != (Fm.taken f.pg : Int)) = true by rw [bne_iff_ne]; omega, hrc]
    rw [show ((Ta.pgs f.tb).length == Fm.taken f.pg) = true from beq_iff_eq.2 r6, Bool.true_and] at hrc
    simp -implicitDefEqProofs only [↓aP, aQ, ↓reduceIte, Nat.reduceEqDiff, Nat.reduceAdd, Nat.reduceSub, Nat.reduceMul, Nat.reduceLT, Nat.reduceLeDiff, reduceCtorEq, Nat.reduceBEq, forall_const, implies_true, exists_const, ne_eq, Int.reduceAdd, Int.reduceSub, Int.reduceMul, Int.reduceBEq, Int.reduceEq, Int.reduceLT, Int.reduceLE, Int.reduceToNat, Int.reduceNeg, Int.reduceBNe, List.length_map, s1, g1, b1, s3, s37, s38, s39, encFs, hpl, show (((Ta.pgs f.tb).length : Int) != (Fm.taken f.pg : Int)) = false by rw [bne_eq_false_iff_eq]; omega]
    refine rangeB f.dt.length (fun i σ => (∀ x ∈ f.dt.take i, (Ta.find f.tb x.page).2 = true) ∧ σ.slot 1 = .c (.ptr 1 1 0 0) ∧ σ.h.gen 1 = 1 ∧ σ.h.blk 1 = .box 32 5 [(encFs f).map AC.s] ∧ σ.slot 61 = vL 2 (f.dt.map encIt) ∧ σ.slot 62 = vI f.dt.length ∧ σ.slot 63 = vI i) ?_ ?_ ?_
    · simp -implicitDefEqProofs only [↓aP, aQ, ↓reduceIte, Nat.reduceEqDiff, Nat.reduceAdd, Nat.reduceSub, Nat.reduceMul, Nat.reduceLT, Nat.reduceLeDiff, reduceCtorEq, Nat.reduceBEq, forall_const, implies_true, exists_const, ne_eq, Int.reduceAdd, Int.reduceSub, Int.reduceMul, Int.reduceBEq, Int.reduceEq, Int.reduceLT, Int.reduceLE, Int.reduceToNat, Int.reduceNeg, Int.reduceBNe, s1, g1, b1, s3, s37, s38, s39, encFs]
      simp
    · clear hlt s1 g1 b1 s3 s37 s38 s39
      rintro i m σ him hi hlt ⟨hok2, s1, g1, b1, s61, s62, s63⟩
      simp -implicitDefEqProofs only [↓aP, aQ, ↓reduceIte, Nat.reduceEqDiff, Nat.reduceAdd, Nat.reduceSub, Nat.reduceMul, Nat.reduceLT, Nat.reduceLeDiff, reduceCtorEq, Nat.reduceBEq, forall_const, implies_true, exists_const, ne_eq, Int.reduceAdd, Int.reduceSub, Int.reduceMul, Int.reduceBEq, Int.reduceEq, Int.reduceLT, Int.reduceLE, Int.reduceToNat, Int.reduceNeg, Int.reduceBNe, hlt, s1, g1, b1, s61, s62, s63, askIdx_map, hi, encIt, encFs]
      refine ask (by have := tFind_spec f.tb f.dt[i].page; rw [encTa] at this; exact this) ?_
      cases ho : (Ta.find f.tb f.dt[i].page).2
      · have : (f.dt.all fun i => (Ta.find f.tb i.page).2) = false := by
          rw [List.all_eq_false]; exact ⟨f.dt[i], List.getElem_mem hi, by simp [ho]⟩
        rw [this] at hrc
        simp -implicitDefEqProofs only [↓aP, aQ, ↓reduceIte, Nat.reduceEqDiff, Nat.reduceAdd, Nat.reduceSub, Nat.reduceMul, Nat.reduceLT, Nat.reduceLeDiff, reduceCtorEq, Nat.reduceBEq, forall_const, implies_true, exists_const, ne_eq, Int.reduceAdd, Int.reduceSub, Int.reduceMul, Int.reduceBEq, Int.reduceEq, Int.reduceLT, Int.reduceLE, Int.reduceToNat, Int.reduceNeg, Int.reduceBNe, encSlot, ho, hrc]
      · simp -implicitDefEqProofs only [↓aP, aQ, ↓reduceIte, Nat.reduceEqDiff, Nat.reduceAdd, Nat.reduceSub, Nat.reduceMul, Nat.reduceLT, Nat.reduceLeDiff, reduceCtorEq, Nat.reduceBEq, forall_const, implies_true, exists_const, ne_eq, Int.reduceAdd, Int.reduceSub, Int.reduceMul, Int.reduceBEq, Int.reduceEq, Int.reduceLT, Int.reduceLE, Int.reduceToNat, Int.reduceNeg, Int.reduceBNe, encSlot, ho, s1, g1, b1, s61, s62, s63, wrapS (show i < 4611686018427387904 by omega)]
        refine nextR hi him ⟨?_, ?_⟩
        · rw [take_snoc hi]
          intro x hx
          rcases List.mem_append.1 hx with h | h
          · exact hok2 x h
          · rw [List.mem_singleton.1 h]; exact ho
        · simp -implicitDefEqProofs only [↓aP, aQ, ↓reduceIte, Nat.reduceEqDiff, Nat.reduceAdd, Nat.reduceSub, Nat.reduceMul, Nat.reduceLT, Nat.reduceLeDiff, reduceCtorEq, Nat.reduceBEq, forall_const, implies_true, exists_const, ne_eq, Int.reduceAdd, Int.reduceSub, Int.reduceMul, Int.reduceBEq, Int.reduceEq, Int.reduceLT, Int.reduceLE, Int.reduceToNat, Int.reduceNeg, Int.reduceBNe, s1, g1, b1, s61, s62, s63, encFs]
    · clear hlt s1 g1 b1 s3 s37 s38 s39
      rintro m σ hlt ⟨hok2, s1, g1, b1, s61, s62, s63⟩
      rw [List.take_length] at hok2
      rw [List.all_eq_true.2 hok2] at hrc
      simp -implicitDefEqProofs only [↓aP, aQ, ↓reduceIte, Nat.reduceEqDiff, Nat.reduceAdd, Nat.reduceSub, Nat.reduceMul, Nat.reduceLT, Nat.reduceLeDiff, reduceCtorEq, Nat.reduceBEq, forall_const, implies_true, exists_const, ne_eq, Int.reduceAdd, Int.reduceSub, Int.reduceMul, Int.reduceBEq, Int.reduceEq, Int.reduceLT, Int.reduceLE, Int.reduceToNat, Int.reduceNeg, Int.reduceBNe, hlt, s1, g1, b1, s61, s62, s63, hrc]
end Go.Proofs.Ytcindpblgbpcoaa
