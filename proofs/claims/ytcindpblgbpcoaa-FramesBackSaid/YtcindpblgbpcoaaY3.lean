/- layer 14: the reference: Right, Find, Same; refs. -/
import Derived.Test.YtcindpblgbpcoaaY2
import Derived.Laws.StructEq
namespace Go.Proofs.Ytcindpblgbpcoaa
open Go.RowKit Dy
set_option linter.unusedVariables false
set_option linter.unusedSimpArgs false
def thereL (l : List It) : List (List AC) := (List.range 17).map fun q : Nat => [.s (.pv (.bool (hasPage l (q : Int))))]
theorem ask_there {l : List It} {q : Nat} {K : List AC → Prop} (hq : q < 17) : AskIdx q (thereL l) K = K [.s (.pv (.bool (hasPage l (q : Int))))] := by
  unfold thereL
  rw [askIdx_map (by simpa using hq)]
  simp
theorem there_set {l : List It} {a : It} {q : Nat} (hq : q < 17) (ha : a.page = (q : Int)) : (thereL l).set q [.s (.pv (.bool true))] = thereL (l ++ [a]) := by
  apply List.ext_getElem
  · simp [thereL]
  · intro i h1 h2
    have hi : i < 17 := by simpa [thereL] using h2
    rw [List.getElem_set]
    simp only [thereL, List.getElem_map, List.getElem_range, hasPage_snoc, ha]
    by_cases e : q = i
    · rw [if_pos e, e]; simp
    · rw [if_neg e]
      have : ((q : Int) == (i : Int)) = false := by rw [beq_eq_false_iff_ne]; omega
      rw [this, Bool.or_false]
theorem there_nil : thereL [] = [[.s (.pv (.bool false))], [.s (.pv (.bool false))], [.s (.pv (.bool false))], [.s (.pv (.bool false))], [.s (.pv (.bool false))], [.s (.pv (.bool false))], [.s (.pv (.bool false))], [.s (.pv (.bool false))], [.s (.pv (.bool false))], [.s (.pv (.bool false))], [.s (.pv (.bool false))], [.s (.pv (.bool false))], [.s (.pv (.bool false))], [.s (.pv (.bool false))], [.s (.pv (.bool false))], [.s (.pv (.bool false))], [.s (.pv (.bool false))]] := rfl

theorem drRight_spec (l : List It) (hl : l.length < 4611686018427387904) : Spec Try.prog 54 [rL 2 (l.map encIt)] (.val (rB (right l))) := by
  refine spec_val mixed fn54 (by simp) ?_
  unfold ac54
  simp -implicitDefEqProofs only [↓aP, aQ, ↓reduceIte, Nat.reduceEqDiff, Nat.reduceAdd, Nat.reduceSub, Nat.reduceMul, Nat.reduceLT, Nat.reduceLeDiff, reduceCtorEq, Nat.reduceBEq, forall_const, implies_true, exists_const, ne_eq, Int.reduceAdd, Int.reduceSub, Int.reduceMul, Int.reduceBEq, Int.reduceEq, Int.reduceLT, Int.reduceLE, Int.reduceToNat, Int.reduceNeg, Int.reduceBNe]
  refine fork ?_ ?_ <;> intro h16
  · have := t_dt h16
    simp -implicitDefEqProofs only [↓aP, aQ, ↓reduceIte, Nat.reduceEqDiff, Nat.reduceAdd, Nat.reduceSub, Nat.reduceMul, Nat.reduceLT, Nat.reduceLeDiff, reduceCtorEq, Nat.reduceBEq, forall_const, implies_true, exists_const, ne_eq, Int.reduceAdd, Int.reduceSub, Int.reduceMul, Int.reduceBEq, Int.reduceEq, Int.reduceLT, Int.reduceLE, Int.reduceToNat, Int.reduceNeg, Int.reduceBNe, right_long (l := l) (by omega)]
  simp -implicitDefEqProofs only [↓aP, aQ, ↓reduceIte, Nat.reduceEqDiff, Nat.reduceAdd, Nat.reduceSub, Nat.reduceMul, Nat.reduceLT, Nat.reduceLeDiff, reduceCtorEq, Nat.reduceBEq, forall_const, implies_true, exists_const, ne_eq, Int.reduceAdd, Int.reduceSub, Int.reduceMul, Int.reduceBEq, Int.reduceEq, Int.reduceLT, Int.reduceLE, Int.reduceToNat, Int.reduceNeg, Int.reduceBNe]
  refine rangeB l.length (fun i σ => right (l.take i) = true ∧ σ.slot 4 = vI (last (l.take i)) ∧ σ.slot 0 = vL 2 (l.map encIt) ∧ σ.slot 3 = .c (.ptr 3 1 0 0) ∧ σ.h.gen 3 = 1 ∧ σ.h.blk 3 = .box 163 1 (thereL (l.take i)) ∧ σ.slot 5 = vI i) ?_ ?_ ?_
  · simp -implicitDefEqProofs only [↓aP, aQ, ↓reduceIte, Nat.reduceEqDiff, Nat.reduceAdd, Nat.reduceSub, Nat.reduceMul, Nat.reduceLT, Nat.reduceLeDiff, reduceCtorEq, Nat.reduceBEq, forall_const, implies_true, exists_const, ne_eq, Int.reduceAdd, Int.reduceSub, Int.reduceMul, Int.reduceBEq, Int.reduceEq, Int.reduceLT, Int.reduceLE, Int.reduceToNat, Int.reduceNeg, Int.reduceBNe, there_nil]
    exact ⟨rfl, rfl⟩
  · rintro i m σ him hi hlt ⟨hr, s4, s0, s3, g3, b3, s5⟩
    have hg := good_eq2 (l.take i) l[i]
    have hb := bad_of (l := l) hi
    have hs := right_step hi
    have hla := last_take hi
    by_cases hpg : 1 ≤ l[i].page ∧ l[i].page ≤ 16
    · obtain ⟨q, hq⟩ : ∃ q : Nat, l[i].page = q := ⟨l[i].page.toNat, by omega⟩
      have hq17 : q < 17 := by omega
      have hset := there_set (l := l.take i) hq17 hq
      rw [← take_snoc hi] at hset
      simp -implicitDefEqProofs only [↓aP, aQ, ↓reduceIte, Nat.reduceEqDiff, Nat.reduceAdd, Nat.reduceSub, Nat.reduceMul, Nat.reduceLT, Nat.reduceLeDiff, reduceCtorEq, Nat.reduceBEq, forall_const, implies_true, exists_const, ne_eq, Int.reduceAdd, Int.reduceSub, Int.reduceMul, Int.reduceBEq, Int.reduceEq, Int.reduceLT, Int.reduceLE, Int.reduceToNat, Int.reduceNeg, Int.reduceBNe, hlt, s4, s0, s3, g3, b3, s5, askIdx_map, hi, encIt, hq]
      repeat' ((first | ((first | with_reducible refine fork ?_ ?_ | with_reducible refine gcase ?_ ?_ | with_reducible refine gcaseD ?_ ?_) <;> intro hc <;> (have hp := hc) <;> (try simp only [aB] at hp)) | (have hc := True.intro; first | with_reducible refine askM (by omega) ?_ | with_reducible refine And.intro (by first | omega | decide +kernel) ?_ | fail)) <;> (try simp -implicitDefEqProofs only [↓aP, aQ, ↓reduceIte, Nat.reduceEqDiff, Nat.reduceAdd, Nat.reduceSub, Nat.reduceMul, Nat.reduceLT, Nat.reduceLeDiff, reduceCtorEq, Nat.reduceBEq, forall_const, implies_true, exists_const, ne_eq, Int.reduceAdd, Int.reduceSub, Int.reduceMul, Int.reduceBEq, Int.reduceEq, Int.reduceLT, Int.reduceLE, Int.reduceToNat, Int.reduceNeg, Int.reduceBNe, hc, s4, s0, s3, g3, b3, s5, encIt, hq, ask_there hq17, wrapS (show i < 4611686018427387904 by omega)]))
      all_goals first
        | (exfalso; omega)
        | (refine nextR hi him ?_
           have hgt : good (l.take i) l[i] = true := by rw [hg, hq, decide_eq_true_iff]; exact ⟨by omega, by assumption, by omega, by omega⟩
           simp -implicitDefEqProofs only [↓aP, aQ, ↓reduceIte, Nat.reduceEqDiff, Nat.reduceAdd, Nat.reduceSub, Nat.reduceMul, Nat.reduceLT, Nat.reduceLeDiff, reduceCtorEq, Nat.reduceBEq, forall_const, implies_true, exists_const, ne_eq, Int.reduceAdd, Int.reduceSub, Int.reduceMul, Int.reduceBEq, Int.reduceEq, Int.reduceLT, Int.reduceLE, Int.reduceToNat, Int.reduceNeg, Int.reduceBNe, s0, s3, g3, b3, s5, hla, hs, hr, hgt, hset])
        | (have hgf : good (l.take i) l[i] = false := by
             rw [hg, hq, decide_eq_false_iff_not]
             rintro ⟨q1, q2, q3, q4⟩
             first | omega | simp_all
           rw [hb hgf])
        | all_goals (trace_state; sorry)
    · have hgf : good (l.take i) l[i] = false := by rw [hg]; simp; omega
      simp -implicitDefEqProofs only [↓aP, aQ, ↓reduceIte, Nat.reduceEqDiff, Nat.reduceAdd, Nat.reduceSub, Nat.reduceMul, Nat.reduceLT, Nat.reduceLeDiff, reduceCtorEq, Nat.reduceBEq, forall_const, implies_true, exists_const, ne_eq, Int.reduceAdd, Int.reduceSub, Int.reduceMul, Int.reduceBEq, Int.reduceEq, Int.reduceLT, Int.reduceLE, Int.reduceToNat, Int.reduceNeg, Int.reduceBNe, hlt, s4, s0, s3, g3, b3, s5, askIdx_map, hi, encIt]
      repeat' ((first | ((first | with_reducible refine fork ?_ ?_ | with_reducible refine gcase ?_ ?_ | with_reducible refine gcaseD ?_ ?_) <;> intro hc <;> (have hp := hc) <;> (try simp only [aB] at hp)) | (have hc := True.intro; first | with_reducible refine askM (by omega) ?_ | with_reducible refine And.intro (by first | omega | decide +kernel) ?_ | fail)) <;> (try simp -implicitDefEqProofs only [↓aP, aQ, ↓reduceIte, Nat.reduceEqDiff, Nat.reduceAdd, Nat.reduceSub, Nat.reduceMul, Nat.reduceLT, Nat.reduceLeDiff, reduceCtorEq, Nat.reduceBEq, forall_const, implies_true, exists_const, ne_eq, Int.reduceAdd, Int.reduceSub, Int.reduceMul, Int.reduceBEq, Int.reduceEq, Int.reduceLT, Int.reduceLE, Int.reduceToNat, Int.reduceNeg, Int.reduceBNe, hc, s4, s0, s3, g3, b3, s5, encIt, wrapS (show i < 4611686018427387904 by omega)]))
      all_goals first | (rw [hb hgf]; done) | (exfalso; omega)
  · rintro m σ hlt ⟨hr, s4, s0, s3, g3, b3, s5⟩
    rw [List.take_length] at hr
    simp -implicitDefEqProofs only [↓aP, aQ, ↓reduceIte, Nat.reduceEqDiff, Nat.reduceAdd, Nat.reduceSub, Nat.reduceMul, Nat.reduceLT, Nat.reduceLeDiff, reduceCtorEq, Nat.reduceBEq, forall_const, implies_true, exists_const, ne_eq, Int.reduceAdd, Int.reduceSub, Int.reduceMul, Int.reduceBEq, Int.reduceEq, Int.reduceLT, Int.reduceLE, Int.reduceToNat, Int.reduceNeg, Int.reduceBNe, hlt, s4, s0, s3, g3, b3, s5, hr]

theorem drFind_spec (l : List It) (p : Int) (hl : l.length < 4611686018427387904) : Spec Try.prog 64 [rL 2 (l.map encIt), rI p] (.val (rI (at' l p))) := by
  refine spec_val mixed fn64 (by simp) ?_
  unfold ac64
  simp -implicitDefEqProofs only [↓aP, aQ, ↓reduceIte, Nat.reduceEqDiff, Nat.reduceAdd, Nat.reduceSub, Nat.reduceMul, Nat.reduceLT, Nat.reduceLeDiff, reduceCtorEq, Nat.reduceBEq, forall_const, implies_true, exists_const, ne_eq, Int.reduceAdd, Int.reduceSub, Int.reduceMul, Int.reduceBEq, Int.reduceEq, Int.reduceLT, Int.reduceLE, Int.reduceToNat, Int.reduceNeg, Int.reduceBNe]
  refine rangeB l.length (fun i σ => (∀ x ∈ l.take i, (x.page == p) = false) ∧ σ.slot 0 = vL 2 (l.map encIt) ∧ σ.slot 1 = vI p ∧ σ.slot 5 = vI i) ?_ ?_ ?_
  · simp -implicitDefEqProofs only [↓aP, aQ, ↓reduceIte, Nat.reduceEqDiff, Nat.reduceAdd, Nat.reduceSub, Nat.reduceMul, Nat.reduceLT, Nat.reduceLeDiff, reduceCtorEq, Nat.reduceBEq, forall_const, implies_true, exists_const, ne_eq, Int.reduceAdd, Int.reduceSub, Int.reduceMul, Int.reduceBEq, Int.reduceEq, Int.reduceLT, Int.reduceLE, Int.reduceToNat, Int.reduceNeg, Int.reduceBNe]
    simp
  · rintro i m σ him hi hlt ⟨hno, s0, s1, s5⟩
    simp -implicitDefEqProofs only [↓aP, aQ, ↓reduceIte, Nat.reduceEqDiff, Nat.reduceAdd, Nat.reduceSub, Nat.reduceMul, Nat.reduceLT, Nat.reduceLeDiff, reduceCtorEq, Nat.reduceBEq, forall_const, implies_true, exists_const, ne_eq, Int.reduceAdd, Int.reduceSub, Int.reduceMul, Int.reduceBEq, Int.reduceEq, Int.reduceLT, Int.reduceLE, Int.reduceToNat, Int.reduceNeg, Int.reduceBNe, hlt, s0, s1, s5, askIdx_map, hi, encIt]
    refine fork ?_ ?_ <;> intro hc
    · have := fst_at (p := fun x : It => x.page == p) hi hc hno
      simp -implicitDefEqProofs only [↓aP, aQ, ↓reduceIte, Nat.reduceEqDiff, Nat.reduceAdd, Nat.reduceSub, Nat.reduceMul, Nat.reduceLT, Nat.reduceLeDiff, reduceCtorEq, Nat.reduceBEq, forall_const, implies_true, exists_const, ne_eq, Int.reduceAdd, Int.reduceSub, Int.reduceMul, Int.reduceBEq, Int.reduceEq, Int.reduceLT, Int.reduceLE, Int.reduceToNat, Int.reduceNeg, Int.reduceBNe, s0, s1, s5, (show at' l p = (i : Int) from this)]
    · simp -implicitDefEqProofs only [↓aP, aQ, ↓reduceIte, Nat.reduceEqDiff, Nat.reduceAdd, Nat.reduceSub, Nat.reduceMul, Nat.reduceLT, Nat.reduceLeDiff, reduceCtorEq, Nat.reduceBEq, forall_const, implies_true, exists_const, ne_eq, Int.reduceAdd, Int.reduceSub, Int.reduceMul, Int.reduceBEq, Int.reduceEq, Int.reduceLT, Int.reduceLE, Int.reduceToNat, Int.reduceNeg, Int.reduceBNe, s0, s1, s5, wrapS (show i < 4611686018427387904 by omega)]
      refine nextR hi him ?_
      simp -implicitDefEqProofs only [↓aP, aQ, ↓reduceIte, Nat.reduceEqDiff, Nat.reduceAdd, Nat.reduceSub, Nat.reduceMul, Nat.reduceLT, Nat.reduceLeDiff, reduceCtorEq, Nat.reduceBEq, forall_const, implies_true, exists_const, ne_eq, Int.reduceAdd, Int.reduceSub, Int.reduceMul, Int.reduceBEq, Int.reduceEq, Int.reduceLT, Int.reduceLE, Int.reduceToNat, Int.reduceNeg, Int.reduceBNe, s0, s1, s5]
      rw [take_snoc hi]
      intro x hx
      rcases List.mem_append.1 hx with h | h
      · exact hno x h
      · rw [List.mem_singleton.1 h]; exact hc
  · rintro m σ hlt ⟨hno, s0, s1, s5⟩
    rw [List.take_length] at hno
    simp -implicitDefEqProofs only [↓aP, aQ, ↓reduceIte, Nat.reduceEqDiff, Nat.reduceAdd, Nat.reduceSub, Nat.reduceMul, Nat.reduceLT, Nat.reduceLeDiff, reduceCtorEq, Nat.reduceBEq, forall_const, implies_true, exists_const, ne_eq, Int.reduceAdd, Int.reduceSub, Int.reduceMul, Int.reduceBEq, Int.reduceEq, Int.reduceLT, Int.reduceLE, Int.reduceToNat, Int.reduceNeg, Int.reduceBNe, hlt, s0, s1, s5, (show at' l p = -1 from fst_none hno)]
theorem fields_it : Try.prog.underlying 122 = some (.struct (Try.prog.fieldsOf 122)) := by kernel_rfl
theorem held_it : Try.prog.stoodInHeld 122 = false := by kernel_rfl
theorem fieldsL_it : ((Try.prog.fieldsOf 122).toList.map fun f => (f.type, f.offset)) = [(3, 0), (3, 1)] := by kernel_rfl
set_option maxRecDepth 100000 in
theorem eq_it (x : It) : EqRun Try.prog 122 [.int .i64 x.page, .int .i64 x.since] [.int .i64 x.page, .int .i64 x.since] true := by
  intro w
  rw [run_eql_struct, run_equalIn_agg w 9999 _ _ _ fields_it held_it]
  go_simp

theorem drSame_spec (l : List It) (hl : l.length < 4611686018427387904) : Spec Try.prog 29 [rL 2 (l.map encIt), rL 2 (l.map encIt)] (.val (rB true)) := by
  refine spec_val mixed fn29 (by simp) ?_
  unfold ac29
  simp -implicitDefEqProofs only [↓aP, aQ, ↓reduceIte, Nat.reduceEqDiff, Nat.reduceAdd, Nat.reduceSub, Nat.reduceMul, Nat.reduceLT, Nat.reduceLeDiff, reduceCtorEq, Nat.reduceBEq, forall_const, implies_true, exists_const, ne_eq, Int.reduceAdd, Int.reduceSub, Int.reduceMul, Int.reduceBEq, Int.reduceEq, Int.reduceLT, Int.reduceLE, Int.reduceToNat, Int.reduceNeg, Int.reduceBNe]
  refine rangeB l.length (fun i σ => σ.slot 0 = vL 2 (l.map encIt) ∧ σ.slot 1 = vL 2 (l.map encIt) ∧ σ.slot 5 = vI i) ?_ ?_ ?_
  · simp -implicitDefEqProofs only [↓aP, aQ, ↓reduceIte, Nat.reduceEqDiff, Nat.reduceAdd, Nat.reduceSub, Nat.reduceMul, Nat.reduceLT, Nat.reduceLeDiff, reduceCtorEq, Nat.reduceBEq, forall_const, implies_true, exists_const, ne_eq, Int.reduceAdd, Int.reduceSub, Int.reduceMul, Int.reduceBEq, Int.reduceEq, Int.reduceLT, Int.reduceLE, Int.reduceToNat, Int.reduceNeg, Int.reduceBNe]
  · rintro i m σ him hi hlt ⟨s0, s1, s5⟩
    simp -implicitDefEqProofs only [↓aP, aQ, ↓reduceIte, Nat.reduceEqDiff, Nat.reduceAdd, Nat.reduceSub, Nat.reduceMul, Nat.reduceLT, Nat.reduceLeDiff, reduceCtorEq, Nat.reduceBEq, forall_const, implies_true, exists_const, ne_eq, Int.reduceAdd, Int.reduceSub, Int.reduceMul, Int.reduceBEq, Int.reduceEq, Int.reduceLT, Int.reduceLE, Int.reduceToNat, Int.reduceNeg, Int.reduceBNe, hlt, s0, s1, s5, askIdx_map, hi, encIt]
    refine askEq (eq_it l[i]) ?_
    simp -implicitDefEqProofs only [↓aP, aQ, ↓reduceIte, Nat.reduceEqDiff, Nat.reduceAdd, Nat.reduceSub, Nat.reduceMul, Nat.reduceLT, Nat.reduceLeDiff, reduceCtorEq, Nat.reduceBEq, forall_const, implies_true, exists_const, ne_eq, Int.reduceAdd, Int.reduceSub, Int.reduceMul, Int.reduceBEq, Int.reduceEq, Int.reduceLT, Int.reduceLE, Int.reduceToNat, Int.reduceNeg, Int.reduceBNe, s0, s1, s5, wrapS (show i < 4611686018427387904 by omega)]
    refine ⟨by decide +kernel, nextR hi him ?_⟩
    simp -implicitDefEqProofs only [↓aP, aQ, ↓reduceIte, Nat.reduceEqDiff, Nat.reduceAdd, Nat.reduceSub, Nat.reduceMul, Nat.reduceLT, Nat.reduceLeDiff, reduceCtorEq, Nat.reduceBEq, forall_const, implies_true, exists_const, ne_eq, Int.reduceAdd, Int.reduceSub, Int.reduceMul, Int.reduceBEq, Int.reduceEq, Int.reduceLT, Int.reduceLE, Int.reduceToNat, Int.reduceNeg, Int.reduceBNe, s0, s1, s5]
  · rintro m σ hlt ⟨s0, s1, s5⟩
    simp -implicitDefEqProofs only [↓aP, aQ, ↓reduceIte, Nat.reduceEqDiff, Nat.reduceAdd, Nat.reduceSub, Nat.reduceMul, Nat.reduceLT, Nat.reduceLeDiff, reduceCtorEq, Nat.reduceBEq, forall_const, implies_true, exists_const, ne_eq, Int.reduceAdd, Int.reduceSub, Int.reduceMul, Int.reduceBEq, Int.reduceEq, Int.reduceLT, Int.reduceLE, Int.reduceToNat, Int.reduceNeg, Int.reduceBNe, hlt, s0, s1, s5]
end Go.Proofs.Ytcindpblgbpcoaa
