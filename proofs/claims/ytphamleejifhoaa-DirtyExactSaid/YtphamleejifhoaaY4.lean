/- layer 14: Due, Over, Equal; awake; DirtyExact. -/
import Derived.Test.YtphamleejifhoaaY3
import Derived.Test.YtphamleejifhoaaAm19
namespace Go.Proofs.Ytphamleejifhoaa
open Go.RowKit Dy Go.ChangeShapes Go.WideShapes
set_option linter.unusedVariables false
set_option linter.unusedSimpArgs false
def isDue (now age : Int) (a : It) : Bool := decide (a.since ≤ now ∧ age ≤ now - a.since)
def dueI (l : List It) (now age : Int) : List Int := (l.filter (isDue now age)).map It.page
theorem due_snoc {l : List It} {now age : Int} {i : Nat} (hi : i < l.length) : dueI (l.take (i + 1)) now age = if isDue now age l[i] then dueI (l.take i) now age ++ [l[i].page] else dueI (l.take i) now age := by
  rw [take_snoc hi]
  unfold dueI
  rw [List.filter_append, List.map_append]
  cases h : isDue now age l[i] <;> simp [h]

theorem dDue_spec (l : List It) (now age : Int) (hr : right l = true) (ha : 0 ≤ age) (hn : -1000000 ≤ now ∧ now ≤ 9223372036854775807) : Spec Try.prog 44 [rL 2 (l.map encIt), rI now, rI age] (.val (rL 1 ((dueI l now age).map encI))) := by
  refine spec_val mixed fn44 (by simp) ?_
  unfold ac44
  have h16 := right_len hr
  have hs := ((right_iff l).1 hr).since
  simp -implicitDefEqProofs only [↓aP, aQ, ↓reduceIte, Nat.reduceEqDiff, Nat.reduceAdd, Nat.reduceSub, Nat.reduceMul, Nat.reduceLT, Nat.reduceLeDiff, reduceCtorEq, Nat.reduceBEq, forall_const, implies_true, exists_const, ne_eq, Int.reduceAdd, Int.reduceSub, Int.reduceMul, Int.reduceBEq, Int.reduceEq, Int.reduceLT, Int.reduceLE, Int.reduceToNat, Int.reduceNeg, Int.reduceBNe]
  refine ask (dRight_spec l (by omega)) ?_
  simp -implicitDefEqProofs only [↓aP, aQ, ↓reduceIte, Nat.reduceEqDiff, Nat.reduceAdd, Nat.reduceSub, Nat.reduceMul, Nat.reduceLT, Nat.reduceLeDiff, reduceCtorEq, Nat.reduceBEq, forall_const, implies_true, exists_const, ne_eq, Int.reduceAdd, Int.reduceSub, Int.reduceMul, Int.reduceBEq, Int.reduceEq, Int.reduceLT, Int.reduceLE, Int.reduceToNat, Int.reduceNeg, Int.reduceBNe, hr]
  refine fork ?_ ?_ <;> intro hag
  · have := t_dt hag
    omega
  simp -implicitDefEqProofs only [↓aP, aQ, ↓reduceIte, Nat.reduceEqDiff, Nat.reduceAdd, Nat.reduceSub, Nat.reduceMul, Nat.reduceLT, Nat.reduceLeDiff, reduceCtorEq, Nat.reduceBEq, forall_const, implies_true, exists_const, ne_eq, Int.reduceAdd, Int.reduceSub, Int.reduceMul, Int.reduceBEq, Int.reduceEq, Int.reduceLT, Int.reduceLE, Int.reduceToNat, Int.reduceNeg, Int.reduceBNe]
  refine shift (sub_slot (s := 7) 39 3 1 (by simp -implicitDefEqProofs only [↓aP, aQ, ↓reduceIte, Nat.reduceEqDiff, Nat.reduceAdd, Nat.reduceSub, Nat.reduceMul, Nat.reduceLT, Nat.reduceLeDiff, reduceCtorEq, Nat.reduceBEq, forall_const, implies_true, exists_const, ne_eq, Int.reduceAdd, Int.reduceSub, Int.reduceMul, Int.reduceBEq, Int.reduceEq, Int.reduceLT, Int.reduceLE, Int.reduceToNat, Int.reduceNeg, Int.reduceBNe]) (by decide)) ?_
  refine rangeB l.length (fun i σ => ∃ g, σ.slot 1 = vI now ∧ σ.slot 2 = vI age ∧ σ.slot 17 = vL 2 (l.map encIt) ∧ σ.slot 18 = vI l.length ∧ σ.slot 19 = vI i ∧ σ.slot 7 = .c (.own 39 g) ∧ σ.h.gen 39 = g ∧ σ.h.blk 39 = .row 3 1 ((dueI (l.take i) now age).map encI)) ?_ ?_ ?_
  · simp -implicitDefEqProofs only [↓aP, aQ, ↓reduceIte, Nat.reduceEqDiff, Nat.reduceAdd, Nat.reduceSub, Nat.reduceMul, Nat.reduceLT, Nat.reduceLeDiff, reduceCtorEq, Nat.reduceBEq, forall_const, implies_true, exists_const, ne_eq, Int.reduceAdd, Int.reduceSub, Int.reduceMul, Int.reduceBEq, Int.reduceEq, Int.reduceLT, Int.reduceLE, Int.reduceToNat, Int.reduceNeg, Int.reduceBNe]
    exact ⟨1, by simp [dueI]⟩
  · rintro i m σ him hi hlt ⟨g, s1, s2, s17, s18, s19, s7, g39, b39⟩
    have e9 : (dueI (l.take i) now age).length ≤ 16 := by
      unfold dueI; rw [List.length_map]
      have := List.length_filter_le (isDue now age) (l.take i)
      rw [List.length_take] at this; omega
    have hsi := hs l[i] (List.getElem_mem hi)
    have hd := due_snoc (now := now) (age := age) hi
    simp -implicitDefEqProofs only [↓aP, aQ, ↓reduceIte, Nat.reduceEqDiff, Nat.reduceAdd, Nat.reduceSub, Nat.reduceMul, Nat.reduceLT, Nat.reduceLeDiff, reduceCtorEq, Nat.reduceBEq, forall_const, implies_true, exists_const, ne_eq, Int.reduceAdd, Int.reduceSub, Int.reduceMul, Int.reduceBEq, Int.reduceEq, Int.reduceLT, Int.reduceLE, Int.reduceToNat, Int.reduceNeg, Int.reduceBNe, hlt, s1, s2, s17, s18, s19, s7, g39, b39, askIdx_map, hi, encIt]
    repeat' ((first | ((first | with_reducible refine fork ?_ ?_ | with_reducible refine gcase ?_ ?_ | with_reducible refine gcaseD ?_ ?_) <;> intro hc <;> (have hp := hc) <;> (try simp only [aB] at hp)) | (have hc := True.intro; first | with_reducible refine askM (by omega) ?_ | with_reducible refine And.intro (by first | omega | decide +kernel) ?_ | fail)) <;> (try simp -implicitDefEqProofs only [↓aP, aQ, ↓reduceIte, Nat.reduceEqDiff, Nat.reduceAdd, Nat.reduceSub, Nat.reduceMul, Nat.reduceLT, Nat.reduceLeDiff, reduceCtorEq, Nat.reduceBEq, forall_const, implies_true, exists_const, ne_eq, Int.reduceAdd, Int.reduceSub, Int.reduceMul, Int.reduceBEq, Int.reduceEq, Int.reduceLT, Int.reduceLE, Int.reduceToNat, Int.reduceNeg, Int.reduceBNe, hc, s1, s2, s17, s18, s19, s7, g39, b39, encIt, wrapS (show i < 4611686018427387904 by omega), wrapI (show -9223372036854775808 ≤ now - l[i].since ∧ now - l[i].since ≤ 9223372036854775807 by omega)]))
    all_goals first
      | (rw [show isDue now age l[i] = true by unfold isDue; rw [decide_eq_true_iff]; omega, if_pos rfl] at hd
         refine nextR hi him ?_
         simp -implicitDefEqProofs only [↓aP, aQ, ↓reduceIte, Nat.reduceEqDiff, Nat.reduceAdd, Nat.reduceSub, Nat.reduceMul, Nat.reduceLT, Nat.reduceLeDiff, reduceCtorEq, Nat.reduceBEq, forall_const, implies_true, exists_const, ne_eq, Int.reduceAdd, Int.reduceSub, Int.reduceMul, Int.reduceBEq, Int.reduceEq, Int.reduceLT, Int.reduceLE, Int.reduceToNat, Int.reduceNeg, Int.reduceBNe, s1, s2, s17, s18, s19, s7, g39, b39, hd, List.map_append, encI]
         exact ⟨g + 1, by simp⟩)
      | (rw [show isDue now age l[i] = false by unfold isDue; rw [decide_eq_false_iff_not]; omega, if_neg (by simp)] at hd
         refine nextR hi him ?_
         simp -implicitDefEqProofs only [↓aP, aQ, ↓reduceIte, Nat.reduceEqDiff, Nat.reduceAdd, Nat.reduceSub, Nat.reduceMul, Nat.reduceLT, Nat.reduceLeDiff, reduceCtorEq, Nat.reduceBEq, forall_const, implies_true, exists_const, ne_eq, Int.reduceAdd, Int.reduceSub, Int.reduceMul, Int.reduceBEq, Int.reduceEq, Int.reduceLT, Int.reduceLE, Int.reduceToNat, Int.reduceNeg, Int.reduceBNe, s1, s2, s17, s18, s19, s7, g39, b39, hd]
         exact ⟨g, by simp⟩)
      | all_goals (trace_state; sorry)
  · rintro m σ hlt ⟨g, s1, s2, s17, s18, s19, s7, g39, b39⟩
    rw [List.take_length] at b39
    simp -implicitDefEqProofs only [↓aP, aQ, ↓reduceIte, Nat.reduceEqDiff, Nat.reduceAdd, Nat.reduceSub, Nat.reduceMul, Nat.reduceLT, Nat.reduceLeDiff, reduceCtorEq, Nat.reduceBEq, forall_const, implies_true, exists_const, ne_eq, Int.reduceAdd, Int.reduceSub, Int.reduceMul, Int.reduceBEq, Int.reduceEq, Int.reduceLT, Int.reduceLE, Int.reduceToNat, Int.reduceNeg, Int.reduceBNe, hlt, s1, s2, s17, s18, s19, s7, g39, b39]
theorem dOver_spec (l : List It) (hard : Int) (hl : l.length < 4611686018427387904) : Spec Try.prog 45 [rL 2 (l.map encIt), rI hard] (.val (rB (right l && decide (hard ≤ l.length)))) := by
  refine spec_val mixed fn45 (by simp) ?_
  unfold ac45
  simp -implicitDefEqProofs only [↓aP, aQ, ↓reduceIte, Nat.reduceEqDiff, Nat.reduceAdd, Nat.reduceSub, Nat.reduceMul, Nat.reduceLT, Nat.reduceLeDiff, reduceCtorEq, Nat.reduceBEq, forall_const, implies_true, exists_const, ne_eq, Int.reduceAdd, Int.reduceSub, Int.reduceMul, Int.reduceBEq, Int.reduceEq, Int.reduceLT, Int.reduceLE, Int.reduceToNat, Int.reduceNeg, Int.reduceBNe]
  refine ask (dRight_spec l hl) ?_
  cases hr : right l
  · simp -implicitDefEqProofs only [↓aP, aQ, ↓reduceIte, Nat.reduceEqDiff, Nat.reduceAdd, Nat.reduceSub, Nat.reduceMul, Nat.reduceLT, Nat.reduceLeDiff, reduceCtorEq, Nat.reduceBEq, forall_const, implies_true, exists_const, ne_eq, Int.reduceAdd, Int.reduceSub, Int.reduceMul, Int.reduceBEq, Int.reduceEq, Int.reduceLT, Int.reduceLE, Int.reduceToNat, Int.reduceNeg, Int.reduceBNe]
  · simp -implicitDefEqProofs only [↓aP, aQ, ↓reduceIte, Nat.reduceEqDiff, Nat.reduceAdd, Nat.reduceSub, Nat.reduceMul, Nat.reduceLT, Nat.reduceLeDiff, reduceCtorEq, Nat.reduceBEq, forall_const, implies_true, exists_const, ne_eq, Int.reduceAdd, Int.reduceSub, Int.reduceMul, Int.reduceBEq, Int.reduceEq, Int.reduceLT, Int.reduceLE, Int.reduceToNat, Int.reduceNeg, Int.reduceBNe]

theorem equal_spec (l : List Int) (hl : l.length < 4611686018427387904) : Spec Try.prog 43 [rL 1 (l.map encI), rL 1 (l.map encI)] (.val (rB true)) := by
  refine spec_val mixed fn43 (by simp) ?_
  unfold ac43
  simp -implicitDefEqProofs only [↓aP, aQ, ↓reduceIte, Nat.reduceEqDiff, Nat.reduceAdd, Nat.reduceSub, Nat.reduceMul, Nat.reduceLT, Nat.reduceLeDiff, reduceCtorEq, Nat.reduceBEq, forall_const, implies_true, exists_const, ne_eq, Int.reduceAdd, Int.reduceSub, Int.reduceMul, Int.reduceBEq, Int.reduceEq, Int.reduceLT, Int.reduceLE, Int.reduceToNat, Int.reduceNeg, Int.reduceBNe]
  refine rangeB l.length (fun i σ => σ.slot 0 = vL 1 (l.map encI) ∧ σ.slot 1 = vL 1 (l.map encI) ∧ σ.slot 5 = vI i) ?_ ?_ ?_
  · simp -implicitDefEqProofs only [↓aP, aQ, ↓reduceIte, Nat.reduceEqDiff, Nat.reduceAdd, Nat.reduceSub, Nat.reduceMul, Nat.reduceLT, Nat.reduceLeDiff, reduceCtorEq, Nat.reduceBEq, forall_const, implies_true, exists_const, ne_eq, Int.reduceAdd, Int.reduceSub, Int.reduceMul, Int.reduceBEq, Int.reduceEq, Int.reduceLT, Int.reduceLE, Int.reduceToNat, Int.reduceNeg, Int.reduceBNe]
  · rintro i m σ him hi hlt ⟨s0, s1, s5⟩
    simp -implicitDefEqProofs only [↓aP, aQ, ↓reduceIte, Nat.reduceEqDiff, Nat.reduceAdd, Nat.reduceSub, Nat.reduceMul, Nat.reduceLT, Nat.reduceLeDiff, reduceCtorEq, Nat.reduceBEq, forall_const, implies_true, exists_const, ne_eq, Int.reduceAdd, Int.reduceSub, Int.reduceMul, Int.reduceBEq, Int.reduceEq, Int.reduceLT, Int.reduceLE, Int.reduceToNat, Int.reduceNeg, Int.reduceBNe, hlt, s0, s1, s5, askIdx_map, hi, encI, wrapS (show i < 4611686018427387904 by omega)]
    refine ⟨by decide +kernel, nextR hi him ?_⟩
    simp -implicitDefEqProofs only [↓aP, aQ, ↓reduceIte, Nat.reduceEqDiff, Nat.reduceAdd, Nat.reduceSub, Nat.reduceMul, Nat.reduceLT, Nat.reduceLeDiff, reduceCtorEq, Nat.reduceBEq, forall_const, implies_true, exists_const, ne_eq, Int.reduceAdd, Int.reduceSub, Int.reduceMul, Int.reduceBEq, Int.reduceEq, Int.reduceLT, Int.reduceLE, Int.reduceToNat, Int.reduceNeg, Int.reduceBNe, s0, s1, s5]
  · rintro m σ hlt ⟨s0, s1, s5⟩
    simp -implicitDefEqProofs only [↓aP, aQ, ↓reduceIte, Nat.reduceEqDiff, Nat.reduceAdd, Nat.reduceSub, Nat.reduceMul, Nat.reduceLT, Nat.reduceLeDiff, reduceCtorEq, Nat.reduceBEq, forall_const, implies_true, exists_const, ne_eq, Int.reduceAdd, Int.reduceSub, Int.reduceMul, Int.reduceBEq, Int.reduceEq, Int.reduceLT, Int.reduceLE, Int.reduceToNat, Int.reduceNeg, Int.reduceBNe, hlt, s0, s1, s5]
theorem awakeI_spec : Spec Try.prog 34 [] (.val (rB true)) := by
  refine spec_val mixed fn34 (by simp) ?_
  unfold ac34
  have t1 := dMark_spec [] 3 5 (by decide)
  rw [show markI [] 3 5 = ([⟨3, 5⟩], 0) from by decide +kernel] at t1
  have t2 := dMark_spec [⟨3, 5⟩] 4 9 (by decide)
  rw [show markI [⟨3, 5⟩] 4 9 = ([⟨3, 5⟩, ⟨4, 9⟩], 0) from by decide +kernel] at t2
  have t3 := dMark_spec [⟨3, 5⟩, ⟨4, 9⟩] 3 10 (by decide)
  rw [show markI [⟨3, 5⟩, ⟨4, 9⟩] 3 10 = ([⟨3, 5⟩, ⟨4, 9⟩], 0) from by decide +kernel] at t3
  have t4 := dSince_spec [⟨3, 5⟩, ⟨4, 9⟩] 3 (by decide)
  rw [show sinceI [⟨3, 5⟩, ⟨4, 9⟩] 3 = (5, true) from by decide +kernel] at t4
  have hr : right [⟨3, 5⟩, ⟨4, 9⟩] = true := by decide +kernel
  have t5 := dDue_spec [⟨3, 5⟩, ⟨4, 9⟩] 10 5 hr (by decide) (by decide)
  rw [show dueI [⟨3, 5⟩, ⟨4, 9⟩] 10 5 = [3] from by decide +kernel] at t5
  have t6 := equal_spec [3] (by decide)
  have t7 := dOver_spec [⟨3, 5⟩, ⟨4, 9⟩] 2 (by decide)
  have t8 := dOver_spec [⟨3, 5⟩, ⟨4, 9⟩] 3 (by decide)
  rw [hr] at t7 t8
  simp -implicitDefEqProofs only [↓aP, aQ, ↓reduceIte, Nat.reduceEqDiff, Nat.reduceAdd, Nat.reduceSub, Nat.reduceMul, Nat.reduceLT, Nat.reduceLeDiff, reduceCtorEq, Nat.reduceBEq, forall_const, implies_true, exists_const, ne_eq, Int.reduceAdd, Int.reduceSub, Int.reduceMul, Int.reduceBEq, Int.reduceEq, Int.reduceLT, Int.reduceLE, Int.reduceToNat, Int.reduceNeg, Int.reduceBNe]
  refine askS t1 (by simp [asim, tsim, rL, rI]) ?_
  simp -implicitDefEqProofs only [↓aP, aQ, ↓reduceIte, Nat.reduceEqDiff, Nat.reduceAdd, Nat.reduceSub, Nat.reduceMul, Nat.reduceLT, Nat.reduceLeDiff, reduceCtorEq, Nat.reduceBEq, forall_const, implies_true, exists_const, ne_eq, Int.reduceAdd, Int.reduceSub, Int.reduceMul, Int.reduceBEq, Int.reduceEq, Int.reduceLT, Int.reduceLE, Int.reduceToNat, Int.reduceNeg, Int.reduceBNe, encLs, encIt]
  refine ask t2 ?_
  simp -implicitDefEqProofs only [↓aP, aQ, ↓reduceIte, Nat.reduceEqDiff, Nat.reduceAdd, Nat.reduceSub, Nat.reduceMul, Nat.reduceLT, Nat.reduceLeDiff, reduceCtorEq, Nat.reduceBEq, forall_const, implies_true, exists_const, ne_eq, Int.reduceAdd, Int.reduceSub, Int.reduceMul, Int.reduceBEq, Int.reduceEq, Int.reduceLT, Int.reduceLE, Int.reduceToNat, Int.reduceNeg, Int.reduceBNe, encLs, encIt]
  refine ask t3 ?_
  simp -implicitDefEqProofs only [↓aP, aQ, ↓reduceIte, Nat.reduceEqDiff, Nat.reduceAdd, Nat.reduceSub, Nat.reduceMul, Nat.reduceLT, Nat.reduceLeDiff, reduceCtorEq, Nat.reduceBEq, forall_const, implies_true, exists_const, ne_eq, Int.reduceAdd, Int.reduceSub, Int.reduceMul, Int.reduceBEq, Int.reduceEq, Int.reduceLT, Int.reduceLE, Int.reduceToNat, Int.reduceNeg, Int.reduceBNe, encLs, encIt]
  refine ask t4 ?_
  simp -implicitDefEqProofs only [↓aP, aQ, ↓reduceIte, Nat.reduceEqDiff, Nat.reduceAdd, Nat.reduceSub, Nat.reduceMul, Nat.reduceLT, Nat.reduceLeDiff, reduceCtorEq, Nat.reduceBEq, forall_const, implies_true, exists_const, ne_eq, Int.reduceAdd, Int.reduceSub, Int.reduceMul, Int.reduceBEq, Int.reduceEq, Int.reduceLT, Int.reduceLE, Int.reduceToNat, Int.reduceNeg, Int.reduceBNe]
  refine ask t5 ?_
  simp -implicitDefEqProofs only [↓aP, aQ, ↓reduceIte, Nat.reduceEqDiff, Nat.reduceAdd, Nat.reduceSub, Nat.reduceMul, Nat.reduceLT, Nat.reduceLeDiff, reduceCtorEq, Nat.reduceBEq, forall_const, implies_true, exists_const, ne_eq, Int.reduceAdd, Int.reduceSub, Int.reduceMul, Int.reduceBEq, Int.reduceEq, Int.reduceLT, Int.reduceLE, Int.reduceToNat, Int.reduceNeg, Int.reduceBNe, encI]
  refine ask t6 ?_
  simp -implicitDefEqProofs only [↓aP, aQ, ↓reduceIte, Nat.reduceEqDiff, Nat.reduceAdd, Nat.reduceSub, Nat.reduceMul, Nat.reduceLT, Nat.reduceLeDiff, reduceCtorEq, Nat.reduceBEq, forall_const, implies_true, exists_const, ne_eq, Int.reduceAdd, Int.reduceSub, Int.reduceMul, Int.reduceBEq, Int.reduceEq, Int.reduceLT, Int.reduceLE, Int.reduceToNat, Int.reduceNeg, Int.reduceBNe]
  refine ask t7 ?_
  simp -implicitDefEqProofs only [↓aP, aQ, ↓reduceIte, Nat.reduceEqDiff, Nat.reduceAdd, Nat.reduceSub, Nat.reduceMul, Nat.reduceLT, Nat.reduceLeDiff, reduceCtorEq, Nat.reduceBEq, forall_const, implies_true, exists_const, ne_eq, Int.reduceAdd, Int.reduceSub, Int.reduceMul, Int.reduceBEq, Int.reduceEq, Int.reduceLT, Int.reduceLE, Int.reduceToNat, Int.reduceNeg, Int.reduceBNe, encIt]
  refine ask t8 ?_
  simp -implicitDefEqProofs only [↓aP, aQ, ↓reduceIte, Nat.reduceEqDiff, Nat.reduceAdd, Nat.reduceSub, Nat.reduceMul, Nat.reduceLT, Nat.reduceLeDiff, reduceCtorEq, Nat.reduceBEq, forall_const, implies_true, exists_const, ne_eq, Int.reduceAdd, Int.reduceSub, Int.reduceMul, Int.reduceBEq, Int.reduceEq, Int.reduceLT, Int.reduceLE, Int.reduceToNat, Int.reduceNeg, Int.reduceBNe, encIt, List.length_cons, List.length_nil]
set_option maxRecDepth 100000 in
set_option maxHeartbeats 4000000 in
theorem dirtyExact_spec (l : List It) (p now : Int) : Spec Try.prog 9 [rL 2 (l.map encIt), rI p, rI now] (.val (rB true)) := by
  refine spec_val mixed fn9 (by simp) ?_
  unfold ac9
  simp -implicitDefEqProofs only [↓aP, aQ, ↓reduceIte, Nat.reduceEqDiff, Nat.reduceAdd, Nat.reduceSub, Nat.reduceMul, Nat.reduceLT, Nat.reduceLeDiff, reduceCtorEq, Nat.reduceBEq, forall_const, implies_true, exists_const, ne_eq, Int.reduceAdd, Int.reduceSub, Int.reduceMul, Int.reduceBEq, Int.reduceEq, Int.reduceLT, Int.reduceLE, Int.reduceToNat, Int.reduceNeg, Int.reduceBNe]
  refine fork ?_ ?_ <;> intro h40
  · simp -implicitDefEqProofs only [↓aP, aQ, ↓reduceIte, Nat.reduceEqDiff, Nat.reduceAdd, Nat.reduceSub, Nat.reduceMul, Nat.reduceLT, Nat.reduceLeDiff, reduceCtorEq, Nat.reduceBEq, forall_const, implies_true, exists_const, ne_eq, Int.reduceAdd, Int.reduceSub, Int.reduceMul, Int.reduceBEq, Int.reduceEq, Int.reduceLT, Int.reduceLE, Int.reduceToNat, Int.reduceNeg, Int.reduceBNe]
    refine ask awakeI_spec ?_
    simp -implicitDefEqProofs only [↓aP, aQ, ↓reduceIte, Nat.reduceEqDiff, Nat.reduceAdd, Nat.reduceSub, Nat.reduceMul, Nat.reduceLT, Nat.reduceLeDiff, reduceCtorEq, Nat.reduceBEq, forall_const, implies_true, exists_const, ne_eq, Int.reduceAdd, Int.reduceSub, Int.reduceMul, Int.reduceBEq, Int.reduceEq, Int.reduceLT, Int.reduceLE, Int.reduceToNat, Int.reduceNeg, Int.reduceBNe]
  have hl : l.length ≤ 40 := by have := t_df h40; omega
  have t1 := dMark_spec l p now (by omega)
  have t2 := dClean_spec l p (by omega)
  have t3 := dSince_spec l p (by omega)
  have t4 := refs_spec l (by omega)
  have t5 := rSame_spec l (by omega)
  simp -implicitDefEqProofs only [↓aP, aQ, ↓reduceIte, Nat.reduceEqDiff, Nat.reduceAdd, Nat.reduceSub, Nat.reduceMul, Nat.reduceLT, Nat.reduceLeDiff, reduceCtorEq, Nat.reduceBEq, forall_const, implies_true, exists_const, ne_eq, Int.reduceAdd, Int.reduceSub, Int.reduceMul, Int.reduceBEq, Int.reduceEq, Int.reduceLT, Int.reduceLE, Int.reduceToNat, Int.reduceNeg, Int.reduceBNe]
  refine ask t4 ?_
  simp -implicitDefEqProofs only [↓aP, aQ, ↓reduceIte, Nat.reduceEqDiff, Nat.reduceAdd, Nat.reduceSub, Nat.reduceMul, Nat.reduceLT, Nat.reduceLeDiff, reduceCtorEq, Nat.reduceBEq, forall_const, implies_true, exists_const, ne_eq, Int.reduceAdd, Int.reduceSub, Int.reduceMul, Int.reduceBEq, Int.reduceEq, Int.reduceLT, Int.reduceLE, Int.reduceToNat, Int.reduceNeg, Int.reduceBNe]
  refine ask (rRight_spec l (by omega)) ?_
  simp -implicitDefEqProofs only [↓aP, aQ, ↓reduceIte, Nat.reduceEqDiff, Nat.reduceAdd, Nat.reduceSub, Nat.reduceMul, Nat.reduceLT, Nat.reduceLeDiff, reduceCtorEq, Nat.reduceBEq, forall_const, implies_true, exists_const, ne_eq, Int.reduceAdd, Int.reduceSub, Int.reduceMul, Int.reduceBEq, Int.reduceEq, Int.reduceLT, Int.reduceLE, Int.reduceToNat, Int.reduceNeg, Int.reduceBNe]
  refine ask (rFind_spec l p (by omega)) ?_
  simp -implicitDefEqProofs only [↓aP, aQ, ↓reduceIte, Nat.reduceEqDiff, Nat.reduceAdd, Nat.reduceSub, Nat.reduceMul, Nat.reduceLT, Nat.reduceLeDiff, reduceCtorEq, Nat.reduceBEq, forall_const, implies_true, exists_const, ne_eq, Int.reduceAdd, Int.reduceSub, Int.reduceMul, Int.reduceBEq, Int.reduceEq, Int.reduceLT, Int.reduceLE, Int.reduceToNat, Int.reduceNeg, Int.reduceBNe]
  cases hr : right l
  case false =>
    rw [show markI l p now = (l, 1) by unfold markI; rw [if_pos (.inl hr)]] at t1
    rw [show cleanI l p = (l, 1) by unfold cleanI; rw [if_pos hr]] at t2
    rw [show sinceI l p = (0, false) by unfold sinceI; rw [if_neg (by simp [hr])]] at t3
    refine ask t1 ?_
    simp -implicitDefEqProofs only [↓aP, aQ, ↓reduceIte, Nat.reduceEqDiff, Nat.reduceAdd, Nat.reduceSub, Nat.reduceMul, Nat.reduceLT, Nat.reduceLeDiff, reduceCtorEq, Nat.reduceBEq, forall_const, implies_true, exists_const, ne_eq, Int.reduceAdd, Int.reduceSub, Int.reduceMul, Int.reduceBEq, Int.reduceEq, Int.reduceLT, Int.reduceLE, Int.reduceToNat, Int.reduceNeg, Int.reduceBNe, encLs]
    refine ask t2 ?_
    simp -implicitDefEqProofs only [↓aP, aQ, ↓reduceIte, Nat.reduceEqDiff, Nat.reduceAdd, Nat.reduceSub, Nat.reduceMul, Nat.reduceLT, Nat.reduceLeDiff, reduceCtorEq, Nat.reduceBEq, forall_const, implies_true, exists_const, ne_eq, Int.reduceAdd, Int.reduceSub, Int.reduceMul, Int.reduceBEq, Int.reduceEq, Int.reduceLT, Int.reduceLE, Int.reduceToNat, Int.reduceNeg, Int.reduceBNe, encLs]
    refine ask t3 ?_
    simp -implicitDefEqProofs only [↓aP, aQ, ↓reduceIte, Nat.reduceEqDiff, Nat.reduceAdd, Nat.reduceSub, Nat.reduceMul, Nat.reduceLT, Nat.reduceLeDiff, reduceCtorEq, Nat.reduceBEq, forall_const, implies_true, exists_const, ne_eq, Int.reduceAdd, Int.reduceSub, Int.reduceMul, Int.reduceBEq, Int.reduceEq, Int.reduceLT, Int.reduceLE, Int.reduceToNat, Int.reduceNeg, Int.reduceBNe]
    refine ask (dRight_spec l (by omega)) ?_
    simp -implicitDefEqProofs only [↓aP, aQ, ↓reduceIte, Nat.reduceEqDiff, Nat.reduceAdd, Nat.reduceSub, Nat.reduceMul, Nat.reduceLT, Nat.reduceLeDiff, reduceCtorEq, Nat.reduceBEq, forall_const, implies_true, exists_const, ne_eq, Int.reduceAdd, Int.reduceSub, Int.reduceMul, Int.reduceBEq, Int.reduceEq, Int.reduceLT, Int.reduceLE, Int.reduceToNat, Int.reduceNeg, Int.reduceBNe, hr]
    refine ask t4 ?_
    simp -implicitDefEqProofs only [↓aP, aQ, ↓reduceIte, Nat.reduceEqDiff, Nat.reduceAdd, Nat.reduceSub, Nat.reduceMul, Nat.reduceLT, Nat.reduceLeDiff, reduceCtorEq, Nat.reduceBEq, forall_const, implies_true, exists_const, ne_eq, Int.reduceAdd, Int.reduceSub, Int.reduceMul, Int.reduceBEq, Int.reduceEq, Int.reduceLT, Int.reduceLE, Int.reduceToNat, Int.reduceNeg, Int.reduceBNe]
    refine ask t5 ?_
    simp -implicitDefEqProofs only [↓aP, aQ, ↓reduceIte, Nat.reduceEqDiff, Nat.reduceAdd, Nat.reduceSub, Nat.reduceMul, Nat.reduceLT, Nat.reduceLeDiff, reduceCtorEq, Nat.reduceBEq, forall_const, implies_true, exists_const, ne_eq, Int.reduceAdd, Int.reduceSub, Int.reduceMul, Int.reduceBEq, Int.reduceEq, Int.reduceLT, Int.reduceLE, Int.reduceToNat, Int.reduceNeg, Int.reduceBNe]
    refine ask t4 ?_
    simp -implicitDefEqProofs only [↓aP, aQ, ↓reduceIte, Nat.reduceEqDiff, Nat.reduceAdd, Nat.reduceSub, Nat.reduceMul, Nat.reduceLT, Nat.reduceLeDiff, reduceCtorEq, Nat.reduceBEq, forall_const, implies_true, exists_const, ne_eq, Int.reduceAdd, Int.reduceSub, Int.reduceMul, Int.reduceBEq, Int.reduceEq, Int.reduceLT, Int.reduceLE, Int.reduceToNat, Int.reduceNeg, Int.reduceBNe]
    refine ask t5 ?_
    simp -implicitDefEqProofs only [↓aP, aQ, ↓reduceIte, Nat.reduceEqDiff, Nat.reduceAdd, Nat.reduceSub, Nat.reduceMul, Nat.reduceLT, Nat.reduceLeDiff, reduceCtorEq, Nat.reduceBEq, forall_const, implies_true, exists_const, ne_eq, Int.reduceAdd, Int.reduceSub, Int.reduceMul, Int.reduceBEq, Int.reduceEq, Int.reduceLT, Int.reduceLE, Int.reduceToNat, Int.reduceNeg, Int.reduceBNe]
    refine ask awakeI_spec ?_
    simp -implicitDefEqProofs only [↓aP, aQ, ↓reduceIte, Nat.reduceEqDiff, Nat.reduceAdd, Nat.reduceSub, Nat.reduceMul, Nat.reduceLT, Nat.reduceLeDiff, reduceCtorEq, Nat.reduceBEq, forall_const, implies_true, exists_const, ne_eq, Int.reduceAdd, Int.reduceSub, Int.reduceMul, Int.reduceBEq, Int.reduceEq, Int.reduceLT, Int.reduceLE, Int.reduceToNat, Int.reduceNeg, Int.reduceBNe]
  have h16 := right_len hr
  have m1 : (p < 1 ∨ 16 < p ∨ now < 0 ∨ 2147483647 < now ∨ now < last l) → markI l p now = (l, 1) := fun h => by unfold markI; rw [if_pos (.inr h)]
  have m0 : ¬ (p < 1 ∨ 16 < p ∨ now < 0 ∨ 2147483647 < now ∨ now < last l) → markI l p now = if 0 ≤ at' l p then (l, 0) else (l ++ [⟨p, now⟩], 0) := fun h => by
    unfold markI; rw [if_neg (fun h2 => h2.elim (fun h3 => by simp [hr] at h3) h)]
  have e1 : 0 < l.length → ∀ h : l.length - 1 < l.length, last l = l[l.length - 1].since := fun h h2 => last_get h
  have e2 : 0 < l.length → IntKind.i64.wrap ((l.length : Int) - 1) = ((l.length - 1 : Nat) : Int) := fun h => by rw [wrapI (by omega)]; omega
  have e4 : l.length = 0 → last l = 0 := fun h => by rw [List.eq_nil_of_length_eq_zero h]; rfl
  have her : ∀ k : Nat, List.take k (l.map encIt) ++ List.drop (k + 1) (l.map encIt) = (l.eraseIdx k).map encIt := fun k => by simp [List.eraseIdx_eq_take_drop_succ, List.map_take, List.map_drop]
  have hsn : List.map encIt l ++ [[SC.pv (.int .i64 p), SC.pv (.int .i64 now)]] = List.map encIt (l ++ [⟨p, now⟩]) := by simp [encIt]
  have t6 := refs_spec (l ++ [⟨p, now⟩]) (by simp; omega)
  have t7 := rSame_spec (l ++ [⟨p, now⟩]) (by simp; omega)
  rcases at_cases l p with ⟨e, hno⟩ | ⟨k, hk, e, hkp, _⟩
  · rw [show cleanI l p = (l, 3) by unfold cleanI; rw [if_neg (by simp [hr]), if_pos (by omega)]] at t2
    rw [show sinceI l p = (0, false) by unfold sinceI; rw [if_neg (by omega)]] at t3
    by_cases hC : p < 1 ∨ 16 < p ∨ now < 0 ∨ 2147483647 < now ∨ now < last l
    · rw [m1 hC] at t1
      by_cases h0 : 0 < l.length
      · have e3 : decide ((0 : Int) < (l.length : Int)) = true := by simp; omega
        have e5 := e1 h0 (by omega)
        have hlt1 : l.length - 1 < l.length := by omega
        refine ask t1 ?_
        simp -implicitDefEqProofs only [↓aP, aQ, ↓reduceIte, Nat.reduceEqDiff, Nat.reduceAdd, Nat.reduceSub, Nat.reduceMul, Nat.reduceLT, Nat.reduceLeDiff, reduceCtorEq, Nat.reduceBEq, forall_const, implies_true, exists_const, ne_eq, Int.reduceAdd, Int.reduceSub, Int.reduceMul, Int.reduceBEq, Int.reduceEq, Int.reduceLT, Int.reduceLE, Int.reduceToNat, Int.reduceNeg, Int.reduceBNe, encLs, hr, e, encIt, her, hsn, e3, e2 h0, askIdx_map, hlt1]
        refine ask t2 ?_
        simp -implicitDefEqProofs only [↓aP, aQ, ↓reduceIte, Nat.reduceEqDiff, Nat.reduceAdd, Nat.reduceSub, Nat.reduceMul, Nat.reduceLT, Nat.reduceLeDiff, reduceCtorEq, Nat.reduceBEq, forall_const, implies_true, exists_const, ne_eq, Int.reduceAdd, Int.reduceSub, Int.reduceMul, Int.reduceBEq, Int.reduceEq, Int.reduceLT, Int.reduceLE, Int.reduceToNat, Int.reduceNeg, Int.reduceBNe, encLs, hr, e, encIt, her, hsn, e3, e2 h0, askIdx_map, hlt1]
        refine ask t3 ?_
        simp -implicitDefEqProofs only [↓aP, aQ, ↓reduceIte, Nat.reduceEqDiff, Nat.reduceAdd, Nat.reduceSub, Nat.reduceMul, Nat.reduceLT, Nat.reduceLeDiff, reduceCtorEq, Nat.reduceBEq, forall_const, implies_true, exists_const, ne_eq, Int.reduceAdd, Int.reduceSub, Int.reduceMul, Int.reduceBEq, Int.reduceEq, Int.reduceLT, Int.reduceLE, Int.reduceToNat, Int.reduceNeg, Int.reduceBNe, encLs, hr, e, encIt, her, hsn, e3, e2 h0, askIdx_map, hlt1]
        refine ask (dRight_spec l (by omega)) ?_
        simp -implicitDefEqProofs only [↓aP, aQ, ↓reduceIte, Nat.reduceEqDiff, Nat.reduceAdd, Nat.reduceSub, Nat.reduceMul, Nat.reduceLT, Nat.reduceLeDiff, reduceCtorEq, Nat.reduceBEq, forall_const, implies_true, exists_const, ne_eq, Int.reduceAdd, Int.reduceSub, Int.reduceMul, Int.reduceBEq, Int.reduceEq, Int.reduceLT, Int.reduceLE, Int.reduceToNat, Int.reduceNeg, Int.reduceBNe, encLs, hr, e, encIt, her, hsn, e3, e2 h0, askIdx_map, hlt1]
        repeat' ((first | ((first | with_reducible refine fork ?_ ?_ | with_reducible refine gcase ?_ ?_ | with_reducible refine gcaseD ?_ ?_) <;> intro hc <;> (have hp := hc) <;> (try simp only [aB] at hp)) | (have hc := True.intro; first | with_reducible refine askM (by omega) ?_ | with_reducible refine And.intro (by first | omega | decide +kernel) ?_ | refine ask (t4) ?_ | refine ask (t5) ?_ | refine ask (t6) ?_ | refine ask (t7) ?_ | refine ask (awakeI_spec) ?_ | fail)) <;> (try simp -implicitDefEqProofs only [↓aP, aQ, ↓reduceIte, Nat.reduceEqDiff, Nat.reduceAdd, Nat.reduceSub, Nat.reduceMul, Nat.reduceLT, Nat.reduceLeDiff, reduceCtorEq, Nat.reduceBEq, forall_const, implies_true, exists_const, ne_eq, Int.reduceAdd, Int.reduceSub, Int.reduceMul, Int.reduceBEq, Int.reduceEq, Int.reduceLT, Int.reduceLE, Int.reduceToNat, Int.reduceNeg, Int.reduceBNe, hc, encLs, hr, e, encIt, her, hsn, e3, e2 h0, askIdx_map, hlt1]))
        all_goals first | (exfalso; omega) | decide +kernel | all_goals (trace_state; sorry)
      · have e3 : decide ((0 : Int) < (l.length : Int)) = false := by rw [decide_eq_false_iff_not]; omega
        have e5 := e4 (by omega)
        refine ask t1 ?_
        simp -implicitDefEqProofs only [↓aP, aQ, ↓reduceIte, Nat.reduceEqDiff, Nat.reduceAdd, Nat.reduceSub, Nat.reduceMul, Nat.reduceLT, Nat.reduceLeDiff, reduceCtorEq, Nat.reduceBEq, forall_const, implies_true, exists_const, ne_eq, Int.reduceAdd, Int.reduceSub, Int.reduceMul, Int.reduceBEq, Int.reduceEq, Int.reduceLT, Int.reduceLE, Int.reduceToNat, Int.reduceNeg, Int.reduceBNe, encLs, hr, e, encIt, her, hsn, e3]
        refine ask t2 ?_
        simp -implicitDefEqProofs only [↓aP, aQ, ↓reduceIte, Nat.reduceEqDiff, Nat.reduceAdd, Nat.reduceSub, Nat.reduceMul, Nat.reduceLT, Nat.reduceLeDiff, reduceCtorEq, Nat.reduceBEq, forall_const, implies_true, exists_const, ne_eq, Int.reduceAdd, Int.reduceSub, Int.reduceMul, Int.reduceBEq, Int.reduceEq, Int.reduceLT, Int.reduceLE, Int.reduceToNat, Int.reduceNeg, Int.reduceBNe, encLs, hr, e, encIt, her, hsn, e3]
        refine ask t3 ?_
        simp -implicitDefEqProofs only [↓aP, aQ, ↓reduceIte, Nat.reduceEqDiff, Nat.reduceAdd, Nat.reduceSub, Nat.reduceMul, Nat.reduceLT, Nat.reduceLeDiff, reduceCtorEq, Nat.reduceBEq, forall_const, implies_true, exists_const, ne_eq, Int.reduceAdd, Int.reduceSub, Int.reduceMul, Int.reduceBEq, Int.reduceEq, Int.reduceLT, Int.reduceLE, Int.reduceToNat, Int.reduceNeg, Int.reduceBNe, encLs, hr, e, encIt, her, hsn, e3]
        refine ask (dRight_spec l (by omega)) ?_
        simp -implicitDefEqProofs only [↓aP, aQ, ↓reduceIte, Nat.reduceEqDiff, Nat.reduceAdd, Nat.reduceSub, Nat.reduceMul, Nat.reduceLT, Nat.reduceLeDiff, reduceCtorEq, Nat.reduceBEq, forall_const, implies_true, exists_const, ne_eq, Int.reduceAdd, Int.reduceSub, Int.reduceMul, Int.reduceBEq, Int.reduceEq, Int.reduceLT, Int.reduceLE, Int.reduceToNat, Int.reduceNeg, Int.reduceBNe, encLs, hr, e, encIt, her, hsn, e3]
        repeat' ((first | ((first | with_reducible refine fork ?_ ?_ | with_reducible refine gcase ?_ ?_ | with_reducible refine gcaseD ?_ ?_) <;> intro hc <;> (have hp := hc) <;> (try simp only [aB] at hp)) | (have hc := True.intro; first | with_reducible refine askM (by omega) ?_ | with_reducible refine And.intro (by first | omega | decide +kernel) ?_ | refine ask (t4) ?_ | refine ask (t5) ?_ | refine ask (t6) ?_ | refine ask (t7) ?_ | refine ask (awakeI_spec) ?_ | fail)) <;> (try simp -implicitDefEqProofs only [↓aP, aQ, ↓reduceIte, Nat.reduceEqDiff, Nat.reduceAdd, Nat.reduceSub, Nat.reduceMul, Nat.reduceLT, Nat.reduceLeDiff, reduceCtorEq, Nat.reduceBEq, forall_const, implies_true, exists_const, ne_eq, Int.reduceAdd, Int.reduceSub, Int.reduceMul, Int.reduceBEq, Int.reduceEq, Int.reduceLT, Int.reduceLE, Int.reduceToNat, Int.reduceNeg, Int.reduceBNe, hc, encLs, hr, e, encIt, her, hsn, e3]))
        all_goals first | (exfalso; omega) | decide +kernel | all_goals (trace_state; sorry)
    · rw [m0 hC, if_neg (by omega)] at t1
      by_cases h0 : 0 < l.length
      · have e3 : decide ((0 : Int) < (l.length : Int)) = true := by simp; omega
        have e5 := e1 h0 (by omega)
        have hlt1 : l.length - 1 < l.length := by omega
        refine ask t1 ?_
        simp -implicitDefEqProofs only [↓aP, aQ, ↓reduceIte, Nat.reduceEqDiff, Nat.reduceAdd, Nat.reduceSub, Nat.reduceMul, Nat.reduceLT, Nat.reduceLeDiff, reduceCtorEq, Nat.reduceBEq, forall_const, implies_true, exists_const, ne_eq, Int.reduceAdd, Int.reduceSub, Int.reduceMul, Int.reduceBEq, Int.reduceEq, Int.reduceLT, Int.reduceLE, Int.reduceToNat, Int.reduceNeg, Int.reduceBNe, encLs, hr, e, encIt, her, hsn, e3, e2 h0, askIdx_map, hlt1]
        refine ask t2 ?_
        simp -implicitDefEqProofs only [↓aP, aQ, ↓reduceIte, Nat.reduceEqDiff, Nat.reduceAdd, Nat.reduceSub, Nat.reduceMul, Nat.reduceLT, Nat.reduceLeDiff, reduceCtorEq, Nat.reduceBEq, forall_const, implies_true, exists_const, ne_eq, Int.reduceAdd, Int.reduceSub, Int.reduceMul, Int.reduceBEq, Int.reduceEq, Int.reduceLT, Int.reduceLE, Int.reduceToNat, Int.reduceNeg, Int.reduceBNe, encLs, hr, e, encIt, her, hsn, e3, e2 h0, askIdx_map, hlt1]
        refine ask t3 ?_
        simp -implicitDefEqProofs only [↓aP, aQ, ↓reduceIte, Nat.reduceEqDiff, Nat.reduceAdd, Nat.reduceSub, Nat.reduceMul, Nat.reduceLT, Nat.reduceLeDiff, reduceCtorEq, Nat.reduceBEq, forall_const, implies_true, exists_const, ne_eq, Int.reduceAdd, Int.reduceSub, Int.reduceMul, Int.reduceBEq, Int.reduceEq, Int.reduceLT, Int.reduceLE, Int.reduceToNat, Int.reduceNeg, Int.reduceBNe, encLs, hr, e, encIt, her, hsn, e3, e2 h0, askIdx_map, hlt1]
        refine ask (dRight_spec l (by omega)) ?_
        simp -implicitDefEqProofs only [↓aP, aQ, ↓reduceIte, Nat.reduceEqDiff, Nat.reduceAdd, Nat.reduceSub, Nat.reduceMul, Nat.reduceLT, Nat.reduceLeDiff, reduceCtorEq, Nat.reduceBEq, forall_const, implies_true, exists_const, ne_eq, Int.reduceAdd, Int.reduceSub, Int.reduceMul, Int.reduceBEq, Int.reduceEq, Int.reduceLT, Int.reduceLE, Int.reduceToNat, Int.reduceNeg, Int.reduceBNe, encLs, hr, e, encIt, her, hsn, e3, e2 h0, askIdx_map, hlt1]
        repeat' ((first | ((first | with_reducible refine fork ?_ ?_ | with_reducible refine gcase ?_ ?_ | with_reducible refine gcaseD ?_ ?_) <;> intro hc <;> (have hp := hc) <;> (try simp only [aB] at hp)) | (have hc := True.intro; first | with_reducible refine askM (by omega) ?_ | with_reducible refine And.intro (by first | omega | decide +kernel) ?_ | refine ask (t4) ?_ | refine ask (t5) ?_ | refine ask (t6) ?_ | refine ask (t7) ?_ | refine ask (awakeI_spec) ?_ | fail)) <;> (try simp -implicitDefEqProofs only [↓aP, aQ, ↓reduceIte, Nat.reduceEqDiff, Nat.reduceAdd, Nat.reduceSub, Nat.reduceMul, Nat.reduceLT, Nat.reduceLeDiff, reduceCtorEq, Nat.reduceBEq, forall_const, implies_true, exists_const, ne_eq, Int.reduceAdd, Int.reduceSub, Int.reduceMul, Int.reduceBEq, Int.reduceEq, Int.reduceLT, Int.reduceLE, Int.reduceToNat, Int.reduceNeg, Int.reduceBNe, hc, encLs, hr, e, encIt, her, hsn, e3, e2 h0, askIdx_map, hlt1]))
        all_goals first | (exfalso; omega) | decide +kernel | all_goals (trace_state; sorry)
      · have e3 : decide ((0 : Int) < (l.length : Int)) = false := by rw [decide_eq_false_iff_not]; omega
        have e5 := e4 (by omega)
        refine ask t1 ?_
        simp -implicitDefEqProofs only [↓aP, aQ, ↓reduceIte, Nat.reduceEqDiff, Nat.reduceAdd, Nat.reduceSub, Nat.reduceMul, Nat.reduceLT, Nat.reduceLeDiff, reduceCtorEq, Nat.reduceBEq, forall_const, implies_true, exists_const, ne_eq, Int.reduceAdd, Int.reduceSub, Int.reduceMul, Int.reduceBEq, Int.reduceEq, Int.reduceLT, Int.reduceLE, Int.reduceToNat, Int.reduceNeg, Int.reduceBNe, encLs, hr, e, encIt, her, hsn, e3]
        refine ask t2 ?_
        simp -implicitDefEqProofs only [↓aP, aQ, ↓reduceIte, Nat.reduceEqDiff, Nat.reduceAdd, Nat.reduceSub, Nat.reduceMul, Nat.reduceLT, Nat.reduceLeDiff, reduceCtorEq, Nat.reduceBEq, forall_const, implies_true, exists_const, ne_eq, Int.reduceAdd, Int.reduceSub, Int.reduceMul, Int.reduceBEq, Int.reduceEq, Int.reduceLT, Int.reduceLE, Int.reduceToNat, Int.reduceNeg, Int.reduceBNe, encLs, hr, e, encIt, her, hsn, e3]
        refine ask t3 ?_
        simp -implicitDefEqProofs only [↓aP, aQ, ↓reduceIte, Nat.reduceEqDiff, Nat.reduceAdd, Nat.reduceSub, Nat.reduceMul, Nat.reduceLT, Nat.reduceLeDiff, reduceCtorEq, Nat.reduceBEq, forall_const, implies_true, exists_const, ne_eq, Int.reduceAdd, Int.reduceSub, Int.reduceMul, Int.reduceBEq, Int.reduceEq, Int.reduceLT, Int.reduceLE, Int.reduceToNat, Int.reduceNeg, Int.reduceBNe, encLs, hr, e, encIt, her, hsn, e3]
        refine ask (dRight_spec l (by omega)) ?_
        simp -implicitDefEqProofs only [↓aP, aQ, ↓reduceIte, Nat.reduceEqDiff, Nat.reduceAdd, Nat.reduceSub, Nat.reduceMul, Nat.reduceLT, Nat.reduceLeDiff, reduceCtorEq, Nat.reduceBEq, forall_const, implies_true, exists_const, ne_eq, Int.reduceAdd, Int.reduceSub, Int.reduceMul, Int.reduceBEq, Int.reduceEq, Int.reduceLT, Int.reduceLE, Int.reduceToNat, Int.reduceNeg, Int.reduceBNe, encLs, hr, e, encIt, her, hsn, e3]
        repeat' ((first | ((first | with_reducible refine fork ?_ ?_ | with_reducible refine gcase ?_ ?_ | with_reducible refine gcaseD ?_ ?_) <;> intro hc <;> (have hp := hc) <;> (try simp only [aB] at hp)) | (have hc := True.intro; first | with_reducible refine askM (by omega) ?_ | with_reducible refine And.intro (by first | omega | decide +kernel) ?_ | refine ask (t4) ?_ | refine ask (t5) ?_ | refine ask (t6) ?_ | refine ask (t7) ?_ | refine ask (awakeI_spec) ?_ | fail)) <;> (try simp -implicitDefEqProofs only [↓aP, aQ, ↓reduceIte, Nat.reduceEqDiff, Nat.reduceAdd, Nat.reduceSub, Nat.reduceMul, Nat.reduceLT, Nat.reduceLeDiff, reduceCtorEq, Nat.reduceBEq, forall_const, implies_true, exists_const, ne_eq, Int.reduceAdd, Int.reduceSub, Int.reduceMul, Int.reduceBEq, Int.reduceEq, Int.reduceLT, Int.reduceLE, Int.reduceToNat, Int.reduceNeg, Int.reduceBNe, hc, encLs, hr, e, encIt, her, hsn, e3]))
        all_goals first | (exfalso; omega) | decide +kernel | all_goals (trace_state; sorry)
  · rw [show cleanI l p = (l.eraseIdx k, 0) by unfold cleanI; rw [if_neg (by simp [hr]), if_neg (by omega), e]; rfl] at t2
    rw [show sinceI l p = (l[k].since, true) by unfold sinceI; rw [if_pos ⟨hr, by omega⟩, sinceOf_at hk e]] at t3
    have h0 : 0 < l.length := by omega
    have e3 : decide ((0 : Int) < (l.length : Int)) = true := by simp; omega
    have e5 := e1 h0 (by omega)
    have hlt1 : l.length - 1 < l.length := by omega
    have e6 : (l.eraseIdx k).length ≤ 40 := Nat.le_trans (List.length_eraseIdx_le ..) hl
    have e7 : ((k : Int) + 1).toNat = k + 1 := by omega
    have e8 := wrapI (show -9223372036854775808 ≤ (k : Int) + 1 ∧ (k : Int) + 1 ≤ 9223372036854775807 by omega)
    have e9 : decide ((k : Int) < 0) = false := by simp
    have e10 : decide ((0 : Int) ≤ (k : Int)) = true := by simp
    have htk : List.take l.length (l.map encIt) = l.map encIt := List.take_of_length_le (by simp)
    have t8 := refs_spec (l.eraseIdx k) (by omega)
    have t9 := rSame_spec (l.eraseIdx k) (by omega)
    by_cases hC : p < 1 ∨ 16 < p ∨ now < 0 ∨ 2147483647 < now ∨ now < last l
    · rw [m1 hC] at t1
      refine ask t1 ?_
      simp -implicitDefEqProofs only [↓aP, aQ, ↓reduceIte, Nat.reduceEqDiff, Nat.reduceAdd, Nat.reduceSub, Nat.reduceMul, Nat.reduceLT, Nat.reduceLeDiff, reduceCtorEq, Nat.reduceBEq, forall_const, implies_true, exists_const, ne_eq, Int.reduceAdd, Int.reduceSub, Int.reduceMul, Int.reduceBEq, Int.reduceEq, Int.reduceLT, Int.reduceLE, Int.reduceToNat, Int.reduceNeg, Int.reduceBNe, encLs, hr, e, encIt, her, hsn, e3, e2 h0, askIdx_map, hlt1, hk, e7, e8, e9, e10, htk, List.length_take, List.length_drop]
      refine ask t2 ?_
      simp -implicitDefEqProofs only [↓aP, aQ, ↓reduceIte, Nat.reduceEqDiff, Nat.reduceAdd, Nat.reduceSub, Nat.reduceMul, Nat.reduceLT, Nat.reduceLeDiff, reduceCtorEq, Nat.reduceBEq, forall_const, implies_true, exists_const, ne_eq, Int.reduceAdd, Int.reduceSub, Int.reduceMul, Int.reduceBEq, Int.reduceEq, Int.reduceLT, Int.reduceLE, Int.reduceToNat, Int.reduceNeg, Int.reduceBNe, encLs, hr, e, encIt, her, hsn, e3, e2 h0, askIdx_map, hlt1, hk, e7, e8, e9, e10, htk, List.length_take, List.length_drop]
      refine ask t3 ?_
      simp -implicitDefEqProofs only [↓aP, aQ, ↓reduceIte, Nat.reduceEqDiff, Nat.reduceAdd, Nat.reduceSub, Nat.reduceMul, Nat.reduceLT, Nat.reduceLeDiff, reduceCtorEq, Nat.reduceBEq, forall_const, implies_true, exists_const, ne_eq, Int.reduceAdd, Int.reduceSub, Int.reduceMul, Int.reduceBEq, Int.reduceEq, Int.reduceLT, Int.reduceLE, Int.reduceToNat, Int.reduceNeg, Int.reduceBNe, encLs, hr, e, encIt, her, hsn, e3, e2 h0, askIdx_map, hlt1, hk, e7, e8, e9, e10, htk, List.length_take, List.length_drop]
      refine ask (dRight_spec l (by omega)) ?_
      simp -implicitDefEqProofs only [↓aP, aQ, ↓reduceIte, Nat.reduceEqDiff, Nat.reduceAdd, Nat.reduceSub, Nat.reduceMul, Nat.reduceLT, Nat.reduceLeDiff, reduceCtorEq, Nat.reduceBEq, forall_const, implies_true, exists_const, ne_eq, Int.reduceAdd, Int.reduceSub, Int.reduceMul, Int.reduceBEq, Int.reduceEq, Int.reduceLT, Int.reduceLE, Int.reduceToNat, Int.reduceNeg, Int.reduceBNe, encLs, hr, e, encIt, her, hsn, e3, e2 h0, askIdx_map, hlt1, hk, e7, e8, e9, e10, htk, List.length_take, List.length_drop]
      repeat' ((first | ((first | with_reducible refine fork ?_ ?_ | with_reducible refine gcase ?_ ?_ | with_reducible refine gcaseD ?_ ?_) <;> intro hc <;> (have hp := hc) <;> (try simp only [aB] at hp)) | (have hc := True.intro; first | with_reducible refine askM (by omega) ?_ | with_reducible refine And.intro (by first | omega | decide +kernel) ?_ | refine ask (t4) ?_ | refine ask (t5) ?_ | refine ask (t6) ?_ | refine ask (t7) ?_ | refine ask (t8) ?_ | refine ask (t9) ?_ | refine ask (awakeI_spec) ?_ | fail)) <;> (try simp -implicitDefEqProofs only [↓aP, aQ, ↓reduceIte, Nat.reduceEqDiff, Nat.reduceAdd, Nat.reduceSub, Nat.reduceMul, Nat.reduceLT, Nat.reduceLeDiff, reduceCtorEq, Nat.reduceBEq, forall_const, implies_true, exists_const, ne_eq, Int.reduceAdd, Int.reduceSub, Int.reduceMul, Int.reduceBEq, Int.reduceEq, Int.reduceLT, Int.reduceLE, Int.reduceToNat, Int.reduceNeg, Int.reduceBNe, hc, encLs, hr, e, encIt, her, hsn, e3, e2 h0, askIdx_map, hlt1, hk, e7, e8, e9, e10, htk, List.length_take, List.length_drop]))
      all_goals first | (exfalso; omega) | decide +kernel | all_goals (trace_state; sorry)
    · rw [m0 hC, if_pos (by omega)] at t1
      refine ask t1 ?_
      simp -implicitDefEqProofs only [↓aP, aQ, ↓reduceIte, Nat.reduceEqDiff, Nat.reduceAdd, Nat.reduceSub, Nat.reduceMul, Nat.reduceLT, Nat.reduceLeDiff, reduceCtorEq, Nat.reduceBEq, forall_const, implies_true, exists_const, ne_eq, Int.reduceAdd, Int.reduceSub, Int.reduceMul, Int.reduceBEq, Int.reduceEq, Int.reduceLT, Int.reduceLE, Int.reduceToNat, Int.reduceNeg, Int.reduceBNe, encLs, hr, e, encIt, her, hsn, e3, e2 h0, askIdx_map, hlt1, hk, e7, e8, e9, e10, htk, List.length_take, List.length_drop]
      refine ask t2 ?_
      simp -implicitDefEqProofs only [↓aP, aQ, ↓reduceIte, Nat.reduceEqDiff, Nat.reduceAdd, Nat.reduceSub, Nat.reduceMul, Nat.reduceLT, Nat.reduceLeDiff, reduceCtorEq, Nat.reduceBEq, forall_const, implies_true, exists_const, ne_eq, Int.reduceAdd, Int.reduceSub, Int.reduceMul, Int.reduceBEq, Int.reduceEq, Int.reduceLT, Int.reduceLE, Int.reduceToNat, Int.reduceNeg, Int.reduceBNe, encLs, hr, e, encIt, her, hsn, e3, e2 h0, askIdx_map, hlt1, hk, e7, e8, e9, e10, htk, List.length_take, List.length_drop]
      refine ask t3 ?_
      simp -implicitDefEqProofs only [↓aP, aQ, ↓reduceIte, Nat.reduceEqDiff, Nat.reduceAdd, Nat.reduceSub, Nat.reduceMul, Nat.reduceLT, Nat.reduceLeDiff, reduceCtorEq, Nat.reduceBEq, forall_const, implies_true, exists_const, ne_eq, Int.reduceAdd, Int.reduceSub, Int.reduceMul, Int.reduceBEq, Int.reduceEq, Int.reduceLT, Int.reduceLE, Int.reduceToNat, Int.reduceNeg, Int.reduceBNe, encLs, hr, e, encIt, her, hsn, e3, e2 h0, askIdx_map, hlt1, hk, e7, e8, e9, e10, htk, List.length_take, List.length_drop]
      refine ask (dRight_spec l (by omega)) ?_
      simp -implicitDefEqProofs only [↓aP, aQ, ↓reduceIte, Nat.reduceEqDiff, Nat.reduceAdd, Nat.reduceSub, Nat.reduceMul, Nat.reduceLT, Nat.reduceLeDiff, reduceCtorEq, Nat.reduceBEq, forall_const, implies_true, exists_const, ne_eq, Int.reduceAdd, Int.reduceSub, Int.reduceMul, Int.reduceBEq, Int.reduceEq, Int.reduceLT, Int.reduceLE, Int.reduceToNat, Int.reduceNeg, Int.reduceBNe, encLs, hr, e, encIt, her, hsn, e3, e2 h0, askIdx_map, hlt1, hk, e7, e8, e9, e10, htk, List.length_take, List.length_drop]
      repeat' ((first | ((first | with_reducible refine fork ?_ ?_ | with_reducible refine gcase ?_ ?_ | with_reducible refine gcaseD ?_ ?_) <;> intro hc <;> (have hp := hc) <;> (try simp only [aB] at hp)) | (have hc := True.intro; first | with_reducible refine askM (by omega) ?_ | with_reducible refine And.intro (by first | omega | decide +kernel) ?_ | refine ask (t4) ?_ | refine ask (t5) ?_ | refine ask (t6) ?_ | refine ask (t7) ?_ | refine ask (t8) ?_ | refine ask (t9) ?_ | refine ask (awakeI_spec) ?_ | fail)) <;> (try simp -implicitDefEqProofs only [↓aP, aQ, ↓reduceIte, Nat.reduceEqDiff, Nat.reduceAdd, Nat.reduceSub, Nat.reduceMul, Nat.reduceLT, Nat.reduceLeDiff, reduceCtorEq, Nat.reduceBEq, forall_const, implies_true, exists_const, ne_eq, Int.reduceAdd, Int.reduceSub, Int.reduceMul, Int.reduceBEq, Int.reduceEq, Int.reduceLT, Int.reduceLE, Int.reduceToNat, Int.reduceNeg, Int.reduceBNe, hc, encLs, hr, e, encIt, her, hsn, e3, e2 h0, askIdx_map, hlt1, hk, e7, e8, e9, e10, htk, List.length_take, List.length_drop]))
      all_goals first | (exfalso; omega) | decide +kernel | all_goals (trace_state; sorry)
theorem opens_it {H : Type} {enc : TypeId × Value → H} {w : World} {spare : Nat → Bool} {held : Bool} : Opens Try.prog enc w spare held 72 2 (fun ys => ∃ x : It, ys = encIt x) := by
  have h := opens_struct (enc := enc) (w := w) (spare := spare) (held := held) Try.underlying72 (by kernel_rfl) (.cons rfl (opens_int Try.underlying3 (by kernel_rfl)) (.cons rfl (opens_int Try.underlying3 (by kernel_rfl)) (.nil _)))
  refine ⟨h.1, fun fuel cs x hx => ?_⟩
  obtain ⟨ys, ⟨_, _, rfl, ⟨n1, rfl, _⟩, _, _, rfl, ⟨n2, rfl, _⟩, rfl⟩, h2, h3⟩ := h.2 _ _ _ hx
  exact ⟨_, ⟨⟨n1, n2⟩, rfl⟩, h2, h3⟩
set_option maxRecDepth 100000 in
theorem open_its {H : Type} {enc : TypeId × Value → H} {w : World} {spare : Nat → Bool} {held : Bool} {r : Reach} {b0 : Nat} {v : Value} {d : DataW H} {p : List MemPlace} 
    (hv : Value.okWide Try.prog w r b0 59 v) (h : DataW.Trod enc Try.prog w 0 spare held 59 v d p) : ∃ l : List It, RepT (RepS w fun _ => False) (rL 2 (l.map encIt)) v := by
  obtain ⟨y, ⟨els, e1, e2, e3⟩, h2⟩ := open_one (opens_slice Try.underlying59 (by kernel_rfl) (by decide) opens_it) (slice_cells Try.underlying59 hv) h
  simp only [List.cons.injEq, and_true] at e1
  subst e1
  obtain ⟨l, rfl⟩ := all_of_mem (f := encIt) (fun y hy => e2 y hy)
  exact ⟨l, h2⟩
theorem dirtyExact_walk {w : World} (v0 : Value) (a0 : ∃ l : List It, RepT (RepS w fun _ => False) (rL 2 (l.map encIt)) v0) (a : Int) (ha : (Lit.int .i64 a).wf = true) (b : Int) (hb : (Lit.int .i64 b).wf = true) :
    Calls Try.prog 9 #[v0, .int .i64 a, .int .i64 b] w fun e w' => e = .returned (.bool true) ∧ Below w.heap.size w w' := by
  obtain ⟨l, h0⟩ := a0
  exact (dirtyExact_spec l a b).plain (us := [v0, .int .i64 a, .int .i64 b]) (.cons h0 (.cons (.pv rfl) (.cons (.pv rfl) .nil)))
end Go.Proofs.Ytphamleejifhoaa
