/- layer 4: Crash; the reference: May, Right, Submit. -/
import Derived.Test.YtfmbfgoofiojcaaV3
import Derived.Laws.StructEq
namespace Go.Proofs.Ytfmbfgoofiojcaa
open Go.RowKit
set_option linter.unusedVariables false
set_option linter.unusedSimpArgs false
def crashV (d : Dv) (keep : List Int) : Dv := if rightV d then ⟨crashD d.disk keep, d.next, []⟩ else d
theorem dvcrash_spec (d : Dv) (keep : List Int) (hk : keep.length < 4611686018427387904) : Spec Try.prog 65 [.agg (encDv d), rL 1 (keep.map encI)] (.val (.agg (encDv (crashV d keep)))) := by
  refine spec_val mixed fn65 (by simp) ?_
  unfold ac65
  simp -implicitDefEqProofs only [↓aP, aQ, ↓reduceIte, Nat.reduceEqDiff, Nat.reduceAdd, Nat.reduceSub, Nat.reduceMul, Nat.reduceLT, Nat.reduceLeDiff, reduceCtorEq, Nat.reduceBEq, forall_const, implies_true, exists_const, ne_eq, Int.reduceAdd, Int.reduceSub, Int.reduceMul, Int.reduceBEq, Int.reduceEq, Int.reduceLT, Int.reduceLE, Int.reduceToNat, Int.reduceNeg, Int.reduceBNe, encDv]
  refine ask (dvRight_spec d) ?_
  cases hr : rightV d
  · simp -implicitDefEqProofs only [↓aP, aQ, ↓reduceIte, Nat.reduceEqDiff, Nat.reduceAdd, Nat.reduceSub, Nat.reduceMul, Nat.reduceLT, Nat.reduceLeDiff, reduceCtorEq, Nat.reduceBEq, forall_const, implies_true, exists_const, ne_eq, Int.reduceAdd, Int.reduceSub, Int.reduceMul, Int.reduceBEq, Int.reduceEq, Int.reduceLT, Int.reduceLE, Int.reduceToNat, Int.reduceNeg, Int.reduceBNe, encDv, crashV, hr]
  · simp -implicitDefEqProofs only [↓aP, aQ, ↓reduceIte, Nat.reduceEqDiff, Nat.reduceAdd, Nat.reduceSub, Nat.reduceMul, Nat.reduceLT, Nat.reduceLeDiff, reduceCtorEq, Nat.reduceBEq, forall_const, implies_true, exists_const, ne_eq, Int.reduceAdd, Int.reduceSub, Int.reduceMul, Int.reduceBEq, Int.reduceEq, Int.reduceLT, Int.reduceLE, Int.reduceToNat, Int.reduceNeg, Int.reduceBNe, encDv, crashV, hr]
    repeat' ((first | ((first | with_reducible refine fork ?_ ?_ | with_reducible refine gcase ?_ ?_ | with_reducible refine gcaseD ?_ ?_) <;> intro hc <;> (have hp := hc) <;> (try simp only [aB] at hp)) | (have hc := True.intro; first | with_reducible refine askM (by omega) ?_ | with_reducible refine And.intro (by first | omega | decide +kernel) ?_ | refine ask (crash_spec d.disk keep hk) ?_ | fail)) <;> (try simp -implicitDefEqProofs only [↓aP, aQ, ↓reduceIte, Nat.reduceEqDiff, Nat.reduceAdd, Nat.reduceSub, Nat.reduceMul, Nat.reduceLT, Nat.reduceLeDiff, reduceCtorEq, Nat.reduceBEq, forall_const, implies_true, exists_const, ne_eq, Int.reduceAdd, Int.reduceSub, Int.reduceMul, Int.reduceBEq, Int.reduceEq, Int.reduceLT, Int.reduceLE, Int.reduceToNat, Int.reduceNeg, Int.reduceBNe, hc, encDk]))
    decide +kernel
theorem may_spec (k p : Int) (s : ByteArray) : Spec Try.prog 54 [rI k, rI p, rS s] (.val (rB (isB k p s))) := by
  refine spec_val mixed fn54 (by simp) ?_
  unfold ac54
  have hsz := toL_nil s
  simp -implicitDefEqProofs only [↓aP, aQ, ↓reduceIte, Nat.reduceEqDiff, Nat.reduceAdd, Nat.reduceSub, Nat.reduceMul, Nat.reduceLT, Nat.reduceLeDiff, reduceCtorEq, Nat.reduceBEq, forall_const, implies_true, exists_const, ne_eq, Int.reduceAdd, Int.reduceSub, Int.reduceMul, Int.reduceBEq, Int.reduceEq, Int.reduceLT, Int.reduceLE, Int.reduceToNat, Int.reduceNeg, Int.reduceBNe, nilL]
  repeat' ((first | ((first | with_reducible refine fork ?_ ?_ | with_reducible refine gcase ?_ ?_ | with_reducible refine gcaseD ?_ ?_) <;> intro hc <;> (have hp := hc) <;> (try simp only [aB] at hp)) | (have hc := True.intro; first | with_reducible refine askM (by omega) ?_ | with_reducible refine And.intro (by first | omega | decide +kernel) ?_ | fail)) <;> (try simp -implicitDefEqProofs only [↓aP, aQ, ↓reduceIte, Nat.reduceEqDiff, Nat.reduceAdd, Nat.reduceSub, Nat.reduceMul, Nat.reduceLT, Nat.reduceLeDiff, reduceCtorEq, Nat.reduceBEq, forall_const, implies_true, exists_const, ne_eq, Int.reduceAdd, Int.reduceSub, Int.reduceMul, Int.reduceBEq, Int.reduceEq, Int.reduceLT, Int.reduceLE, Int.reduceToNat, Int.reduceNeg, Int.reduceBNe, hc, nilL]))
  all_goals (first | omega | (simp_all [isB]; done) | (simp_all [isB]; omega) | grind [isB])

theorem refRightV_spec (d : Dv) : Spec Try.prog 80 [.agg (encDv d)] (.val (rB (rightV d))) := by
  refine spec_val mixed fn80 (by simp) ?_
  unfold ac80
  simp -implicitDefEqProofs only [↓aP, aQ, ↓reduceIte, Nat.reduceEqDiff, Nat.reduceAdd, Nat.reduceSub, Nat.reduceMul, Nat.reduceLT, Nat.reduceLeDiff, reduceCtorEq, Nat.reduceBEq, forall_const, implies_true, exists_const, ne_eq, Int.reduceAdd, Int.reduceSub, Int.reduceMul, Int.reduceBEq, Int.reduceEq, Int.reduceLT, Int.reduceLE, Int.reduceToNat, Int.reduceNeg, Int.reduceBNe, encDv]
  repeat' ((first | ((first | with_reducible refine fork ?_ ?_ | with_reducible refine gcase ?_ ?_ | with_reducible refine gcaseD ?_ ?_) <;> intro hc <;> (have hp := hc) <;> (try simp only [aB] at hp)) | (have hc := True.intro; first | with_reducible refine askM (by omega) ?_ | with_reducible refine And.intro (by first | omega | decide +kernel) ?_ | refine ask (refRight_spec d.disk) ?_ | fail)) <;> (try simp -implicitDefEqProofs only [↓aP, aQ, ↓reduceIte, Nat.reduceEqDiff, Nat.reduceAdd, Nat.reduceSub, Nat.reduceMul, Nat.reduceLT, Nat.reduceLeDiff, reduceCtorEq, Nat.reduceBEq, forall_const, implies_true, exists_const, ne_eq, Int.reduceAdd, Int.reduceSub, Int.reduceMul, Int.reduceBEq, Int.reduceEq, Int.reduceLT, Int.reduceLE, Int.reduceToNat, Int.reduceNeg, Int.reduceBNe, hc, encDv]))
  all_goals first | with_reducible refine rangeB d.flight.length (fun i σ => (∃ last, okF d.next (-1) d.flight = okF d.next last (d.flight.drop i) ∧ (i = 0 → last = -1) ∧ (∀ h : i - 1 < d.flight.length, 0 < i → d.flight[i - 1].ticket = last) ∧ -1 ≤ last) ∧ σ.slot 1 = .c (.ptr 1 1 0 0) ∧ σ.h.gen 1 = 1 ∧ σ.h.blk 1 = .box 75 4 [(encDv d).map AC.s] ∧ σ.slot 3 = vI i) ?_ ?_ ?_ | (first | omega | (simp_all [rightV]; done) | (simp_all [rightV]; omega) | grind [rightV])
  · simp -implicitDefEqProofs only [↓aP, aQ, ↓reduceIte, Nat.reduceEqDiff, Nat.reduceAdd, Nat.reduceSub, Nat.reduceMul, Nat.reduceLT, Nat.reduceLeDiff, reduceCtorEq, Nat.reduceBEq, forall_const, implies_true, exists_const, ne_eq, Int.reduceAdd, Int.reduceSub, Int.reduceMul, Int.reduceBEq, Int.reduceEq, Int.reduceLT, Int.reduceLE, Int.reduceToNat, Int.reduceNeg, Int.reduceBNe, encDv]
    exact ⟨-1, rfl, rfl, by omega⟩
  · rintro i m σ him hi hlt ⟨⟨last, hok, hl1, hl2, hl3⟩, s1, g1, b1, s3⟩
    simp only [encDv] at b1
    rw [drop_cons hi, okF] at hok
    simp -implicitDefEqProofs only [↓aP, aQ, ↓reduceIte, Nat.reduceEqDiff, Nat.reduceAdd, Nat.reduceSub, Nat.reduceMul, Nat.reduceLT, Nat.reduceLeDiff, reduceCtorEq, Nat.reduceBEq, forall_const, implies_true, exists_const, ne_eq, Int.reduceAdd, Int.reduceSub, Int.reduceMul, Int.reduceBEq, Int.reduceEq, Int.reduceLT, Int.reduceLE, Int.reduceToNat, Int.reduceNeg, Int.reduceBNe, hlt, s1, g1, b1, s3]
    have e1 : ((i : Int) - 1).toNat = i - 1 := by omega
    have e2 := hl2 (by omega)
    repeat' ((first | ((first | with_reducible refine fork ?_ ?_ | with_reducible refine gcase ?_ ?_ | with_reducible refine gcaseD ?_ ?_) <;> intro hc <;> (have hp := hc) <;> (try simp only [aB] at hp)) | (have hc := True.intro; first | with_reducible refine askM (by omega) ?_ | with_reducible refine And.intro (by first | omega | decide +kernel) ?_ | refine ask (may_spec _ _ _) ?_ | fail)) <;> (try simp -implicitDefEqProofs only [↓aP, aQ, ↓reduceIte, Nat.reduceEqDiff, Nat.reduceAdd, Nat.reduceSub, Nat.reduceMul, Nat.reduceLT, Nat.reduceLeDiff, reduceCtorEq, Nat.reduceBEq, forall_const, implies_true, exists_const, ne_eq, Int.reduceAdd, Int.reduceSub, Int.reduceMul, Int.reduceBEq, Int.reduceEq, Int.reduceLT, Int.reduceLE, Int.reduceToNat, Int.reduceNeg, Int.reduceBNe, hc, s1, g1, b1, s3, e1, wrapS (show i < 4611686018427387904 by omega), encRq, wrapI (show -9223372036854775808 ≤ (i : Int) - 1 ∧ (i : Int) - 1 ≤ 9223372036854775807 by omega)]))
    all_goals first
      | (refine nextR hi him ?_
         simp -implicitDefEqProofs only [↓aP, aQ, ↓reduceIte, Nat.reduceEqDiff, Nat.reduceAdd, Nat.reduceSub, Nat.reduceMul, Nat.reduceLT, Nat.reduceLeDiff, reduceCtorEq, Nat.reduceBEq, forall_const, implies_true, exists_const, ne_eq, Int.reduceAdd, Int.reduceSub, Int.reduceMul, Int.reduceBEq, Int.reduceEq, Int.reduceLT, Int.reduceLE, Int.reduceToNat, Int.reduceNeg, Int.reduceBNe, encDv, s1, g1, b1, s3, wrapS (show i < 4611686018427387904 by omega)]
         refine ⟨d.flight[i].ticket, ?_, fun h h0 => rfl, by omega⟩
         simp_all
         try omega)
      | (first | omega | (simp_all [rightV]; done) | (simp_all [rightV]; omega) | grind [rightV])
  · rintro m σ hlt ⟨⟨last, hok, hl1, hl2, hl3⟩, s1, g1, b1, s3⟩
    simp only [encDv] at b1
    simp -implicitDefEqProofs only [↓aP, aQ, ↓reduceIte, Nat.reduceEqDiff, Nat.reduceAdd, Nat.reduceSub, Nat.reduceMul, Nat.reduceLT, Nat.reduceLeDiff, reduceCtorEq, Nat.reduceBEq, forall_const, implies_true, exists_const, ne_eq, Int.reduceAdd, Int.reduceSub, Int.reduceMul, Int.reduceBEq, Int.reduceEq, Int.reduceLT, Int.reduceLE, Int.reduceToNat, Int.reduceNeg, Int.reduceBNe, hlt, s1, g1, b1, s3]
    (first | omega | (simp_all [rightV, okF]; done) | (simp_all [rightV, okF]; omega) | grind [rightV, okF])
theorem refSubmit_spec (d : Dv) (k p : Int) (s : ByteArray) : Spec Try.prog 83 [.agg (encDv d), rI k, rI p, rS s] (.val (encSub (submitV d k p s))) := by
  refine spec_val mixed fn83 (by simp) ?_
  unfold ac83
  simp -implicitDefEqProofs only [↓aP, aQ, ↓reduceIte, Nat.reduceEqDiff, Nat.reduceAdd, Nat.reduceSub, Nat.reduceMul, Nat.reduceLT, Nat.reduceLeDiff, reduceCtorEq, Nat.reduceBEq, forall_const, implies_true, exists_const, ne_eq, Int.reduceAdd, Int.reduceSub, Int.reduceMul, Int.reduceBEq, Int.reduceEq, Int.reduceLT, Int.reduceLE, Int.reduceToNat, Int.reduceNeg, Int.reduceBNe, encDv, encSub]
  refine ask (refRightV_spec d) ?_
  cases hr : rightV d
  · simp -implicitDefEqProofs only [↓aP, aQ, ↓reduceIte, Nat.reduceEqDiff, Nat.reduceAdd, Nat.reduceSub, Nat.reduceMul, Nat.reduceLT, Nat.reduceLeDiff, reduceCtorEq, Nat.reduceBEq, forall_const, implies_true, exists_const, ne_eq, Int.reduceAdd, Int.reduceSub, Int.reduceMul, Int.reduceBEq, Int.reduceEq, Int.reduceLT, Int.reduceLE, Int.reduceToNat, Int.reduceNeg, Int.reduceBNe, encDv, encSub]
    (first | omega | (simp_all [submitV]; done) | (simp_all [submitV]; omega) | grind [submitV])
  have hl := rightV_len hr
  simp -implicitDefEqProofs only [↓aP, aQ, ↓reduceIte, Nat.reduceEqDiff, Nat.reduceAdd, Nat.reduceSub, Nat.reduceMul, Nat.reduceLT, Nat.reduceLeDiff, reduceCtorEq, Nat.reduceBEq, forall_const, implies_true, exists_const, ne_eq, Int.reduceAdd, Int.reduceSub, Int.reduceMul, Int.reduceBEq, Int.reduceEq, Int.reduceLT, Int.reduceLE, Int.reduceToNat, Int.reduceNeg, Int.reduceBNe, encDv, encSub]
  repeat' ((first | ((first | with_reducible refine fork ?_ ?_ | with_reducible refine gcase ?_ ?_ | with_reducible refine gcaseD ?_ ?_) <;> intro hc <;> (have hp := hc) <;> (try simp only [aB] at hp)) | (have hc := True.intro; first | with_reducible refine askM (by omega) ?_ | with_reducible refine And.intro (by first | omega | decide +kernel) ?_ | refine ask (may_spec k p s) ?_ | fail)) <;> (try simp -implicitDefEqProofs only [↓aP, aQ, ↓reduceIte, Nat.reduceEqDiff, Nat.reduceAdd, Nat.reduceSub, Nat.reduceMul, Nat.reduceLT, Nat.reduceLeDiff, reduceCtorEq, Nat.reduceBEq, forall_const, implies_true, exists_const, ne_eq, Int.reduceAdd, Int.reduceSub, Int.reduceMul, Int.reduceBEq, Int.reduceEq, Int.reduceLT, Int.reduceLE, Int.reduceToNat, Int.reduceNeg, Int.reduceBNe, hc, encDv, encSub, wrapI (show -9223372036854775808 ≤ d.next + 1 ∧ d.next + 1 ≤ 9223372036854775807 by omega)]))
  all_goals (first | omega | (simp_all [submitV, encRq]; done) | (simp_all [submitV, encRq]; omega) | grind [submitV, encRq])
theorem sizeW {n m : Nat} (h : n ≤ m) (hm : m * 1000 ≤ 140737488355328) : (n : Int) * 40 ≤ 140737488355328 ∧ (n : Int) ≤ 9223372036854775807 := by omega
/-- the first i requests but the one at k -/
def lessAt (l : List Rq) (k i : Nat) : List Rq := (l.take i).eraseIdx k
theorem lessAt_succ {l : List Rq} {k i : Nat} (hi : i < l.length) : lessAt l k (i + 1) = if i = k then lessAt l k i else lessAt l k i ++ [l[i]] := by
  unfold lessAt
  rw [take_snoc hi]
  have hlen : (l.take i).length = i := by rw [List.length_take]; omega
  by_cases h : i = k
  · rw [if_pos h, ← h, List.eraseIdx_append_of_length_le (by omega), hlen]
    simp
    rw [List.eraseIdx_of_length_le (by omega)]
  · rw [if_neg h]
    by_cases h2 : k < i
    · rw [List.eraseIdx_append_of_lt_length (by omega)]
    · rw [List.eraseIdx_append_of_length_le (by omega), hlen, List.eraseIdx_of_length_le (by simp; omega), List.eraseIdx_of_length_le (by omega)]

theorem refFinish_spec (d : Dv) (i : Int) (fault : Bool) : Spec Try.prog 64 [.agg (encDv d), rI i, rB fault] (.val (encFin (finishV d i fault))) := by
  refine spec_val mixed fn64 (by simp) ?_
  unfold ac64
  simp -implicitDefEqProofs only [↓aP, aQ, ↓reduceIte, Nat.reduceEqDiff, Nat.reduceAdd, Nat.reduceSub, Nat.reduceMul, Nat.reduceLT, Nat.reduceLeDiff, reduceCtorEq, Nat.reduceBEq, forall_const, implies_true, exists_const, ne_eq, Int.reduceAdd, Int.reduceSub, Int.reduceMul, Int.reduceBEq, Int.reduceEq, Int.reduceLT, Int.reduceLE, Int.reduceToNat, Int.reduceNeg, Int.reduceBNe, encDv, encFin]
  refine ask (refRightV_spec d) ?_
  have hno : ¬ (rightV d = true ∧ 0 ≤ i ∧ i < d.flight.length) → finishV d i fault = (d, noRq, 1) := fun h => by unfold finishV; rw [dif_neg h]
  cases hr : rightV d
  · have hno' := hno (by simp [hr])
    simp -implicitDefEqProofs only [↓aP, aQ, ↓reduceIte, Nat.reduceEqDiff, Nat.reduceAdd, Nat.reduceSub, Nat.reduceMul, Nat.reduceLT, Nat.reduceLeDiff, reduceCtorEq, Nat.reduceBEq, forall_const, implies_true, exists_const, ne_eq, Int.reduceAdd, Int.reduceSub, Int.reduceMul, Int.reduceBEq, Int.reduceEq, Int.reduceLT, Int.reduceLE, Int.reduceToNat, Int.reduceNeg, Int.reduceBNe, encDv, encFin, hno', noRq, encRq]
  obtain ⟨h1, h2, h3, h4, h5, h6⟩ := rightV_len hr
  by_cases hi : 0 ≤ i ∧ i < d.flight.length
  case neg =>
    have hno' := hno (fun h => hi h.2)
    simp -implicitDefEqProofs only [↓aP, aQ, ↓reduceIte, Nat.reduceEqDiff, Nat.reduceAdd, Nat.reduceSub, Nat.reduceMul, Nat.reduceLT, Nat.reduceLeDiff, reduceCtorEq, Nat.reduceBEq, forall_const, implies_true, exists_const, ne_eq, Int.reduceAdd, Int.reduceSub, Int.reduceMul, Int.reduceBEq, Int.reduceEq, Int.reduceLT, Int.reduceLE, Int.reduceToNat, Int.reduceNeg, Int.reduceBNe, encDv, encFin]
    repeat' ((first | ((first | with_reducible refine fork ?_ ?_ | with_reducible refine gcase ?_ ?_ | with_reducible refine gcaseD ?_ ?_) <;> intro hc <;> (have hp := hc) <;> (try simp only [aB] at hp)) | (have hc := True.intro; first | with_reducible refine askM (by omega) ?_ | with_reducible refine And.intro (by first | omega | decide +kernel) ?_ | fail)) <;> (try simp -implicitDefEqProofs only [↓aP, aQ, ↓reduceIte, Nat.reduceEqDiff, Nat.reduceAdd, Nat.reduceSub, Nat.reduceMul, Nat.reduceLT, Nat.reduceLeDiff, reduceCtorEq, Nat.reduceBEq, forall_const, implies_true, exists_const, ne_eq, Int.reduceAdd, Int.reduceSub, Int.reduceMul, Int.reduceBEq, Int.reduceEq, Int.reduceLT, Int.reduceLE, Int.reduceToNat, Int.reduceNeg, Int.reduceBNe, hc, encDv, encFin, hno', noRq, encRq]))
    all_goals first | omega | trivial
  obtain ⟨k, rfl⟩ : ∃ k : Nat, i = k := ⟨i.toNat, by omega⟩
  have hk : k < d.flight.length := by omega
  have e1 : decide ((k : Int) < 0) = false := by simp
  have e2 : decide ((d.flight.length : Int) ≤ (k : Int)) = false := by simp; omega
  have hfin : finishV d k fault = if fault then (⟨d.disk, d.next, d.flight.eraseIdx k⟩, d.flight[k], 8) else (⟨(doV d.disk d.flight[k]).1, d.next, d.flight.eraseIdx k⟩, (doV d.disk d.flight[k]).2.1, (doV d.disk d.flight[k]).2.2) := by
    unfold finishV
    rw [dif_pos ⟨hr, hi⟩]
    rfl
  rw [hfin]
  simp -implicitDefEqProofs only [↓aP, aQ, ↓reduceIte, Nat.reduceEqDiff, Nat.reduceAdd, Nat.reduceSub, Nat.reduceMul, Nat.reduceLT, Nat.reduceLeDiff, reduceCtorEq, Nat.reduceBEq, forall_const, implies_true, exists_const, ne_eq, Int.reduceAdd, Int.reduceSub, Int.reduceMul, Int.reduceBEq, Int.reduceEq, Int.reduceLT, Int.reduceLE, Int.reduceToNat, Int.reduceNeg, Int.reduceBNe, encDv, encFin, e1, e2]
  refine shift (sub_cell (p := 9) (i := 0) (j := 3) 54 133 4 rfl (by exact Nat.succ_pos _) (by rfl) (by decide) (by decide)) ?_
  refine rangeB d.flight.length (fun i σ => ∃ g, σ.slot 1 = vI k ∧ σ.slot 2 = vB fault ∧ σ.slot 3 = .c (.ptr 3 1 0 0) ∧ σ.h.gen 3 = 1 ∧ σ.h.blk 3 = .box 75 4 [(encDv d).map AC.s] ∧ σ.slot 6 = .c (.ptr 6 1 0 0) ∧ σ.h.gen 6 = 1 ∧ σ.h.blk 6 = .box 75 4 [[.zc, .zc, .s (.pv (.int .i64 0)), .zc]] ∧ σ.slot 7 = .c (.ptr 7 1 0 0) ∧ σ.h.gen 7 = 1 ∧ σ.h.blk 7 = .box 133 4 [[.s (.pv (.int .i64 0)), .s (.pv (.int .i64 0)), .s (.pv (.int .i64 0)), .s (.pv (.string ⟨#[]⟩))]] ∧ σ.slot 9 = .c (.ptr 9 1 0 0) ∧ σ.h.gen 9 = 1 ∧ σ.h.blk 9 = .box 75 4 [[.s (.sl 1 (d.disk.sectors.map encS)), .s (.sl 2 (d.disk.cache.map encWr)), .s (.pv (.int .i64 d.next)), .own 54 g]] ∧ σ.slot 10 = vI i ∧ σ.h.gen 54 = g ∧ σ.h.blk 54 = .row 133 4 ((lessAt d.flight k i).map encRq)) ?_ ?_ ?_
  · simp -implicitDefEqProofs only [↓aP, aQ, ↓reduceIte, Nat.reduceEqDiff, Nat.reduceAdd, Nat.reduceSub, Nat.reduceMul, Nat.reduceLT, Nat.reduceLeDiff, reduceCtorEq, Nat.reduceBEq, forall_const, implies_true, exists_const, ne_eq, Int.reduceAdd, Int.reduceSub, Int.reduceMul, Int.reduceBEq, Int.reduceEq, Int.reduceLT, Int.reduceLE, Int.reduceToNat, Int.reduceNeg, Int.reduceBNe, encDv]
    exact ⟨1, rfl, rfl, rfl⟩
  · rintro i m σ him hi2 hlt ⟨g, s1, s2, s3, g3, b3, s6, g6, b6, s7, g7, b7, s9, g9, b9, s10, g54, b54⟩
    simp only [encDv] at b3
    have e5 := lessAt_succ (l := d.flight) (k := k) hi2
    have e6 : (lessAt d.flight k i).length ≤ 4 := by unfold lessAt; have := List.length_eraseIdx_le (d.flight.take i) k; rw [List.length_take] at this; omega
    simp -implicitDefEqProofs only [↓aP, aQ, ↓reduceIte, Nat.reduceEqDiff, Nat.reduceAdd, Nat.reduceSub, Nat.reduceMul, Nat.reduceLT, Nat.reduceLeDiff, reduceCtorEq, Nat.reduceBEq, forall_const, implies_true, exists_const, ne_eq, Int.reduceAdd, Int.reduceSub, Int.reduceMul, Int.reduceBEq, Int.reduceEq, Int.reduceLT, Int.reduceLE, Int.reduceToNat, Int.reduceNeg, Int.reduceBNe, hlt, s1, s2, s3, g3, b3, s6, g6, b6, s7, g7, b7, s9, g9, b9, s10, g54, b54]
    cases hik : ((i : Int) != (k : Int))
    · have e7 : i = k := by have := t_nf hik; omega
      rw [if_pos e7] at e5
      simp -implicitDefEqProofs only [↓aP, aQ, ↓reduceIte, Nat.reduceEqDiff, Nat.reduceAdd, Nat.reduceSub, Nat.reduceMul, Nat.reduceLT, Nat.reduceLeDiff, reduceCtorEq, Nat.reduceBEq, forall_const, implies_true, exists_const, ne_eq, Int.reduceAdd, Int.reduceSub, Int.reduceMul, Int.reduceBEq, Int.reduceEq, Int.reduceLT, Int.reduceLE, Int.reduceToNat, Int.reduceNeg, Int.reduceBNe, s1, s2, s3, g3, b3, s6, g6, b6, s7, g7, b7, s9, g9, b9, s10, g54, b54, wrapS (show i < 4611686018427387904 by omega)]
      refine nextR hi2 him ?_
      simp -implicitDefEqProofs only [↓aP, aQ, ↓reduceIte, Nat.reduceEqDiff, Nat.reduceAdd, Nat.reduceSub, Nat.reduceMul, Nat.reduceLT, Nat.reduceLeDiff, reduceCtorEq, Nat.reduceBEq, forall_const, implies_true, exists_const, ne_eq, Int.reduceAdd, Int.reduceSub, Int.reduceMul, Int.reduceBEq, Int.reduceEq, Int.reduceLT, Int.reduceLE, Int.reduceToNat, Int.reduceNeg, Int.reduceBNe, s1, s2, s3, g3, b3, s6, g6, b6, s7, g7, b7, s9, g9, b9, s10, g54, b54, e5, encDv]
      exact ⟨g, by simp⟩
    · have e7 : i ≠ k := by have := t_nt hik; omega
      rw [if_neg e7] at e5
      simp -implicitDefEqProofs only [↓aP, aQ, ↓reduceIte, Nat.reduceEqDiff, Nat.reduceAdd, Nat.reduceSub, Nat.reduceMul, Nat.reduceLT, Nat.reduceLeDiff, reduceCtorEq, Nat.reduceBEq, forall_const, implies_true, exists_const, ne_eq, Int.reduceAdd, Int.reduceSub, Int.reduceMul, Int.reduceBEq, Int.reduceEq, Int.reduceLT, Int.reduceLE, Int.reduceToNat, Int.reduceNeg, Int.reduceBNe, s1, s2, s3, g3, b3, s6, g6, b6, s7, g7, b7, s9, g9, b9, s10, g54, b54, askIdx_map, hi2, encRq, wrapS (show i < 4611686018427387904 by omega)]
      refine ⟨by omega, by omega, by decide +kernel, nextR hi2 him ?_⟩
      simp -implicitDefEqProofs only [↓aP, aQ, ↓reduceIte, Nat.reduceEqDiff, Nat.reduceAdd, Nat.reduceSub, Nat.reduceMul, Nat.reduceLT, Nat.reduceLeDiff, reduceCtorEq, Nat.reduceBEq, forall_const, implies_true, exists_const, ne_eq, Int.reduceAdd, Int.reduceSub, Int.reduceMul, Int.reduceBEq, Int.reduceEq, Int.reduceLT, Int.reduceLE, Int.reduceToNat, Int.reduceNeg, Int.reduceBNe, s1, s2, s3, g3, b3, s6, g6, b6, s7, g7, b7, s9, g9, b9, s10, g54, b54, e5, encDv]
      exact ⟨g + 1, by simp [encRq]⟩
  · rintro m σ hlt ⟨g, s1, s2, s3, g3, b3, s6, g6, b6, s7, g7, b7, s9, g9, b9, s10, g54, b54⟩
    simp only [encDv] at b3
    have e8 : lessAt d.flight k d.flight.length = d.flight.eraseIdx k := by unfold lessAt; rw [List.take_length]
    rw [e8] at b54
    generalize hR : d.flight[k] = R
    have hB : isB R.kind R.page R.data = true := okF_is h6 _ (by rw [← hR]; exact List.getElem_mem hk)
    simp -implicitDefEqProofs only [↓aP, aQ, ↓reduceIte, Nat.reduceEqDiff, Nat.reduceAdd, Nat.reduceSub, Nat.reduceMul, Nat.reduceLT, Nat.reduceLeDiff, reduceCtorEq, Nat.reduceBEq, forall_const, implies_true, exists_const, ne_eq, Int.reduceAdd, Int.reduceSub, Int.reduceMul, Int.reduceBEq, Int.reduceEq, Int.reduceLT, Int.reduceLE, Int.reduceToNat, Int.reduceNeg, Int.reduceBNe, hlt, s1, s2, s3, g3, b3, s6, g6, b6, s7, g7, b7, s9, g9, b9, s10, g54, b54, askIdx_map, hk, hR, encRq]
    clear hno hfin e1 e2 hi
    cases fault
    case true =>
      simp -implicitDefEqProofs only [↓aP, aQ, ↓reduceIte, Nat.reduceEqDiff, Nat.reduceAdd, Nat.reduceSub, Nat.reduceMul, Nat.reduceLT, Nat.reduceLeDiff, reduceCtorEq, Nat.reduceBEq, forall_const, implies_true, exists_const, ne_eq, Int.reduceAdd, Int.reduceSub, Int.reduceMul, Int.reduceBEq, Int.reduceEq, Int.reduceLT, Int.reduceLE, Int.reduceToNat, Int.reduceNeg, Int.reduceBNe, encRq, s1, s2, s3, g3, b3, s6, g6, b6, s7, g7, b7, s9, g9, b9, s10, g54, b54]
      decide +kernel
    obtain ⟨t, kd, pg, s⟩ := R
    simp only at hB
    have hs1 := read_size (a := 2 * pg + 1) h1
    have hs2 := read_size (a := 2 * pg + 2) h1
    have hw := right_len h1
    rcases isB_cases hB with ⟨rfl, q1, q2⟩ | ⟨rfl, q1, q2, q3⟩ | ⟨rfl, rfl⟩
    · simp -implicitDefEqProofs only [↓aP, aQ, ↓reduceIte, Nat.reduceEqDiff, Nat.reduceAdd, Nat.reduceSub, Nat.reduceMul, Nat.reduceLT, Nat.reduceLeDiff, reduceCtorEq, Nat.reduceBEq, forall_const, implies_true, exists_const, ne_eq, Int.reduceAdd, Int.reduceSub, Int.reduceMul, Int.reduceBEq, Int.reduceEq, Int.reduceLT, Int.reduceLE, Int.reduceToNat, Int.reduceNeg, Int.reduceBNe, s1, s2, s3, g3, b3, s6, g6, b6, s7, g7, b7, s9, g9, b9, s10, g54, b54, encDk, wrapI (show -9223372036854775808 ≤ 2 * pg ∧ 2 * pg ≤ 9223372036854775807 by omega), wrapI (show -9223372036854775808 ≤ 2 * pg + 1 ∧ 2 * pg + 1 ≤ 9223372036854775807 by omega)]
      have e9 : 2 * pg + 1 + 1 = 2 * pg + 2 := by omega
      refine ask (refRead_spec d.disk (2 * pg + 1) h1 (by simp [hasB]; omega)) ?_
      simp -implicitDefEqProofs only [↓aP, aQ, ↓reduceIte, Nat.reduceEqDiff, Nat.reduceAdd, Nat.reduceSub, Nat.reduceMul, Nat.reduceLT, Nat.reduceLeDiff, reduceCtorEq, Nat.reduceBEq, forall_const, implies_true, exists_const, ne_eq, Int.reduceAdd, Int.reduceSub, Int.reduceMul, Int.reduceBEq, Int.reduceEq, Int.reduceLT, Int.reduceLE, Int.reduceToNat, Int.reduceNeg, Int.reduceBNe, s1, s2, s3, g3, b3, s6, g6, b6, s7, g7, b7, s9, g9, b9, s10, g54, b54, encDk, e9, wrapI (show -9223372036854775808 ≤ 2 * pg + 2 ∧ 2 * pg + 2 ≤ 9223372036854775807 by omega)]
      refine ask (refRead_spec d.disk (2 * pg + 2) h1 (by simp [hasB]; omega)) ?_
      simp -implicitDefEqProofs only [↓aP, aQ, ↓reduceIte, Nat.reduceEqDiff, Nat.reduceAdd, Nat.reduceSub, Nat.reduceMul, Nat.reduceLT, Nat.reduceLeDiff, reduceCtorEq, Nat.reduceBEq, forall_const, implies_true, exists_const, ne_eq, Int.reduceAdd, Int.reduceSub, Int.reduceMul, Int.reduceBEq, Int.reduceEq, Int.reduceLT, Int.reduceLE, Int.reduceToNat, Int.reduceNeg, Int.reduceBNe, s1, s2, s3, g3, b3, s6, g6, b6, s7, g7, b7, s9, g9, b9, s10, g54, b54]
      repeat' ((first | ((first | with_reducible refine fork ?_ ?_ | with_reducible refine gcase ?_ ?_ | with_reducible refine gcaseD ?_ ?_) <;> intro hc <;> (have hp := hc) <;> (try simp only [aB] at hp)) | (have hc := True.intro; first | with_reducible refine askM (by omega) ?_ | with_reducible refine And.intro (by first | omega | decide +kernel) ?_ | fail)) <;> (try simp -implicitDefEqProofs only [↓aP, aQ, ↓reduceIte, Nat.reduceEqDiff, Nat.reduceAdd, Nat.reduceSub, Nat.reduceMul, Nat.reduceLT, Nat.reduceLeDiff, reduceCtorEq, Nat.reduceBEq, forall_const, implies_true, exists_const, ne_eq, Int.reduceAdd, Int.reduceSub, Int.reduceMul, Int.reduceBEq, Int.reduceEq, Int.reduceLT, Int.reduceLE, Int.reduceToNat, Int.reduceNeg, Int.reduceBNe, hc, s1, s2, s3, g3, b3, s6, g6, b6, s7, g7, b7, s9, g9, b9, s10, g54, b54, doV, pageD]))
      all_goals decide +kernel
    · simp -implicitDefEqProofs only [↓aP, aQ, ↓reduceIte, Nat.reduceEqDiff, Nat.reduceAdd, Nat.reduceSub, Nat.reduceMul, Nat.reduceLT, Nat.reduceLeDiff, reduceCtorEq, Nat.reduceBEq, forall_const, implies_true, exists_const, ne_eq, Int.reduceAdd, Int.reduceSub, Int.reduceMul, Int.reduceBEq, Int.reduceEq, Int.reduceLT, Int.reduceLE, Int.reduceToNat, Int.reduceNeg, Int.reduceBNe, s1, s2, s3, g3, b3, s6, g6, b6, s7, g7, b7, s9, g9, b9, s10, g54, b54, encDk, wrapI (show -9223372036854775808 ≤ 2 * pg ∧ 2 * pg ≤ 9223372036854775807 by omega), wrapI (show -9223372036854775808 ≤ 2 * pg + 1 ∧ 2 * pg + 1 ≤ 9223372036854775807 by omega)]
      have e9 : 2 * pg + 1 + 1 = 2 * pg + 2 := by omega
      have hf1 : fitsB d.disk ⟨2 * pg + 1, s.extract 0 16⟩ = true := by simp [fitsB, hasB]; omega
      have hf2 : ∀ c, fitsB ⟨d.disk.sectors, c⟩ ⟨2 * pg + 2, s.extract 16 s.size⟩ = true := fun c => by simp [fitsB, hasB]; omega
      have w2 := wrapI (show -9223372036854775808 ≤ 2 * pg + 2 ∧ 2 * pg + 2 ≤ 9223372036854775807 by omega)
      refine ⟨by omega, by omega, ?_⟩
      have p0 : d.disk.cache.length = 200 → putD d.disk ⟨2 * pg + 1, s.extract 0 16⟩ = (d.disk, 7) := fun h => by simp [putD, h1, hf1, h]
      have p1 : d.disk.cache.length ≠ 200 → putD d.disk ⟨2 * pg + 1, s.extract 0 16⟩ = (⟨d.disk.sectors, d.disk.cache ++ [⟨2 * pg + 1, s.extract 0 16⟩]⟩, 0) := put_ok h1 hf1
      have hr1 : d.disk.cache.length ≠ 200 → rightB ⟨d.disk.sectors, d.disk.cache ++ [⟨2 * pg + 1, s.extract 0 16⟩]⟩ = true := right_put h1 hf1
      refine fork ?_ ?_ <;> intro h200
      · have h200' := t_dt h200
        have hne : d.disk.cache.length ≠ 200 := by omega
        simp -implicitDefEqProofs only [↓aP, aQ, ↓reduceIte, Nat.reduceEqDiff, Nat.reduceAdd, Nat.reduceSub, Nat.reduceMul, Nat.reduceLT, Nat.reduceLeDiff, reduceCtorEq, Nat.reduceBEq, forall_const, implies_true, exists_const, ne_eq, Int.reduceAdd, Int.reduceSub, Int.reduceMul, Int.reduceBEq, Int.reduceEq, Int.reduceLT, Int.reduceLE, Int.reduceToNat, Int.reduceNeg, Int.reduceBNe, s1, s2, s3, g3, b3, s6, g6, b6, s7, g7, b7, s9, g9, b9, s10, g54, b54, encDk, encWr, q3, List.length_append]
        (repeat' (with_reducible refine And.intro (by omega) ?_))
        refine fork ?_ ?_ <;> intro h199
        · have h199' : ¬ d.disk.cache.length + 1 = 200 := by simp at h199; omega
          have p2 := put_ok (hr1 hne) (hf2 _) (by simpa using h199')
          rw [q3] at p2
          simp -implicitDefEqProofs only [↓aP, aQ, ↓reduceIte, Nat.reduceEqDiff, Nat.reduceAdd, Nat.reduceSub, Nat.reduceMul, Nat.reduceLT, Nat.reduceLeDiff, reduceCtorEq, Nat.reduceBEq, forall_const, implies_true, exists_const, ne_eq, Int.reduceAdd, Int.reduceSub, Int.reduceMul, Int.reduceBEq, Int.reduceEq, Int.reduceLT, Int.reduceLE, Int.reduceToNat, Int.reduceNeg, Int.reduceBNe, s1, s2, s3, g3, b3, s6, g6, b6, s7, g7, b7, s9, g9, b9, s10, g54, b54, encDk, encWr, q3, List.length_append, e9, w2]
          repeat' ((first | ((first | with_reducible refine fork ?_ ?_ | with_reducible refine gcase ?_ ?_ | with_reducible refine gcaseD ?_ ?_) <;> intro hc <;> (have hp := hc) <;> (try simp only [aB] at hp)) | (have hc := True.intro; first | with_reducible refine askM (by omega) ?_ | with_reducible refine And.intro (by first | omega | decide +kernel) ?_ | fail)) <;> (try simp -implicitDefEqProofs only [↓aP, aQ, ↓reduceIte, Nat.reduceEqDiff, Nat.reduceAdd, Nat.reduceSub, Nat.reduceMul, Nat.reduceLT, Nat.reduceLeDiff, reduceCtorEq, Nat.reduceBEq, forall_const, implies_true, exists_const, ne_eq, Int.reduceAdd, Int.reduceSub, Int.reduceMul, Int.reduceBEq, Int.reduceEq, Int.reduceLT, Int.reduceLE, Int.reduceToNat, Int.reduceNeg, Int.reduceBNe, hc, s1, s2, s3, g3, b3, s6, g6, b6, s7, g7, b7, s9, g9, b9, s10, g54, b54, encDk, encWr, q3]))
          all_goals first | (simp [doV, writeD, p1 hne, p2, q3, encWr, List.append_assoc]; done) | (exfalso; omega) | (exfalso; simp_all; done)
        · have h199' : d.disk.cache.length + 1 = 200 := by simp at h199; omega
          have p2 : putD ⟨d.disk.sectors, d.disk.cache ++ [⟨2 * pg + 1, s.extract 0 16⟩]⟩ ⟨2 * pg + 2, s.extract 16 s.size⟩ = (⟨d.disk.sectors, d.disk.cache ++ [⟨2 * pg + 1, s.extract 0 16⟩]⟩, 7) := by simp [putD, hr1 hne, hf2, h199']
          rw [q3] at p2
          simp -implicitDefEqProofs only [↓aP, aQ, ↓reduceIte, Nat.reduceEqDiff, Nat.reduceAdd, Nat.reduceSub, Nat.reduceMul, Nat.reduceLT, Nat.reduceLeDiff, reduceCtorEq, Nat.reduceBEq, forall_const, implies_true, exists_const, ne_eq, Int.reduceAdd, Int.reduceSub, Int.reduceMul, Int.reduceBEq, Int.reduceEq, Int.reduceLT, Int.reduceLE, Int.reduceToNat, Int.reduceNeg, Int.reduceBNe, s1, s2, s3, g3, b3, s6, g6, b6, s7, g7, b7, s9, g9, b9, s10, g54, b54, encDk, encWr, q3, List.length_append, h199']
          repeat' ((first | ((first | with_reducible refine fork ?_ ?_ | with_reducible refine gcase ?_ ?_ | with_reducible refine gcaseD ?_ ?_) <;> intro hc <;> (have hp := hc) <;> (try simp only [aB] at hp)) | (have hc := True.intro; first | with_reducible refine askM (by omega) ?_ | with_reducible refine And.intro (by first | omega | decide +kernel) ?_ | fail)) <;> (try simp -implicitDefEqProofs only [↓aP, aQ, ↓reduceIte, Nat.reduceEqDiff, Nat.reduceAdd, Nat.reduceSub, Nat.reduceMul, Nat.reduceLT, Nat.reduceLeDiff, reduceCtorEq, Nat.reduceBEq, forall_const, implies_true, exists_const, ne_eq, Int.reduceAdd, Int.reduceSub, Int.reduceMul, Int.reduceBEq, Int.reduceEq, Int.reduceLT, Int.reduceLE, Int.reduceToNat, Int.reduceNeg, Int.reduceBNe, hc, s1, s2, s3, g3, b3, s6, g6, b6, s7, g7, b7, s9, g9, b9, s10, g54, b54, encDk, encWr, q3]))
          all_goals first | (simp [doV, writeD, p1 hne, p2, q3, encWr, List.append_assoc]; done) | (exfalso; omega) | (exfalso; simp_all; done)
      · have h200' := t_df h200
        simp -implicitDefEqProofs only [↓aP, aQ, ↓reduceIte, Nat.reduceEqDiff, Nat.reduceAdd, Nat.reduceSub, Nat.reduceMul, Nat.reduceLT, Nat.reduceLeDiff, reduceCtorEq, Nat.reduceBEq, forall_const, implies_true, exists_const, ne_eq, Int.reduceAdd, Int.reduceSub, Int.reduceMul, Int.reduceBEq, Int.reduceEq, Int.reduceLT, Int.reduceLE, Int.reduceToNat, Int.reduceNeg, Int.reduceBNe, s1, s2, s3, g3, b3, s6, g6, b6, s7, g7, b7, s9, g9, b9, s10, g54, b54, encDk, encWr]
        repeat' ((first | ((first | with_reducible refine fork ?_ ?_ | with_reducible refine gcase ?_ ?_ | with_reducible refine gcaseD ?_ ?_) <;> intro hc <;> (have hp := hc) <;> (try simp only [aB] at hp)) | (have hc := True.intro; first | with_reducible refine askM (by omega) ?_ | with_reducible refine And.intro (by first | omega | decide +kernel) ?_ | fail)) <;> (try simp -implicitDefEqProofs only [↓aP, aQ, ↓reduceIte, Nat.reduceEqDiff, Nat.reduceAdd, Nat.reduceSub, Nat.reduceMul, Nat.reduceLT, Nat.reduceLeDiff, reduceCtorEq, Nat.reduceBEq, forall_const, implies_true, exists_const, ne_eq, Int.reduceAdd, Int.reduceSub, Int.reduceMul, Int.reduceBEq, Int.reduceEq, Int.reduceLT, Int.reduceLE, Int.reduceToNat, Int.reduceNeg, Int.reduceBNe, hc, s1, s2, s3, g3, b3, s6, g6, b6, s7, g7, b7, s9, g9, b9, s10, g54, b54, encDk, encWr, q3]))
        all_goals (simp [doV, writeD, p0 (by omega)]; done)
    · simp -implicitDefEqProofs only [↓aP, aQ, ↓reduceIte, Nat.reduceEqDiff, Nat.reduceAdd, Nat.reduceSub, Nat.reduceMul, Nat.reduceLT, Nat.reduceLeDiff, reduceCtorEq, Nat.reduceBEq, forall_const, implies_true, exists_const, ne_eq, Int.reduceAdd, Int.reduceSub, Int.reduceMul, Int.reduceBEq, Int.reduceEq, Int.reduceLT, Int.reduceLE, Int.reduceToNat, Int.reduceNeg, Int.reduceBNe, s1, s2, s3, g3, b3, s6, g6, b6, s7, g7, b7, s9, g9, b9, s10, g54, b54, encDk, wrap_zero]
      refine ask (refSync_spec d.disk h1) ?_
      simp -implicitDefEqProofs only [↓aP, aQ, ↓reduceIte, Nat.reduceEqDiff, Nat.reduceAdd, Nat.reduceSub, Nat.reduceMul, Nat.reduceLT, Nat.reduceLeDiff, reduceCtorEq, Nat.reduceBEq, forall_const, implies_true, exists_const, ne_eq, Int.reduceAdd, Int.reduceSub, Int.reduceMul, Int.reduceBEq, Int.reduceEq, Int.reduceLT, Int.reduceLE, Int.reduceToNat, Int.reduceNeg, Int.reduceBNe, s1, s2, s3, g3, b3, s6, g6, b6, s7, g7, b7, s9, g9, b9, s10, g54, b54, encDk]
      repeat' ((first | ((first | with_reducible refine fork ?_ ?_ | with_reducible refine gcase ?_ ?_ | with_reducible refine gcaseD ?_ ?_) <;> intro hc <;> (have hp := hc) <;> (try simp only [aB] at hp)) | (have hc := True.intro; first | with_reducible refine askM (by omega) ?_ | with_reducible refine And.intro (by first | omega | decide +kernel) ?_ | fail)) <;> (try simp -implicitDefEqProofs only [↓aP, aQ, ↓reduceIte, Nat.reduceEqDiff, Nat.reduceAdd, Nat.reduceSub, Nat.reduceMul, Nat.reduceLT, Nat.reduceLeDiff, reduceCtorEq, Nat.reduceBEq, forall_const, implies_true, exists_const, ne_eq, Int.reduceAdd, Int.reduceSub, Int.reduceMul, Int.reduceBEq, Int.reduceEq, Int.reduceLT, Int.reduceLE, Int.reduceToNat, Int.reduceNeg, Int.reduceBNe, hc, s1, s2, s3, g3, b3, s6, g6, b6, s7, g7, b7, s9, g9, b9, s10, g54, b54, doV]))
      all_goals decide +kernel
end Go.Proofs.Ytfmbfgoofiojcaa
namespace Go.Proofs.Ytfmbfgoofiojcaa
open Go.RowKit
set_option linter.unusedVariables false
set_option linter.unusedSimpArgs false
theorem fields_rq : Try.prog.underlying 133 = some (.struct (Try.prog.fieldsOf 133)) := by kernel_rfl
theorem held_rq : Try.prog.stoodInHeld 133 = false := by kernel_rfl
theorem fieldsL_rq : ((Try.prog.fieldsOf 133).toList.map fun f => (f.type, f.offset)) = [(3, 0), (3, 1), (3, 2), (9, 3)] := by kernel_rfl
set_option maxRecDepth 100000 in
theorem eq_rq (x : Rq) : EqRun Try.prog 133 [.int .i64 x.ticket, .int .i64 x.kind, .int .i64 x.page, .string x.data] [.int .i64 x.ticket, .int .i64 x.kind, .int .i64 x.page, .string x.data] true := by
  intro w
  rw [run_eql_struct, run_equalIn_agg w 9999 _ _ _ fields_rq held_rq]
  go_simp

theorem sameV_spec (d : Dv) (h1 : d.disk.sectors.length < 4611686018427387904) (h2 : d.disk.cache.length < 4611686018427387904) (h3 : d.flight.length < 4611686018427387904) : Spec Try.prog 68 [.agg (encDv d), .agg (encDv d)] (.val (rB true)) := by
  refine spec_val mixed fn68 (by simp) ?_
  unfold ac68
  simp -implicitDefEqProofs only [↓aP, aQ, ↓reduceIte, Nat.reduceEqDiff, Nat.reduceAdd, Nat.reduceSub, Nat.reduceMul, Nat.reduceLT, Nat.reduceLeDiff, reduceCtorEq, Nat.reduceBEq, forall_const, implies_true, exists_const, ne_eq, Int.reduceAdd, Int.reduceSub, Int.reduceMul, Int.reduceBEq, Int.reduceEq, Int.reduceLT, Int.reduceLE, Int.reduceToNat, Int.reduceNeg, Int.reduceBNe, encDv]
  refine ask (same_spec d.disk h1 h2) ?_
  simp -implicitDefEqProofs only [↓aP, aQ, ↓reduceIte, Nat.reduceEqDiff, Nat.reduceAdd, Nat.reduceSub, Nat.reduceMul, Nat.reduceLT, Nat.reduceLeDiff, reduceCtorEq, Nat.reduceBEq, forall_const, implies_true, exists_const, ne_eq, Int.reduceAdd, Int.reduceSub, Int.reduceMul, Int.reduceBEq, Int.reduceEq, Int.reduceLT, Int.reduceLE, Int.reduceToNat, Int.reduceNeg, Int.reduceBNe, encDv]
  refine rangeB d.flight.length (fun i σ => σ.slot 2 = .c (.ptr 2 1 0 0) ∧ σ.h.gen 2 = 1 ∧ σ.h.blk 2 = .box 75 4 [(encDv d).map AC.s] ∧ σ.slot 3 = .c (.ptr 3 1 0 0) ∧ σ.h.gen 3 = 1 ∧ σ.h.blk 3 = .box 75 4 [(encDv d).map AC.s] ∧ σ.slot 5 = vI i) ?_ ?_ ?_
  · simp -implicitDefEqProofs only [↓aP, aQ, ↓reduceIte, Nat.reduceEqDiff, Nat.reduceAdd, Nat.reduceSub, Nat.reduceMul, Nat.reduceLT, Nat.reduceLeDiff, reduceCtorEq, Nat.reduceBEq, forall_const, implies_true, exists_const, ne_eq, Int.reduceAdd, Int.reduceSub, Int.reduceMul, Int.reduceBEq, Int.reduceEq, Int.reduceLT, Int.reduceLE, Int.reduceToNat, Int.reduceNeg, Int.reduceBNe, encDv]
  · rintro i m σ him hi hlt ⟨s2, g2, b2, s3, g3, b3, s5⟩
    simp only [encDv] at b2 b3
    simp -implicitDefEqProofs only [↓aP, aQ, ↓reduceIte, Nat.reduceEqDiff, Nat.reduceAdd, Nat.reduceSub, Nat.reduceMul, Nat.reduceLT, Nat.reduceLeDiff, reduceCtorEq, Nat.reduceBEq, forall_const, implies_true, exists_const, ne_eq, Int.reduceAdd, Int.reduceSub, Int.reduceMul, Int.reduceBEq, Int.reduceEq, Int.reduceLT, Int.reduceLE, Int.reduceToNat, Int.reduceNeg, Int.reduceBNe, hlt, s2, g2, b2, s3, g3, b3, s5, askIdx_map, hi, encRq]
    refine askEq (eq_rq d.flight[i]) ?_
    simp -implicitDefEqProofs only [↓aP, aQ, ↓reduceIte, Nat.reduceEqDiff, Nat.reduceAdd, Nat.reduceSub, Nat.reduceMul, Nat.reduceLT, Nat.reduceLeDiff, reduceCtorEq, Nat.reduceBEq, forall_const, implies_true, exists_const, ne_eq, Int.reduceAdd, Int.reduceSub, Int.reduceMul, Int.reduceBEq, Int.reduceEq, Int.reduceLT, Int.reduceLE, Int.reduceToNat, Int.reduceNeg, Int.reduceBNe, s2, g2, b2, s3, g3, b3, s5, wrapS (show i < 4611686018427387904 by omega)]
    refine ⟨by decide +kernel, nextR hi him ?_⟩
    simp -implicitDefEqProofs only [↓aP, aQ, ↓reduceIte, Nat.reduceEqDiff, Nat.reduceAdd, Nat.reduceSub, Nat.reduceMul, Nat.reduceLT, Nat.reduceLeDiff, reduceCtorEq, Nat.reduceBEq, forall_const, implies_true, exists_const, ne_eq, Int.reduceAdd, Int.reduceSub, Int.reduceMul, Int.reduceBEq, Int.reduceEq, Int.reduceLT, Int.reduceLE, Int.reduceToNat, Int.reduceNeg, Int.reduceBNe, s2, g2, b2, s3, g3, b3, s5, encDv]
  · rintro m σ hlt ⟨s2, g2, b2, s3, g3, b3, s5⟩
    simp only [encDv] at b2 b3
    simp -implicitDefEqProofs only [↓aP, aQ, ↓reduceIte, Nat.reduceEqDiff, Nat.reduceAdd, Nat.reduceSub, Nat.reduceMul, Nat.reduceLT, Nat.reduceLeDiff, reduceCtorEq, Nat.reduceBEq, forall_const, implies_true, exists_const, ne_eq, Int.reduceAdd, Int.reduceSub, Int.reduceMul, Int.reduceBEq, Int.reduceEq, Int.reduceLT, Int.reduceLE, Int.reduceToNat, Int.reduceNeg, Int.reduceBNe, hlt, s2, g2, b2, s3, g3, b3, s5]
def shortB (r : Rq) : Bool := !decide ((100 : Int) < r.data.size)
def refV (d : Dv) : Dv × Bool := if smallB d.disk = true ∧ (d.flight.length : Int) ≤ 20 then (⟨d.disk, d.next, d.flight.takeWhile shortB⟩, d.flight.all shortB) else (⟨d.disk, d.next, []⟩, false)
theorem takeWhile_at {α : Type} {p : α → Bool} {l : List α} {i : Nat} (hi : i < l.length) (h : ∀ x ∈ l.take i, p x = true) (hb : p l[i] = false) : l.takeWhile p = l.take i := by
  have e : l = l.take i ++ (l[i] :: l.drop (i + 1)) := by rw [← List.drop_eq_getElem_cons hi, List.take_append_drop]
  conv => lhs; rw [e]
  rw [List.takeWhile_append_of_pos h, List.takeWhile_cons, hb]
  simp
theorem takeWhile_all {α : Type} {p : α → Bool} {l : List α} (h : ∀ x ∈ l, p x = true) : l.takeWhile p = l := by
  have := List.takeWhile_append_of_pos (l₂ := []) h
  simpa using this
def encRef (x : Dv × Bool) : TV SC := .tup [(true, encDv x.1), (false, [.pv (.bool x.2)])]
theorem newV_spec : Spec Try.prog 26 [] (.val (.agg (encDv ⟨⟨List.replicate 35 noughts, []⟩, 0, []⟩))) := by
  refine spec_val mixed fn26 (by simp) ?_
  unfold ac26
  have h := new_spec 35
  rw [show newD 35 = (⟨List.replicate 35 noughts, []⟩, 0) from rfl] at h
  simp -implicitDefEqProofs only [↓aP, aQ, ↓reduceIte, Nat.reduceEqDiff, Nat.reduceAdd, Nat.reduceSub, Nat.reduceMul, Nat.reduceLT, Nat.reduceLeDiff, reduceCtorEq, Nat.reduceBEq, forall_const, implies_true, exists_const, ne_eq, Int.reduceAdd, Int.reduceSub, Int.reduceMul, Int.reduceBEq, Int.reduceEq, Int.reduceLT, Int.reduceLE, Int.reduceToNat, Int.reduceNeg, Int.reduceBNe, encDk]
  refine ask h ?_
  simp -implicitDefEqProofs only [↓aP, aQ, ↓reduceIte, Nat.reduceEqDiff, Nat.reduceAdd, Nat.reduceSub, Nat.reduceMul, Nat.reduceLT, Nat.reduceLeDiff, reduceCtorEq, Nat.reduceBEq, forall_const, implies_true, exists_const, ne_eq, Int.reduceAdd, Int.reduceSub, Int.reduceMul, Int.reduceBEq, Int.reduceEq, Int.reduceLT, Int.reduceLE, Int.reduceToNat, Int.reduceNeg, Int.reduceBNe, encDk, encDv]
def nV : Dv := ⟨⟨List.replicate 35 noughts, []⟩, 0, []⟩
def aDat : ByteArray := ⟨#[48, 49, 50, 51, 52, 53, 54, 55, 56, 57, 97, 98, 99, 100, 101, 102, 48, 49, 50, 51, 52, 53, 54, 55, 56, 57, 65, 66, 67, 68, 69, 70]⟩
end Go.Proofs.Ytfmbfgoofiojcaa
namespace Go.Proofs.Ytfmbfgoofiojcaa
open Go.RowKit
set_option linter.unusedVariables false
set_option linter.unusedSimpArgs false
theorem putD_right {d : Dk} {w : Wr} (h : rightB d = true) : rightB (putD d w).1 = true := by
  by_cases hf : fitsB d w = true ∧ d.cache.length ≠ 200
  · rw [put_ok h hf.1 hf.2]; exact right_put h hf.1 hf.2
  · rw [(put_no h hf).1]; exact h
theorem writeD_right {d : Dk} {p : Int} {s : ByteArray} (h : rightB d = true) : rightB (writeD d p s).1 = true := by
  unfold writeD
  split
  · exact putD_right (putD_right h)
  · exact putD_right h
theorem syncD_right {d : Dk} (h : rightB d = true) : rightB (syncD d) = true := by
  rw [show syncD d = doneD d d.cache by simp [syncD, h]]
  exact right_done h _ (right_fits h)
theorem crashD_right {d : Dk} {keep : List Int} (h : rightB d = true) : rightB (crashD d keep) = true := by
  rw [show crashD d keep = doneD d (keptW d.cache (marks d.cache.length keep)) by simp [crashD, h]]
  exact right_done h _ (fun w hw => right_fits h w (keptW_sub hw))
theorem doV_right {d : Dk} {r : Rq} (h : rightB d = true) : rightB (doV d r).1 = true := by
  unfold doV
  split
  · exact h
  split
  · exact writeD_right h
  · exact syncD_right h
theorem read_size16 {d : Dk} {a : Int} (h : rightB d = true) (hh : hasB d a = true) : (readD d a).1.size = 16 := by
  rw [read_ok h hh]
  cases hl : lookB d.cache a with
  | some w =>
    have := (fits_has (right_fits h w (lookB_mem hl).1)).2
    simp only; omega
  | none =>
    obtain ⟨i, rfl, hi⟩ := has_nat hh
    have := List.all_eq_true.1 (right_16 h) _ (List.getElem_mem hi)
    simp [len16] at this
    simp [hi]; omega
theorem pageD_size {d : Dk} {p : Int} (h : rightB d = true) (h35 : 35 ≤ d.sectors.length) (hp : 1 ≤ p ∧ p ≤ 16) : (pageD d p).size = 32 := by
  unfold pageD
  rw [ByteArray.size_append, read_size16 h (by simp [hasB]; omega), read_size16 h (by simp [hasB]; omega)]
theorem putD_len {d : Dk} {w : Wr} : (putD d w).1.sectors.length = d.sectors.length := by
  unfold putD; split
  · rfl
  split <;> rfl
theorem doV_len {d : Dk} {r : Rq} : (doV d r).1.sectors.length = d.sectors.length := by
  unfold doV
  split
  · rfl
  split
  · show (writeD d r.page r.data).1.sectors.length = _
    unfold writeD
    split
    · rw [putD_len, putD_len]
    · rw [putD_len]
  · show (syncD d).sectors.length = _
    unfold syncD
    split
    · exact doneS_len _ _
    · rfl
theorem okF_low {next : Int} : ∀ {l : List Rq} {last last' : Int}, okF next last l = true → last' ≤ last → okF next last' l = true
  | [], _, _, _, _ => rfl
  | x :: xs, last, last', h, hl => by
    simp only [okF, Bool.and_eq_true, decide_eq_true_eq] at h ⊢
    exact ⟨⟨⟨by omega, h.1.1.2⟩, h.1.2⟩, h.2⟩
theorem putD_err {d : Dk} {w : Wr} (h : rightB d = true) (hf : fitsB d w = true) : (putD d w).2 = 0 ∨ (putD d w).2 = 7 := by
  unfold putD
  rw [h, hf]
  simp only [Bool.not_true, Bool.or_self, Bool.false_eq_true, if_false]
  split
  · exact .inr rfl
  · exact .inl rfl
theorem doV_err {d : Dk} {r : Rq} (h : rightB d = true) (h35 : 35 ≤ d.sectors.length) (hB : isB r.kind r.page r.data = true) : (doV d r).2.2 = 0 ∨ (doV d r).2.2 = 7 := by
  unfold doV
  rcases isB_cases hB with ⟨hk, q1, q2⟩ | ⟨hk, q1, q2, q3⟩ | ⟨hk, q1⟩
  · rw [if_pos hk]; exact .inl rfl
  · rw [if_neg (by omega), if_pos hk]
    show (writeD d r.page r.data).2 = 0 ∨ (writeD d r.page r.data).2 = 7
    have f1 : fitsB d ⟨2 * r.page + 1, r.data.extract 0 16⟩ = true := by simp [fitsB, hasB]; omega
    unfold writeD
    split
    · refine putD_err (putD_right h) ?_
      simp [fitsB, hasB, putD_len]; omega
    · exact putD_err h f1
  · rw [if_neg (by omega), if_neg (by omega)]; exact .inl rfl
theorem okF_bound {next : Int} : ∀ {l : List Rq} {last : Int}, okF next last l = true → ∀ r ∈ l, last < r.ticket ∧ r.ticket < next
  | [], _, _, r, hr => by simp at hr
  | x :: xs, last, h, r, hr => by
    simp only [okF, Bool.and_eq_true, decide_eq_true_eq] at h
    rcases List.mem_cons.1 hr with rfl | hr
    · exact h.1.1
    · have := okF_bound h.2 r hr; omega
theorem okF_erase {next : Int} : ∀ {l : List Rq} {last : Int} (k : Nat), okF next last l = true → okF next last (l.eraseIdx k) = true
  | [], _, _, _ => rfl
  | x :: xs, last, 0, h => by
    simp only [okF, Bool.and_eq_true, decide_eq_true_eq] at h
    exact okF_low h.2 (by omega)
  | x :: xs, last, k + 1, h => by
    simp only [okF, Bool.and_eq_true, decide_eq_true_eq, List.eraseIdx_cons_succ] at h ⊢
    exact ⟨h.1, okF_erase k h.2⟩
theorem okF_ne {next : Int} : ∀ {l : List Rq} {last : Int} (k : Nat) (hk : k < l.length), okF next last l = true → ∀ r ∈ l.eraseIdx k, r.ticket ≠ l[k].ticket
  | x :: xs, last, 0, hk, h => by
    simp only [okF, Bool.and_eq_true, decide_eq_true_eq] at h
    intro r hr
    have := okF_bound h.2 r hr
    simp; omega
  | x :: xs, last, k + 1, hk, h => by
    simp only [okF, Bool.and_eq_true, decide_eq_true_eq] at h
    intro r hr
    simp only [List.eraseIdx_cons_succ, List.mem_cons] at hr
    rcases hr with rfl | hr
    · have := okF_bound h.2 _ (List.getElem_mem (by simpa using hk : k < xs.length))
      simp; omega
    · simpa using okF_ne k (by simpa using hk) h.2 r hr
theorem okF_snoc {next : Int} {k p : Int} {s : ByteArray} (hB : isB k p s = true) : ∀ {l : List Rq} {last : Int}, last < next → okF next last l = true → okF (next + 1) last (l ++ [⟨next, k, p, s⟩]) = true
  | [], last, hl, _ => by simp [okF, hB]; omega
  | x :: xs, last, hl, h => by
    simp only [okF, Bool.and_eq_true, decide_eq_true_eq, List.cons_append] at h ⊢
    exact ⟨⟨⟨h.1.1.1, by omega⟩, h.1.2⟩, okF_snoc hB h.1.1.2 h.2⟩
end Go.Proofs.Ytfmbfgoofiojcaa
