/- layer 14: the contracts: Right, Mark, Clean, Since, Due, Over. -/
import Derived.Test.YtcindpblgbpcoaaY1
namespace Go.Proofs.Ytcindpblgbpcoaa
open Go.RowKit Dy
set_option linter.unusedVariables false
set_option linter.unusedSimpArgs false

theorem dRight_spec (l : List It) (hl : l.length < 4611686018427387904) : Spec Try.prog 48 [rL 2 (l.map encIt)] (.val (rB (right l))) := by
  refine spec_val mixed fn48 (by simp) ?_
  unfold ac48
  simp -implicitDefEqProofs only [↓aP, aQ, ↓reduceIte, Nat.reduceEqDiff, Nat.reduceAdd, Nat.reduceSub, Nat.reduceMul, Nat.reduceLT, Nat.reduceLeDiff, reduceCtorEq, Nat.reduceBEq, forall_const, implies_true, exists_const, ne_eq, Int.reduceAdd, Int.reduceSub, Int.reduceMul, Int.reduceBEq, Int.reduceEq, Int.reduceLT, Int.reduceLE, Int.reduceToNat, Int.reduceNeg, Int.reduceBNe]
  refine rangeB l.length (fun i σ => right (l.take i) = true ∧ σ.slot 3 = vI (last (l.take i)) ∧ σ.slot 0 = vL 2 (l.map encIt) ∧ σ.slot 6 = vL 2 (l.map encIt) ∧ σ.slot 7 = vI l.length ∧ σ.slot 8 = vI i) ?_ ?_ ?_
  · simp -implicitDefEqProofs only [↓aP, aQ, ↓reduceIte, Nat.reduceEqDiff, Nat.reduceAdd, Nat.reduceSub, Nat.reduceMul, Nat.reduceLT, Nat.reduceLeDiff, reduceCtorEq, Nat.reduceBEq, forall_const, implies_true, exists_const, ne_eq, Int.reduceAdd, Int.reduceSub, Int.reduceMul, Int.reduceBEq, Int.reduceEq, Int.reduceLT, Int.reduceLE, Int.reduceToNat, Int.reduceNeg, Int.reduceBNe]
    exact ⟨rfl, rfl⟩
  · rintro i m σ him hi hlt ⟨hr, s3, s0, s6, s7, s8⟩
    have hg := good_eq hi
    have hb := bad_of (l := l) hi
    have hs := right_step hi
    have hla := last_take hi
    simp -implicitDefEqProofs only [↓aP, aQ, ↓reduceIte, Nat.reduceEqDiff, Nat.reduceAdd, Nat.reduceSub, Nat.reduceMul, Nat.reduceLT, Nat.reduceLeDiff, reduceCtorEq, Nat.reduceBEq, forall_const, implies_true, exists_const, ne_eq, Int.reduceAdd, Int.reduceSub, Int.reduceMul, Int.reduceBEq, Int.reduceEq, Int.reduceLT, Int.reduceLE, Int.reduceToNat, Int.reduceNeg, Int.reduceBNe, hlt, s3, s0, s6, s7, s8, askIdx_map, hi, encIt]
    repeat' ((first | ((first | with_reducible refine fork ?_ ?_ | with_reducible refine gcase ?_ ?_ | with_reducible refine gcaseD ?_ ?_) <;> intro hc <;> (have hp := hc) <;> (try simp only [aB] at hp)) | (have hc := True.intro; first | with_reducible refine askM (by omega) ?_ | with_reducible refine And.intro (by first | omega | decide +kernel) ?_ | refine ask (dIsPage_spec _) ?_ | refine ask (dplace_spec l _ hl) ?_ | fail)) <;> (try simp -implicitDefEqProofs only [↓aP, aQ, ↓reduceIte, Nat.reduceEqDiff, Nat.reduceAdd, Nat.reduceSub, Nat.reduceMul, Nat.reduceLT, Nat.reduceLeDiff, reduceCtorEq, Nat.reduceBEq, forall_const, implies_true, exists_const, ne_eq, Int.reduceAdd, Int.reduceSub, Int.reduceMul, Int.reduceBEq, Int.reduceEq, Int.reduceLT, Int.reduceLE, Int.reduceToNat, Int.reduceNeg, Int.reduceBNe, hc, s3, s0, s6, s7, s8, encIt, wrapS (show i < 4611686018427387904 by omega)]))
    all_goals first
      | (refine nextR hi him ?_
         have hgt : good (l.take i) l[i] = true := by rw [hg]; simp_all
         simp -implicitDefEqProofs only [↓aP, aQ, ↓reduceIte, Nat.reduceEqDiff, Nat.reduceAdd, Nat.reduceSub, Nat.reduceMul, Nat.reduceLT, Nat.reduceLeDiff, reduceCtorEq, Nat.reduceBEq, forall_const, implies_true, exists_const, ne_eq, Int.reduceAdd, Int.reduceSub, Int.reduceMul, Int.reduceBEq, Int.reduceEq, Int.reduceLT, Int.reduceLE, Int.reduceToNat, Int.reduceNeg, Int.reduceBNe, s0, s6, s7, s8, hla, hs, hr, hgt])
      | (have hgf : good (l.take i) l[i] = false := by rw [hg]; simp_all; try omega
         rw [hb hgf])
  · rintro m σ hlt ⟨hr, s3, s0, s6, s7, s8⟩
    rw [List.take_length] at hr
    simp -implicitDefEqProofs only [↓aP, aQ, ↓reduceIte, Nat.reduceEqDiff, Nat.reduceAdd, Nat.reduceSub, Nat.reduceMul, Nat.reduceLT, Nat.reduceLeDiff, reduceCtorEq, Nat.reduceBEq, forall_const, implies_true, exists_const, ne_eq, Int.reduceAdd, Int.reduceSub, Int.reduceMul, Int.reduceBEq, Int.reduceEq, Int.reduceLT, Int.reduceLE, Int.reduceToNat, Int.reduceNeg, Int.reduceBNe, hlt, s3, s0, s6, s7, s8, hr]
theorem right_len {l : List It} (h : right l = true) : l.length ≤ 16 := ((right_iff l).1 h).short
def markI (l : List It) (p now : Int) : List It × Int :=
  if right l = false ∨ p < 1 ∨ 16 < p ∨ now < 0 ∨ 2147483647 < now ∨ now < last l then (l, 1) else if 0 ≤ at' l p then (l, 0) else (l ++ [⟨p, now⟩], 0)
def encLs (x : List It × Int) : TV SC := .tup [(false, [.sl 2 (x.1.map encIt)]), (false, [.pv (.int .i64 x.2)])]
theorem last_get {l : List It} (h : 0 < l.length) : last l = (l[l.length - 1]'(by omega)).since := by
  unfold last
  rw [List.getLast?_eq_getElem?, List.getElem?_eq_getElem (by omega)]
theorem dMark_spec (l : List It) (p now : Int) (hl : l.length < 4611686018427387904) : Spec Try.prog 102 [rL 2 (l.map encIt), rI p, rI now] (.val (encLs (markI l p now))) := by
  refine spec_val mixed fn102 (by simp) ?_
  unfold ac102
  simp -implicitDefEqProofs only [↓aP, aQ, ↓reduceIte, Nat.reduceEqDiff, Nat.reduceAdd, Nat.reduceSub, Nat.reduceMul, Nat.reduceLT, Nat.reduceLeDiff, reduceCtorEq, Nat.reduceBEq, forall_const, implies_true, exists_const, ne_eq, Int.reduceAdd, Int.reduceSub, Int.reduceMul, Int.reduceBEq, Int.reduceEq, Int.reduceLT, Int.reduceLE, Int.reduceToNat, Int.reduceNeg, Int.reduceBNe, encLs]
  refine ask (dRight_spec l hl) ?_
  cases hr : right l
  · have e : markI l p now = (l, 1) := by unfold markI; rw [if_pos (.inl hr)]
    simp -implicitDefEqProofs only [↓aP, aQ, ↓reduceIte, Nat.reduceEqDiff, Nat.reduceAdd, Nat.reduceSub, Nat.reduceMul, Nat.reduceLT, Nat.reduceLeDiff, reduceCtorEq, Nat.reduceBEq, forall_const, implies_true, exists_const, ne_eq, Int.reduceAdd, Int.reduceSub, Int.reduceMul, Int.reduceBEq, Int.reduceEq, Int.reduceLT, Int.reduceLE, Int.reduceToNat, Int.reduceNeg, Int.reduceBNe, encLs, e]
  have h16 := right_len hr
  have m1 : (p < 1 ∨ 16 < p ∨ now < 0 ∨ 2147483647 < now ∨ now < last l) → markI l p now = (l, 1) := fun h => by unfold markI; rw [if_pos (.inr h)]
  have m0 : ¬ (p < 1 ∨ 16 < p ∨ now < 0 ∨ 2147483647 < now ∨ now < last l) → markI l p now = if 0 ≤ at' l p then (l, 0) else (l ++ [⟨p, now⟩], 0) := fun h => by
    unfold markI; rw [if_neg (fun h2 => h2.elim (fun h3 => by simp [hr] at h3) h)]
  have m2 : ¬ (p < 1 ∨ 16 < p ∨ now < 0 ∨ 2147483647 < now ∨ now < last l) → 0 ≤ at' l p → markI l p now = (l, 0) := fun h h2 => by rw [m0 h, if_pos h2]
  have m3 : ¬ (p < 1 ∨ 16 < p ∨ now < 0 ∨ 2147483647 < now ∨ now < last l) → at' l p < 0 → markI l p now = (l ++ [⟨p, now⟩], 0) := fun h h2 => by rw [m0 h, if_neg (by omega)]
  simp -implicitDefEqProofs only [↓aP, aQ, ↓reduceIte, Nat.reduceEqDiff, Nat.reduceAdd, Nat.reduceSub, Nat.reduceMul, Nat.reduceLT, Nat.reduceLeDiff, reduceCtorEq, Nat.reduceBEq, forall_const, implies_true, exists_const, ne_eq, Int.reduceAdd, Int.reduceSub, Int.reduceMul, Int.reduceBEq, Int.reduceEq, Int.reduceLT, Int.reduceLE, Int.reduceToNat, Int.reduceNeg, Int.reduceBNe, encLs]
  by_cases h0 : 0 < l.length
  · have e1 := last_get h0
    have e2 : IntKind.i64.wrap ((l.length : Int) - 1) = ((l.length - 1 : Nat) : Int) := by rw [wrapI (by omega)]; omega
    have e3 : decide ((0 : Int) < (l.length : Int)) = true := by simp; omega
    repeat' ((first | ((first | with_reducible refine fork ?_ ?_ | with_reducible refine gcase ?_ ?_ | with_reducible refine gcaseD ?_ ?_) <;> intro hc <;> (have hp := hc) <;> (try simp only [aB] at hp)) | (have hc := True.intro; first | with_reducible refine askM (by omega) ?_ | with_reducible refine And.intro (by first | omega | decide +kernel) ?_ | refine ask (dIsPage_spec p) ?_ | refine ask (dplace_spec l p hl) ?_ | refine ask (cloneIt _ (by simp; omega)) ?_ | fail)) <;> (try simp -implicitDefEqProofs only [↓aP, aQ, ↓reduceIte, Nat.reduceEqDiff, Nat.reduceAdd, Nat.reduceSub, Nat.reduceMul, Nat.reduceLT, Nat.reduceLeDiff, reduceCtorEq, Nat.reduceBEq, forall_const, implies_true, exists_const, ne_eq, Int.reduceAdd, Int.reduceSub, Int.reduceMul, Int.reduceBEq, Int.reduceEq, Int.reduceLT, Int.reduceLE, Int.reduceToNat, Int.reduceNeg, Int.reduceBNe, hc, encLs, e2, e3, encIt]))
    all_goals first | (rw [m1 (by omega)]; simp; done) | (rw [m2 (by omega) (by omega)]; simp; done) | (rw [m3 (by omega) (by omega)]; simp [encIt]; done) | all_goals (trace_state; sorry)
  · have e0 : l = [] := List.eq_nil_of_length_eq_zero (by omega)
    subst e0
    have e1 : last [] = 0 := rfl
    repeat' ((first | ((first | with_reducible refine fork ?_ ?_ | with_reducible refine gcase ?_ ?_ | with_reducible refine gcaseD ?_ ?_) <;> intro hc <;> (have hp := hc) <;> (try simp only [aB] at hp)) | (have hc := True.intro; first | with_reducible refine askM (by omega) ?_ | with_reducible refine And.intro (by first | omega | decide +kernel) ?_ | refine ask (dIsPage_spec p) ?_ | refine ask (dplace_spec [] p hl) ?_ | refine ask (cloneIt _ (by simp)) ?_ | fail)) <;> (try simp -implicitDefEqProofs only [↓aP, aQ, ↓reduceIte, Nat.reduceEqDiff, Nat.reduceAdd, Nat.reduceSub, Nat.reduceMul, Nat.reduceLT, Nat.reduceLeDiff, reduceCtorEq, Nat.reduceBEq, forall_const, implies_true, exists_const, ne_eq, Int.reduceAdd, Int.reduceSub, Int.reduceMul, Int.reduceBEq, Int.reduceEq, Int.reduceLT, Int.reduceLE, Int.reduceToNat, Int.reduceNeg, Int.reduceBNe, hc, encLs, encIt]))
    all_goals first | (rw [m1 (by omega)]; simp; done) | (rw [m2 (by omega) (by omega)]; simp; done) | (rw [m3 (by omega) (by omega)]; simp [encIt]; done) | all_goals (trace_state; sorry)
def cleanI (l : List It) (p : Int) : List It × Int := if right l = false then (l, 1) else if at' l p < 0 then (l, 3) else (l.eraseIdx (at' l p).toNat, 0)
theorem dClean_spec (l : List It) (p : Int) (hl : l.length < 4611686018427387904) : Spec Try.prog 80 [rL 2 (l.map encIt), rI p] (.val (encLs (cleanI l p))) := by
  refine spec_val mixed fn80 (by simp) ?_
  unfold ac80
  simp -implicitDefEqProofs only [↓aP, aQ, ↓reduceIte, Nat.reduceEqDiff, Nat.reduceAdd, Nat.reduceSub, Nat.reduceMul, Nat.reduceLT, Nat.reduceLeDiff, reduceCtorEq, Nat.reduceBEq, forall_const, implies_true, exists_const, ne_eq, Int.reduceAdd, Int.reduceSub, Int.reduceMul, Int.reduceBEq, Int.reduceEq, Int.reduceLT, Int.reduceLE, Int.reduceToNat, Int.reduceNeg, Int.reduceBNe, encLs]
  refine ask (dRight_spec l hl) ?_
  cases hr : right l
  · have e : cleanI l p = (l, 1) := by unfold cleanI; rw [if_pos hr]
    simp -implicitDefEqProofs only [↓aP, aQ, ↓reduceIte, Nat.reduceEqDiff, Nat.reduceAdd, Nat.reduceSub, Nat.reduceMul, Nat.reduceLT, Nat.reduceLeDiff, reduceCtorEq, Nat.reduceBEq, forall_const, implies_true, exists_const, ne_eq, Int.reduceAdd, Int.reduceSub, Int.reduceMul, Int.reduceBEq, Int.reduceEq, Int.reduceLT, Int.reduceLE, Int.reduceToNat, Int.reduceNeg, Int.reduceBNe, encLs, e]
  have h16 := right_len hr
  simp -implicitDefEqProofs only [↓aP, aQ, ↓reduceIte, Nat.reduceEqDiff, Nat.reduceAdd, Nat.reduceSub, Nat.reduceMul, Nat.reduceLT, Nat.reduceLeDiff, reduceCtorEq, Nat.reduceBEq, forall_const, implies_true, exists_const, ne_eq, Int.reduceAdd, Int.reduceSub, Int.reduceMul, Int.reduceBEq, Int.reduceEq, Int.reduceLT, Int.reduceLE, Int.reduceToNat, Int.reduceNeg, Int.reduceBNe, encLs]
  refine ask (dplace_spec l p hl) ?_
  rcases at_cases l p with ⟨e, hno⟩ | ⟨k, hk, e, hkp, _⟩
  · have e1 : cleanI l p = (l, 3) := by unfold cleanI; rw [if_neg (by simp [hr]), if_pos (by omega)]
    simp -implicitDefEqProofs only [↓aP, aQ, ↓reduceIte, Nat.reduceEqDiff, Nat.reduceAdd, Nat.reduceSub, Nat.reduceMul, Nat.reduceLT, Nat.reduceLeDiff, reduceCtorEq, Nat.reduceBEq, forall_const, implies_true, exists_const, ne_eq, Int.reduceAdd, Int.reduceSub, Int.reduceMul, Int.reduceBEq, Int.reduceEq, Int.reduceLT, Int.reduceLE, Int.reduceToNat, Int.reduceNeg, Int.reduceBNe, encLs, e, e1]
    repeat' ((first | ((first | with_reducible refine fork ?_ ?_ | with_reducible refine gcase ?_ ?_ | with_reducible refine gcaseD ?_ ?_) <;> intro hc <;> (have hp := hc) <;> (try simp only [aB] at hp)) | (have hc := True.intro; first | with_reducible refine askM (by omega) ?_ | with_reducible refine And.intro (by first | omega | decide +kernel) ?_ | fail)) <;> (try simp -implicitDefEqProofs only [↓aP, aQ, ↓reduceIte, Nat.reduceEqDiff, Nat.reduceAdd, Nat.reduceSub, Nat.reduceMul, Nat.reduceLT, Nat.reduceLeDiff, reduceCtorEq, Nat.reduceBEq, forall_const, implies_true, exists_const, ne_eq, Int.reduceAdd, Int.reduceSub, Int.reduceMul, Int.reduceBEq, Int.reduceEq, Int.reduceLT, Int.reduceLE, Int.reduceToNat, Int.reduceNeg, Int.reduceBNe, hc]))
    all_goals simp_all
  · have e1 : cleanI l p = (l.eraseIdx k, 0) := by unfold cleanI; rw [if_neg (by simp [hr]), if_neg (by omega), e]; rfl
    have e2 : decide ((k : Int) < 0) = false := by simp
    have her : (l.map encIt).eraseIdx k = (l.eraseIdx k).map encIt := by simp [List.eraseIdx_eq_take_drop_succ, List.map_take, List.map_drop]
    simp -implicitDefEqProofs only [↓aP, aQ, ↓reduceIte, Nat.reduceEqDiff, Nat.reduceAdd, Nat.reduceSub, Nat.reduceMul, Nat.reduceLT, Nat.reduceLeDiff, reduceCtorEq, Nat.reduceBEq, forall_const, implies_true, exists_const, ne_eq, Int.reduceAdd, Int.reduceSub, Int.reduceMul, Int.reduceBEq, Int.reduceEq, Int.reduceLT, Int.reduceLE, Int.reduceToNat, Int.reduceNeg, Int.reduceBNe, encLs, e, e1, e2]
    refine ask (cloneIt _ (by simp; omega)) ?_
    simp -implicitDefEqProofs only [↓aP, aQ, ↓reduceIte, Nat.reduceEqDiff, Nat.reduceAdd, Nat.reduceSub, Nat.reduceMul, Nat.reduceLT, Nat.reduceLeDiff, reduceCtorEq, Nat.reduceBEq, forall_const, implies_true, exists_const, ne_eq, Int.reduceAdd, Int.reduceSub, Int.reduceMul, Int.reduceBEq, Int.reduceEq, Int.reduceLT, Int.reduceLE, Int.reduceToNat, Int.reduceNeg, Int.reduceBNe, wrapI (show -9223372036854775808 ≤ (k : Int) + 1 ∧ (k : Int) + 1 ≤ 9223372036854775807 by omega)]
    refine askX2 (delIt_spec (l.map encIt) k (by simpa using hk) (by simp; omega)) (by simp -implicitDefEqProofs only [↓aP, aQ, ↓reduceIte, Nat.reduceEqDiff, Nat.reduceAdd, Nat.reduceSub, Nat.reduceMul, Nat.reduceLT, Nat.reduceLeDiff, reduceCtorEq, Nat.reduceBEq, forall_const, implies_true, exists_const, ne_eq, Int.reduceAdd, Int.reduceSub, Int.reduceMul, Int.reduceBEq, Int.reduceEq, Int.reduceLT, Int.reduceLE, Int.reduceToNat, Int.reduceNeg, Int.reduceBNe]) ?_
    simp -implicitDefEqProofs only [↓aP, aQ, ↓reduceIte, Nat.reduceEqDiff, Nat.reduceAdd, Nat.reduceSub, Nat.reduceMul, Nat.reduceLT, Nat.reduceLeDiff, reduceCtorEq, Nat.reduceBEq, forall_const, implies_true, exists_const, ne_eq, Int.reduceAdd, Int.reduceSub, Int.reduceMul, Int.reduceBEq, Int.reduceEq, Int.reduceLT, Int.reduceLE, Int.reduceToNat, Int.reduceNeg, Int.reduceBNe, her]
def sinceI (l : List It) (p : Int) : Int × Bool := if right l = true ∧ 0 ≤ at' l p then (sinceOf l p, true) else (0, false)
theorem dSince_spec (l : List It) (p : Int) (hl : l.length < 4611686018427387904) : Spec Try.prog 59 [rL 2 (l.map encIt), rI p] (.val (.tup [(false, [.pv (.int .i64 (sinceI l p).1)]), (false, [.pv (.bool (sinceI l p).2)])])) := by
  refine spec_val mixed fn59 (by simp) ?_
  unfold ac59
  simp -implicitDefEqProofs only [↓aP, aQ, ↓reduceIte, Nat.reduceEqDiff, Nat.reduceAdd, Nat.reduceSub, Nat.reduceMul, Nat.reduceLT, Nat.reduceLeDiff, reduceCtorEq, Nat.reduceBEq, forall_const, implies_true, exists_const, ne_eq, Int.reduceAdd, Int.reduceSub, Int.reduceMul, Int.reduceBEq, Int.reduceEq, Int.reduceLT, Int.reduceLE, Int.reduceToNat, Int.reduceNeg, Int.reduceBNe]
  refine ask (dRight_spec l hl) ?_
  cases hr : right l
  · have e : sinceI l p = (0, false) := by unfold sinceI; rw [if_neg (by simp [hr])]
    simp -implicitDefEqProofs only [↓aP, aQ, ↓reduceIte, Nat.reduceEqDiff, Nat.reduceAdd, Nat.reduceSub, Nat.reduceMul, Nat.reduceLT, Nat.reduceLeDiff, reduceCtorEq, Nat.reduceBEq, forall_const, implies_true, exists_const, ne_eq, Int.reduceAdd, Int.reduceSub, Int.reduceMul, Int.reduceBEq, Int.reduceEq, Int.reduceLT, Int.reduceLE, Int.reduceToNat, Int.reduceNeg, Int.reduceBNe, e]
  simp -implicitDefEqProofs only [↓aP, aQ, ↓reduceIte, Nat.reduceEqDiff, Nat.reduceAdd, Nat.reduceSub, Nat.reduceMul, Nat.reduceLT, Nat.reduceLeDiff, reduceCtorEq, Nat.reduceBEq, forall_const, implies_true, exists_const, ne_eq, Int.reduceAdd, Int.reduceSub, Int.reduceMul, Int.reduceBEq, Int.reduceEq, Int.reduceLT, Int.reduceLE, Int.reduceToNat, Int.reduceNeg, Int.reduceBNe]
  refine ask (dplace_spec l p hl) ?_
  rcases at_cases l p with ⟨e, hno⟩ | ⟨k, hk, e, hkp, _⟩
  · have e1 : sinceI l p = (0, false) := by unfold sinceI; rw [if_neg (by omega)]
    simp -implicitDefEqProofs only [↓aP, aQ, ↓reduceIte, Nat.reduceEqDiff, Nat.reduceAdd, Nat.reduceSub, Nat.reduceMul, Nat.reduceLT, Nat.reduceLeDiff, reduceCtorEq, Nat.reduceBEq, forall_const, implies_true, exists_const, ne_eq, Int.reduceAdd, Int.reduceSub, Int.reduceMul, Int.reduceBEq, Int.reduceEq, Int.reduceLT, Int.reduceLE, Int.reduceToNat, Int.reduceNeg, Int.reduceBNe, e, e1]
    repeat' ((first | ((first | with_reducible refine fork ?_ ?_ | with_reducible refine gcase ?_ ?_ | with_reducible refine gcaseD ?_ ?_) <;> intro hc <;> (have hp := hc) <;> (try simp only [aB] at hp)) | (have hc := True.intro; first | with_reducible refine askM (by omega) ?_ | with_reducible refine And.intro (by first | omega | decide +kernel) ?_ | fail)) <;> (try simp -implicitDefEqProofs only [↓aP, aQ, ↓reduceIte, Nat.reduceEqDiff, Nat.reduceAdd, Nat.reduceSub, Nat.reduceMul, Nat.reduceLT, Nat.reduceLeDiff, reduceCtorEq, Nat.reduceBEq, forall_const, implies_true, exists_const, ne_eq, Int.reduceAdd, Int.reduceSub, Int.reduceMul, Int.reduceBEq, Int.reduceEq, Int.reduceLT, Int.reduceLE, Int.reduceToNat, Int.reduceNeg, Int.reduceBNe, hc]))
    all_goals simp_all
  · have e1 : sinceI l p = (l[k].since, true) := by unfold sinceI; rw [if_pos ⟨hr, by omega⟩, sinceOf_at hk e]
    have e2 : decide ((k : Int) < 0) = false := by simp
    simp -implicitDefEqProofs only [↓aP, aQ, ↓reduceIte, Nat.reduceEqDiff, Nat.reduceAdd, Nat.reduceSub, Nat.reduceMul, Nat.reduceLT, Nat.reduceLeDiff, reduceCtorEq, Nat.reduceBEq, forall_const, implies_true, exists_const, ne_eq, Int.reduceAdd, Int.reduceSub, Int.reduceMul, Int.reduceBEq, Int.reduceEq, Int.reduceLT, Int.reduceLE, Int.reduceToNat, Int.reduceNeg, Int.reduceBNe, e, e1, e2, askIdx_map, hk, encIt]
end Go.Proofs.Ytcindpblgbpcoaa
