/- layer 4: the device's contracts: Submit, read, write. -/
import Derived.Test.YtfmbfgoofiojcaaV2
namespace Go.Proofs.Ytfmbfgoofiojcaa
open Go.RowKit
set_option linter.unusedVariables false
set_option linter.unusedSimpArgs false
theorem cloneRq (l : List (List SC)) (hl : l.length * 40 ≤ 2 ^ 47) : Spec Try.prog 85 [.c (.sl 4 l)] (.row 129 4 l) := by
  refine Spec.tag ?_ ?_
  · intro h
    subst h
    refine spec_row mixed fn85 (by simp) ?_
    unfold ac85
    simp -implicitDefEqProofs only [↓aP, aQ, ↓reduceIte, Nat.reduceEqDiff, Nat.reduceAdd, Nat.reduceSub, Nat.reduceMul, Nat.reduceLT, Nat.reduceLeDiff, reduceCtorEq, Nat.reduceBEq, forall_const, implies_true, exists_const, ne_eq, Int.reduceAdd, Int.reduceSub, Int.reduceMul, Int.reduceBEq, Int.reduceEq, Int.reduceLT, Int.reduceLE, Int.reduceToNat, Int.reduceNeg, Int.reduceBNe]
  · refine spec_row mixed fn85 (by simp) ?_
    unfold ac85
    simp -implicitDefEqProofs only [↓aP, aQ, ↓reduceIte, Nat.reduceEqDiff, Nat.reduceAdd, Nat.reduceSub, Nat.reduceMul, Nat.reduceLT, Nat.reduceLeDiff, reduceCtorEq, Nat.reduceBEq, forall_const, implies_true, exists_const, ne_eq, Int.reduceAdd, Int.reduceSub, Int.reduceMul, Int.reduceBEq, Int.reduceEq, Int.reduceLT, Int.reduceLE, Int.reduceToNat, Int.reduceNeg, Int.reduceBNe]
    refine ⟨?_, ?_⟩ <;> omega
theorem rightV_len {d : Dv} (h : rightV d = true) : rightB d.disk = true ∧ 35 ≤ d.disk.sectors.length ∧ 0 ≤ d.next ∧ d.next ≤ 2147483647 ∧ d.flight.length ≤ 4 ∧ okF d.next (-1) d.flight = true := by
  simp only [rightV, Bool.and_eq_true, decide_eq_true_eq] at h
  exact ⟨h.1.1.1.1.1, h.1.1.1.1.2, h.1.1.1.2, h.1.1.2, h.1.2, h.2⟩
def submitV (d : Dv) (k p : Int) (s : ByteArray) : Dv × Int × Int :=
  if rightV d = false ∨ d.next = 2147483647 ∨ isB k p s = false then (d, 0, 1) else if (d.flight.length : Int) = 4 then (d, 0, 6) else (⟨d.disk, d.next + 1, d.flight ++ [⟨d.next, k, p, s⟩]⟩, d.next, 0)
def encSub (x : Dv × Int × Int) : TV SC := .tup [(true, encDv x.1), (false, [.pv (.int .i64 x.2.1)]), (false, [.pv (.int .i64 x.2.2)])]
theorem submit_spec (d : Dv) (k p : Int) (s : ByteArray) : Spec Try.prog 79 [.agg (encDv d), rI k, rI p, rS s] (.val (encSub (submitV d k p s))) := by
  refine spec_val mixed fn79 (by simp) ?_
  unfold ac79
  simp -implicitDefEqProofs only [↓aP, aQ, ↓reduceIte, Nat.reduceEqDiff, Nat.reduceAdd, Nat.reduceSub, Nat.reduceMul, Nat.reduceLT, Nat.reduceLeDiff, reduceCtorEq, Nat.reduceBEq, forall_const, implies_true, exists_const, ne_eq, Int.reduceAdd, Int.reduceSub, Int.reduceMul, Int.reduceBEq, Int.reduceEq, Int.reduceLT, Int.reduceLE, Int.reduceToNat, Int.reduceNeg, Int.reduceBNe, encDv, encSub]
  refine ask (dvRight_spec d) ?_
  cases hr : rightV d
  · simp -implicitDefEqProofs only [↓aP, aQ, ↓reduceIte, Nat.reduceEqDiff, Nat.reduceAdd, Nat.reduceSub, Nat.reduceMul, Nat.reduceLT, Nat.reduceLeDiff, reduceCtorEq, Nat.reduceBEq, forall_const, implies_true, exists_const, ne_eq, Int.reduceAdd, Int.reduceSub, Int.reduceMul, Int.reduceBEq, Int.reduceEq, Int.reduceLT, Int.reduceLE, Int.reduceToNat, Int.reduceNeg, Int.reduceBNe, encDv, encSub]
    (first | omega | (simp_all [submitV]; done) | (simp_all [submitV]; omega) | grind [submitV])
  have hl := rightV_len hr
  simp -implicitDefEqProofs only [↓aP, aQ, ↓reduceIte, Nat.reduceEqDiff, Nat.reduceAdd, Nat.reduceSub, Nat.reduceMul, Nat.reduceLT, Nat.reduceLeDiff, reduceCtorEq, Nat.reduceBEq, forall_const, implies_true, exists_const, ne_eq, Int.reduceAdd, Int.reduceSub, Int.reduceMul, Int.reduceBEq, Int.reduceEq, Int.reduceLT, Int.reduceLE, Int.reduceToNat, Int.reduceNeg, Int.reduceBNe, encDv, encSub]
  repeat' ((first | ((first | with_reducible refine fork ?_ ?_ | with_reducible refine gcase ?_ ?_ | with_reducible refine gcaseD ?_ ?_) <;> intro hc <;> (have hp := hc) <;> (try simp only [aB] at hp)) | (have hc := True.intro; first | with_reducible refine askM (by omega) ?_ | with_reducible refine And.intro (by first | omega | decide +kernel) ?_ | refine ask (is_spec k p s) ?_ | refine ask (cloneRq _ (by simp; omega)) ?_ | fail)) <;> (try simp -implicitDefEqProofs only [↓aP, aQ, ↓reduceIte, Nat.reduceEqDiff, Nat.reduceAdd, Nat.reduceSub, Nat.reduceMul, Nat.reduceLT, Nat.reduceLeDiff, reduceCtorEq, Nat.reduceBEq, forall_const, implies_true, exists_const, ne_eq, Int.reduceAdd, Int.reduceSub, Int.reduceMul, Int.reduceBEq, Int.reduceEq, Int.reduceLT, Int.reduceLE, Int.reduceToNat, Int.reduceNeg, Int.reduceBNe, hc, encDv, encSub, wrapI (show -9223372036854775808 ≤ d.next + 1 ∧ d.next + 1 ≤ 9223372036854775807 by omega)]))
  all_goals (first | omega | (simp_all [submitV, encRq]; done) | (simp_all [submitV, encRq]; omega) | grind [submitV, encRq])
def pageD (d : Dk) (p : Int) : ByteArray := (readD d (2 * p + 1)).1 ++ (readD d (2 * p + 2)).1
theorem home_spec (p : Int) (hpg : 0 ≤ p ∧ p ≤ 1000) : Spec Try.prog 103 [rI p] (.val (rI (2 * p + 1))) := by
  refine spec_val mixed fn103 (by simp) ?_
  unfold ac103
  simp -implicitDefEqProofs only [↓aP, aQ, ↓reduceIte, Nat.reduceEqDiff, Nat.reduceAdd, Nat.reduceSub, Nat.reduceMul, Nat.reduceLT, Nat.reduceLeDiff, reduceCtorEq, Nat.reduceBEq, forall_const, implies_true, exists_const, ne_eq, Int.reduceAdd, Int.reduceSub, Int.reduceMul, Int.reduceBEq, Int.reduceEq, Int.reduceLT, Int.reduceLE, Int.reduceToNat, Int.reduceNeg, Int.reduceBNe, wrapI (show -9223372036854775808 ≤ 2 * p ∧ 2 * p ≤ 9223372036854775807 by omega), wrapI (show -9223372036854775808 ≤ 2 * p + 1 ∧ 2 * p + 1 ≤ 9223372036854775807 by omega)]
theorem dvread_spec (d : Dk) (p : Int) (hpg : 0 ≤ p ∧ p ≤ 1000) (h1 : (readD d (2 * p + 1)).1.size ≤ 1000) (h2 : (readD d (2 * p + 2)).1.size ≤ 1000) : Spec Try.prog 86 [.agg (encDk d), rI p] (.val (rS (pageD d p))) := by
  refine spec_val mixed fn86 (by simp) ?_
  unfold ac86
  have e : 2 * p + 1 + 1 = 2 * p + 2 := by omega
  simp -implicitDefEqProofs only [↓aP, aQ, ↓reduceIte, Nat.reduceEqDiff, Nat.reduceAdd, Nat.reduceSub, Nat.reduceMul, Nat.reduceLT, Nat.reduceLeDiff, reduceCtorEq, Nat.reduceBEq, forall_const, implies_true, exists_const, ne_eq, Int.reduceAdd, Int.reduceSub, Int.reduceMul, Int.reduceBEq, Int.reduceEq, Int.reduceLT, Int.reduceLE, Int.reduceToNat, Int.reduceNeg, Int.reduceBNe, encDk]
  repeat' ((first | ((first | with_reducible refine fork ?_ ?_ | with_reducible refine gcase ?_ ?_ | with_reducible refine gcaseD ?_ ?_) <;> intro hc <;> (have hp := hc) <;> (try simp only [aB] at hp)) | (have hc := True.intro; first | with_reducible refine askM (by omega) ?_ | with_reducible refine And.intro (by first | omega | decide +kernel) ?_ | refine ask (home_spec p hpg) ?_ | refine ask (read_spec d _) ?_ | fail)) <;> (try simp -implicitDefEqProofs only [↓aP, aQ, ↓reduceIte, Nat.reduceEqDiff, Nat.reduceAdd, Nat.reduceSub, Nat.reduceMul, Nat.reduceLT, Nat.reduceLeDiff, reduceCtorEq, Nat.reduceBEq, forall_const, implies_true, exists_const, ne_eq, Int.reduceAdd, Int.reduceSub, Int.reduceMul, Int.reduceBEq, Int.reduceEq, Int.reduceLT, Int.reduceLE, Int.reduceToNat, Int.reduceNeg, Int.reduceBNe, hc, encDk, wrapI (show -9223372036854775808 ≤ 2 * p + 2 ∧ 2 * p + 2 ≤ 9223372036854775807 by omega), e]))
  all_goals (first | omega | (simp_all [pageD]; done) | (simp_all [pageD]; omega) | grind [pageD])
def writeD (d : Dk) (p : Int) (s : ByteArray) : Dk × Int :=
  if (putD d ⟨2 * p + 1, s.extract 0 16⟩).2 = 0 then putD (putD d ⟨2 * p + 1, s.extract 0 16⟩).1 ⟨2 * p + 2, s.extract 16 s.size⟩ else putD d ⟨2 * p + 1, s.extract 0 16⟩
def encPut (x : Dk × Int) : TV SC := .tup [(true, encDk x.1), (false, [.pv (.int .i64 x.2)])]
theorem dvwrite_spec (d : Dk) (p : Int) (s : ByteArray) (hpg : 0 ≤ p ∧ p ≤ 1000) (hs : s.size = 32) : Spec Try.prog 87 [.agg (encDk d), rI p, rS s] (.val (encPut (writeD d p s))) := by
  refine spec_val mixed fn87 (by simp) ?_
  unfold ac87
  have e : 2 * p + 1 + 1 = 2 * p + 2 := by omega
  obtain ⟨x, f, hx⟩ : ∃ x f, putD d ⟨2 * p + 1, s.extract 0 16⟩ = (x, f) := ⟨_, _, rfl⟩
  have t1 := put_spec d ⟨2 * p + 1, s.extract 0 16⟩
  have t2 := put_spec x ⟨2 * p + 2, s.extract 16 s.size⟩
  rw [hx] at t1
  simp -implicitDefEqProofs only [↓aP, aQ, ↓reduceIte, Nat.reduceEqDiff, Nat.reduceAdd, Nat.reduceSub, Nat.reduceMul, Nat.reduceLT, Nat.reduceLeDiff, reduceCtorEq, Nat.reduceBEq, forall_const, implies_true, exists_const, ne_eq, Int.reduceAdd, Int.reduceSub, Int.reduceMul, Int.reduceBEq, Int.reduceEq, Int.reduceLT, Int.reduceLE, Int.reduceToNat, Int.reduceNeg, Int.reduceBNe, encDk, encPut]
  repeat' ((first | ((first | with_reducible refine fork ?_ ?_ | with_reducible refine gcase ?_ ?_ | with_reducible refine gcaseD ?_ ?_) <;> intro hc <;> (have hp := hc) <;> (try simp only [aB] at hp)) | (have hc := True.intro; first | with_reducible refine askM (by omega) ?_ | with_reducible refine And.intro (by first | omega | decide +kernel) ?_ | refine ask (home_spec p hpg) ?_ | refine ask (t1) ?_ | refine ask (t2) ?_ | fail)) <;> (try simp -implicitDefEqProofs only [↓aP, aQ, ↓reduceIte, Nat.reduceEqDiff, Nat.reduceAdd, Nat.reduceSub, Nat.reduceMul, Nat.reduceLT, Nat.reduceLeDiff, reduceCtorEq, Nat.reduceBEq, forall_const, implies_true, exists_const, ne_eq, Int.reduceAdd, Int.reduceSub, Int.reduceMul, Int.reduceBEq, Int.reduceEq, Int.reduceLT, Int.reduceLE, Int.reduceToNat, Int.reduceNeg, Int.reduceBNe, hc, encDk, encPut, wrapI (show -9223372036854775808 ≤ 2 * p + 2 ∧ 2 * p + 2 ≤ 9223372036854775807 by omega), e]))
  all_goals (first | omega | (simp_all [writeD]; done) | (simp_all [writeD]; omega) | grind [writeD])
def encFin (x : Dv × Rq × Int) : TV SC := .tup [(true, encDv x.1), (true, encRq x.2.1), (false, [.pv (.int .i64 x.2.2)])]
def noRq : Rq := ⟨0, 0, 0, ⟨#[]⟩⟩
/-- the request at i, done -/
def doV (d : Dk) (r : Rq) : Dk × Rq × Int := if r.kind = 1 then (d, { r with data := pageD d r.page }, 0) else if r.kind = 2 then ((writeD d r.page r.data).1, r, (writeD d r.page r.data).2) else (syncD d, r, 0)
def finishV (d : Dv) (i : Int) (fault : Bool) : Dv × Rq × Int :=
  if h : rightV d = true ∧ 0 ≤ i ∧ i < d.flight.length then
    if fault then (⟨d.disk, d.next, d.flight.eraseIdx i.toNat⟩, d.flight[i.toNat]'(by omega), 8)
    else (⟨(doV d.disk (d.flight[i.toNat]'(by omega))).1, d.next, d.flight.eraseIdx i.toNat⟩, (doV d.disk (d.flight[i.toNat]'(by omega))).2.1, (doV d.disk (d.flight[i.toNat]'(by omega))).2.2)
  else (d, noRq, 1)
theorem okF_is {next : Int} : ∀ {l : List Rq} {last : Int}, okF next last l = true → ∀ r ∈ l, isB r.kind r.page r.data = true
  | [], _, _, r, hr => by simp at hr
  | x :: xs, last, h, r, hr => by
    simp only [okF, Bool.and_eq_true] at h
    rcases List.mem_cons.1 hr with rfl | hr
    · exact h.1.2
    · exact okF_is h.2 r hr
theorem isB_cases {k p : Int} {s : ByteArray} (h : isB k p s = true) : (k = 1 ∧ 1 ≤ p ∧ p ≤ 16) ∨ (k = 2 ∧ 1 ≤ p ∧ p ≤ 16 ∧ s.size = 32) ∨ (k = 3 ∧ p = 0) := by
  simp [isB] at h
  omega
theorem read_size {d : Dk} {a : Int} (h : rightB d = true) : (readD d a).1.size ≤ 16 := by
  cases hh : hasB d a
  · simp [readD, hh]
  · rw [read_ok h hh]
    cases hl : lookB d.cache a with
    | some w =>
      have := (fits_has (right_fits h w (lookB_mem hl).1)).2
      simp only; omega
    | none =>
      obtain ⟨i, rfl, hi⟩ := has_nat hh
      have := List.all_eq_true.1 (right_16 h) _ (List.getElem_mem hi)
      simp [len16] at this
      simp [hi]; omega
theorem finish_spec (d : Dv) (i : Int) (fault : Bool) : Spec Try.prog 62 [.agg (encDv d), rI i, rB fault] (.val (encFin (finishV d i fault))) := by
  refine spec_val mixed fn62 (by simp) ?_
  unfold ac62
  simp -implicitDefEqProofs only [↓aP, aQ, ↓reduceIte, Nat.reduceEqDiff, Nat.reduceAdd, Nat.reduceSub, Nat.reduceMul, Nat.reduceLT, Nat.reduceLeDiff, reduceCtorEq, Nat.reduceBEq, forall_const, implies_true, exists_const, ne_eq, Int.reduceAdd, Int.reduceSub, Int.reduceMul, Int.reduceBEq, Int.reduceEq, Int.reduceLT, Int.reduceLE, Int.reduceToNat, Int.reduceNeg, Int.reduceBNe, encDv, encFin]
  refine ask (dvRight_spec d) ?_
  have hno : ¬ (rightV d = true ∧ 0 ≤ i ∧ i < d.flight.length) → finishV d i fault = (d, noRq, 1) := fun h => by unfold finishV; rw [dif_neg h]
  cases hr : rightV d
  · have hno' := hno (by simp [hr])
    simp -implicitDefEqProofs only [↓aP, aQ, ↓reduceIte, Nat.reduceEqDiff, Nat.reduceAdd, Nat.reduceSub, Nat.reduceMul, Nat.reduceLT, Nat.reduceLeDiff, reduceCtorEq, Nat.reduceBEq, forall_const, implies_true, exists_const, ne_eq, Int.reduceAdd, Int.reduceSub, Int.reduceMul, Int.reduceBEq, Int.reduceEq, Int.reduceLT, Int.reduceLE, Int.reduceToNat, Int.reduceNeg, Int.reduceBNe, encDv, encFin, hno', noRq, encRq]
  obtain ⟨h1, h2, h3, h4, h5, h6⟩ := rightV_len hr
  by_cases hi : 0 ≤ i ∧ i < d.flight.length
  case neg =>
    have hno' := hno (fun h => hi h.2)
    simp -implicitDefEqProofs only [↓aP, aQ, ↓reduceIte, Nat.reduceEqDiff, Nat.reduceAdd, Nat.reduceSub, Nat.reduceMul, Nat.reduceLT, Nat.reduceLeDiff, reduceCtorEq, Nat.reduceBEq, forall_const, implies_true, exists_const, ne_eq, Int.reduceAdd, Int.reduceSub, Int.reduceMul, Int.reduceBEq, Int.reduceEq, Int.reduceLT, Int.reduceLE, Int.reduceToNat, Int.reduceNeg, Int.reduceBNe, encDv, encFin]
    repeat' ((first | ((first | with_reducible refine fork ?_ ?_ | with_reducible refine gcase ?_ ?_ | with_reducible refine gcaseD ?_ ?_) <;> intro hc <;> (have hp := hc) <;> (try simp only [aB] at hp)) | (have hc := True.intro; first | with_reducible refine askM (by omega) ?_ | with_reducible refine And.intro (by first | omega | decide +kernel) ?_ | fail)) <;> (try simp -implicitDefEqProofs only [↓aP, aQ, ↓reduceIte, Nat.reduceEqDiff, Nat.reduceAdd, Nat.reduceSub, Nat.reduceMul, Nat.reduceLT, Nat.reduceLeDiff, reduceCtorEq, Nat.reduceBEq, forall_const, implies_true, exists_const, ne_eq, Int.reduceAdd, Int.reduceSub, Int.reduceMul, Int.reduceBEq, Int.reduceEq, Int.reduceLT, Int.reduceLE, Int.reduceToNat, Int.reduceNeg, Int.reduceBNe, hc, encDv, encFin, hno', noRq, encRq]))
    all_goals first | omega | trivial
  obtain ⟨n, rfl⟩ : ∃ n : Nat, i = n := ⟨i.toNat, by omega⟩
  have hn : n < d.flight.length := by omega
  have e1 : decide ((n : Int) < 0) = false := by simp
  have e2 : decide ((d.flight.length : Int) ≤ (n : Int)) = false := by simp; omega
  have hfin : finishV d n fault = if fault then (⟨d.disk, d.next, d.flight.eraseIdx n⟩, d.flight[n], 8) else (⟨(doV d.disk d.flight[n]).1, d.next, d.flight.eraseIdx n⟩, (doV d.disk d.flight[n]).2.1, (doV d.disk d.flight[n]).2.2) := by
    unfold finishV
    rw [dif_pos ⟨hr, hi⟩]
    rfl
  rw [hfin]
  have her : (d.flight.map encRq).eraseIdx n = (d.flight.eraseIdx n).map encRq := by simp [List.eraseIdx_eq_take_drop_succ, List.map_take, List.map_drop]
  generalize hR : d.flight[n] = R
  have hB : isB R.kind R.page R.data = true := okF_is h6 _ (by rw [← hR]; exact List.getElem_mem hn)
  simp -implicitDefEqProofs only [↓aP, aQ, ↓reduceIte, Nat.reduceEqDiff, Nat.reduceAdd, Nat.reduceSub, Nat.reduceMul, Nat.reduceLT, Nat.reduceLeDiff, reduceCtorEq, Nat.reduceBEq, forall_const, implies_true, exists_const, ne_eq, Int.reduceAdd, Int.reduceSub, Int.reduceMul, Int.reduceBEq, Int.reduceEq, Int.reduceLT, Int.reduceLE, Int.reduceToNat, Int.reduceNeg, Int.reduceBNe, encDv, encFin, e1, e2, askIdx_map, hn, hR, encRq]
  refine ask (cloneRq _ (by simp; omega)) ?_
  simp -implicitDefEqProofs only [↓aP, aQ, ↓reduceIte, Nat.reduceEqDiff, Nat.reduceAdd, Nat.reduceSub, Nat.reduceMul, Nat.reduceLT, Nat.reduceLeDiff, reduceCtorEq, Nat.reduceBEq, forall_const, implies_true, exists_const, ne_eq, Int.reduceAdd, Int.reduceSub, Int.reduceMul, Int.reduceBEq, Int.reduceEq, Int.reduceLT, Int.reduceLE, Int.reduceToNat, Int.reduceNeg, Int.reduceBNe, encDv, encFin, e1, e2, askIdx_map, hn, hR, encRq, wrapI (show -9223372036854775808 ≤ (n : Int) + 1 ∧ (n : Int) + 1 ≤ 9223372036854775807 by omega)]
  refine askX2 (delRq_spec (d.flight.map encRq) n (by simpa using hn) (by simp; omega)) (by simp -implicitDefEqProofs only [↓aP, aQ, ↓reduceIte, Nat.reduceEqDiff, Nat.reduceAdd, Nat.reduceSub, Nat.reduceMul, Nat.reduceLT, Nat.reduceLeDiff, reduceCtorEq, Nat.reduceBEq, forall_const, implies_true, exists_const, ne_eq, Int.reduceAdd, Int.reduceSub, Int.reduceMul, Int.reduceBEq, Int.reduceEq, Int.reduceLT, Int.reduceLE, Int.reduceToNat, Int.reduceNeg, Int.reduceBNe]) ?_
  simp -implicitDefEqProofs only [↓aP, aQ, ↓reduceIte, Nat.reduceEqDiff, Nat.reduceAdd, Nat.reduceSub, Nat.reduceMul, Nat.reduceLT, Nat.reduceLeDiff, reduceCtorEq, Nat.reduceBEq, forall_const, implies_true, exists_const, ne_eq, Int.reduceAdd, Int.reduceSub, Int.reduceMul, Int.reduceBEq, Int.reduceEq, Int.reduceLT, Int.reduceLE, Int.reduceToNat, Int.reduceNeg, Int.reduceBNe, her]
  clear hno hfin e1 e2 hi
  cases fault
  case true =>
    simp -implicitDefEqProofs only [↓aP, aQ, ↓reduceIte, Nat.reduceEqDiff, Nat.reduceAdd, Nat.reduceSub, Nat.reduceMul, Nat.reduceLT, Nat.reduceLeDiff, reduceCtorEq, Nat.reduceBEq, forall_const, implies_true, exists_const, ne_eq, Int.reduceAdd, Int.reduceSub, Int.reduceMul, Int.reduceBEq, Int.reduceEq, Int.reduceLT, Int.reduceLE, Int.reduceToNat, Int.reduceNeg, Int.reduceBNe, encRq]
    decide +kernel
  obtain ⟨t, k, pg, s⟩ := R
  simp only at hB
  have hs1 := read_size (a := 2 * pg + 1) h1
  have hs2 := read_size (a := 2 * pg + 2) h1
  rcases isB_cases hB with ⟨rfl, b1, b2⟩ | ⟨rfl, b1, b2, b3⟩ | ⟨rfl, rfl⟩
  · simp -implicitDefEqProofs only [↓aP, aQ, ↓reduceIte, Nat.reduceEqDiff, Nat.reduceAdd, Nat.reduceSub, Nat.reduceMul, Nat.reduceLT, Nat.reduceLeDiff, reduceCtorEq, Nat.reduceBEq, forall_const, implies_true, exists_const, ne_eq, Int.reduceAdd, Int.reduceSub, Int.reduceMul, Int.reduceBEq, Int.reduceEq, Int.reduceLT, Int.reduceLE, Int.reduceToNat, Int.reduceNeg, Int.reduceBNe, encDk]
    refine ask (dvread_spec d.disk pg (by omega) (by omega) (by omega)) ?_
    simp -implicitDefEqProofs only [↓aP, aQ, ↓reduceIte, Nat.reduceEqDiff, Nat.reduceAdd, Nat.reduceSub, Nat.reduceMul, Nat.reduceLT, Nat.reduceLeDiff, reduceCtorEq, Nat.reduceBEq, forall_const, implies_true, exists_const, ne_eq, Int.reduceAdd, Int.reduceSub, Int.reduceMul, Int.reduceBEq, Int.reduceEq, Int.reduceLT, Int.reduceLE, Int.reduceToNat, Int.reduceNeg, Int.reduceBNe, encDk]
    repeat' ((first | ((first | with_reducible refine fork ?_ ?_ | with_reducible refine gcase ?_ ?_ | with_reducible refine gcaseD ?_ ?_) <;> intro hc <;> (have hp := hc) <;> (try simp only [aB] at hp)) | (have hc := True.intro; first | with_reducible refine askM (by omega) ?_ | with_reducible refine And.intro (by first | omega | decide +kernel) ?_ | fail)) <;> (try simp -implicitDefEqProofs only [↓aP, aQ, ↓reduceIte, Nat.reduceEqDiff, Nat.reduceAdd, Nat.reduceSub, Nat.reduceMul, Nat.reduceLT, Nat.reduceLeDiff, reduceCtorEq, Nat.reduceBEq, forall_const, implies_true, exists_const, ne_eq, Int.reduceAdd, Int.reduceSub, Int.reduceMul, Int.reduceBEq, Int.reduceEq, Int.reduceLT, Int.reduceLE, Int.reduceToNat, Int.reduceNeg, Int.reduceBNe, hc, doV]))
  · simp -implicitDefEqProofs only [↓aP, aQ, ↓reduceIte, Nat.reduceEqDiff, Nat.reduceAdd, Nat.reduceSub, Nat.reduceMul, Nat.reduceLT, Nat.reduceLeDiff, reduceCtorEq, Nat.reduceBEq, forall_const, implies_true, exists_const, ne_eq, Int.reduceAdd, Int.reduceSub, Int.reduceMul, Int.reduceBEq, Int.reduceEq, Int.reduceLT, Int.reduceLE, Int.reduceToNat, Int.reduceNeg, Int.reduceBNe, encDk]
    refine ask (dvwrite_spec d.disk pg s (by omega) b3) ?_
    simp -implicitDefEqProofs only [↓aP, aQ, ↓reduceIte, Nat.reduceEqDiff, Nat.reduceAdd, Nat.reduceSub, Nat.reduceMul, Nat.reduceLT, Nat.reduceLeDiff, reduceCtorEq, Nat.reduceBEq, forall_const, implies_true, exists_const, ne_eq, Int.reduceAdd, Int.reduceSub, Int.reduceMul, Int.reduceBEq, Int.reduceEq, Int.reduceLT, Int.reduceLE, Int.reduceToNat, Int.reduceNeg, Int.reduceBNe, encDk, encPut]
    repeat' ((first | ((first | with_reducible refine fork ?_ ?_ | with_reducible refine gcase ?_ ?_ | with_reducible refine gcaseD ?_ ?_) <;> intro hc <;> (have hp := hc) <;> (try simp only [aB] at hp)) | (have hc := True.intro; first | with_reducible refine askM (by omega) ?_ | with_reducible refine And.intro (by first | omega | decide +kernel) ?_ | fail)) <;> (try simp -implicitDefEqProofs only [↓aP, aQ, ↓reduceIte, Nat.reduceEqDiff, Nat.reduceAdd, Nat.reduceSub, Nat.reduceMul, Nat.reduceLT, Nat.reduceLeDiff, reduceCtorEq, Nat.reduceBEq, forall_const, implies_true, exists_const, ne_eq, Int.reduceAdd, Int.reduceSub, Int.reduceMul, Int.reduceBEq, Int.reduceEq, Int.reduceLT, Int.reduceLE, Int.reduceToNat, Int.reduceNeg, Int.reduceBNe, hc, doV]))
  · simp -implicitDefEqProofs only [↓aP, aQ, ↓reduceIte, Nat.reduceEqDiff, Nat.reduceAdd, Nat.reduceSub, Nat.reduceMul, Nat.reduceLT, Nat.reduceLeDiff, reduceCtorEq, Nat.reduceBEq, forall_const, implies_true, exists_const, ne_eq, Int.reduceAdd, Int.reduceSub, Int.reduceMul, Int.reduceBEq, Int.reduceEq, Int.reduceLT, Int.reduceLE, Int.reduceToNat, Int.reduceNeg, Int.reduceBNe, encDk]
    refine ask (sync_spec d.disk) ?_
    simp -implicitDefEqProofs only [↓aP, aQ, ↓reduceIte, Nat.reduceEqDiff, Nat.reduceAdd, Nat.reduceSub, Nat.reduceMul, Nat.reduceLT, Nat.reduceLeDiff, reduceCtorEq, Nat.reduceBEq, forall_const, implies_true, exists_const, ne_eq, Int.reduceAdd, Int.reduceSub, Int.reduceMul, Int.reduceBEq, Int.reduceEq, Int.reduceLT, Int.reduceLE, Int.reduceToNat, Int.reduceNeg, Int.reduceBNe, encDk]
    repeat' ((first | ((first | with_reducible refine fork ?_ ?_ | with_reducible refine gcase ?_ ?_ | with_reducible refine gcaseD ?_ ?_) <;> intro hc <;> (have hp := hc) <;> (try simp only [aB] at hp)) | (have hc := True.intro; first | with_reducible refine askM (by omega) ?_ | with_reducible refine And.intro (by first | omega | decide +kernel) ?_ | fail)) <;> (try simp -implicitDefEqProofs only [↓aP, aQ, ↓reduceIte, Nat.reduceEqDiff, Nat.reduceAdd, Nat.reduceSub, Nat.reduceMul, Nat.reduceLT, Nat.reduceLeDiff, reduceCtorEq, Nat.reduceBEq, forall_const, implies_true, exists_const, ne_eq, Int.reduceAdd, Int.reduceSub, Int.reduceMul, Int.reduceBEq, Int.reduceEq, Int.reduceLT, Int.reduceLE, Int.reduceToNat, Int.reduceNeg, Int.reduceBNe, hc, doV]))
end Go.Proofs.Ytfmbfgoofiojcaa
