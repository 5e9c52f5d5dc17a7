/- layer 4: the law's words: ref, Same, New, awake. -/
import Derived.Test.YtmknfchmnangbaaV4
import Derived.Laws.StructEq
namespace Go.Proofs.Ytmknfchmnangbaa
open Go.RowKit
set_option linter.unusedVariables false
set_option linter.unusedSimpArgs false
theorem fields_rq : Try.prog.underlying 68 = some (.struct (Try.prog.fieldsOf 68)) := by kernel_rfl
theorem held_rq : Try.prog.stoodInHeld 68 = false := by kernel_rfl
theorem fieldsL_rq : ((Try.prog.fieldsOf 68).toList.map fun f => (f.type, f.offset)) = [(3, 0), (3, 1), (3, 2), (9, 3)] := by kernel_rfl
set_option maxRecDepth 100000 in
theorem eq_rq (x : Rq) : EqRun Try.prog 68 [.int .i64 x.ticket, .int .i64 x.kind, .int .i64 x.page, .string x.data] [.int .i64 x.ticket, .int .i64 x.kind, .int .i64 x.page, .string x.data] true := by
  intro w
  rw [run_eql_struct, run_equalIn_agg w 9999 _ _ _ fields_rq held_rq]
  go_simp

theorem sameV_spec (d : Dv) (h1 : d.disk.sectors.length < 4611686018427387904) (h2 : d.disk.cache.length < 4611686018427387904) (h3 : d.flight.length < 4611686018427387904) : Spec Try.prog 33 [.agg (encDv d), .agg (encDv d)] (.val (rB true)) := by
  refine spec_val mixed fn33 (by simp) ?_
  unfold ac33
  simp -implicitDefEqProofs only [↓aP, aQ, ↓reduceIte, Nat.reduceEqDiff, Nat.reduceAdd, Nat.reduceSub, Nat.reduceMul, Nat.reduceLT, Nat.reduceLeDiff, reduceCtorEq, Nat.reduceBEq, forall_const, implies_true, exists_const, ne_eq, Int.reduceAdd, Int.reduceSub, Int.reduceMul, Int.reduceBEq, Int.reduceEq, Int.reduceLT, Int.reduceLE, Int.reduceToNat, Int.reduceNeg, Int.reduceBNe, encDv]
  refine ask (same_spec d.disk h1 h2) ?_
  simp -implicitDefEqProofs only [↓aP, aQ, ↓reduceIte, Nat.reduceEqDiff, Nat.reduceAdd, Nat.reduceSub, Nat.reduceMul, Nat.reduceLT, Nat.reduceLeDiff, reduceCtorEq, Nat.reduceBEq, forall_const, implies_true, exists_const, ne_eq, Int.reduceAdd, Int.reduceSub, Int.reduceMul, Int.reduceBEq, Int.reduceEq, Int.reduceLT, Int.reduceLE, Int.reduceToNat, Int.reduceNeg, Int.reduceBNe, encDv]
  refine rangeB d.flight.length (fun i σ => σ.slot 2 = .c (.ptr 2 1 0 0) ∧ σ.h.gen 2 = 1 ∧ σ.h.blk 2 = .box 53 4 [(encDv d).map AC.s] ∧ σ.slot 3 = .c (.ptr 3 1 0 0) ∧ σ.h.gen 3 = 1 ∧ σ.h.blk 3 = .box 53 4 [(encDv d).map AC.s] ∧ σ.slot 5 = vI i) ?_ ?_ ?_
  · simp -implicitDefEqProofs only [↓aP, aQ, ↓reduceIte, Nat.reduceEqDiff, Nat.reduceAdd, Nat.reduceSub, Nat.reduceMul, Nat.reduceLT, Nat.reduceLeDiff, reduceCtorEq, Nat.reduceBEq, forall_const, implies_true, exists_const, ne_eq, Int.reduceAdd, Int.reduceSub, Int.reduceMul, Int.reduceBEq, Int.reduceEq, Int.reduceLT, Int.reduceLE, Int.reduceToNat, Int.reduceNeg, Int.reduceBNe, encDv]
  · rintro i m σ him hi hlt ⟨s2, g2, b2, s3, g3, b3, s5⟩
    simp only [encDv] at b2 b3
    simp -implicitDefEqProofs only [↓aP, aQ, ↓reduceIte, Nat.reduceEqDiff, Nat.reduceAdd, Nat.reduceSub, Nat.reduceMul, Nat.reduceLT, Nat.reduceLeDiff, reduceCtorEq, Nat.reduceBEq, forall_const, implies_true, exists_const, ne_eq, Int.reduceAdd, Int.reduceSub, Int.reduceMul, Int.reduceBEq, Int.reduceEq, Int.reduceLT, Int.reduceLE, Int.reduceToNat, Int.reduceNeg, Int.reduceBNe, hlt, s2, g2, b2, s3, g3, b3, s5, askIdx_map, hi, encRq]
    refine askEq (eq_rq d.flight[i]) ?_
    simp -implicitDefEqProofs only [↓aP, aQ, ↓reduceIte, Nat.reduceEqDiff, Nat.reduceAdd, Nat.reduceSub, Nat.reduceMul, Nat.reduceLT, Nat.reduceLeDiff, reduceCtorEq, Nat.reduceBEq, forall_const, implies_true, exists_const, ne_eq, Int.reduceAdd, Int.reduceSub, Int.reduceMul, Int.reduceBEq, Int.reduceEq, Int.reduceLT, Int.reduceLE, Int.reduceToNat, Int.reduceNeg, Int.reduceBNe, s2, g2, b2, s3, g3, b3, s5, wrapS (show i < 4611686018427387904 by omega)]
    refine ⟨by decide +kernel, nextR hi him ?_⟩
    simp -implicitDefEqProofs only [↓aP, aQ, ↓reduceIte, Nat.reduceEqDiff, Nat.reduceAdd, Nat.reduceSub, Nat.reduceMul, Nat.reduceLT, Nat.reduceLeDiff, reduceCtorEq, Nat.reduceBEq, forall_const, implies_true, exists_const, ne_eq, Int.reduceAdd, Int.reduceSub, Int.reduceMul, Int.reduceBEq, Int.reduceEq, Int.reduceLT, Int.reduceLE, Int.reduceToNat, Int.reduceNeg, Int.reduceBNe, s2, g2, b2, s3, g3, b3, s5, encDv]
  · rintro m σ hlt ⟨s2, g2, b2, s3, g3, b3, s5⟩
    simp only [encDv] at b2 b3
    simp -implicitDefEqProofs only [↓aP, aQ, ↓reduceIte, Nat.reduceEqDiff, Nat.reduceAdd, Nat.reduceSub, Nat.reduceMul, Nat.reduceLT, Nat.reduceLeDiff, reduceCtorEq, Nat.reduceBEq, forall_const, implies_true, exists_const, ne_eq, Int.reduceAdd, Int.reduceSub, Int.reduceMul, Int.reduceBEq, Int.reduceEq, Int.reduceLT, Int.reduceLE, Int.reduceToNat, Int.reduceNeg, Int.reduceBNe, hlt, s2, g2, b2, s3, g3, b3, s5]
def shortB (r : Rq) : Bool := !decide ((100 : Int) < r.data.size)
def refV (d : Dv) : Dv × Bool := if smallB d.disk = true ∧ (d.flight.length : Int) ≤ 20 then (⟨d.disk, d.next, d.flight.takeWhile shortB⟩, d.flight.all shortB) else (⟨d.disk, d.next, []⟩, false)
theorem takeWhile_at {α : Type} {p : α → Bool} {l : List α} {i : Nat} (hi : i < l.length) (h : ∀ x ∈ l.take i, p x = true) (hb : p l[i] = false) : l.takeWhile p = l.take i := by
  have e : l = l.take i ++ (l[i] :: l.drop (i + 1)) := by rw [← List.drop_eq_getElem_cons hi, List.take_append_drop]
  conv => lhs; rw [e]
  rw [List.takeWhile_append_of_pos h, List.takeWhile_cons, hb]
  simp
theorem takeWhile_all {α : Type} {p : α → Bool} {l : List α} (h : ∀ x ∈ l, p x = true) : l.takeWhile p = l := by
  have := List.takeWhile_append_of_pos (l₂ := []) h
  simpa using this
def encRef (x : Dv × Bool) : TV SC := .tup [(true, encDv x.1), (false, [.pv (.bool x.2)])]

theorem ref_spec (d : Dv) : Spec Try.prog 29 [.agg (encDv d)] (.val (encRef (refV d))) := by
  refine spec_val mixed fn29 (by simp) ?_
  unfold ac29
  simp -implicitDefEqProofs only [↓aP, aQ, ↓reduceIte, Nat.reduceEqDiff, Nat.reduceAdd, Nat.reduceSub, Nat.reduceMul, Nat.reduceLT, Nat.reduceLeDiff, reduceCtorEq, Nat.reduceBEq, forall_const, implies_true, exists_const, ne_eq, Int.reduceAdd, Int.reduceSub, Int.reduceMul, Int.reduceBEq, Int.reduceEq, Int.reduceLT, Int.reduceLE, Int.reduceToNat, Int.reduceNeg, Int.reduceBNe, encDv, encRef]
  refine ask (small_spec d.disk) ?_
  cases hs : smallB d.disk
  · simp -implicitDefEqProofs only [↓aP, aQ, ↓reduceIte, Nat.reduceEqDiff, Nat.reduceAdd, Nat.reduceSub, Nat.reduceMul, Nat.reduceLT, Nat.reduceLeDiff, reduceCtorEq, Nat.reduceBEq, forall_const, implies_true, exists_const, ne_eq, Int.reduceAdd, Int.reduceSub, Int.reduceMul, Int.reduceBEq, Int.reduceEq, Int.reduceLT, Int.reduceLE, Int.reduceToNat, Int.reduceNeg, Int.reduceBNe, refV, hs, encDv]
  simp -implicitDefEqProofs only [↓aP, aQ, ↓reduceIte, Nat.reduceEqDiff, Nat.reduceAdd, Nat.reduceSub, Nat.reduceMul, Nat.reduceLT, Nat.reduceLeDiff, reduceCtorEq, Nat.reduceBEq, forall_const, implies_true, exists_const, ne_eq, Int.reduceAdd, Int.reduceSub, Int.reduceMul, Int.reduceBEq, Int.reduceEq, Int.reduceLT, Int.reduceLE, Int.reduceToNat, Int.reduceNeg, Int.reduceBNe]
  refine fork ?_ ?_ <;> intro h20
  · have := t_dt h20
    simp -implicitDefEqProofs only [↓aP, aQ, ↓reduceIte, Nat.reduceEqDiff, Nat.reduceAdd, Nat.reduceSub, Nat.reduceMul, Nat.reduceLT, Nat.reduceLeDiff, reduceCtorEq, Nat.reduceBEq, forall_const, implies_true, exists_const, ne_eq, Int.reduceAdd, Int.reduceSub, Int.reduceMul, Int.reduceBEq, Int.reduceEq, Int.reduceLT, Int.reduceLE, Int.reduceToNat, Int.reduceNeg, Int.reduceBNe, refV, hs, encDv]
    simp [refV, hs, (show ¬ (d.flight.length : Int) ≤ 20 by omega)]
  have h20' := t_df h20
  have hrf : refV d = (⟨d.disk, d.next, d.flight.takeWhile shortB⟩, d.flight.all shortB) := by unfold refV; rw [if_pos ⟨hs, by omega⟩]
  simp -implicitDefEqProofs only [↓aP, aQ, ↓reduceIte, Nat.reduceEqDiff, Nat.reduceAdd, Nat.reduceSub, Nat.reduceMul, Nat.reduceLT, Nat.reduceLeDiff, reduceCtorEq, Nat.reduceBEq, forall_const, implies_true, exists_const, ne_eq, Int.reduceAdd, Int.reduceSub, Int.reduceMul, Int.reduceBEq, Int.reduceEq, Int.reduceLT, Int.reduceLE, Int.reduceToNat, Int.reduceNeg, Int.reduceBNe]
  refine shift (sub_cell (p := 4) (i := 0) (j := 3) 39 68 4 rfl (by exact Nat.succ_pos _) (by rfl) (by decide) (by decide)) ?_
  refine rangeB d.flight.length (fun i σ => (∀ x ∈ d.flight.take i, shortB x = true) ∧ ∃ g, σ.slot 2 = .c (.ptr 2 1 0 0) ∧ σ.h.gen 2 = 1 ∧ σ.h.blk 2 = .box 53 4 [[.zc, .zc, .s (.pv (.int .i64 0)), .zc]] ∧ σ.slot 4 = .c (.ptr 4 1 0 0) ∧ σ.h.gen 4 = 1 ∧ σ.h.blk 4 = .box 53 4 [[.s (.sl 1 (d.disk.sectors.map encS)), .s (.sl 2 (d.disk.cache.map encWr)), .s (.pv (.int .i64 d.next)), .own 39 g]] ∧ σ.slot 24 = vL 4 (d.flight.map encRq) ∧ σ.slot 25 = vI d.flight.length ∧ σ.slot 26 = vI i ∧ σ.h.gen 39 = g ∧ σ.h.blk 39 = .row 68 4 ((d.flight.take i).map encRq)) ?_ ?_ ?_
  · simp -implicitDefEqProofs only [↓aP, aQ, ↓reduceIte, Nat.reduceEqDiff, Nat.reduceAdd, Nat.reduceSub, Nat.reduceMul, Nat.reduceLT, Nat.reduceLeDiff, reduceCtorEq, Nat.reduceBEq, forall_const, implies_true, exists_const, ne_eq, Int.reduceAdd, Int.reduceSub, Int.reduceMul, Int.reduceBEq, Int.reduceEq, Int.reduceLT, Int.reduceLE, Int.reduceToNat, Int.reduceNeg, Int.reduceBNe]
    exact ⟨by simp, 1, by simp⟩
  · rintro i m σ him hi hlt ⟨hall, g, s2, g2, b2, s4, g4, b4, s24, s25, s26, g39, b39⟩
    simp -implicitDefEqProofs only [↓aP, aQ, ↓reduceIte, Nat.reduceEqDiff, Nat.reduceAdd, Nat.reduceSub, Nat.reduceMul, Nat.reduceLT, Nat.reduceLeDiff, reduceCtorEq, Nat.reduceBEq, forall_const, implies_true, exists_const, ne_eq, Int.reduceAdd, Int.reduceSub, Int.reduceMul, Int.reduceBEq, Int.reduceEq, Int.reduceLT, Int.reduceLE, Int.reduceToNat, Int.reduceNeg, Int.reduceBNe, hlt, s2, g2, b2, s4, g4, b4, s24, s25, s26, g39, b39, askIdx_map, hi, encRq]
    refine fork ?_ ?_ <;> intro h100
    · have hb : shortB d.flight[i] = false := by simp only [shortB, h100]; rfl
      have e1 : d.flight.all shortB = false := by simp only [List.all_eq_false]; exact ⟨_, List.getElem_mem hi, by simp [hb]⟩
      simp -implicitDefEqProofs only [↓aP, aQ, ↓reduceIte, Nat.reduceEqDiff, Nat.reduceAdd, Nat.reduceSub, Nat.reduceMul, Nat.reduceLT, Nat.reduceLeDiff, reduceCtorEq, Nat.reduceBEq, forall_const, implies_true, exists_const, ne_eq, Int.reduceAdd, Int.reduceSub, Int.reduceMul, Int.reduceBEq, Int.reduceEq, Int.reduceLT, Int.reduceLE, Int.reduceToNat, Int.reduceNeg, Int.reduceBNe, s2, g2, b2, s4, g4, b4, s24, s25, s26, g39, b39, hrf, e1, takeWhile_at hi hall hb, encDv]
    · have hb : shortB d.flight[i] = true := by simp only [shortB, h100]; rfl
      simp -implicitDefEqProofs only [↓aP, aQ, ↓reduceIte, Nat.reduceEqDiff, Nat.reduceAdd, Nat.reduceSub, Nat.reduceMul, Nat.reduceLT, Nat.reduceLeDiff, reduceCtorEq, Nat.reduceBEq, forall_const, implies_true, exists_const, ne_eq, Int.reduceAdd, Int.reduceSub, Int.reduceMul, Int.reduceBEq, Int.reduceEq, Int.reduceLT, Int.reduceLE, Int.reduceToNat, Int.reduceNeg, Int.reduceBNe, s2, g2, b2, s4, g4, b4, s24, s25, s26, g39, b39, wrapS (show i < 4611686018427387904 by omega)]
      have e9 : (d.flight.take i).length ≤ 20 := by rw [List.length_take]; omega
      refine ⟨by omega, by omega, ?_⟩
      refine nextR hi him ⟨?_, g + 1, ?_⟩
      · intro x hx
        rw [take_snoc hi] at hx
        rcases List.mem_append.1 hx with h | h
        · exact hall x h
        · rw [List.mem_singleton.1 h]; exact hb
      · simp -implicitDefEqProofs only [↓aP, aQ, ↓reduceIte, Nat.reduceEqDiff, Nat.reduceAdd, Nat.reduceSub, Nat.reduceMul, Nat.reduceLT, Nat.reduceLeDiff, reduceCtorEq, Nat.reduceBEq, forall_const, implies_true, exists_const, ne_eq, Int.reduceAdd, Int.reduceSub, Int.reduceMul, Int.reduceBEq, Int.reduceEq, Int.reduceLT, Int.reduceLE, Int.reduceToNat, Int.reduceNeg, Int.reduceBNe, s2, g2, b2, s4, g4, b4, s24, s25, s26, g39, b39, take_snoc hi, List.map_append, encRq]
  · rintro m σ hlt ⟨hall, g, s2, g2, b2, s4, g4, b4, s24, s25, s26, g39, b39⟩
    rw [List.take_length] at hall b39
    have e1 : d.flight.all shortB = true := by simp only [List.all_eq_true]; exact hall
    simp -implicitDefEqProofs only [↓aP, aQ, ↓reduceIte, Nat.reduceEqDiff, Nat.reduceAdd, Nat.reduceSub, Nat.reduceMul, Nat.reduceLT, Nat.reduceLeDiff, reduceCtorEq, Nat.reduceBEq, forall_const, implies_true, exists_const, ne_eq, Int.reduceAdd, Int.reduceSub, Int.reduceMul, Int.reduceBEq, Int.reduceEq, Int.reduceLT, Int.reduceLE, Int.reduceToNat, Int.reduceNeg, Int.reduceBNe, hlt, s2, g2, b2, s4, g4, b4, s24, s25, s26, g39, b39, hrf, e1, takeWhile_all hall, encDv]
theorem newV_spec : Spec Try.prog 39 [] (.val (.agg (encDv ⟨⟨List.replicate 35 noughts, []⟩, 0, []⟩))) := by
  refine spec_val mixed fn39 (by simp) ?_
  unfold ac39
  have h := new_spec 35
  rw [show newD 35 = (⟨List.replicate 35 noughts, []⟩, 0) from rfl] at h
  simp -implicitDefEqProofs only [↓aP, aQ, ↓reduceIte, Nat.reduceEqDiff, Nat.reduceAdd, Nat.reduceSub, Nat.reduceMul, Nat.reduceLT, Nat.reduceLeDiff, reduceCtorEq, Nat.reduceBEq, forall_const, implies_true, exists_const, ne_eq, Int.reduceAdd, Int.reduceSub, Int.reduceMul, Int.reduceBEq, Int.reduceEq, Int.reduceLT, Int.reduceLE, Int.reduceToNat, Int.reduceNeg, Int.reduceBNe, encDk]
  refine ask h ?_
  simp -implicitDefEqProofs only [↓aP, aQ, ↓reduceIte, Nat.reduceEqDiff, Nat.reduceAdd, Nat.reduceSub, Nat.reduceMul, Nat.reduceLT, Nat.reduceLeDiff, reduceCtorEq, Nat.reduceBEq, forall_const, implies_true, exists_const, ne_eq, Int.reduceAdd, Int.reduceSub, Int.reduceMul, Int.reduceBEq, Int.reduceEq, Int.reduceLT, Int.reduceLE, Int.reduceToNat, Int.reduceNeg, Int.reduceBNe, encDk, encDv]
def nV : Dv := ⟨⟨List.replicate 35 noughts, []⟩, 0, []⟩
def aDat : ByteArray := ⟨#[48, 49, 50, 51, 52, 53, 54, 55, 56, 57, 97, 98, 99, 100, 101, 102, 48, 49, 50, 51, 52, 53, 54, 55, 56, 57, 65, 66, 67, 68, 69, 70]⟩
theorem awakeV_spec : Spec Try.prog 30 [] (.val (rB true)) := by
  refine spec_val mixed fn30 (by simp) ?_
  unfold ac30
  obtain ⟨d1, n1, f1, h1⟩ : ∃ d n f, submitV nV 2 1 aDat = (d, n, f) := ⟨_, _, _, rfl⟩
  obtain ⟨d2, n2, f2, h2⟩ : ∃ d n f, submitV d1 1 1 ⟨#[]⟩ = (d, n, f) := ⟨_, _, _, rfl⟩
  obtain ⟨d3, r3, f3, h3⟩ : ∃ d n f, finishV d2 0 false = (d, n, f) := ⟨_, _, _, rfl⟩
  obtain ⟨d4, r4, f4, h4⟩ : ∃ d n f, finishV d3 0 false = (d, n, f) := ⟨_, _, _, rfl⟩
  have key : (n1, n2, f1, f2, f3, r4.data, f4) = (0, 1, 0, 0, 0, aDat, 0) := by
    have : ((submitV nV 2 1 aDat).2.1, (submitV (submitV nV 2 1 aDat).1 1 1 ⟨#[]⟩).2.1, (submitV nV 2 1 aDat).2.2, (submitV (submitV nV 2 1 aDat).1 1 1 ⟨#[]⟩).2.2, (finishV (submitV (submitV nV 2 1 aDat).1 1 1 ⟨#[]⟩).1 0 false).2.2, (finishV (finishV (submitV (submitV nV 2 1 aDat).1 1 1 ⟨#[]⟩).1 0 false).1 0 false).2.1.data, (finishV (finishV (submitV (submitV nV 2 1 aDat).1 1 1 ⟨#[]⟩).1 0 false).1 0 false).2.2) = (0, 1, 0, 0, 0, aDat, 0) := by kernel_rfl
    simp only [h1, h2, h3, h4] at this
    exact this
  simp only [Prod.mk.injEq] at key
  obtain ⟨rfl, rfl, rfl, rfl, rfl, k6, rfl⟩ := key
  have t1 := submit_spec nV 2 1 aDat
  rw [h1] at t1
  have t2 := submit_spec d1 1 1 ⟨#[]⟩
  rw [h2] at t2
  have t3 := finish_spec d2 0 false
  rw [h3] at t3
  have t4 := finish_spec d3 0 false
  rw [h4] at t4
  unfold aDat at t1 k6
  simp -implicitDefEqProofs only [↓aP, aQ, ↓reduceIte, Nat.reduceEqDiff, Nat.reduceAdd, Nat.reduceSub, Nat.reduceMul, Nat.reduceLT, Nat.reduceLeDiff, reduceCtorEq, Nat.reduceBEq, forall_const, implies_true, exists_const, ne_eq, Int.reduceAdd, Int.reduceSub, Int.reduceMul, Int.reduceBEq, Int.reduceEq, Int.reduceLT, Int.reduceLE, Int.reduceToNat, Int.reduceNeg, Int.reduceBNe]
  refine ask newV_spec ?_
  simp -implicitDefEqProofs only [↓aP, aQ, ↓reduceIte, Nat.reduceEqDiff, Nat.reduceAdd, Nat.reduceSub, Nat.reduceMul, Nat.reduceLT, Nat.reduceLeDiff, reduceCtorEq, Nat.reduceBEq, forall_const, implies_true, exists_const, ne_eq, Int.reduceAdd, Int.reduceSub, Int.reduceMul, Int.reduceBEq, Int.reduceEq, Int.reduceLT, Int.reduceLE, Int.reduceToNat, Int.reduceNeg, Int.reduceBNe, encDv]
  refine ask t1 ?_
  simp -implicitDefEqProofs only [↓aP, aQ, ↓reduceIte, Nat.reduceEqDiff, Nat.reduceAdd, Nat.reduceSub, Nat.reduceMul, Nat.reduceLT, Nat.reduceLeDiff, reduceCtorEq, Nat.reduceBEq, forall_const, implies_true, exists_const, ne_eq, Int.reduceAdd, Int.reduceSub, Int.reduceMul, Int.reduceBEq, Int.reduceEq, Int.reduceLT, Int.reduceLE, Int.reduceToNat, Int.reduceNeg, Int.reduceBNe, encSub, encDv]
  refine ask t2 ?_
  simp -implicitDefEqProofs only [↓aP, aQ, ↓reduceIte, Nat.reduceEqDiff, Nat.reduceAdd, Nat.reduceSub, Nat.reduceMul, Nat.reduceLT, Nat.reduceLeDiff, reduceCtorEq, Nat.reduceBEq, forall_const, implies_true, exists_const, ne_eq, Int.reduceAdd, Int.reduceSub, Int.reduceMul, Int.reduceBEq, Int.reduceEq, Int.reduceLT, Int.reduceLE, Int.reduceToNat, Int.reduceNeg, Int.reduceBNe, encSub, encDv]
  refine ask t3 ?_
  simp -implicitDefEqProofs only [↓aP, aQ, ↓reduceIte, Nat.reduceEqDiff, Nat.reduceAdd, Nat.reduceSub, Nat.reduceMul, Nat.reduceLT, Nat.reduceLeDiff, reduceCtorEq, Nat.reduceBEq, forall_const, implies_true, exists_const, ne_eq, Int.reduceAdd, Int.reduceSub, Int.reduceMul, Int.reduceBEq, Int.reduceEq, Int.reduceLT, Int.reduceLE, Int.reduceToNat, Int.reduceNeg, Int.reduceBNe, encFin, encDv, encRq]
  refine ask t4 ?_
  simp -implicitDefEqProofs only [↓aP, aQ, ↓reduceIte, Nat.reduceEqDiff, Nat.reduceAdd, Nat.reduceSub, Nat.reduceMul, Nat.reduceLT, Nat.reduceLeDiff, reduceCtorEq, Nat.reduceBEq, forall_const, implies_true, exists_const, ne_eq, Int.reduceAdd, Int.reduceSub, Int.reduceMul, Int.reduceBEq, Int.reduceEq, Int.reduceLT, Int.reduceLE, Int.reduceToNat, Int.reduceNeg, Int.reduceBNe, encFin, encDv, encRq, k6]
end Go.Proofs.Ytmknfchmnangbaa
