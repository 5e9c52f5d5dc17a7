/- layer 4: the laws DeviceSubmits, DeviceFinishes, DeviceFault. -/
import Derived.Test.YtmknfchmnangbaaV5
namespace Go.Proofs.Ytmknfchmnangbaa
open Go.RowKit Go.ChangeShapes Go.WideShapes
set_option linter.unusedVariables false
set_option linter.unusedSimpArgs false
theorem opens_rq {H : Type} {enc : TypeId × Value → H} {w : World} {spare : Nat → Bool} {held : Bool} : Opens Try.prog enc w spare held 65 4 (fun ys => ∃ x : Rq, ys = encRq x) := by
  have h := opens_struct (enc := enc) (w := w) (spare := spare) (held := held) Try.underlying65 (by kernel_rfl) (.cons rfl (opens_int Try.underlying3 (by kernel_rfl)) (.cons rfl (opens_int Try.underlying3 (by kernel_rfl)) (.cons rfl (opens_int Try.underlying3 (by kernel_rfl)) (.cons rfl (opens_str Try.underlying9 (by kernel_rfl)) (.nil _)))))
  refine ⟨h.1, fun fuel cs x hx => ?_⟩
  obtain ⟨ys, ⟨_, _, rfl, ⟨n1, rfl, _⟩, _, _, rfl, ⟨n2, rfl, _⟩, _, _, rfl, ⟨n3, rfl, _⟩, _, _, rfl, ⟨s, rfl, _⟩, rfl⟩, h2, h3⟩ := h.2 _ _ _ hx
  exact ⟨_, ⟨⟨n1, n2, n3, s⟩, rfl⟩, h2, h3⟩
theorem opens_dv {H : Type} {enc : TypeId × Value → H} {w : World} {spare : Nat → Bool} {held : Bool} : Opens Try.prog enc w spare held 50 4 (fun ys => ∃ x : Dv, ys = encDv x) := by
  have h := opens_struct (enc := enc) (w := w) (spare := spare) (held := held) Try.underlying50 (by kernel_rfl) (.cons rfl opens_dk (.cons rfl (opens_int Try.underlying3 (by kernel_rfl)) (.cons rfl (opens_slice Try.underlying48 (by kernel_rfl) (by decide) opens_rq) (.nil _))))
  refine ⟨h.1, fun fuel cs x hx => ?_⟩
  obtain ⟨ys, ⟨_, _, rfl, ⟨dk, rfl⟩, _, _, rfl, ⟨n2, rfl, _⟩, _, _, rfl, ⟨els, rfl, he, _⟩, rfl⟩, h2, h3⟩ := h.2 _ _ _ hx
  obtain ⟨fl, rfl⟩ := all_of_mem (f := encRq) (fun y hy => he y hy)
  exact ⟨_, ⟨⟨dk, n2, fl⟩, rfl⟩, h2, h3⟩
set_option maxRecDepth 100000 in
theorem open_dv {H : Type} {enc : TypeId × Value → H} {w : World} {spare : Nat → Bool} {held : Bool} {r : Reach} {b0 : Nat} {v : Value} {d : DataW H} {p : List MemPlace} 
    (hv : Value.okWide Try.prog w r b0 50 v) (h : DataW.Trod enc Try.prog w 0 spare held 50 v d p) : ∃ x : Dv, RepT (RepS w fun _ => False) (.agg (encDv x)) v := by
  obtain ⟨ys, ⟨x, rfl⟩, h2⟩ := open_more opens_dv Try.underlying50 hv h
  exact ⟨x, h2⟩
def okV (d : Dv) : Bool := smallB d.disk && decide (d.flight.length ≤ 20) && d.flight.all shortB
theorem refV_ok {d : Dv} (h : okV d = true) : refV d = (d, true) := by
  simp only [okV, Bool.and_eq_true, decide_eq_true_eq] at h
  have h2 := h.2
  rw [List.all_eq_true] at h2
  unfold refV
  rw [if_pos ⟨h.1.1, by omega⟩, takeWhile_all h2, h.2]
theorem refV_no {d : Dv} (h : okV d = false) : (refV d).2 = false := by
  unfold refV
  split
  · rename_i h1
    simp only [okV, h1.1, (show d.flight.length ≤ 20 by omega), decide_true, Bool.true_and] at h
    exact h
  · rfl
theorem small_len {d : Dk} (h : smallB d = true) : d.sectors.length ≤ 80 ∧ d.cache.length ≤ 220 := by
  simp only [smallB, Bool.and_eq_true, decide_eq_true_eq] at h
  exact h.1.1
theorem okV_len {d : Dv} (h : okV d = true) : d.disk.sectors.length ≤ 80 ∧ d.disk.cache.length ≤ 220 ∧ d.flight.length ≤ 20 ∧ ∀ r ∈ d.flight, shortB r = true := by
  simp only [okV, Bool.and_eq_true, decide_eq_true_eq, List.all_eq_true] at h
  exact ⟨(small_len h.1.1).1, (small_len h.1.1).2, h.1.2, h.2⟩
theorem okV_same {d : Dv} (h : okV d = true) : Spec Try.prog 33 [.agg (encDv d), .agg (encDv d)] (.val (rB true)) := by
  have := okV_len h
  exact sameV_spec d (by omega) (by omega) (by omega)
theorem okV_mk {d : Dv} {k : Dk} {n : Int} {l : List Rq} (h : okV d = true) (hk : smallB k = true) (hl : l.length ≤ 20) (hs : ∀ r ∈ l, shortB r = true) : okV ⟨k, n, l⟩ = true := by
  simp only [okV, Bool.and_eq_true, decide_eq_true_eq, List.all_eq_true]
  exact ⟨⟨hk, hl⟩, hs⟩
theorem okV_small {d : Dv} (h : okV d = true) : smallB d.disk = true := by
  simp only [okV, Bool.and_eq_true] at h
  exact h.1.1
theorem ok_submit {d : Dv} {k p : Int} {s : ByteArray} (h : okV d = true) (hs : (s.size : Int) ≤ 100) : okV (submitV d k p s).1 = true := by
  unfold submitV
  split
  · exact h
  rename_i hn
  split
  · exact h
  have hr : rightV d = true := by cases hr : rightV d; simp [hr] at hn; rfl
  have hl := rightV_len hr
  refine okV_mk h (okV_small h) (by simp; omega) (fun r hr => ?_)
  rcases List.mem_append.1 hr with hr | hr
  · exact (okV_len h).2.2.2 r hr
  · rw [List.mem_singleton.1 hr]; simp [shortB]; omega
theorem deviceSubmits_spec (d : Dv) (k p : Int) (s : ByteArray) : Spec Try.prog 10 [.agg (encDv d), rI k, rI p, rS s] (.val (rB true)) := by
  refine spec_val mixed fn10 (by simp) ?_
  unfold ac10
  simp -implicitDefEqProofs only [↓aP, aQ, ↓reduceIte, Nat.reduceEqDiff, Nat.reduceAdd, Nat.reduceSub, Nat.reduceMul, Nat.reduceLT, Nat.reduceLeDiff, reduceCtorEq, Nat.reduceBEq, forall_const, implies_true, exists_const, ne_eq, Int.reduceAdd, Int.reduceSub, Int.reduceMul, Int.reduceBEq, Int.reduceEq, Int.reduceLT, Int.reduceLE, Int.reduceToNat, Int.reduceNeg, Int.reduceBNe, encDv]
  refine ask (ref_spec d) ?_
  cases ho : okV d
  · simp -implicitDefEqProofs only [↓aP, aQ, ↓reduceIte, Nat.reduceEqDiff, Nat.reduceAdd, Nat.reduceSub, Nat.reduceMul, Nat.reduceLT, Nat.reduceLeDiff, reduceCtorEq, Nat.reduceBEq, forall_const, implies_true, exists_const, ne_eq, Int.reduceAdd, Int.reduceSub, Int.reduceMul, Int.reduceBEq, Int.reduceEq, Int.reduceLT, Int.reduceLE, Int.reduceToNat, Int.reduceNeg, Int.reduceBNe, encRef, encDv, refV_no ho]
    refine ask awakeV_spec ?_
    simp -implicitDefEqProofs only [↓aP, aQ, ↓reduceIte, Nat.reduceEqDiff, Nat.reduceAdd, Nat.reduceSub, Nat.reduceMul, Nat.reduceLT, Nat.reduceLeDiff, reduceCtorEq, Nat.reduceBEq, forall_const, implies_true, exists_const, ne_eq, Int.reduceAdd, Int.reduceSub, Int.reduceMul, Int.reduceBEq, Int.reduceEq, Int.reduceLT, Int.reduceLE, Int.reduceToNat, Int.reduceNeg, Int.reduceBNe]
  rw [refV_ok ho]
  simp -implicitDefEqProofs only [↓aP, aQ, ↓reduceIte, Nat.reduceEqDiff, Nat.reduceAdd, Nat.reduceSub, Nat.reduceMul, Nat.reduceLT, Nat.reduceLeDiff, reduceCtorEq, Nat.reduceBEq, forall_const, implies_true, exists_const, ne_eq, Int.reduceAdd, Int.reduceSub, Int.reduceMul, Int.reduceBEq, Int.reduceEq, Int.reduceLT, Int.reduceLE, Int.reduceToNat, Int.reduceNeg, Int.reduceBNe, encRef, encDv]
  refine fork ?_ ?_ <;> intro h100
  · simp -implicitDefEqProofs only [↓aP, aQ, ↓reduceIte, Nat.reduceEqDiff, Nat.reduceAdd, Nat.reduceSub, Nat.reduceMul, Nat.reduceLT, Nat.reduceLeDiff, reduceCtorEq, Nat.reduceBEq, forall_const, implies_true, exists_const, ne_eq, Int.reduceAdd, Int.reduceSub, Int.reduceMul, Int.reduceBEq, Int.reduceEq, Int.reduceLT, Int.reduceLE, Int.reduceToNat, Int.reduceNeg, Int.reduceBNe]
    refine ask awakeV_spec ?_
    simp -implicitDefEqProofs only [↓aP, aQ, ↓reduceIte, Nat.reduceEqDiff, Nat.reduceAdd, Nat.reduceSub, Nat.reduceMul, Nat.reduceLT, Nat.reduceLeDiff, reduceCtorEq, Nat.reduceBEq, forall_const, implies_true, exists_const, ne_eq, Int.reduceAdd, Int.reduceSub, Int.reduceMul, Int.reduceBEq, Int.reduceEq, Int.reduceLT, Int.reduceLE, Int.reduceToNat, Int.reduceNeg, Int.reduceBNe]
  have h100' := t_df h100
  obtain ⟨a, n, e, ha⟩ : ∃ a n e, submitV d k p s = (a, n, e) := ⟨_, _, _, rfl⟩
  have hoa := ok_submit (k := k) (p := p) ho (Int.not_lt.1 h100')
  have t1 := submit_spec d k p s
  have t2 := refSubmit_spec d k p s
  rw [ha] at t1 t2 hoa
  have t3 := ref_spec a
  rw [refV_ok hoa] at t3
  simp -implicitDefEqProofs only [↓aP, aQ, ↓reduceIte, Nat.reduceEqDiff, Nat.reduceAdd, Nat.reduceSub, Nat.reduceMul, Nat.reduceLT, Nat.reduceLeDiff, reduceCtorEq, Nat.reduceBEq, forall_const, implies_true, exists_const, ne_eq, Int.reduceAdd, Int.reduceSub, Int.reduceMul, Int.reduceBEq, Int.reduceEq, Int.reduceLT, Int.reduceLE, Int.reduceToNat, Int.reduceNeg, Int.reduceBNe, encRef, encDv]
  refine ask t1 ?_
  simp -implicitDefEqProofs only [↓aP, aQ, ↓reduceIte, Nat.reduceEqDiff, Nat.reduceAdd, Nat.reduceSub, Nat.reduceMul, Nat.reduceLT, Nat.reduceLeDiff, reduceCtorEq, Nat.reduceBEq, forall_const, implies_true, exists_const, ne_eq, Int.reduceAdd, Int.reduceSub, Int.reduceMul, Int.reduceBEq, Int.reduceEq, Int.reduceLT, Int.reduceLE, Int.reduceToNat, Int.reduceNeg, Int.reduceBNe, encSub, encDv]
  refine ask t2 ?_
  simp -implicitDefEqProofs only [↓aP, aQ, ↓reduceIte, Nat.reduceEqDiff, Nat.reduceAdd, Nat.reduceSub, Nat.reduceMul, Nat.reduceLT, Nat.reduceLeDiff, reduceCtorEq, Nat.reduceBEq, forall_const, implies_true, exists_const, ne_eq, Int.reduceAdd, Int.reduceSub, Int.reduceMul, Int.reduceBEq, Int.reduceEq, Int.reduceLT, Int.reduceLE, Int.reduceToNat, Int.reduceNeg, Int.reduceBNe, encSub, encDv]
  refine ask t3 ?_
  simp -implicitDefEqProofs only [↓aP, aQ, ↓reduceIte, Nat.reduceEqDiff, Nat.reduceAdd, Nat.reduceSub, Nat.reduceMul, Nat.reduceLT, Nat.reduceLeDiff, reduceCtorEq, Nat.reduceBEq, forall_const, implies_true, exists_const, ne_eq, Int.reduceAdd, Int.reduceSub, Int.reduceMul, Int.reduceBEq, Int.reduceEq, Int.reduceLT, Int.reduceLE, Int.reduceToNat, Int.reduceNeg, Int.reduceBNe, encRef, encDv]
  refine ask (okV_same hoa) ?_
  simp -implicitDefEqProofs only [↓aP, aQ, ↓reduceIte, Nat.reduceEqDiff, Nat.reduceAdd, Nat.reduceSub, Nat.reduceMul, Nat.reduceLT, Nat.reduceLeDiff, reduceCtorEq, Nat.reduceBEq, forall_const, implies_true, exists_const, ne_eq, Int.reduceAdd, Int.reduceSub, Int.reduceMul, Int.reduceBEq, Int.reduceEq, Int.reduceLT, Int.reduceLE, Int.reduceToNat, Int.reduceNeg, Int.reduceBNe, encDv]
  refine ask (dvRight_spec d) ?_
  simp -implicitDefEqProofs only [↓aP, aQ, ↓reduceIte, Nat.reduceEqDiff, Nat.reduceAdd, Nat.reduceSub, Nat.reduceMul, Nat.reduceLT, Nat.reduceLeDiff, reduceCtorEq, Nat.reduceBEq, forall_const, implies_true, exists_const, ne_eq, Int.reduceAdd, Int.reduceSub, Int.reduceMul, Int.reduceBEq, Int.reduceEq, Int.reduceLT, Int.reduceLE, Int.reduceToNat, Int.reduceNeg, Int.reduceBNe, encDv]
  refine ask (refRightV_spec d) ?_
  simp -implicitDefEqProofs only [↓aP, aQ, ↓reduceIte, Nat.reduceEqDiff, Nat.reduceAdd, Nat.reduceSub, Nat.reduceMul, Nat.reduceLT, Nat.reduceLeDiff, reduceCtorEq, Nat.reduceBEq, forall_const, implies_true, exists_const, ne_eq, Int.reduceAdd, Int.reduceSub, Int.reduceMul, Int.reduceBEq, Int.reduceEq, Int.reduceLT, Int.reduceLE, Int.reduceToNat, Int.reduceNeg, Int.reduceBNe]
  refine ask awakeV_spec ?_
  simp -implicitDefEqProofs only [↓aP, aQ, ↓reduceIte, Nat.reduceEqDiff, Nat.reduceAdd, Nat.reduceSub, Nat.reduceMul, Nat.reduceLT, Nat.reduceLeDiff, reduceCtorEq, Nat.reduceBEq, forall_const, implies_true, exists_const, ne_eq, Int.reduceAdd, Int.reduceSub, Int.reduceMul, Int.reduceBEq, Int.reduceEq, Int.reduceLT, Int.reduceLE, Int.reduceToNat, Int.reduceNeg, Int.reduceBNe]
  all_goals decide +kernel
theorem deviceSubmits_walk {w : World} (v0 : Value) (a0 : ∃ x : Dv, RepT (RepS w fun _ => False) (.agg (encDv x)) v0) (a : Int) (ha : (Lit.int .i64 a).wf = true) (b : Int) (hb : (Lit.int .i64 b).wf = true) (s : ByteArray) (hs : s.size ≤ maxLen) :
    Calls Try.prog 10 #[v0, .int .i64 a, .int .i64 b, .string s] w fun e w' => e = .returned (.bool true) ∧ Below w.heap.size w w' := by
  obtain ⟨d, h0⟩ := a0
  exact (deviceSubmits_spec d a b s).plain (us := [v0, .int .i64 a, .int .i64 b, .string s]) (.cons h0 (.cons (.pv rfl) (.cons (.pv rfl) (.cons (.pv rfl) .nil))))
end Go.Proofs.Ytmknfchmnangbaa
