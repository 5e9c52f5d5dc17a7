/- layer 6: the law SchedFull. -/
import Derived.Test.YtfmbfgoofiojcaaS9
import Derived.Test.YtfmbfgoofiojcaaQE
import Derived.Test.YtfmbfgoofiojcaaSub
import Derived.Test.YtfmbfgoofiojcaaAm19
namespace Go.Proofs.Ytfmbfgoofiojcaa
open Go.RowKit Lk
set_option linter.unusedVariables false
set_option linter.unusedSimpArgs false
def fj (p : Int) : Jb := ⟨0, 1, p, ⟨#[]⟩, 0⟩

set_option maxRecDepth 100000 in
set_option maxHeartbeats 4000000 in
theorem law_full6 (page : Int) (hp : 0 ≤ page ∧ page ≤ 255) : Spec Try.prog 14 [.c (.pv (.int .u8 page))] (.val (rB true)) := by
  refine spec_val mixed fn14 (by simp) ?_
  unfold ac14
  obtain ⟨p, hpp, hp1⟩ : ∃ p : Int, IntKind.i64.wrap (1 + IntKind.i64.wrap (page.tmod 16)) = p ∧ (1 ≤ p ∧ p ≤ 16) := by
    rw [Int.tmod_eq_emod_of_nonneg hp.1, wrapI (x := page % 16) (by omega), wrapI (by omega)]
    exact ⟨_, rfl, by omega⟩
  have c0 := snewS_spec nV [1, 1] (by decide)
  rw [show Sc.newS nV [1, 1] = (Sc.fullS p 0, 0) from (Sc.new_ok (ws := [1, 1]) Sc.nV_right rfl (by decide)).1] at c0
  rw [encSi] at c0
  simp only [encDv, encSd, encI, List.map_cons, List.map_nil] at c0
  have cN : Spec Try.prog 26 [] (.val (.agg (encDv nV))) := newV_spec
  rw [encDv] at cN
  simp -implicitDefEqProofs only [↓aP, aQ, ↓reduceIte, Nat.reduceEqDiff, Nat.reduceAdd, Nat.reduceSub, Nat.reduceMul, Nat.reduceLT, Nat.reduceLeDiff, reduceCtorEq, Nat.reduceBEq, forall_const, implies_true, exists_const, ne_eq, Int.reduceAdd, Int.reduceSub, Int.reduceMul, Int.reduceBEq, Int.reduceEq, Int.reduceLT, Int.reduceLE, Int.reduceToNat, Int.reduceNeg, Int.reduceBNe]
  refine ask cN ?_
  simp -implicitDefEqProofs only [↓aP, aQ, ↓reduceIte, Nat.reduceEqDiff, Nat.reduceAdd, Nat.reduceSub, Nat.reduceMul, Nat.reduceLT, Nat.reduceLeDiff, reduceCtorEq, Nat.reduceBEq, forall_const, implies_true, exists_const, ne_eq, Int.reduceAdd, Int.reduceSub, Int.reduceMul, Int.reduceBEq, Int.reduceEq, Int.reduceLT, Int.reduceLE, Int.reduceToNat, Int.reduceNeg, Int.reduceBNe]
  refine ask c0 ?_
  simp -implicitDefEqProofs only [↓aP, aQ, ↓reduceIte, Nat.reduceEqDiff, Nat.reduceAdd, Nat.reduceSub, Nat.reduceMul, Nat.reduceLT, Nat.reduceLeDiff, reduceCtorEq, Nat.reduceBEq, forall_const, implies_true, exists_const, ne_eq, Int.reduceAdd, Int.reduceSub, Int.reduceMul, Int.reduceBEq, Int.reduceEq, Int.reduceLT, Int.reduceLE, Int.reduceToNat, Int.reduceNeg, Int.reduceBNe, hpp]
  refine loopA (fun m σ => ∃ k : Nat, k + m = 200 ∧ σ.slot 3 = .c (.ptr 3 1 0 0) ∧ σ.h.gen 3 = 1 ∧ σ.h.blk 3 = .box 68 9 [(encSd (Sc.fullS p k)).map AC.s] ∧ σ.slot 4 = vI 0 ∧ σ.slot 5 = .c (.ptr 5 1 0 0) ∧ σ.h.gen 5 = 1 ∧ σ.h.blk 5 = .box 80 5 [(encJb (fj p)).map AC.s] ∧ σ.slot 23 = vI k) 200 ⟨0, by omega, ?_⟩ ?_
  · simp -implicitDefEqProofs only [↓aP, aQ, ↓reduceIte, Nat.reduceEqDiff, Nat.reduceAdd, Nat.reduceSub, Nat.reduceMul, Nat.reduceLT, Nat.reduceLeDiff, reduceCtorEq, Nat.reduceBEq, forall_const, implies_true, exists_const, ne_eq, Int.reduceAdd, Int.reduceSub, Int.reduceMul, Int.reduceBEq, Int.reduceEq, Int.reduceLT, Int.reduceLE, Int.reduceToNat, Int.reduceNeg, Int.reduceBNe, encSd, fj, encJb]
  rintro m σ ⟨k, hk, s3, g3, b3, s4, s5, g5, b5, s23⟩
  by_cases hm : m = 0
  case neg =>
    have c1 := sask_spec (Sc.fullS p k) (fj p) (rs_shs (Sc.full_rs hp1 k (by omega)))
    rw [show Sc.askS (Sc.fullS p k) (fj p) = (Sc.fullS p (k + 1), 0) from Sc.full_ask hp1 (by omega), encSi] at c1
    simp only [encSd, encJb] at c1
    have wk : IntKind.i64.wrap ((k : Int) + 1) = ((k + 1 : Nat) : Int) := by rw [wrapI (by omega)]; omega
    simp -implicitDefEqProofs only [↓aP, aQ, ↓reduceIte, Nat.reduceEqDiff, Nat.reduceAdd, Nat.reduceSub, Nat.reduceMul, Nat.reduceLT, Nat.reduceLeDiff, reduceCtorEq, Nat.reduceBEq, forall_const, implies_true, exists_const, ne_eq, Int.reduceAdd, Int.reduceSub, Int.reduceMul, Int.reduceBEq, Int.reduceEq, Int.reduceLT, Int.reduceLE, Int.reduceToNat, Int.reduceNeg, Int.reduceBNe, s3, g3, b3, s4, s5, g5, b5, s23, show decide ((k : Int) < 200) = true by simp; omega, encSd, encJb]
    refine ask c1 ?_
    simp -implicitDefEqProofs only [↓aP, aQ, ↓reduceIte, Nat.reduceEqDiff, Nat.reduceAdd, Nat.reduceSub, Nat.reduceMul, Nat.reduceLT, Nat.reduceLeDiff, reduceCtorEq, Nat.reduceBEq, forall_const, implies_true, exists_const, ne_eq, Int.reduceAdd, Int.reduceSub, Int.reduceMul, Int.reduceBEq, Int.reduceEq, Int.reduceLT, Int.reduceLE, Int.reduceToNat, Int.reduceNeg, Int.reduceBNe, s3, g3, b3, s4, s5, g5, b5, s23, bne_self_eq_false, wk]
    refine ⟨m - 1, by omega, k + 1, by omega, ?_⟩
    simp -implicitDefEqProofs only [↓aP, aQ, ↓reduceIte, Nat.reduceEqDiff, Nat.reduceAdd, Nat.reduceSub, Nat.reduceMul, Nat.reduceLT, Nat.reduceLeDiff, reduceCtorEq, Nat.reduceBEq, forall_const, implies_true, exists_const, ne_eq, Int.reduceAdd, Int.reduceSub, Int.reduceMul, Int.reduceBEq, Int.reduceEq, Int.reduceLT, Int.reduceLE, Int.reduceToNat, Int.reduceNeg, Int.reduceBNe, s3, g3, b3, s4, s5, g5, b5, s23, encSd, encJb]
  obtain rfl : k = 200 := by omega
  obtain ⟨f1, t, f2, f3⟩ := Sc.full_end hp1
  have c1 := sask_spec (Sc.fullS p 200) (fj p) (rs_shs (Sc.full_rs hp1 200 (by omega)))
  have c2 := sask_spec (Sc.fullS p 200) ⟨1, 1, p, ⟨#[]⟩, 0⟩ (rs_shs (Sc.full_rs hp1 200 (by omega)))
  rw [show Sc.askS (Sc.fullS p 200) (fj p) = (Sc.fullS p 200, 7) from f1, encSi] at c1
  rw [f2, encSi] at c2
  simp only [encSd, encJb] at c1 c2
  have jl : t.js.length = 2 := by rw [f3]; rfl
  have j0 : (t.js[0]'(by omega)).length = 200 := by simp only [f3]; exact List.length_replicate
  simp -implicitDefEqProofs only [↓aP, aQ, ↓reduceIte, Nat.reduceEqDiff, Nat.reduceAdd, Nat.reduceSub, Nat.reduceMul, Nat.reduceLT, Nat.reduceLeDiff, reduceCtorEq, Nat.reduceBEq, forall_const, implies_true, exists_const, ne_eq, Int.reduceAdd, Int.reduceSub, Int.reduceMul, Int.reduceBEq, Int.reduceEq, Int.reduceLT, Int.reduceLE, Int.reduceToNat, Int.reduceNeg, Int.reduceBNe, s3, g3, b3, s4, s5, g5, b5, s23, show decide (((200 : Nat) : Int) < 200) = false by decide, encSd, encJb, fj]
  refine ask c1 ?_
  simp -implicitDefEqProofs only [↓aP, aQ, ↓reduceIte, Nat.reduceEqDiff, Nat.reduceAdd, Nat.reduceSub, Nat.reduceMul, Nat.reduceLT, Nat.reduceLeDiff, reduceCtorEq, Nat.reduceBEq, forall_const, implies_true, exists_const, ne_eq, Int.reduceAdd, Int.reduceSub, Int.reduceMul, Int.reduceBEq, Int.reduceEq, Int.reduceLT, Int.reduceLE, Int.reduceToNat, Int.reduceNeg, Int.reduceBNe, s3, g3, b3, s4, s5, g5, b5, s23, encSd, encJb, fj]
  refine ask c2 ?_
  simp -implicitDefEqProofs only [↓aP, aQ, ↓reduceIte, Nat.reduceEqDiff, Nat.reduceAdd, Nat.reduceSub, Nat.reduceMul, Nat.reduceLT, Nat.reduceLeDiff, reduceCtorEq, Nat.reduceBEq, forall_const, implies_true, exists_const, ne_eq, Int.reduceAdd, Int.reduceSub, Int.reduceMul, Int.reduceBEq, Int.reduceEq, Int.reduceLT, Int.reduceLE, Int.reduceToNat, Int.reduceNeg, Int.reduceBNe, s3, g3, b3, s4, s5, g5, b5, s23, beq_self_eq_true, List.length_map, jl, encJs, j0]
  refine ask awake6_spec ?_
  simp -implicitDefEqProofs only [↓aP, aQ, ↓reduceIte, Nat.reduceEqDiff, Nat.reduceAdd, Nat.reduceSub, Nat.reduceMul, Nat.reduceLT, Nat.reduceLeDiff, reduceCtorEq, Nat.reduceBEq, forall_const, implies_true, exists_const, ne_eq, Int.reduceAdd, Int.reduceSub, Int.reduceMul, Int.reduceBEq, Int.reduceEq, Int.reduceLT, Int.reduceLE, Int.reduceToNat, Int.reduceNeg, Int.reduceBNe]
end Go.Proofs.Ytfmbfgoofiojcaa
namespace Go.Proofs.Ytfmbfgoofiojcaa
open Go.RowKit Lk
set_option linter.unusedVariables false
set_option linter.unusedSimpArgs false
structure Ac where
  kind : Int
  n : Int
  j : Jb
def encAc (a : Ac) : List SC := [.pv (.int .i64 a.kind), .pv (.int .i64 a.n), .pv (.int .i64 a.j.who), .pv (.int .i64 a.j.kind), .pv (.int .i64 a.j.page), .pv (.string a.j.data), .pv (.int .i64 a.j.tries)]
def actS (s : Sd) (a : Ac) : Sd := if a.kind = 0 then (Sc.askS s a.j).1 else if a.kind = 1 then Sc.pumpS s else if a.kind = 2 then (Sc.doneS s a.n false).1 else if a.kind = 3 then (Sc.doneS s a.n true).1 else s
theorem done_l {s : Sd} (i : Int) (f : Bool) : (Sc.doneS s i f).1.l = s.l := by
  unfold Sc.doneS
  split
  · rfl
  split <;> rfl
theorem rs_act {s : Sd} (h : Sc.Rs s) (a : Ac) : Sc.Rs (actS s a) ∧ weights (actS s a).l = weights s.l := by
  unfold actS
  split
  · exact ⟨Sc.rs_ask h _, (Sc.many_ask h _).2.2.2.2.1⟩
  split
  · exact ⟨Sc.rs_pump h, (Sc.pump_facts h).2.2.2.2.2⟩
  split
  · exact ⟨Sc.rs_done h _ _, by rw [done_l]⟩
  split
  · exact ⟨Sc.rs_done h _ _, by rw [done_l]⟩
  · exact ⟨h, rfl⟩

set_option maxRecDepth 100000 in
set_option maxHeartbeats 4000000 in
theorem law_crash6 (acts : List Ac) (keep : List Int) (hl : acts.length ≤ 9223372036854775807) : Spec Try.prog 13 [rL 7 (acts.map encAc), rL 1 (keep.map encI)] (.val (rB true)) := by
  refine spec_val mixed fn13 (by simp) ?_
  unfold ac13
  obtain ⟨n1, n2⟩ := Sc.new_ok (d := nV) (ws := [1, 3]) Sc.nV_right rfl (by decide)
  have c0 := snewS_spec nV [1, 3] (by decide)
  have hw0 : weights (Sc.newS nV [1, 3]).1.l = [1, 3] := by rw [n1]; rfl
  rw [encSi, show (Sc.newS nV [1, 3]).2 = 0 by rw [n1]] at c0
  generalize (Sc.newS nV [1, 3]).1 = s0 at c0 n2 hw0
  simp only [encDv, encSd, encI, List.map_cons, List.map_nil] at c0
  have cN : Spec Try.prog 26 [] (.val (.agg (encDv nV))) := newV_spec
  rw [encDv] at cN
  simp -implicitDefEqProofs only [↓aP, aQ, ↓reduceIte, Nat.reduceEqDiff, Nat.reduceAdd, Nat.reduceSub, Nat.reduceMul, Nat.reduceLT, Nat.reduceLeDiff, reduceCtorEq, Nat.reduceBEq, forall_const, implies_true, exists_const, ne_eq, Int.reduceAdd, Int.reduceSub, Int.reduceMul, Int.reduceBEq, Int.reduceEq, Int.reduceLT, Int.reduceLE, Int.reduceToNat, Int.reduceNeg, Int.reduceBNe]
  refine ask cN ?_
  simp -implicitDefEqProofs only [↓aP, aQ, ↓reduceIte, Nat.reduceEqDiff, Nat.reduceAdd, Nat.reduceSub, Nat.reduceMul, Nat.reduceLT, Nat.reduceLeDiff, reduceCtorEq, Nat.reduceBEq, forall_const, implies_true, exists_const, ne_eq, Int.reduceAdd, Int.reduceSub, Int.reduceMul, Int.reduceBEq, Int.reduceEq, Int.reduceLT, Int.reduceLE, Int.reduceToNat, Int.reduceNeg, Int.reduceBNe]
  refine ask c0 ?_
  by_cases h1 : 60 < acts.length
  · simp -implicitDefEqProofs only [↓aP, aQ, ↓reduceIte, Nat.reduceEqDiff, Nat.reduceAdd, Nat.reduceSub, Nat.reduceMul, Nat.reduceLT, Nat.reduceLeDiff, reduceCtorEq, Nat.reduceBEq, forall_const, implies_true, exists_const, ne_eq, Int.reduceAdd, Int.reduceSub, Int.reduceMul, Int.reduceBEq, Int.reduceEq, Int.reduceLT, Int.reduceLE, Int.reduceToNat, Int.reduceNeg, Int.reduceBNe, bne_self_eq_false, List.length_map, show decide ((60 : Int) < (acts.length : Int)) = true by simp; omega, beq_self_eq_true]
    refine ask awake6_spec ?_
    simp -implicitDefEqProofs only [↓aP, aQ, ↓reduceIte, Nat.reduceEqDiff, Nat.reduceAdd, Nat.reduceSub, Nat.reduceMul, Nat.reduceLT, Nat.reduceLeDiff, reduceCtorEq, Nat.reduceBEq, forall_const, implies_true, exists_const, ne_eq, Int.reduceAdd, Int.reduceSub, Int.reduceMul, Int.reduceBEq, Int.reduceEq, Int.reduceLT, Int.reduceLE, Int.reduceToNat, Int.reduceNeg, Int.reduceBNe]
  by_cases h2 : 60 < keep.length
  · simp -implicitDefEqProofs only [↓aP, aQ, ↓reduceIte, Nat.reduceEqDiff, Nat.reduceAdd, Nat.reduceSub, Nat.reduceMul, Nat.reduceLT, Nat.reduceLeDiff, reduceCtorEq, Nat.reduceBEq, forall_const, implies_true, exists_const, ne_eq, Int.reduceAdd, Int.reduceSub, Int.reduceMul, Int.reduceBEq, Int.reduceEq, Int.reduceLT, Int.reduceLE, Int.reduceToNat, Int.reduceNeg, Int.reduceBNe, bne_self_eq_false, List.length_map, show decide ((60 : Int) < (acts.length : Int)) = false by simp; omega, show decide ((60 : Int) < (keep.length : Int)) = true by simp; omega, beq_self_eq_true]
    refine ask awake6_spec ?_
    simp -implicitDefEqProofs only [↓aP, aQ, ↓reduceIte, Nat.reduceEqDiff, Nat.reduceAdd, Nat.reduceSub, Nat.reduceMul, Nat.reduceLT, Nat.reduceLeDiff, reduceCtorEq, Nat.reduceBEq, forall_const, implies_true, exists_const, ne_eq, Int.reduceAdd, Int.reduceSub, Int.reduceMul, Int.reduceBEq, Int.reduceEq, Int.reduceLT, Int.reduceLE, Int.reduceToNat, Int.reduceNeg, Int.reduceBNe]
  simp -implicitDefEqProofs only [↓aP, aQ, ↓reduceIte, Nat.reduceEqDiff, Nat.reduceAdd, Nat.reduceSub, Nat.reduceMul, Nat.reduceLT, Nat.reduceLeDiff, reduceCtorEq, Nat.reduceBEq, forall_const, implies_true, exists_const, ne_eq, Int.reduceAdd, Int.reduceSub, Int.reduceMul, Int.reduceBEq, Int.reduceEq, Int.reduceLT, Int.reduceLE, Int.reduceToNat, Int.reduceNeg, Int.reduceBNe, bne_self_eq_false, List.length_map, show decide ((60 : Int) < (acts.length : Int)) = false by simp; omega, show decide ((60 : Int) < (keep.length : Int)) = false by simp; omega]
  refine rangeB acts.length (fun i σ => ∃ s, Sc.Rs s ∧ weights s.l = [1, 3] ∧ σ.slot 1 = vL 1 (keep.map encI) ∧ σ.slot 5 = .c (.ptr 5 1 0 0) ∧ σ.h.gen 5 = 1 ∧ σ.h.blk 5 = .box 68 9 [(encSd s).map AC.s] ∧ σ.slot 33 = vL 7 (acts.map encAc) ∧ σ.slot 34 = vI acts.length ∧ σ.slot 35 = vI i) ?_ ?_ ?_
  · refine ⟨s0, n2, hw0, ?_⟩
    simp -implicitDefEqProofs only [↓aP, aQ, ↓reduceIte, Nat.reduceEqDiff, Nat.reduceAdd, Nat.reduceSub, Nat.reduceMul, Nat.reduceLT, Nat.reduceLeDiff, reduceCtorEq, Nat.reduceBEq, forall_const, implies_true, exists_const, ne_eq, Int.reduceAdd, Int.reduceSub, Int.reduceMul, Int.reduceBEq, Int.reduceEq, Int.reduceLT, Int.reduceLE, Int.reduceToNat, Int.reduceNeg, Int.reduceBNe, encSd]
  · rintro i m σ him hi hlt ⟨s, hr, hw, s1, s5, g5, b5, s33, s34, s35⟩
    obtain ⟨ha, hb⟩ := rs_act hr acts[i]
    have wi := wrapS (show i < 4611686018427387904 by omega)
    have kn : ∀ x : Int, acts[i].kind ≠ x → (acts[i].kind == x) = false := fun x h => beq_eq_false_iff_ne.2 h
    by_cases k0 : acts[i].kind = 0
    · have e : actS s acts[i] = (Sc.askS s acts[i].j).1 := by unfold actS; rw [if_pos k0]
      have c1 := sask_spec s acts[i].j (rs_shs hr)
      rw [encSi] at c1
      rw [e] at ha hb
      generalize (Sc.askS s acts[i].j).1 = t at c1 ha hb
      simp only [encSd, encJb] at c1
      simp -implicitDefEqProofs only [↓aP, aQ, ↓reduceIte, Nat.reduceEqDiff, Nat.reduceAdd, Nat.reduceSub, Nat.reduceMul, Nat.reduceLT, Nat.reduceLeDiff, reduceCtorEq, Nat.reduceBEq, forall_const, implies_true, exists_const, ne_eq, Int.reduceAdd, Int.reduceSub, Int.reduceMul, Int.reduceBEq, Int.reduceEq, Int.reduceLT, Int.reduceLE, Int.reduceToNat, Int.reduceNeg, Int.reduceBNe, hlt, s1, s5, g5, b5, s33, s34, s35, askIdx_map, hi, encAc, k0, beq_self_eq_true, encSd]
      refine ask c1 ?_
      simp -implicitDefEqProofs only [↓aP, aQ, ↓reduceIte, Nat.reduceEqDiff, Nat.reduceAdd, Nat.reduceSub, Nat.reduceMul, Nat.reduceLT, Nat.reduceLeDiff, reduceCtorEq, Nat.reduceBEq, forall_const, implies_true, exists_const, ne_eq, Int.reduceAdd, Int.reduceSub, Int.reduceMul, Int.reduceBEq, Int.reduceEq, Int.reduceLT, Int.reduceLE, Int.reduceToNat, Int.reduceNeg, Int.reduceBNe, s1, s5, g5, b5, s33, s34, s35, wi]
      refine nextR hi him ⟨t, ha, hb.trans hw, ?_⟩
      simp -implicitDefEqProofs only [↓aP, aQ, ↓reduceIte, Nat.reduceEqDiff, Nat.reduceAdd, Nat.reduceSub, Nat.reduceMul, Nat.reduceLT, Nat.reduceLeDiff, reduceCtorEq, Nat.reduceBEq, forall_const, implies_true, exists_const, ne_eq, Int.reduceAdd, Int.reduceSub, Int.reduceMul, Int.reduceBEq, Int.reduceEq, Int.reduceLT, Int.reduceLE, Int.reduceToNat, Int.reduceNeg, Int.reduceBNe, s1, s5, g5, b5, s33, s34, s35, encSd]
    by_cases k1 : acts[i].kind = 1
    · have e : actS s acts[i] = Sc.pumpS s := by unfold actS; rw [if_neg k0, if_pos k1]
      have c1 := spump_spec s (rs_shs hr)
      rw [e] at ha hb
      generalize Sc.pumpS s = t at c1 ha hb
      simp only [encSd] at c1
      simp -implicitDefEqProofs only [↓aP, aQ, ↓reduceIte, Nat.reduceEqDiff, Nat.reduceAdd, Nat.reduceSub, Nat.reduceMul, Nat.reduceLT, Nat.reduceLeDiff, reduceCtorEq, Nat.reduceBEq, forall_const, implies_true, exists_const, ne_eq, Int.reduceAdd, Int.reduceSub, Int.reduceMul, Int.reduceBEq, Int.reduceEq, Int.reduceLT, Int.reduceLE, Int.reduceToNat, Int.reduceNeg, Int.reduceBNe, hlt, s1, s5, g5, b5, s33, s34, s35, askIdx_map, hi, encAc, k1, show ((1 : Int) == 0) = false by decide, beq_self_eq_true, encSd]
      refine ask c1 ?_
      simp -implicitDefEqProofs only [↓aP, aQ, ↓reduceIte, Nat.reduceEqDiff, Nat.reduceAdd, Nat.reduceSub, Nat.reduceMul, Nat.reduceLT, Nat.reduceLeDiff, reduceCtorEq, Nat.reduceBEq, forall_const, implies_true, exists_const, ne_eq, Int.reduceAdd, Int.reduceSub, Int.reduceMul, Int.reduceBEq, Int.reduceEq, Int.reduceLT, Int.reduceLE, Int.reduceToNat, Int.reduceNeg, Int.reduceBNe, s1, s5, g5, b5, s33, s34, s35, wi]
      refine nextR hi him ⟨t, ha, hb.trans hw, ?_⟩
      simp -implicitDefEqProofs only [↓aP, aQ, ↓reduceIte, Nat.reduceEqDiff, Nat.reduceAdd, Nat.reduceSub, Nat.reduceMul, Nat.reduceLT, Nat.reduceLeDiff, reduceCtorEq, Nat.reduceBEq, forall_const, implies_true, exists_const, ne_eq, Int.reduceAdd, Int.reduceSub, Int.reduceMul, Int.reduceBEq, Int.reduceEq, Int.reduceLT, Int.reduceLE, Int.reduceToNat, Int.reduceNeg, Int.reduceBNe, s1, s5, g5, b5, s33, s34, s35, encSd]
    by_cases k2 : acts[i].kind = 2
    · have e : actS s acts[i] = (Sc.doneS s acts[i].n false).1 := by unfold actS; rw [if_neg k0, if_neg k1, if_pos k2]
      have c1 := sdone_spec s acts[i].n false (rs_shs hr)
      rw [encDn] at c1
      rw [e] at ha hb
      generalize (Sc.doneS s acts[i].n false).1 = t at c1 ha hb
      simp only [encSd, encJb] at c1
      simp -implicitDefEqProofs only [↓aP, aQ, ↓reduceIte, Nat.reduceEqDiff, Nat.reduceAdd, Nat.reduceSub, Nat.reduceMul, Nat.reduceLT, Nat.reduceLeDiff, reduceCtorEq, Nat.reduceBEq, forall_const, implies_true, exists_const, ne_eq, Int.reduceAdd, Int.reduceSub, Int.reduceMul, Int.reduceBEq, Int.reduceEq, Int.reduceLT, Int.reduceLE, Int.reduceToNat, Int.reduceNeg, Int.reduceBNe, hlt, s1, s5, g5, b5, s33, s34, s35, askIdx_map, hi, encAc, k2, show ((2 : Int) == 0) = false by decide, show ((2 : Int) == 1) = false by decide, show ((2 : Int) == 3) = false by decide, beq_self_eq_true, encSd]
      refine ask c1 ?_
      simp -implicitDefEqProofs only [↓aP, aQ, ↓reduceIte, Nat.reduceEqDiff, Nat.reduceAdd, Nat.reduceSub, Nat.reduceMul, Nat.reduceLT, Nat.reduceLeDiff, reduceCtorEq, Nat.reduceBEq, forall_const, implies_true, exists_const, ne_eq, Int.reduceAdd, Int.reduceSub, Int.reduceMul, Int.reduceBEq, Int.reduceEq, Int.reduceLT, Int.reduceLE, Int.reduceToNat, Int.reduceNeg, Int.reduceBNe, s1, s5, g5, b5, s33, s34, s35, wi]
      refine nextR hi him ⟨t, ha, hb.trans hw, ?_⟩
      simp -implicitDefEqProofs only [↓aP, aQ, ↓reduceIte, Nat.reduceEqDiff, Nat.reduceAdd, Nat.reduceSub, Nat.reduceMul, Nat.reduceLT, Nat.reduceLeDiff, reduceCtorEq, Nat.reduceBEq, forall_const, implies_true, exists_const, ne_eq, Int.reduceAdd, Int.reduceSub, Int.reduceMul, Int.reduceBEq, Int.reduceEq, Int.reduceLT, Int.reduceLE, Int.reduceToNat, Int.reduceNeg, Int.reduceBNe, s1, s5, g5, b5, s33, s34, s35, encSd]
    by_cases k3 : acts[i].kind = 3
    · have e : actS s acts[i] = (Sc.doneS s acts[i].n true).1 := by unfold actS; rw [if_neg k0, if_neg k1, if_neg k2, if_pos k3]
      have c1 := sdone_spec s acts[i].n true (rs_shs hr)
      rw [encDn] at c1
      rw [e] at ha hb
      generalize (Sc.doneS s acts[i].n true).1 = t at c1 ha hb
      simp only [encSd, encJb] at c1
      simp -implicitDefEqProofs only [↓aP, aQ, ↓reduceIte, Nat.reduceEqDiff, Nat.reduceAdd, Nat.reduceSub, Nat.reduceMul, Nat.reduceLT, Nat.reduceLeDiff, reduceCtorEq, Nat.reduceBEq, forall_const, implies_true, exists_const, ne_eq, Int.reduceAdd, Int.reduceSub, Int.reduceMul, Int.reduceBEq, Int.reduceEq, Int.reduceLT, Int.reduceLE, Int.reduceToNat, Int.reduceNeg, Int.reduceBNe, hlt, s1, s5, g5, b5, s33, s34, s35, askIdx_map, hi, encAc, k3, show ((3 : Int) == 0) = false by decide, show ((3 : Int) == 1) = false by decide, show ((3 : Int) == 2) = false by decide, beq_self_eq_true, encSd]
      refine ask c1 ?_
      simp -implicitDefEqProofs only [↓aP, aQ, ↓reduceIte, Nat.reduceEqDiff, Nat.reduceAdd, Nat.reduceSub, Nat.reduceMul, Nat.reduceLT, Nat.reduceLeDiff, reduceCtorEq, Nat.reduceBEq, forall_const, implies_true, exists_const, ne_eq, Int.reduceAdd, Int.reduceSub, Int.reduceMul, Int.reduceBEq, Int.reduceEq, Int.reduceLT, Int.reduceLE, Int.reduceToNat, Int.reduceNeg, Int.reduceBNe, s1, s5, g5, b5, s33, s34, s35, wi]
      refine nextR hi him ⟨t, ha, hb.trans hw, ?_⟩
      simp -implicitDefEqProofs only [↓aP, aQ, ↓reduceIte, Nat.reduceEqDiff, Nat.reduceAdd, Nat.reduceSub, Nat.reduceMul, Nat.reduceLT, Nat.reduceLeDiff, reduceCtorEq, Nat.reduceBEq, forall_const, implies_true, exists_const, ne_eq, Int.reduceAdd, Int.reduceSub, Int.reduceMul, Int.reduceBEq, Int.reduceEq, Int.reduceLT, Int.reduceLE, Int.reduceToNat, Int.reduceNeg, Int.reduceBNe, s1, s5, g5, b5, s33, s34, s35, encSd]
    simp -implicitDefEqProofs only [↓aP, aQ, ↓reduceIte, Nat.reduceEqDiff, Nat.reduceAdd, Nat.reduceSub, Nat.reduceMul, Nat.reduceLT, Nat.reduceLeDiff, reduceCtorEq, Nat.reduceBEq, forall_const, implies_true, exists_const, ne_eq, Int.reduceAdd, Int.reduceSub, Int.reduceMul, Int.reduceBEq, Int.reduceEq, Int.reduceLT, Int.reduceLE, Int.reduceToNat, Int.reduceNeg, Int.reduceBNe, hlt, s1, s5, g5, b5, s33, s34, s35, askIdx_map, hi, encAc, kn 0 k0, kn 1 k1, kn 2 k2, kn 3 k3, encSd, wi]
    refine nextR hi him ⟨s, hr, hw, ?_⟩
    simp -implicitDefEqProofs only [↓aP, aQ, ↓reduceIte, Nat.reduceEqDiff, Nat.reduceAdd, Nat.reduceSub, Nat.reduceMul, Nat.reduceLT, Nat.reduceLeDiff, reduceCtorEq, Nat.reduceBEq, forall_const, implies_true, exists_const, ne_eq, Int.reduceAdd, Int.reduceSub, Int.reduceMul, Int.reduceBEq, Int.reduceEq, Int.reduceLT, Int.reduceLE, Int.reduceToNat, Int.reduceNeg, Int.reduceBNe, s1, s5, g5, b5, s33, s34, s35, encSd]
  · rintro m σ hlt ⟨s, hr, hw, s1, s5, g5, b5, s33, s34, s35⟩
    obtain ⟨hcr, hce⟩ := Sc.rs_crash hr keep
    have hll : s.l.l.length = 2 := by have := congrArg List.length hw; simpa [weights] using this
    have hce2 : Sc.crashS s keep = ⟨⟨[⟨1, 0, []⟩, ⟨3, 0, []⟩], 0, false⟩, [[], []], ⟨crashD s.dv.disk keep, s.dv.next, []⟩, []⟩ := by
      rw [hce, hll, show s.l.l.map Ln.w = [1, 3] from hw]; rfl
    have c1 := scrash_spec s keep hr (by omega)
    have c2 := sright_spec (Sc.crashS s keep) (rs_shs hcr)
    rw [Sc.rs_iff.2 hcr] at c2
    rw [hce2] at c1 c2
    obtain ⟨h1, h2, _⟩ := rightV_len hr.d
    have hcl := crash_len2 (keep := keep) h1
    have c3 := crash_spec s.dv.disk keep (by omega)
    have c4 := same_spec (crashD s.dv.disk keep) (by have := (right_len h1).2.1; omega) (by rw [hcl.2]; decide)
    simp only [encSd, encDk, encLn, encJs, List.map_cons, List.map_nil] at c1 c2 c3 c4
    simp -implicitDefEqProofs only [↓aP, aQ, ↓reduceIte, Nat.reduceEqDiff, Nat.reduceAdd, Nat.reduceSub, Nat.reduceMul, Nat.reduceLT, Nat.reduceLeDiff, reduceCtorEq, Nat.reduceBEq, forall_const, implies_true, exists_const, ne_eq, Int.reduceAdd, Int.reduceSub, Int.reduceMul, Int.reduceBEq, Int.reduceEq, Int.reduceLT, Int.reduceLE, Int.reduceToNat, Int.reduceNeg, Int.reduceBNe, hlt, s1, s5, g5, b5, s33, s34, s35, encSd]
    refine ask c1 ?_
    simp -implicitDefEqProofs only [↓aP, aQ, ↓reduceIte, Nat.reduceEqDiff, Nat.reduceAdd, Nat.reduceSub, Nat.reduceMul, Nat.reduceLT, Nat.reduceLeDiff, reduceCtorEq, Nat.reduceBEq, forall_const, implies_true, exists_const, ne_eq, Int.reduceAdd, Int.reduceSub, Int.reduceMul, Int.reduceBEq, Int.reduceEq, Int.reduceLT, Int.reduceLE, Int.reduceToNat, Int.reduceNeg, Int.reduceBNe, List.map_nil, List.map_cons, List.length_nil, List.length_cons, bne_self_eq_false, encLn, encJs]
    refine ask c2 ?_
    simp -implicitDefEqProofs only [↓aP, aQ, ↓reduceIte, Nat.reduceEqDiff, Nat.reduceAdd, Nat.reduceSub, Nat.reduceMul, Nat.reduceLT, Nat.reduceLeDiff, reduceCtorEq, Nat.reduceBEq, forall_const, implies_true, exists_const, ne_eq, Int.reduceAdd, Int.reduceSub, Int.reduceMul, Int.reduceBEq, Int.reduceEq, Int.reduceLT, Int.reduceLE, Int.reduceToNat, Int.reduceNeg, Int.reduceBNe, List.map_nil, List.map_cons, List.length_nil, List.length_cons, beq_self_eq_true, s1, s5, g5, b5, s33, s34, s35, encSd]
    refine ask c3 ?_
    simp -implicitDefEqProofs only [↓aP, aQ, ↓reduceIte, Nat.reduceEqDiff, Nat.reduceAdd, Nat.reduceSub, Nat.reduceMul, Nat.reduceLT, Nat.reduceLeDiff, reduceCtorEq, Nat.reduceBEq, forall_const, implies_true, exists_const, ne_eq, Int.reduceAdd, Int.reduceSub, Int.reduceMul, Int.reduceBEq, Int.reduceEq, Int.reduceLT, Int.reduceLE, Int.reduceToNat, Int.reduceNeg, Int.reduceBNe]
    refine ask c4 ?_
    simp -implicitDefEqProofs only [↓aP, aQ, ↓reduceIte, Nat.reduceEqDiff, Nat.reduceAdd, Nat.reduceSub, Nat.reduceMul, Nat.reduceLT, Nat.reduceLeDiff, reduceCtorEq, Nat.reduceBEq, forall_const, implies_true, exists_const, ne_eq, Int.reduceAdd, Int.reduceSub, Int.reduceMul, Int.reduceBEq, Int.reduceEq, Int.reduceLT, Int.reduceLE, Int.reduceToNat, Int.reduceNeg, Int.reduceBNe]
    refine ask awake6_spec ?_
    simp -implicitDefEqProofs only [↓aP, aQ, ↓reduceIte, Nat.reduceEqDiff, Nat.reduceAdd, Nat.reduceSub, Nat.reduceMul, Nat.reduceLT, Nat.reduceLeDiff, reduceCtorEq, Nat.reduceBEq, forall_const, implies_true, exists_const, ne_eq, Int.reduceAdd, Int.reduceSub, Int.reduceMul, Int.reduceBEq, Int.reduceEq, Int.reduceLT, Int.reduceLE, Int.reduceToNat, Int.reduceNeg, Int.reduceBNe]
    decide +kernel
end Go.Proofs.Ytfmbfgoofiojcaa
namespace Go.Proofs.Ytfmbfgoofiojcaa
open Go.RowKit Lk
set_option linter.unusedVariables false
set_option linter.unusedSimpArgs false
theorem sumL_take {l : List (List Jb)} {k : Nat} (h : k < l.length) : Sc.sumL (l.take (k + 1)) = Sc.sumL (l.take k) + l[k].length := by
  unfold Sc.sumL
  rw [take_snoc h, List.map_append, List.sum_append]
  simp
theorem sumL_le {l : List (List Jb)} (h : ∀ x ∈ l, x.length ≤ 200) : Sc.sumL l ≤ 200 * l.length := by
  induction l with
  | nil => simp [Sc.sumL]
  | cons x l ih =>
    have h1 := ih (fun y hy => h y (by simp [hy]))
    have h2 := h x (by simp)
    simp only [Sc.sumL, List.map_cons, List.sum_cons, List.length_cons] at h1 ⊢
    omega


set_option maxRecDepth 100000 in
set_option maxHeartbeats 4000000 in
theorem law_once6 (acts : List Ac) (hl : acts.length ≤ 9223372036854775807) : Spec Try.prog 11 [rL 7 (acts.map encAc)] (.val (rB true)) := by
  refine spec_val mixed fn11 (by simp) ?_
  unfold ac11
  obtain ⟨n1, n2⟩ := Sc.new_ok (d := nV) (ws := [1, 3]) Sc.nV_right rfl (by decide)
  have c0 := snewS_spec nV [1, 3] (by decide)
  have hm0 : Sc.many (Sc.newS nV [1, 3]).1 = 0 := by rw [n1]; rfl
  have hx0 : (Sc.newS nV [1, 3]).1.dv.next = 0 := by rw [n1]; rfl
  rw [encSi, show (Sc.newS nV [1, 3]).2 = 0 by rw [n1]] at c0
  generalize (Sc.newS nV [1, 3]).1 = s0 at c0 n2 hm0 hx0
  simp only [encDv, encSd, encI, List.map_cons, List.map_nil] at c0
  have cN : Spec Try.prog 26 [] (.val (.agg (encDv nV))) := newV_spec
  rw [encDv] at cN
  simp -implicitDefEqProofs only [↓aP, aQ, ↓reduceIte, Nat.reduceEqDiff, Nat.reduceAdd, Nat.reduceSub, Nat.reduceMul, Nat.reduceLT, Nat.reduceLeDiff, reduceCtorEq, Nat.reduceBEq, forall_const, implies_true, exists_const, ne_eq, Int.reduceAdd, Int.reduceSub, Int.reduceMul, Int.reduceBEq, Int.reduceEq, Int.reduceLT, Int.reduceLE, Int.reduceToNat, Int.reduceNeg, Int.reduceBNe]
  refine ask cN ?_
  simp -implicitDefEqProofs only [↓aP, aQ, ↓reduceIte, Nat.reduceEqDiff, Nat.reduceAdd, Nat.reduceSub, Nat.reduceMul, Nat.reduceLT, Nat.reduceLeDiff, reduceCtorEq, Nat.reduceBEq, forall_const, implies_true, exists_const, ne_eq, Int.reduceAdd, Int.reduceSub, Int.reduceMul, Int.reduceBEq, Int.reduceEq, Int.reduceLT, Int.reduceLE, Int.reduceToNat, Int.reduceNeg, Int.reduceBNe]
  refine ask c0 ?_
  by_cases h60 : 60 < acts.length
  · simp -implicitDefEqProofs only [↓aP, aQ, ↓reduceIte, Nat.reduceEqDiff, Nat.reduceAdd, Nat.reduceSub, Nat.reduceMul, Nat.reduceLT, Nat.reduceLeDiff, reduceCtorEq, Nat.reduceBEq, forall_const, implies_true, exists_const, ne_eq, Int.reduceAdd, Int.reduceSub, Int.reduceMul, Int.reduceBEq, Int.reduceEq, Int.reduceLT, Int.reduceLE, Int.reduceToNat, Int.reduceNeg, Int.reduceBNe, bne_self_eq_false, List.length_map, show decide ((60 : Int) < (acts.length : Int)) = true by simp; omega, beq_self_eq_true]
    refine ask awake6_spec ?_
    simp -implicitDefEqProofs only [↓aP, aQ, ↓reduceIte, Nat.reduceEqDiff, Nat.reduceAdd, Nat.reduceSub, Nat.reduceMul, Nat.reduceLT, Nat.reduceLeDiff, reduceCtorEq, Nat.reduceBEq, forall_const, implies_true, exists_const, ne_eq, Int.reduceAdd, Int.reduceSub, Int.reduceMul, Int.reduceBEq, Int.reduceEq, Int.reduceLT, Int.reduceLE, Int.reduceToNat, Int.reduceNeg, Int.reduceBNe]
  simp -implicitDefEqProofs only [↓aP, aQ, ↓reduceIte, Nat.reduceEqDiff, Nat.reduceAdd, Nat.reduceSub, Nat.reduceMul, Nat.reduceLT, Nat.reduceLeDiff, reduceCtorEq, Nat.reduceBEq, forall_const, implies_true, exists_const, ne_eq, Int.reduceAdd, Int.reduceSub, Int.reduceMul, Int.reduceBEq, Int.reduceEq, Int.reduceLT, Int.reduceLE, Int.reduceToNat, Int.reduceNeg, Int.reduceBNe, bne_self_eq_false, List.length_map, show decide ((60 : Int) < (acts.length : Int)) = false by simp; omega]
  refine rangeB acts.length (fun i σ => ∃ (s : Sd) (asked told : Int), Sc.Rs s ∧ asked = told + (Sc.many s : Nat) ∧ 0 ≤ told ∧ asked ≤ i ∧ s.dv.next ≤ 5 * (i : Int) ∧ σ.slot 3 = .c (.ptr 3 1 0 0) ∧ σ.h.gen 3 = 1 ∧ σ.h.blk 3 = .box 68 9 [(encSd s).map AC.s] ∧ σ.slot 5 = vI asked ∧ σ.slot 6 = vI told ∧ σ.slot 36 = vL 7 (acts.map encAc) ∧ σ.slot 37 = vI acts.length ∧ σ.slot 38 = vI i) ?_ ?_ ?_
  · refine ⟨s0, 0, 0, n2, by rw [hm0]; rfl, by omega, by omega, by omega, ?_⟩
    simp -implicitDefEqProofs only [↓aP, aQ, ↓reduceIte, Nat.reduceEqDiff, Nat.reduceAdd, Nat.reduceSub, Nat.reduceMul, Nat.reduceLT, Nat.reduceLeDiff, reduceCtorEq, Nat.reduceBEq, forall_const, implies_true, exists_const, ne_eq, Int.reduceAdd, Int.reduceSub, Int.reduceMul, Int.reduceBEq, Int.reduceEq, Int.reduceLT, Int.reduceLE, Int.reduceToNat, Int.reduceNeg, Int.reduceBNe, encSd]
  · rintro i m σ him hi hlt ⟨s, asked, told, hr, h1, h2, h3, h4, s3, g3, b3, s5, s6, s36, s37, s38⟩
    have kn : ∀ x : Int, acts[i].kind ≠ x → (acts[i].kind == x) = false := fun x h => beq_eq_false_iff_ne.2 h
    apply with_tail (F := fun σ => ∃ (s : Sd) (asked told : Int), Sc.Rs s ∧ asked = told + (Sc.many s : Nat) ∧ 0 ≤ told ∧ asked ≤ ((i + 1 : Nat) : Int) ∧ s.dv.next ≤ 5 * ((i + 1 : Nat) : Int) ∧ ∃ k : Nat, k = 0 ∧ σ.slot 3 = .c (.ptr 3 1 0 0) ∧ σ.h.gen 3 = 1 ∧ σ.h.blk 3 = .box 68 9 [(encSd s).map AC.s] ∧ σ.slot 5 = vI asked ∧ σ.slot 6 = vI told ∧ σ.slot 36 = vL 7 (acts.map encAc) ∧ σ.slot 37 = vI acts.length ∧ σ.slot 38 = vI i ∧ σ.slot 15 = vI (s.out.length + Sc.sumL (s.js.take k) : Nat) ∧ σ.slot 105 = vL 1 (s.js.map encJs) ∧ σ.slot 106 = vI s.js.length ∧ σ.slot 107 = vI k)
    case h1 =>
      intro tail
      by_cases k0 : acts[i].kind = 0
      · have c1 := sask_spec s acts[i].j (rs_shs hr)
        obtain ⟨q1, q2, q3, _, _, _⟩ := Sc.many_ask hr acts[i].j
        have ha := Sc.rs_ask hr acts[i].j
        rw [encSi] at c1
        by_cases e0 : (Sc.askS s acts[i].j).2 = 0
        · have q5 := q1 e0
          rw [e0] at c1
          generalize (Sc.askS s acts[i].j).1 = t at c1 ha q3 q5
          simp only [encSd, encJb] at c1
          simp -implicitDefEqProofs only [↓aP, aQ, ↓reduceIte, Nat.reduceEqDiff, Nat.reduceAdd, Nat.reduceSub, Nat.reduceMul, Nat.reduceLT, Nat.reduceLeDiff, reduceCtorEq, Nat.reduceBEq, forall_const, implies_true, exists_const, ne_eq, Int.reduceAdd, Int.reduceSub, Int.reduceMul, Int.reduceBEq, Int.reduceEq, Int.reduceLT, Int.reduceLE, Int.reduceToNat, Int.reduceNeg, Int.reduceBNe, hlt, s3, g3, b3, s5, s6, s36, s37, s38, askIdx_map, hi, encAc, k0, beq_self_eq_true, encSd]
          refine ask c1 ?_
          simp -implicitDefEqProofs only [↓aP, aQ, ↓reduceIte, Nat.reduceEqDiff, Nat.reduceAdd, Nat.reduceSub, Nat.reduceMul, Nat.reduceLT, Nat.reduceLeDiff, reduceCtorEq, Nat.reduceBEq, forall_const, implies_true, exists_const, ne_eq, Int.reduceAdd, Int.reduceSub, Int.reduceMul, Int.reduceBEq, Int.reduceEq, Int.reduceLT, Int.reduceLE, Int.reduceToNat, Int.reduceNeg, Int.reduceBNe, s3, g3, b3, s5, s6, s36, s37, s38, beq_self_eq_true, List.length_map, show IntKind.i64.wrap (asked + 1) = asked + 1 from wrapI (by omega)]
          refine tail _ ⟨t, asked + 1, told, ha, by omega, h2, by omega, by rw [q3]; omega, 0, rfl, ?_⟩
          simp -implicitDefEqProofs only [↓aP, aQ, ↓reduceIte, Nat.reduceEqDiff, Nat.reduceAdd, Nat.reduceSub, Nat.reduceMul, Nat.reduceLT, Nat.reduceLeDiff, reduceCtorEq, Nat.reduceBEq, forall_const, implies_true, exists_const, ne_eq, Int.reduceAdd, Int.reduceSub, Int.reduceMul, Int.reduceBEq, Int.reduceEq, Int.reduceLT, Int.reduceLE, Int.reduceToNat, Int.reduceNeg, Int.reduceBNe, s3, g3, b3, s5, s6, s36, s37, s38, encSd, List.take_zero, Sc.sumL, List.map_nil, List.sum_nil]
        · rw [q2 e0] at c1
          generalize (Sc.askS s acts[i].j).2 = e at c1 e0
          simp only [encSd, encJb] at c1
          simp -implicitDefEqProofs only [↓aP, aQ, ↓reduceIte, Nat.reduceEqDiff, Nat.reduceAdd, Nat.reduceSub, Nat.reduceMul, Nat.reduceLT, Nat.reduceLeDiff, reduceCtorEq, Nat.reduceBEq, forall_const, implies_true, exists_const, ne_eq, Int.reduceAdd, Int.reduceSub, Int.reduceMul, Int.reduceBEq, Int.reduceEq, Int.reduceLT, Int.reduceLE, Int.reduceToNat, Int.reduceNeg, Int.reduceBNe, hlt, s3, g3, b3, s5, s6, s36, s37, s38, askIdx_map, hi, encAc, k0, beq_self_eq_true, encSd]
          refine ask c1 ?_
          simp -implicitDefEqProofs only [↓aP, aQ, ↓reduceIte, Nat.reduceEqDiff, Nat.reduceAdd, Nat.reduceSub, Nat.reduceMul, Nat.reduceLT, Nat.reduceLeDiff, reduceCtorEq, Nat.reduceBEq, forall_const, implies_true, exists_const, ne_eq, Int.reduceAdd, Int.reduceSub, Int.reduceMul, Int.reduceBEq, Int.reduceEq, Int.reduceLT, Int.reduceLE, Int.reduceToNat, Int.reduceNeg, Int.reduceBNe, s3, g3, b3, s5, s6, s36, s37, s38, show (e == 0) = false from beq_eq_false_iff_ne.2 e0, List.length_map]
          refine tail _ ⟨s, asked, told, hr, h1, h2, by omega, by omega, 0, rfl, ?_⟩
          simp -implicitDefEqProofs only [↓aP, aQ, ↓reduceIte, Nat.reduceEqDiff, Nat.reduceAdd, Nat.reduceSub, Nat.reduceMul, Nat.reduceLT, Nat.reduceLeDiff, reduceCtorEq, Nat.reduceBEq, forall_const, implies_true, exists_const, ne_eq, Int.reduceAdd, Int.reduceSub, Int.reduceMul, Int.reduceBEq, Int.reduceEq, Int.reduceLT, Int.reduceLE, Int.reduceToNat, Int.reduceNeg, Int.reduceBNe, s3, g3, b3, s5, s6, s36, s37, s38, encSd, List.take_zero, Sc.sumL, List.map_nil, List.sum_nil]
      by_cases k1 : acts[i].kind = 1
      · have c1 := spump_spec s (rs_shs hr)
        obtain ⟨q1, _, q2, q3, _, _⟩ := Sc.pump_facts hr
        have ha := Sc.rs_pump hr
        generalize Sc.pumpS s = t at c1 ha q1 q2 q3
        simp only [encSd] at c1
        simp -implicitDefEqProofs only [↓aP, aQ, ↓reduceIte, Nat.reduceEqDiff, Nat.reduceAdd, Nat.reduceSub, Nat.reduceMul, Nat.reduceLT, Nat.reduceLeDiff, reduceCtorEq, Nat.reduceBEq, forall_const, implies_true, exists_const, ne_eq, Int.reduceAdd, Int.reduceSub, Int.reduceMul, Int.reduceBEq, Int.reduceEq, Int.reduceLT, Int.reduceLE, Int.reduceToNat, Int.reduceNeg, Int.reduceBNe, hlt, s3, g3, b3, s5, s6, s36, s37, s38, askIdx_map, hi, encAc, k1, show ((1 : Int) == 0) = false by decide, beq_self_eq_true, encSd]
        refine ask c1 ?_
        simp -implicitDefEqProofs only [↓aP, aQ, ↓reduceIte, Nat.reduceEqDiff, Nat.reduceAdd, Nat.reduceSub, Nat.reduceMul, Nat.reduceLT, Nat.reduceLeDiff, reduceCtorEq, Nat.reduceBEq, forall_const, implies_true, exists_const, ne_eq, Int.reduceAdd, Int.reduceSub, Int.reduceMul, Int.reduceBEq, Int.reduceEq, Int.reduceLT, Int.reduceLE, Int.reduceToNat, Int.reduceNeg, Int.reduceBNe, s3, g3, b3, s5, s6, s36, s37, s38, List.length_map]
        refine tail _ ⟨t, asked, told, ha, by rw [q1]; exact h1, h2, by omega, by omega, 0, rfl, ?_⟩
        simp -implicitDefEqProofs only [↓aP, aQ, ↓reduceIte, Nat.reduceEqDiff, Nat.reduceAdd, Nat.reduceSub, Nat.reduceMul, Nat.reduceLT, Nat.reduceLeDiff, reduceCtorEq, Nat.reduceBEq, forall_const, implies_true, exists_const, ne_eq, Int.reduceAdd, Int.reduceSub, Int.reduceMul, Int.reduceBEq, Int.reduceEq, Int.reduceLT, Int.reduceLE, Int.reduceToNat, Int.reduceNeg, Int.reduceBNe, s3, g3, b3, s5, s6, s36, s37, s38, encSd, List.take_zero, Sc.sumL, List.map_nil, List.sum_nil]
      by_cases k2 : acts[i].kind = 2
      · have c1 := sdone_spec s acts[i].n false (rs_shs hr)
        have ha := Sc.rs_done hr acts[i].n false
        obtain ⟨⟨q1, q2⟩, q3, q4, _⟩ := Sc.done_facts hr acts[i].n false (by omega)
        rw [encDn] at c1
        generalize (Sc.doneS s acts[i].n false).1 = t at c1 ha q1 q2 q3 q4
        generalize (Sc.doneS s acts[i].n false).2.1 = j at c1 q1
        generalize (Sc.doneS s acts[i].n false).2.2.1 = e at c1 q1
        generalize (Sc.doneS s acts[i].n false).2.2.2 = T at c1 q1 q2
        simp only [encSd, encJb] at c1
        simp -implicitDefEqProofs only [↓aP, aQ, ↓reduceIte, Nat.reduceEqDiff, Nat.reduceAdd, Nat.reduceSub, Nat.reduceMul, Nat.reduceLT, Nat.reduceLeDiff, reduceCtorEq, Nat.reduceBEq, forall_const, implies_true, exists_const, ne_eq, Int.reduceAdd, Int.reduceSub, Int.reduceMul, Int.reduceBEq, Int.reduceEq, Int.reduceLT, Int.reduceLE, Int.reduceToNat, Int.reduceNeg, Int.reduceBNe, hlt, s3, g3, b3, s5, s6, s36, s37, s38, askIdx_map, hi, encAc, k2, show ((2 : Int) == 0) = false by decide, show ((2 : Int) == 1) = false by decide, show ((2 : Int) == 3) = false by decide, beq_self_eq_true, encSd]
        refine ask c1 ?_
        cases T
        · simp -implicitDefEqProofs only [↓aP, aQ, ↓reduceIte, Nat.reduceEqDiff, Nat.reduceAdd, Nat.reduceSub, Nat.reduceMul, Nat.reduceLT, Nat.reduceLeDiff, reduceCtorEq, Nat.reduceBEq, forall_const, implies_true, exists_const, ne_eq, Int.reduceAdd, Int.reduceSub, Int.reduceMul, Int.reduceBEq, Int.reduceEq, Int.reduceLT, Int.reduceLE, Int.reduceToNat, Int.reduceNeg, Int.reduceBNe, s3, g3, b3, s5, s6, s36, s37, s38, List.length_map]
          refine tail _ ⟨t, asked, told, ha, by rw [q2 rfl]; exact h1, h2, by omega, by omega, 0, rfl, ?_⟩
          simp -implicitDefEqProofs only [↓aP, aQ, ↓reduceIte, Nat.reduceEqDiff, Nat.reduceAdd, Nat.reduceSub, Nat.reduceMul, Nat.reduceLT, Nat.reduceLeDiff, reduceCtorEq, Nat.reduceBEq, forall_const, implies_true, exists_const, ne_eq, Int.reduceAdd, Int.reduceSub, Int.reduceMul, Int.reduceBEq, Int.reduceEq, Int.reduceLT, Int.reduceLE, Int.reduceToNat, Int.reduceNeg, Int.reduceBNe, s3, g3, b3, s5, s6, s36, s37, s38, encSd, List.take_zero, Sc.sumL, List.map_nil, List.sum_nil]
        · obtain ⟨r1, r2, r3, r4⟩ := q1 rfl
          have wt : IntKind.i64.wrap (told + 1) = told + 1 := wrapI (by omega)
          by_cases e8 : e = 8
          · simp -implicitDefEqProofs only [↓aP, aQ, ↓reduceIte, Nat.reduceEqDiff, Nat.reduceAdd, Nat.reduceSub, Nat.reduceMul, Nat.reduceLT, Nat.reduceLeDiff, reduceCtorEq, Nat.reduceBEq, forall_const, implies_true, exists_const, ne_eq, Int.reduceAdd, Int.reduceSub, Int.reduceMul, Int.reduceBEq, Int.reduceEq, Int.reduceLT, Int.reduceLE, Int.reduceToNat, Int.reduceNeg, Int.reduceBNe, s3, g3, b3, s5, s6, s36, s37, s38, wt, List.length_map, show decide (j.tries < 1) = false from decide_eq_false (by omega), show decide (3 < j.tries) = false from decide_eq_false (by omega), e8, beq_self_eq_true, r4 e8, bne_self_eq_false]
            refine tail _ ⟨t, asked, told + 1, ha, by omega, by omega, by omega, by omega, 0, rfl, ?_⟩
            simp -implicitDefEqProofs only [↓aP, aQ, ↓reduceIte, Nat.reduceEqDiff, Nat.reduceAdd, Nat.reduceSub, Nat.reduceMul, Nat.reduceLT, Nat.reduceLeDiff, reduceCtorEq, Nat.reduceBEq, forall_const, implies_true, exists_const, ne_eq, Int.reduceAdd, Int.reduceSub, Int.reduceMul, Int.reduceBEq, Int.reduceEq, Int.reduceLT, Int.reduceLE, Int.reduceToNat, Int.reduceNeg, Int.reduceBNe, s3, g3, b3, s5, s6, s36, s37, s38, encSd, List.take_zero, Sc.sumL, List.map_nil, List.sum_nil]
          · simp -implicitDefEqProofs only [↓aP, aQ, ↓reduceIte, Nat.reduceEqDiff, Nat.reduceAdd, Nat.reduceSub, Nat.reduceMul, Nat.reduceLT, Nat.reduceLeDiff, reduceCtorEq, Nat.reduceBEq, forall_const, implies_true, exists_const, ne_eq, Int.reduceAdd, Int.reduceSub, Int.reduceMul, Int.reduceBEq, Int.reduceEq, Int.reduceLT, Int.reduceLE, Int.reduceToNat, Int.reduceNeg, Int.reduceBNe, s3, g3, b3, s5, s6, s36, s37, s38, wt, List.length_map, show decide (j.tries < 1) = false from decide_eq_false (by omega), show decide (3 < j.tries) = false from decide_eq_false (by omega), show (e == 8) = false from beq_eq_false_iff_ne.2 e8]
            refine tail _ ⟨t, asked, told + 1, ha, by omega, by omega, by omega, by omega, 0, rfl, ?_⟩
            simp -implicitDefEqProofs only [↓aP, aQ, ↓reduceIte, Nat.reduceEqDiff, Nat.reduceAdd, Nat.reduceSub, Nat.reduceMul, Nat.reduceLT, Nat.reduceLeDiff, reduceCtorEq, Nat.reduceBEq, forall_const, implies_true, exists_const, ne_eq, Int.reduceAdd, Int.reduceSub, Int.reduceMul, Int.reduceBEq, Int.reduceEq, Int.reduceLT, Int.reduceLE, Int.reduceToNat, Int.reduceNeg, Int.reduceBNe, s3, g3, b3, s5, s6, s36, s37, s38, encSd, List.take_zero, Sc.sumL, List.map_nil, List.sum_nil]
      by_cases k3 : acts[i].kind = 3
      · have c1 := sdone_spec s acts[i].n true (rs_shs hr)
        have ha := Sc.rs_done hr acts[i].n true
        obtain ⟨⟨q1, q2⟩, q3, q4, _⟩ := Sc.done_facts hr acts[i].n true (by omega)
        rw [encDn] at c1
        generalize (Sc.doneS s acts[i].n true).1 = t at c1 ha q1 q2 q3 q4
        generalize (Sc.doneS s acts[i].n true).2.1 = j at c1 q1
        generalize (Sc.doneS s acts[i].n true).2.2.1 = e at c1 q1
        generalize (Sc.doneS s acts[i].n true).2.2.2 = T at c1 q1 q2
        simp only [encSd, encJb] at c1
        simp -implicitDefEqProofs only [↓aP, aQ, ↓reduceIte, Nat.reduceEqDiff, Nat.reduceAdd, Nat.reduceSub, Nat.reduceMul, Nat.reduceLT, Nat.reduceLeDiff, reduceCtorEq, Nat.reduceBEq, forall_const, implies_true, exists_const, ne_eq, Int.reduceAdd, Int.reduceSub, Int.reduceMul, Int.reduceBEq, Int.reduceEq, Int.reduceLT, Int.reduceLE, Int.reduceToNat, Int.reduceNeg, Int.reduceBNe, hlt, s3, g3, b3, s5, s6, s36, s37, s38, askIdx_map, hi, encAc, k3, show ((3 : Int) == 0) = false by decide, show ((3 : Int) == 1) = false by decide, show ((3 : Int) == 2) = false by decide, beq_self_eq_true, encSd]
        refine ask c1 ?_
        cases T
        · simp -implicitDefEqProofs only [↓aP, aQ, ↓reduceIte, Nat.reduceEqDiff, Nat.reduceAdd, Nat.reduceSub, Nat.reduceMul, Nat.reduceLT, Nat.reduceLeDiff, reduceCtorEq, Nat.reduceBEq, forall_const, implies_true, exists_const, ne_eq, Int.reduceAdd, Int.reduceSub, Int.reduceMul, Int.reduceBEq, Int.reduceEq, Int.reduceLT, Int.reduceLE, Int.reduceToNat, Int.reduceNeg, Int.reduceBNe, s3, g3, b3, s5, s6, s36, s37, s38, List.length_map]
          refine tail _ ⟨t, asked, told, ha, by rw [q2 rfl]; exact h1, h2, by omega, by omega, 0, rfl, ?_⟩
          simp -implicitDefEqProofs only [↓aP, aQ, ↓reduceIte, Nat.reduceEqDiff, Nat.reduceAdd, Nat.reduceSub, Nat.reduceMul, Nat.reduceLT, Nat.reduceLeDiff, reduceCtorEq, Nat.reduceBEq, forall_const, implies_true, exists_const, ne_eq, Int.reduceAdd, Int.reduceSub, Int.reduceMul, Int.reduceBEq, Int.reduceEq, Int.reduceLT, Int.reduceLE, Int.reduceToNat, Int.reduceNeg, Int.reduceBNe, s3, g3, b3, s5, s6, s36, s37, s38, encSd, List.take_zero, Sc.sumL, List.map_nil, List.sum_nil]
        · obtain ⟨r1, r2, r3, r4⟩ := q1 rfl
          have wt : IntKind.i64.wrap (told + 1) = told + 1 := wrapI (by omega)
          by_cases e8 : e = 8
          · simp -implicitDefEqProofs only [↓aP, aQ, ↓reduceIte, Nat.reduceEqDiff, Nat.reduceAdd, Nat.reduceSub, Nat.reduceMul, Nat.reduceLT, Nat.reduceLeDiff, reduceCtorEq, Nat.reduceBEq, forall_const, implies_true, exists_const, ne_eq, Int.reduceAdd, Int.reduceSub, Int.reduceMul, Int.reduceBEq, Int.reduceEq, Int.reduceLT, Int.reduceLE, Int.reduceToNat, Int.reduceNeg, Int.reduceBNe, s3, g3, b3, s5, s6, s36, s37, s38, wt, List.length_map, show decide (j.tries < 1) = false from decide_eq_false (by omega), show decide (3 < j.tries) = false from decide_eq_false (by omega), e8, beq_self_eq_true, r4 e8, bne_self_eq_false]
            refine tail _ ⟨t, asked, told + 1, ha, by omega, by omega, by omega, by omega, 0, rfl, ?_⟩
            simp -implicitDefEqProofs only [↓aP, aQ, ↓reduceIte, Nat.reduceEqDiff, Nat.reduceAdd, Nat.reduceSub, Nat.reduceMul, Nat.reduceLT, Nat.reduceLeDiff, reduceCtorEq, Nat.reduceBEq, forall_const, implies_true, exists_const, ne_eq, Int.reduceAdd, Int.reduceSub, Int.reduceMul, Int.reduceBEq, Int.reduceEq, Int.reduceLT, Int.reduceLE, Int.reduceToNat, Int.reduceNeg, Int.reduceBNe, s3, g3, b3, s5, s6, s36, s37, s38, encSd, List.take_zero, Sc.sumL, List.map_nil, List.sum_nil]
          · simp -implicitDefEqProofs only [↓aP, aQ, ↓reduceIte, Nat.reduceEqDiff, Nat.reduceAdd, Nat.reduceSub, Nat.reduceMul, Nat.reduceLT, Nat.reduceLeDiff, reduceCtorEq, Nat.reduceBEq, forall_const, implies_true, exists_const, ne_eq, Int.reduceAdd, Int.reduceSub, Int.reduceMul, Int.reduceBEq, Int.reduceEq, Int.reduceLT, Int.reduceLE, Int.reduceToNat, Int.reduceNeg, Int.reduceBNe, s3, g3, b3, s5, s6, s36, s37, s38, wt, List.length_map, show decide (j.tries < 1) = false from decide_eq_false (by omega), show decide (3 < j.tries) = false from decide_eq_false (by omega), show (e == 8) = false from beq_eq_false_iff_ne.2 e8]
            refine tail _ ⟨t, asked, told + 1, ha, by omega, by omega, by omega, by omega, 0, rfl, ?_⟩
            simp -implicitDefEqProofs only [↓aP, aQ, ↓reduceIte, Nat.reduceEqDiff, Nat.reduceAdd, Nat.reduceSub, Nat.reduceMul, Nat.reduceLT, Nat.reduceLeDiff, reduceCtorEq, Nat.reduceBEq, forall_const, implies_true, exists_const, ne_eq, Int.reduceAdd, Int.reduceSub, Int.reduceMul, Int.reduceBEq, Int.reduceEq, Int.reduceLT, Int.reduceLE, Int.reduceToNat, Int.reduceNeg, Int.reduceBNe, s3, g3, b3, s5, s6, s36, s37, s38, encSd, List.take_zero, Sc.sumL, List.map_nil, List.sum_nil]
      simp -implicitDefEqProofs only [↓aP, aQ, ↓reduceIte, Nat.reduceEqDiff, Nat.reduceAdd, Nat.reduceSub, Nat.reduceMul, Nat.reduceLT, Nat.reduceLeDiff, reduceCtorEq, Nat.reduceBEq, forall_const, implies_true, exists_const, ne_eq, Int.reduceAdd, Int.reduceSub, Int.reduceMul, Int.reduceBEq, Int.reduceEq, Int.reduceLT, Int.reduceLE, Int.reduceToNat, Int.reduceNeg, Int.reduceBNe, hlt, s3, g3, b3, s5, s6, s36, s37, s38, askIdx_map, hi, encAc, kn 0 k0, kn 1 k1, kn 2 k2, kn 3 k3, encSd, List.length_map]
      refine tail _ ⟨s, asked, told, hr, h1, h2, by omega, by omega, 0, rfl, ?_⟩
      simp -implicitDefEqProofs only [↓aP, aQ, ↓reduceIte, Nat.reduceEqDiff, Nat.reduceAdd, Nat.reduceSub, Nat.reduceMul, Nat.reduceLT, Nat.reduceLeDiff, reduceCtorEq, Nat.reduceBEq, forall_const, implies_true, exists_const, ne_eq, Int.reduceAdd, Int.reduceSub, Int.reduceMul, Int.reduceBEq, Int.reduceEq, Int.reduceLT, Int.reduceLE, Int.reduceToNat, Int.reduceNeg, Int.reduceBNe, s3, g3, b3, s5, s6, s36, s37, s38, encSd, List.take_zero, Sc.sumL, List.map_nil, List.sum_nil]
    case h2 =>
      rintro σ ⟨s, asked, told, hr, h1, h2, h3, h4, k, hk, s3, g3, b3, s5, s6, s36, s37, s38, s15, s105, s106, s107⟩
      subst hk
      have hlen := hr.len
      have hsum := sumL_le hlen.2.2.2.2.1
      refine rangeB s.js.length (fun k σ => σ.slot 3 = .c (.ptr 3 1 0 0) ∧ σ.h.gen 3 = 1 ∧ σ.h.blk 3 = .box 68 9 [(encSd s).map AC.s] ∧ σ.slot 5 = vI asked ∧ σ.slot 6 = vI told ∧ σ.slot 36 = vL 7 (acts.map encAc) ∧ σ.slot 37 = vI acts.length ∧ σ.slot 38 = vI i ∧ σ.slot 15 = vI (s.out.length + Sc.sumL (s.js.take k) : Nat) ∧ σ.slot 105 = vL 1 (s.js.map encJs) ∧ σ.slot 106 = vI s.js.length ∧ σ.slot 107 = vI k) ?_ ?_ ?_
      · exact ⟨s3, g3, b3, s5, s6, s36, s37, s38, s15, s105, s106, s107⟩
      · clear s3 g3 b3 s5 s6 s36 s37 s38 s15 s105 s106 s107
        rintro k m2 σ hkm hk hlt2 ⟨s3, g3, b3, s5, s6, s36, s37, s38, s15, s105, s106, s107⟩
        have hst := sumL_take hk
        have hle : Sc.sumL (s.js.take k) ≤ 200 * s.js.length := by
          have := sumL_le (l := s.js.take k) (fun x hx => hlen.2.2.2.2.1 x (List.mem_of_mem_take hx))
          rw [List.length_take] at this; omega
        have hjl := hlen.2.2.2.2.1 _ (List.getElem_mem hk)
        simp -implicitDefEqProofs only [↓aP, aQ, ↓reduceIte, Nat.reduceEqDiff, Nat.reduceAdd, Nat.reduceSub, Nat.reduceMul, Nat.reduceLT, Nat.reduceLeDiff, reduceCtorEq, Nat.reduceBEq, forall_const, implies_true, exists_const, ne_eq, Int.reduceAdd, Int.reduceSub, Int.reduceMul, Int.reduceBEq, Int.reduceEq, Int.reduceLT, Int.reduceLE, Int.reduceToNat, Int.reduceNeg, Int.reduceBNe, hlt2, s3, g3, b3, s5, s6, s36, s37, s38, s15, s105, s106, s107, askIdx_map, hk, encJs, List.length_map, show IntKind.i64.wrap (((s.out.length + Sc.sumL (s.js.take k) : Nat) : Int) + (s.js[k].length : Int)) = ((s.out.length + Sc.sumL (s.js.take (k + 1)) : Nat) : Int) by rw [hst, wrapI (by omega)]; omega, wrapS (show k < 4611686018427387904 by omega)]
        refine nextR hk hkm ?_
        simp -implicitDefEqProofs only [↓aP, aQ, ↓reduceIte, Nat.reduceEqDiff, Nat.reduceAdd, Nat.reduceSub, Nat.reduceMul, Nat.reduceLT, Nat.reduceLeDiff, reduceCtorEq, Nat.reduceBEq, forall_const, implies_true, exists_const, ne_eq, Int.reduceAdd, Int.reduceSub, Int.reduceMul, Int.reduceBEq, Int.reduceEq, Int.reduceLT, Int.reduceLE, Int.reduceToNat, Int.reduceNeg, Int.reduceBNe, s3, g3, b3, s5, s6, s36, s37, s38, s15, s105, s106, s107, encSd]
      · clear s3 g3 b3 s5 s6 s36 s37 s38 s15 s105 s106 s107
        rintro m2 σ hlt2 ⟨s3, g3, b3, s5, s6, s36, s37, s38, s15, s105, s106, s107⟩
        rw [List.take_length] at s15
        have hmm : Sc.many s = s.out.length + Sc.sumL s.js := rfl
        simp -implicitDefEqProofs only [↓aP, aQ, ↓reduceIte, Nat.reduceEqDiff, Nat.reduceAdd, Nat.reduceSub, Nat.reduceMul, Nat.reduceLT, Nat.reduceLeDiff, reduceCtorEq, Nat.reduceBEq, forall_const, implies_true, exists_const, ne_eq, Int.reduceAdd, Int.reduceSub, Int.reduceMul, Int.reduceBEq, Int.reduceEq, Int.reduceLT, Int.reduceLE, Int.reduceToNat, Int.reduceNeg, Int.reduceBNe, hlt2, s3, g3, b3, s5, s6, s36, s37, s38, s15, s105, s106, s107, encSd, List.length_map, show IntKind.i64.wrap (told + ((s.out.length + Sc.sumL s.js : Nat) : Int)) = asked by rw [wrapI (by omega), h1, hmm], bne_self_eq_false, show decide ((4 : Int) < (s.out.length : Int)) = false by simp; omega, wrapS (show i < 4611686018427387904 by omega)]
        refine nextR hi him ⟨s, asked, told, hr, h1, h2, h3, h4, ?_⟩
        simp -implicitDefEqProofs only [↓aP, aQ, ↓reduceIte, Nat.reduceEqDiff, Nat.reduceAdd, Nat.reduceSub, Nat.reduceMul, Nat.reduceLT, Nat.reduceLeDiff, reduceCtorEq, Nat.reduceBEq, forall_const, implies_true, exists_const, ne_eq, Int.reduceAdd, Int.reduceSub, Int.reduceMul, Int.reduceBEq, Int.reduceEq, Int.reduceLT, Int.reduceLE, Int.reduceToNat, Int.reduceNeg, Int.reduceBNe, s3, g3, b3, s5, s6, s36, s37, s38, s15, s105, s106, s107, encSd]
  · rintro m σ hlt ⟨s, asked, told, hr, h1, h2, h3, h4, s3, g3, b3, s5, s6, s36, s37, s38⟩
    simp -implicitDefEqProofs only [↓aP, aQ, ↓reduceIte, Nat.reduceEqDiff, Nat.reduceAdd, Nat.reduceSub, Nat.reduceMul, Nat.reduceLT, Nat.reduceLeDiff, reduceCtorEq, Nat.reduceBEq, forall_const, implies_true, exists_const, ne_eq, Int.reduceAdd, Int.reduceSub, Int.reduceMul, Int.reduceBEq, Int.reduceEq, Int.reduceLT, Int.reduceLE, Int.reduceToNat, Int.reduceNeg, Int.reduceBNe, hlt, s3, g3, b3, s5, s6, s36, s37, s38]
    refine ask awake6_spec ?_
    simp -implicitDefEqProofs only [↓aP, aQ, ↓reduceIte, Nat.reduceEqDiff, Nat.reduceAdd, Nat.reduceSub, Nat.reduceMul, Nat.reduceLT, Nat.reduceLeDiff, reduceCtorEq, Nat.reduceBEq, forall_const, implies_true, exists_const, ne_eq, Int.reduceAdd, Int.reduceSub, Int.reduceMul, Int.reduceBEq, Int.reduceEq, Int.reduceLT, Int.reduceLE, Int.reduceToNat, Int.reduceNeg, Int.reduceBNe]
end Go.Proofs.Ytfmbfgoofiojcaa
namespace Go.Proofs.Ytfmbfgoofiojcaa
open Go.RowKit Go.ChangeShapes Go.WideShapes
set_option linter.unusedVariables false
theorem opens_jb {H : Type} {enc : TypeId × Value → H} {w : World} {spare : Nat → Bool} {held : Bool} : Opens Try.prog enc w spare held 80 5 (fun ys => ∃ x : Jb, ys = encJb x) := by
  have h := opens_struct (enc := enc) (w := w) (spare := spare) (held := held) Try.underlying80 (by kernel_rfl) (.cons rfl (opens_int Try.underlying3 (by kernel_rfl)) (.cons rfl (opens_int Try.underlying3 (by kernel_rfl)) (.cons rfl (opens_int Try.underlying3 (by kernel_rfl)) (.cons rfl (opens_str Try.underlying9 (by kernel_rfl)) (.cons rfl (opens_int Try.underlying3 (by kernel_rfl)) (.nil _))))))
  refine ⟨h.1, fun fuel cs x hx => ?_⟩
  obtain ⟨ys, ⟨_, _, rfl, ⟨n1, rfl, _⟩, _, _, rfl, ⟨n2, rfl, _⟩, _, _, rfl, ⟨n3, rfl, _⟩, _, _, rfl, ⟨s, rfl, _⟩, _, _, rfl, ⟨n4, rfl, _⟩, rfl⟩, h2, h3⟩ := h.2 _ _ _ hx
  exact ⟨_, ⟨⟨n1, n2, n3, s, n4⟩, rfl⟩, h2, h3⟩
theorem opens_ac {H : Type} {enc : TypeId × Value → H} {w : World} {spare : Nat → Bool} {held : Bool} : Opens Try.prog enc w spare held 82 7 (fun ys => ∃ x : Ac, ys = encAc x) := by
  have h := opens_struct (enc := enc) (w := w) (spare := spare) (held := held) Try.underlying82 (by kernel_rfl) (.cons rfl (opens_int Try.underlying3 (by kernel_rfl)) (.cons rfl (opens_int Try.underlying3 (by kernel_rfl)) (.cons rfl opens_jb (.nil _))))
  refine ⟨h.1, fun fuel cs x hx => ?_⟩
  obtain ⟨ys, ⟨_, _, rfl, ⟨n1, rfl, _⟩, _, _, rfl, ⟨n2, rfl, _⟩, _, _, rfl, ⟨j, rfl⟩, rfl⟩, h2, h3⟩ := h.2 _ _ _ hx
  exact ⟨_, ⟨⟨n1, n2, j⟩, rfl⟩, h2, h3⟩
set_option maxRecDepth 100000 in
theorem open_acs {H : Type} {enc : TypeId × Value → H} {w : World} {spare : Nat → Bool} {held : Bool} {r : Reach} {b0 : Nat} {v : Value} {d : DataW H} {p : List MemPlace} 
    (hv : Value.okWide Try.prog w r b0 57 v) (h : DataW.Trod enc Try.prog w 0 spare held 57 v d p) : ∃ A : List Ac, A.length ≤ maxLen ∧ RepT (RepS w fun _ => False) (rL 7 (A.map encAc)) v := by
  obtain ⟨y, ⟨els, e1, e2, e3⟩, h2⟩ := open_one (opens_slice Try.underlying57 (by kernel_rfl) (by decide) opens_ac) (slice_cells Try.underlying57 hv) h
  simp only [List.cons.injEq, and_true] at e1
  subst e1
  obtain ⟨A, rfl⟩ := all_of_mem (f := encAc) (fun y hy => e2 y hy)
  exact ⟨A, by simpa using e3, h2⟩
theorem u8_of {k : Int} (h : (Lit.int .u8 k).wf = true) : 0 ≤ k ∧ k ≤ 255 := by
  simpa [Lit.wf, IntKind.min, IntKind.max, IntKind.signed, IntKind.bits] using h
theorem schedFull_walk {w : World} (a : Int) (ha : (Lit.int .u8 a).wf = true) :
    Calls Try.prog 14 #[.int .u8 a] w fun e w' => e = .returned (.bool true) ∧ Below w.heap.size w w' :=
  (law_full6 a (u8_of ha)).plain (us := [.int .u8 a]) (.cons (.pv rfl) .nil)
theorem schedOnce_walk {w : World} (v0 : Value) (a0 : ∃ A : List Ac, A.length ≤ maxLen ∧ RepT (RepS w fun _ => False) (rL 7 (A.map encAc)) v0) :
    Calls Try.prog 11 #[v0] w fun e w' => e = .returned (.bool true) ∧ Below w.heap.size w w' := by
  obtain ⟨A, hA, h0⟩ := a0
  exact (law_once6 A (by unfold maxLen at hA; omega)).plain (us := [v0]) (.cons h0 .nil)
theorem schedCrash_walk {w : World} (v0 : Value) (a0 : ∃ A : List Ac, A.length ≤ maxLen ∧ RepT (RepS w fun _ => False) (rL 7 (A.map encAc)) v0) (v1 : Value) (a1 : ∃ l : List Int, RepT (RepS w fun _ => False) (rL 1 (l.map encI)) v1 ∧ ∀ a ∈ l, (Lit.int .i64 a).wf = true) :
    Calls Try.prog 13 #[v0, v1] w fun e w' => e = .returned (.bool true) ∧ Below w.heap.size w w' := by
  obtain ⟨A, hA, h0⟩ := a0
  obtain ⟨l, h1, _⟩ := a1
  exact (law_crash6 A l (by unfold maxLen at hA; omega)).plain (us := [v0, v1]) (.cons h0 (.cons h1 .nil))
end Go.Proofs.Ytfmbfgoofiojcaa
