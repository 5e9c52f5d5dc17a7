/- layer 6: the law SchedDrains. -/
import Derived.Test.YtfmbfgoofiojcaaSG
import Derived.Test.YtfmbfgoofiojcaaS9
import Derived.Test.YtfmbfgoofiojcaaSub
import Derived.Test.YtfmbfgoofiojcaaAm19
namespace Go.Proofs.Ytfmbfgoofiojcaa
open Go.RowKit Lk
set_option linter.unusedVariables false
set_option linter.unusedSimpArgs false


set_option maxRecDepth 100000 in
set_option maxHeartbeats 4000000 in
theorem law_drains6 (jobs : List Jb) (hl : jobs.length ≤ 9223372036854775807) : Spec Try.prog 12 [rL 5 (jobs.map encJb)] (.val (rB true)) := by
  refine spec_val mixed fn12 (by simp) ?_
  unfold ac12
  obtain ⟨n1, n2⟩ := Sc.new_ok (d := nV) (ws := [2, 1]) Sc.nV_right rfl (by decide)
  have c0 := snewS_spec nV [2, 1] (by decide)
  have hj0 : (Sc.newS nV [2, 1]).1.js = [[], []] := by rw [n1]; rfl
  have ho0 : (Sc.newS nV [2, 1]).1.out = [] := by rw [n1]
  have hd0 : (Sc.newS nV [2, 1]).1.dv = nV := by rw [n1]
  rw [encSi, show (Sc.newS nV [2, 1]).2 = 0 by rw [n1]] at c0
  generalize (Sc.newS nV [2, 1]).1 = s0 at c0 n2 hj0 ho0 hd0
  simp only [encDv, encSd, encI, List.map_cons, List.map_nil] at c0
  have cN : Spec Try.prog 26 [] (.val (.agg (encDv nV))) := newV_spec
  rw [encDv] at cN
  simp -implicitDefEqProofs only [↓aP, aQ, ↓reduceIte, Nat.reduceEqDiff, Nat.reduceAdd, Nat.reduceSub, Nat.reduceMul, Nat.reduceLT, Nat.reduceLeDiff, reduceCtorEq, Nat.reduceBEq, forall_const, implies_true, exists_const, ne_eq, Int.reduceAdd, Int.reduceSub, Int.reduceMul, Int.reduceBEq, Int.reduceEq, Int.reduceLT, Int.reduceLE, Int.reduceToNat, Int.reduceNeg, Int.reduceBNe]
  refine ask cN ?_
  simp -implicitDefEqProofs only [↓aP, aQ, ↓reduceIte, Nat.reduceEqDiff, Nat.reduceAdd, Nat.reduceSub, Nat.reduceMul, Nat.reduceLT, Nat.reduceLeDiff, reduceCtorEq, Nat.reduceBEq, forall_const, implies_true, exists_const, ne_eq, Int.reduceAdd, Int.reduceSub, Int.reduceMul, Int.reduceBEq, Int.reduceEq, Int.reduceLT, Int.reduceLE, Int.reduceToNat, Int.reduceNeg, Int.reduceBNe]
  refine ask c0 ?_
  by_cases h60 : 60 < jobs.length
  · simp -implicitDefEqProofs only [↓aP, aQ, ↓reduceIte, Nat.reduceEqDiff, Nat.reduceAdd, Nat.reduceSub, Nat.reduceMul, Nat.reduceLT, Nat.reduceLeDiff, reduceCtorEq, Nat.reduceBEq, forall_const, implies_true, exists_const, ne_eq, Int.reduceAdd, Int.reduceSub, Int.reduceMul, Int.reduceBEq, Int.reduceEq, Int.reduceLT, Int.reduceLE, Int.reduceToNat, Int.reduceNeg, Int.reduceBNe, bne_self_eq_false, List.length_map, show decide ((60 : Int) < (jobs.length : Int)) = true by simp; omega, beq_self_eq_true]
    refine ask awake6_spec ?_
    simp -implicitDefEqProofs only [↓aP, aQ, ↓reduceIte, Nat.reduceEqDiff, Nat.reduceAdd, Nat.reduceSub, Nat.reduceMul, Nat.reduceLT, Nat.reduceLeDiff, reduceCtorEq, Nat.reduceBEq, forall_const, implies_true, exists_const, ne_eq, Int.reduceAdd, Int.reduceSub, Int.reduceMul, Int.reduceBEq, Int.reduceEq, Int.reduceLT, Int.reduceLE, Int.reduceToNat, Int.reduceNeg, Int.reduceBNe]
  simp -implicitDefEqProofs only [↓aP, aQ, ↓reduceIte, Nat.reduceEqDiff, Nat.reduceAdd, Nat.reduceSub, Nat.reduceMul, Nat.reduceLT, Nat.reduceLeDiff, reduceCtorEq, Nat.reduceBEq, forall_const, implies_true, exists_const, ne_eq, Int.reduceAdd, Int.reduceSub, Int.reduceMul, Int.reduceBEq, Int.reduceEq, Int.reduceLT, Int.reduceLE, Int.reduceToNat, Int.reduceNeg, Int.reduceBNe, bne_self_eq_false, List.length_map, show decide ((60 : Int) < (jobs.length : Int)) = false by simp; omega]
  refine shift (sub_cell (p := 5) (i := 0) (j := 0) 65 80 5 rfl (by exact Nat.succ_pos _) (by rfl) (by decide) (by decide)) ?_
  refine shift (sub_cell (p := 5) (i := 1) (j := 0) 900 80 5 rfl (by exact Nat.succ_lt_succ (Nat.succ_pos _)) (by rfl) (by decide) (by decide)) ?_
  refine rangeB jobs.length (fun i σ => ∃ (s : Sd) (w0 w1 : List Jb) (g u : Nat), Sc.Rs s ∧ s.js = [w0, w1] ∧ s.out = [] ∧ s.dv = nV ∧ w0.length + w1.length ≤ i ∧ σ.slot 3 = .c (.ptr 3 1 0 0) ∧ σ.h.gen 3 = 1 ∧ σ.h.blk 3 = .box 68 9 [(encSd s).map AC.s] ∧ σ.slot 5 = .c (.ptr 5 1 0 0) ∧ σ.h.gen 5 = 1 ∧ σ.h.blk 5 = .box 101 1 [[.own 65 g], [.own 900 u]] ∧ σ.h.gen 65 = g ∧ σ.h.blk 65 = .row 80 5 (w0.map encJb) ∧ σ.h.gen 900 = u ∧ σ.h.blk 900 = .row 80 5 (w1.map encJb) ∧ σ.slot 33 = vL 5 (jobs.map encJb) ∧ σ.slot 34 = vI jobs.length ∧ σ.slot 35 = vI i) ?_ ?_ ?_
  · refine ⟨s0, [], [], 1, 1, n2, hj0, ho0, hd0, by simp, ?_⟩
    simp -implicitDefEqProofs only [↓aP, aQ, ↓reduceIte, Nat.reduceEqDiff, Nat.reduceAdd, Nat.reduceSub, Nat.reduceMul, Nat.reduceLT, Nat.reduceLeDiff, reduceCtorEq, Nat.reduceBEq, forall_const, implies_true, exists_const, ne_eq, Int.reduceAdd, Int.reduceSub, Int.reduceMul, Int.reduceBEq, Int.reduceEq, Int.reduceLT, Int.reduceLE, Int.reduceToNat, Int.reduceNeg, Int.reduceBNe, encSd, List.map_nil]
    all_goals (trace_state; sorry)
  · rintro i m σ him hi hlt ⟨s, w0, w1, g, u, hr, hj, ho, hdv, hwl, s3, g3, b3, s5, g5, b5, g65, b65, g900, b900, s33, s34, s35⟩
    have c1 := sask_spec s jobs[i] (rs_shs hr)
    obtain ⟨q1, q2, q3, q4, _, q5⟩ := Sc.many_ask hr jobs[i]
    have ha := Sc.rs_ask hr jobs[i]
    rw [encSi] at c1
    by_cases e0 : (Sc.askS s jobs[i]).2 = 0
    case neg =>
      rw [q2 e0] at c1
      generalize (Sc.askS s jobs[i]).2 = e at c1 e0
      simp only [encSd, encJb] at c1
      simp -implicitDefEqProofs only [↓aP, aQ, ↓reduceIte, Nat.reduceEqDiff, Nat.reduceAdd, Nat.reduceSub, Nat.reduceMul, Nat.reduceLT, Nat.reduceLeDiff, reduceCtorEq, Nat.reduceBEq, forall_const, implies_true, exists_const, ne_eq, Int.reduceAdd, Int.reduceSub, Int.reduceMul, Int.reduceBEq, Int.reduceEq, Int.reduceLT, Int.reduceLE, Int.reduceToNat, Int.reduceNeg, Int.reduceBNe, hlt, s3, g3, b3, s5, g5, b5, g65, b65, g900, b900, s33, s34, s35, askIdx_map, hi, encJb, encSd]
      refine ask c1 ?_
      simp -implicitDefEqProofs only [↓aP, aQ, ↓reduceIte, Nat.reduceEqDiff, Nat.reduceAdd, Nat.reduceSub, Nat.reduceMul, Nat.reduceLT, Nat.reduceLeDiff, reduceCtorEq, Nat.reduceBEq, forall_const, implies_true, exists_const, ne_eq, Int.reduceAdd, Int.reduceSub, Int.reduceMul, Int.reduceBEq, Int.reduceEq, Int.reduceLT, Int.reduceLE, Int.reduceToNat, Int.reduceNeg, Int.reduceBNe, s3, g3, b3, s5, g5, b5, g65, b65, g900, b900, s33, s34, s35, show (e == 0) = false from beq_eq_false_iff_ne.2 e0, wrapS (show i < 4611686018427387904 by omega)]
      refine nextR hi him ⟨s, w0, w1, g, u, hr, hj, ho, hdv, by omega, ?_⟩
      simp -implicitDefEqProofs only [↓aP, aQ, ↓reduceIte, Nat.reduceEqDiff, Nat.reduceAdd, Nat.reduceSub, Nat.reduceMul, Nat.reduceLT, Nat.reduceLeDiff, reduceCtorEq, Nat.reduceBEq, forall_const, implies_true, exists_const, ne_eq, Int.reduceAdd, Int.reduceSub, Int.reduceMul, Int.reduceBEq, Int.reduceEq, Int.reduceLT, Int.reduceLE, Int.reduceToNat, Int.reduceNeg, Int.reduceBNe, s3, g3, b3, s5, g5, b5, g65, b65, g900, b900, s33, s34, s35, encSd]
    obtain ⟨k, hwho, hk2, q6⟩ := Sc.ask_js hr e0
    rw [hj] at hk2
    rw [e0] at c1
    rw [ho] at q5
    rw [hdv] at q3
    generalize (Sc.askS s jobs[i]).1 = s1 at c1 ha q3 q5 q6
    have hk3 : k = 0 ∨ k = 1 := by simp at hk2; omega
    rcases hk3 with rfl | rfl
    · have hj1 : s1.js = [w0 ++ [jobs[i]], w1] := by rw [q6, hj]; rfl
      simp only [encSd, encJb, hwho] at c1
      simp -implicitDefEqProofs only [↓aP, aQ, ↓reduceIte, Nat.reduceEqDiff, Nat.reduceAdd, Nat.reduceSub, Nat.reduceMul, Nat.reduceLT, Nat.reduceLeDiff, reduceCtorEq, Nat.reduceBEq, forall_const, implies_true, exists_const, ne_eq, Int.reduceAdd, Int.reduceSub, Int.reduceMul, Int.reduceBEq, Int.reduceEq, Int.reduceLT, Int.reduceLE, Int.reduceToNat, Int.reduceNeg, Int.reduceBNe, hlt, s3, g3, b3, s5, g5, b5, g65, b65, g900, b900, s33, s34, s35, askIdx_map, hi, encJb, encSd, hwho]
      refine ask c1 ?_
      simp -implicitDefEqProofs only [↓aP, aQ, ↓reduceIte, Nat.reduceEqDiff, Nat.reduceAdd, Nat.reduceSub, Nat.reduceMul, Nat.reduceLT, Nat.reduceLeDiff, reduceCtorEq, Nat.reduceBEq, forall_const, implies_true, exists_const, ne_eq, Int.reduceAdd, Int.reduceSub, Int.reduceMul, Int.reduceBEq, Int.reduceEq, Int.reduceLT, Int.reduceLE, Int.reduceToNat, Int.reduceNeg, Int.reduceBNe, s3, g3, b3, s5, g5, b5, g65, b65, g900, b900, s33, s34, s35, beq_self_eq_true, show decide ((0 : Int) ≤ 0) = true by decide, show decide ((0 : Int) < 2) = true by decide, encJb, hwho, List.length_map, wrapS (show i < 4611686018427387904 by omega)]
      refine ⟨by omega, by omega, by decide +kernel, ?_⟩
      refine nextR hi him ⟨s1, w0 ++ [jobs[i]], w1, g + 1, u, ha, hj1, q5, q3, by simp; omega, ?_⟩
      simp -implicitDefEqProofs only [↓aP, aQ, ↓reduceIte, Nat.reduceEqDiff, Nat.reduceAdd, Nat.reduceSub, Nat.reduceMul, Nat.reduceLT, Nat.reduceLeDiff, reduceCtorEq, Nat.reduceBEq, forall_const, implies_true, exists_const, ne_eq, Int.reduceAdd, Int.reduceSub, Int.reduceMul, Int.reduceBEq, Int.reduceEq, Int.reduceLT, Int.reduceLE, Int.reduceToNat, Int.reduceNeg, Int.reduceBNe, s3, g3, b3, s5, g5, b5, g65, b65, g900, b900, s33, s34, s35, encSd, List.map_append, List.map_cons, List.map_nil, encJb, hwho]
    · have hj1 : s1.js = [w0, w1 ++ [jobs[i]]] := by rw [q6, hj]; rfl
      simp only [encSd, encJb, hwho] at c1
      simp -implicitDefEqProofs only [↓aP, aQ, ↓reduceIte, Nat.reduceEqDiff, Nat.reduceAdd, Nat.reduceSub, Nat.reduceMul, Nat.reduceLT, Nat.reduceLeDiff, reduceCtorEq, Nat.reduceBEq, forall_const, implies_true, exists_const, ne_eq, Int.reduceAdd, Int.reduceSub, Int.reduceMul, Int.reduceBEq, Int.reduceEq, Int.reduceLT, Int.reduceLE, Int.reduceToNat, Int.reduceNeg, Int.reduceBNe, hlt, s3, g3, b3, s5, g5, b5, g65, b65, g900, b900, s33, s34, s35, askIdx_map, hi, encJb, encSd, hwho]
      refine ask c1 ?_
      simp -implicitDefEqProofs only [↓aP, aQ, ↓reduceIte, Nat.reduceEqDiff, Nat.reduceAdd, Nat.reduceSub, Nat.reduceMul, Nat.reduceLT, Nat.reduceLeDiff, reduceCtorEq, Nat.reduceBEq, forall_const, implies_true, exists_const, ne_eq, Int.reduceAdd, Int.reduceSub, Int.reduceMul, Int.reduceBEq, Int.reduceEq, Int.reduceLT, Int.reduceLE, Int.reduceToNat, Int.reduceNeg, Int.reduceBNe, s3, g3, b3, s5, g5, b5, g65, b65, g900, b900, s33, s34, s35, beq_self_eq_true, show decide ((0 : Int) ≤ 1) = true by decide, show decide ((1 : Int) < 2) = true by decide, encJb, hwho, List.length_map, wrapS (show i < 4611686018427387904 by omega)]
      refine ⟨by omega, by omega, by decide +kernel, ?_⟩
      refine nextR hi him ⟨s1, w0, w1 ++ [jobs[i]], g, u + 1, ha, hj1, q5, q3, by simp; omega, ?_⟩
      simp -implicitDefEqProofs only [↓aP, aQ, ↓reduceIte, Nat.reduceEqDiff, Nat.reduceAdd, Nat.reduceSub, Nat.reduceMul, Nat.reduceLT, Nat.reduceLeDiff, reduceCtorEq, Nat.reduceBEq, forall_const, implies_true, exists_const, ne_eq, Int.reduceAdd, Int.reduceSub, Int.reduceMul, Int.reduceBEq, Int.reduceEq, Int.reduceLT, Int.reduceLE, Int.reduceToNat, Int.reduceNeg, Int.reduceBNe, s3, g3, b3, s5, g5, b5, g65, b65, g900, b900, s33, s34, s35, encSd, List.map_append, List.map_cons, List.map_nil, encJb, hwho]
  · rintro m σ hlt ⟨s, w0, w1, g, u, hr, hj, ho, hdv, hwl, s3, g3, b3, s5, g5, b5, g65, b65, g900, b900, s33, s34, s35⟩
    have wl : IntKind.i64.wrap ((w0.length : Int) + (w1.length : Int)) = ((w0.length + w1.length : Nat) : Int) := by rw [wrapI (by omega)]; omega
    simp -implicitDefEqProofs only [↓aP, aQ, ↓reduceIte, Nat.reduceEqDiff, Nat.reduceAdd, Nat.reduceSub, Nat.reduceMul, Nat.reduceLT, Nat.reduceLeDiff, reduceCtorEq, Nat.reduceBEq, forall_const, implies_true, exists_const, ne_eq, Int.reduceAdd, Int.reduceSub, Int.reduceMul, Int.reduceBEq, Int.reduceEq, Int.reduceLT, Int.reduceLE, Int.reduceToNat, Int.reduceNeg, Int.reduceBNe, hlt, s3, g3, b3, s5, g5, b5, g65, b65, g900, b900, s33, s34, s35, List.length_map, wl]
    refine shift (sub_melt (p := 5) (tp := 101) (ep := 1) (i := 0) (j := 0) (l := 65) (g := g) (ty := 80) (e := 5) (els := [[.own 65 g], [.own 900 u]]) (xs := w0.map encJb) (by exact b5) (by simp) rfl (by exact g65) (by exact b65) (by decide)) ?_
    refine shift (sub_melt (p := 5) (tp := 101) (ep := 1) (i := 1) (j := 0) (l := 900) (g := u) (ty := 80) (e := 5) (els := [[.s (.sl 5 (w0.map encJb))], [.own 900 u]]) (xs := w1.map encJb) (by rfl) (by simp) rfl (by exact g900) (by exact b900) (by decide)) ?_
    obtain ⟨left, hleft⟩ : ∃ left, left = w0.length + w1.length := ⟨_, rfl⟩
    rw [← hleft]
    have hl60 : left ≤ 60 := by omega
    refine rangeB left (fun r σ => ∃ (s : Sd) (w0 w1 : List Jb), Sc.Rs s ∧ s.l.l.length = 2 ∧ w0.map Sc.kp = Sc.Qs s 0 ∧ w1.map Sc.kp = Sc.Qs s 1 ∧ Sc.many s + r = left ∧ s.dv.next ≤ 4 * (r : Int) ∧ s.dv.disk.cache.length ≤ 2 * r ∧ w0.length + w1.length ≤ 60 ∧ σ.slot 3 = .c (.ptr 3 1 0 0) ∧ σ.h.gen 3 = 1 ∧ σ.h.blk 3 = .box 68 9 [(encSd s).map AC.s] ∧ σ.slot 5 = .c (.ptr 5 1 0 0) ∧ σ.h.gen 5 = 1 ∧ σ.h.blk 5 = .box 101 1 [[.s (.sl 5 (w0.map encJb))], [.s (.sl 5 (w1.map encJb))]] ∧ σ.slot 76 = vI left ∧ σ.slot 77 = vI r) ?_ ?_ ?_
    · refine ⟨s, w0, w1, hr, by have := hr.n; rw [hj] at this; simpa using this.symm, by unfold Sc.Qs; rw [ho, hj]; rfl, by unfold Sc.Qs; rw [ho, hj]; rfl, by unfold Sc.many Sc.sumL; rw [ho, hj, hleft]; simp, by rw [hdv]; decide, by rw [hdv]; decide, by omega, ?_⟩
      simp -implicitDefEqProofs only [↓aP, aQ, ↓reduceIte, Nat.reduceEqDiff, Nat.reduceAdd, Nat.reduceSub, Nat.reduceMul, Nat.reduceLT, Nat.reduceLeDiff, reduceCtorEq, Nat.reduceBEq, forall_const, implies_true, exists_const, ne_eq, Int.reduceAdd, Int.reduceSub, Int.reduceMul, Int.reduceBEq, Int.reduceEq, Int.reduceLT, Int.reduceLE, Int.reduceToNat, Int.reduceNeg, Int.reduceBNe, s3, g3, b3, s5, g5, b5, g65, b65, g900, b900, s33, s34, s35, encSd]
      all_goals (trace_state; sorry)
    · clear hlt s3 g3 b3 s5 g5 b5 g65 b65 g900 b900 s33 s34 s35
      clear wl hwl hleft
      rintro r m σ hrm hlr hlt ⟨s, w0, w1, hr, hl2, hq0, hq1, hm, hnx, hca, hw60, s3, g3, b3, s5, g5, b5, s76, s77⟩
      have hrp := Sc.rs_pump hr
      obtain ⟨f1, f2, f3, f4, f5, _⟩ := Sc.pump_facts hr
      have hpos := Sc.pump_some hr (by omega) (by omega)
      have c1 := spump_spec s (rs_shs hr)
      obtain ⟨j, o, ho1⟩ : ∃ j o, (Sc.pumpS s).out = j :: o := by
        cases e : (Sc.pumpS s).out with
        | nil => rw [e] at hpos; simp at hpos
        | cons j o => exact ⟨j, o, rfl⟩
      obtain ⟨t, j', hdn, t0, t1, t2, t3, t4, t5, t6, t7⟩ := Sc.done_first hrp ho1 (by rw [f2]; omega)
      have c2 := sdone_spec (Sc.pumpS s) 0 false (rs_shs hrp)
      rw [hdn, encDn] at c2
      have hfit := hrp.fl 0 (by rw [ho1]; simp) (by have := hrp.m; rw [ho1] at this; simp at this; omega)
      have hwho0 : j.who = 0 ∨ j.who = 1 := by
        simp only [ho1, List.getElem_cons_zero] at hfit
        unfold Sc.fitJ Sc.hasL at hfit
        simp only [Bool.and_eq_true, decide_eq_true_eq] at hfit
        have := hfit.2.1
        omega
      clear hfit
      have hmt : Sc.many t + 1 = Sc.many s := by
        rw [← f1]
        unfold Sc.many
        rw [t4, t5, ho1, List.length_cons]; omega
      have htl : t.l.l.length = 2 := by
        have a1 := t0.n
        have a2 := hrp.n
        rw [t5] at a1; omega
      have hp0 := Sc.q_pump hr 0
      have hp1 := Sc.q_pump hr 1
      generalize Sc.pumpS s = q at hp0 hp1 c1 c2 ho1 t5 f1 f2 f3 f4 f5 t6 t7 hrp
      simp only [encSd] at c1 c2
      rcases hwho0 with hwho | hwho
      · have e0 := Sc.q_pop ho1 t4 t5 0
        rw [if_pos (by rw [hwho]; rfl)] at e0
        have e1 := Sc.q_pop ho1 t4 t5 1
        rw [if_neg (by rw [hwho]; decide)] at e1
        obtain ⟨a, w', rfl, ka, kw⟩ := Sc.map_kp_cons ((hq0.trans hp0.symm).trans e0)
        have kb := (hq1.trans hp1.symm).trans e1
        rw [List.nil_append] at kb
        unfold Sc.kp at ka
        simp only [Prod.mk.injEq] at ka
        obtain ⟨ka1, ka2⟩ := ka
        have hw' : j'.who = 0 := by rw [t1, hwho]
        have hk1 : a.kind = j'.kind := by rw [t2, ka1]
        have hk2 : a.page = j'.page := by rw [t3, ka2]
        have hne : (((w'.length + 1 : Nat) : Int) == 0) = false := by rw [beq_eq_false_iff_ne]; omega
        have htk : List.take w'.length (List.map encJb w') = w'.map encJb := List.take_of_length_le (by simp)
        simp only [encJb, hw'] at c2
        simp -implicitDefEqProofs only [↓aP, aQ, ↓reduceIte, Nat.reduceEqDiff, Nat.reduceAdd, Nat.reduceSub, Nat.reduceMul, Nat.reduceLT, Nat.reduceLeDiff, reduceCtorEq, Nat.reduceBEq, forall_const, implies_true, exists_const, ne_eq, Int.reduceAdd, Int.reduceSub, Int.reduceMul, Int.reduceBEq, Int.reduceEq, Int.reduceLT, Int.reduceLE, Int.reduceToNat, Int.reduceNeg, Int.reduceBNe, hlt, s3, g3, b3, s5, g5, b5, s76, s77, encSd]
        refine ask c1 ?_
        simp -implicitDefEqProofs only [↓aP, aQ, ↓reduceIte, Nat.reduceEqDiff, Nat.reduceAdd, Nat.reduceSub, Nat.reduceMul, Nat.reduceLT, Nat.reduceLeDiff, reduceCtorEq, Nat.reduceBEq, forall_const, implies_true, exists_const, ne_eq, Int.reduceAdd, Int.reduceSub, Int.reduceMul, Int.reduceBEq, Int.reduceEq, Int.reduceLT, Int.reduceLE, Int.reduceToNat, Int.reduceNeg, Int.reduceBNe, encSd, s3, g3, b3, s5, g5, b5, s76, s77]
        refine ask c2 ?_
        simp -implicitDefEqProofs only [↓aP, aQ, ↓reduceIte, Nat.reduceEqDiff, Nat.reduceAdd, Nat.reduceSub, Nat.reduceMul, Nat.reduceLT, Nat.reduceLeDiff, reduceCtorEq, Nat.reduceBEq, forall_const, implies_true, exists_const, ne_eq, Int.reduceAdd, Int.reduceSub, Int.reduceMul, Int.reduceBEq, Int.reduceEq, Int.reduceLT, Int.reduceLE, Int.reduceToNat, Int.reduceNeg, Int.reduceBNe, encSd, bne_self_eq_false, show decide ((0 : Int) < 0) = false by decide, show decide ((1 : Int) < 0) = false by decide, s3, g3, b3, s5, g5, b5, s76, s77, List.length_map, List.length_cons, List.map_cons, encJb, hne, hk1, hk2]
        refine ⟨by decide +kernel, by omega, by decide +kernel, ?_⟩
        refine nextR hlr hrm ⟨t, w', w1, t0, htl, kw, kb, by omega, by omega, by rw [f2] at t7; omega, by simp at hw60; omega, ?_⟩
        simp -implicitDefEqProofs only [↓aP, aQ, ↓reduceIte, Nat.reduceEqDiff, Nat.reduceAdd, Nat.reduceSub, Nat.reduceMul, Nat.reduceLT, Nat.reduceLeDiff, reduceCtorEq, Nat.reduceBEq, forall_const, implies_true, exists_const, ne_eq, Int.reduceAdd, Int.reduceSub, Int.reduceMul, Int.reduceBEq, Int.reduceEq, Int.reduceLT, Int.reduceLE, Int.reduceToNat, Int.reduceNeg, Int.reduceBNe, s3, g3, b3, s5, g5, b5, s76, s77, encSd, htk, wrapS (show r < 4611686018427387904 by omega)]
      · have e0 := Sc.q_pop ho1 t4 t5 1
        rw [if_pos (by rw [hwho]; rfl)] at e0
        have e1 := Sc.q_pop ho1 t4 t5 0
        rw [if_neg (by rw [hwho]; decide)] at e1
        obtain ⟨a, w', rfl, ka, kw⟩ := Sc.map_kp_cons ((hq1.trans hp1.symm).trans e0)
        have kb := (hq0.trans hp0.symm).trans e1
        rw [List.nil_append] at kb
        unfold Sc.kp at ka
        simp only [Prod.mk.injEq] at ka
        obtain ⟨ka1, ka2⟩ := ka
        have hw' : j'.who = 1 := by rw [t1, hwho]
        have hk1 : a.kind = j'.kind := by rw [t2, ka1]
        have hk2 : a.page = j'.page := by rw [t3, ka2]
        have hne : (((w'.length + 1 : Nat) : Int) == 0) = false := by rw [beq_eq_false_iff_ne]; omega
        have htk : List.take w'.length (List.map encJb w') = w'.map encJb := List.take_of_length_le (by simp)
        simp only [encJb, hw'] at c2
        simp -implicitDefEqProofs only [↓aP, aQ, ↓reduceIte, Nat.reduceEqDiff, Nat.reduceAdd, Nat.reduceSub, Nat.reduceMul, Nat.reduceLT, Nat.reduceLeDiff, reduceCtorEq, Nat.reduceBEq, forall_const, implies_true, exists_const, ne_eq, Int.reduceAdd, Int.reduceSub, Int.reduceMul, Int.reduceBEq, Int.reduceEq, Int.reduceLT, Int.reduceLE, Int.reduceToNat, Int.reduceNeg, Int.reduceBNe, hlt, s3, g3, b3, s5, g5, b5, s76, s77, encSd]
        refine ask c1 ?_
        simp -implicitDefEqProofs only [↓aP, aQ, ↓reduceIte, Nat.reduceEqDiff, Nat.reduceAdd, Nat.reduceSub, Nat.reduceMul, Nat.reduceLT, Nat.reduceLeDiff, reduceCtorEq, Nat.reduceBEq, forall_const, implies_true, exists_const, ne_eq, Int.reduceAdd, Int.reduceSub, Int.reduceMul, Int.reduceBEq, Int.reduceEq, Int.reduceLT, Int.reduceLE, Int.reduceToNat, Int.reduceNeg, Int.reduceBNe, encSd, s3, g3, b3, s5, g5, b5, s76, s77]
        refine ask c2 ?_
        simp -implicitDefEqProofs only [↓aP, aQ, ↓reduceIte, Nat.reduceEqDiff, Nat.reduceAdd, Nat.reduceSub, Nat.reduceMul, Nat.reduceLT, Nat.reduceLeDiff, reduceCtorEq, Nat.reduceBEq, forall_const, implies_true, exists_const, ne_eq, Int.reduceAdd, Int.reduceSub, Int.reduceMul, Int.reduceBEq, Int.reduceEq, Int.reduceLT, Int.reduceLE, Int.reduceToNat, Int.reduceNeg, Int.reduceBNe, encSd, bne_self_eq_false, show decide ((1 : Int) < 0) = false by decide, show decide ((1 : Int) < 1) = false by decide, s3, g3, b3, s5, g5, b5, s76, s77, List.length_map, List.length_cons, List.map_cons, encJb, hne, hk1, hk2]
        refine ⟨by decide +kernel, by omega, by decide +kernel, ?_⟩
        refine nextR hlr hrm ⟨t, w0, w', t0, htl, kb, kw, by omega, by omega, by rw [f2] at t7; omega, by simp at hw60; omega, ?_⟩
        simp -implicitDefEqProofs only [↓aP, aQ, ↓reduceIte, Nat.reduceEqDiff, Nat.reduceAdd, Nat.reduceSub, Nat.reduceMul, Nat.reduceLT, Nat.reduceLeDiff, reduceCtorEq, Nat.reduceBEq, forall_const, implies_true, exists_const, ne_eq, Int.reduceAdd, Int.reduceSub, Int.reduceMul, Int.reduceBEq, Int.reduceEq, Int.reduceLT, Int.reduceLE, Int.reduceToNat, Int.reduceNeg, Int.reduceBNe, s3, g3, b3, s5, g5, b5, s76, s77, encSd, htk, wrapS (show r < 4611686018427387904 by omega)]
    · clear hlt s3 g3 b3 s5 g5 b5 g65 b65 g900 b900 s33 s34 s35
      clear wl hwl hleft
      rintro m σ hlt ⟨s, w0, w1, hr, hl2, hq0, hq1, hm, hnx, hca, hw60, s3, g3, b3, s5, g5, b5, s76, s77⟩
      obtain ⟨f1, _, _, _, _, _⟩ := Sc.pump_facts hr
      have hz : (Sc.pumpS s).out.length = 0 := by unfold Sc.many at f1 hm; omega
      have c1 := spump_spec s (rs_shs hr)
      generalize Sc.pumpS s = q at c1 hz
      simp only [encSd] at c1
      simp -implicitDefEqProofs only [↓aP, aQ, ↓reduceIte, Nat.reduceEqDiff, Nat.reduceAdd, Nat.reduceSub, Nat.reduceMul, Nat.reduceLT, Nat.reduceLeDiff, reduceCtorEq, Nat.reduceBEq, forall_const, implies_true, exists_const, ne_eq, Int.reduceAdd, Int.reduceSub, Int.reduceMul, Int.reduceBEq, Int.reduceEq, Int.reduceLT, Int.reduceLE, Int.reduceToNat, Int.reduceNeg, Int.reduceBNe, hlt, s3, g3, b3, s5, g5, b5, s76, s77, encSd]
      refine ask c1 ?_
      simp -implicitDefEqProofs only [↓aP, aQ, ↓reduceIte, Nat.reduceEqDiff, Nat.reduceAdd, Nat.reduceSub, Nat.reduceMul, Nat.reduceLT, Nat.reduceLeDiff, reduceCtorEq, Nat.reduceBEq, forall_const, implies_true, exists_const, ne_eq, Int.reduceAdd, Int.reduceSub, Int.reduceMul, Int.reduceBEq, Int.reduceEq, Int.reduceLT, Int.reduceLE, Int.reduceToNat, Int.reduceNeg, Int.reduceBNe, encSd, List.length_map, hz, beq_self_eq_true, s3, g3, b3, s5, g5, b5, s76, s77]
      refine ask awake6_spec ?_
      simp -implicitDefEqProofs only [↓aP, aQ, ↓reduceIte, Nat.reduceEqDiff, Nat.reduceAdd, Nat.reduceSub, Nat.reduceMul, Nat.reduceLT, Nat.reduceLeDiff, reduceCtorEq, Nat.reduceBEq, forall_const, implies_true, exists_const, ne_eq, Int.reduceAdd, Int.reduceSub, Int.reduceMul, Int.reduceBEq, Int.reduceEq, Int.reduceLT, Int.reduceLE, Int.reduceToNat, Int.reduceNeg, Int.reduceBNe]
      all_goals (trace_state; sorry)
end Go.Proofs.Ytfmbfgoofiojcaa
namespace Go.Proofs.Ytfmbfgoofiojcaa
open Go.RowKit Go.ChangeShapes Go.WideShapes
set_option linter.unusedVariables false
theorem opens_jbD {H : Type} {enc : TypeId × Value → H} {w : World} {spare : Nat → Bool} {held : Bool} : Opens Try.prog enc w spare held 80 5 (fun ys => ∃ x : Jb, ys = encJb x) := by
  have h := opens_struct (enc := enc) (w := w) (spare := spare) (held := held) Try.underlying80 (by kernel_rfl) (.cons rfl (opens_int Try.underlying3 (by kernel_rfl)) (.cons rfl (opens_int Try.underlying3 (by kernel_rfl)) (.cons rfl (opens_int Try.underlying3 (by kernel_rfl)) (.cons rfl (opens_str Try.underlying9 (by kernel_rfl)) (.cons rfl (opens_int Try.underlying3 (by kernel_rfl)) (.nil _))))))
  refine ⟨h.1, fun fuel cs x hx => ?_⟩
  obtain ⟨ys, ⟨_, _, rfl, ⟨n1, rfl, _⟩, _, _, rfl, ⟨n2, rfl, _⟩, _, _, rfl, ⟨n3, rfl, _⟩, _, _, rfl, ⟨s, rfl, _⟩, _, _, rfl, ⟨n4, rfl, _⟩, rfl⟩, h2, h3⟩ := h.2 _ _ _ hx
  exact ⟨_, ⟨⟨n1, n2, n3, s, n4⟩, rfl⟩, h2, h3⟩
set_option maxRecDepth 100000 in
theorem open_jobs {H : Type} {enc : TypeId × Value → H} {w : World} {spare : Nat → Bool} {held : Bool} {r : Reach} {b0 : Nat} {v : Value} {d : DataW H} {p : List MemPlace} 
    (hv : Value.okWide Try.prog w r b0 66 v) (h : DataW.Trod enc Try.prog w 0 spare held 66 v d p) : ∃ A : List Jb, A.length ≤ maxLen ∧ RepT (RepS w fun _ => False) (rL 5 (A.map encJb)) v := by
  obtain ⟨y, ⟨els, e1, e2, e3⟩, h2⟩ := open_one (opens_slice Try.underlying66 (by kernel_rfl) (by decide) opens_jbD) (slice_cells Try.underlying66 hv) h
  simp only [List.cons.injEq, and_true] at e1
  subst e1
  obtain ⟨A, rfl⟩ := all_of_mem (f := encJb) (fun y hy => e2 y hy)
  exact ⟨A, by simpa using e3, h2⟩
theorem schedDrains_walk {w : World} (v0 : Value) (a0 : ∃ A : List Jb, A.length ≤ maxLen ∧ RepT (RepS w fun _ => False) (rL 5 (A.map encJb)) v0) :
    Calls Try.prog 12 #[v0] w fun e w' => e = .returned (.bool true) ∧ Below w.heap.size w w' := by
  obtain ⟨A, hA, h0⟩ := a0
  exact (law_drains6 A (by unfold maxLen at hA; omega)).plain (us := [v0]) (.cons h0 .nil)
end Go.Proofs.Ytfmbfgoofiojcaa
