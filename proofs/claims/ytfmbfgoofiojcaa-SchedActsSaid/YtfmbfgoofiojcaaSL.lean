/- layer 6: the document's Ask, Pump. -/
import Derived.Test.YtfmbfgoofiojcaaSK
namespace Go.Proofs.Ytfmbfgoofiojcaa
open Go.RowKit Lk
set_option linter.unusedVariables false
set_option linter.unusedSimpArgs false
theorem rs_shs2 {s : Sd} (h : Sc.Rs s) : Shs s := by
  obtain ⟨a, b, c, d, e, f, _⟩ := h.len
  exact ⟨⟨by omega, fun y hy => by have := f y hy; omega⟩, by omega, fun l hl => by have := e l hl; omega, by omega⟩

set_option maxRecDepth 100000 in
set_option maxHeartbeats 4000000 in
theorem rAsk6_spec (s : Sd) (j : Jb) (h : Sc.Rs s) : Spec Try.prog 28 [.agg (encSd s), .agg (encJb j)] (.val (encSi (Sc.askS s j))) := by
  refine spec_val mixed fn28 (by simp) ?_
  unfold ac28
  have hlen := h.len
  have hn := h.n
  have r1 := Sc.rs_iff.2 h
  have bad : (Sc.rightS s = false ∨ Sc.hasL s j.who = false ∨ Sc.newB s.dv.disk j = false) → Sc.askS s j = (s, 1) := fun h => by unfold Sc.askS; rw [if_pos h]
  have nb : ¬ (j.tries = 0 ∧ isB j.kind j.page j.data = true) → Sc.askS s j = (s, 1) := fun hh => bad (.inr (.inr (by
    cases e : Sc.newB s.dv.disk j
    · rfl
    · exact absurd ((Sc.newB_iff h.d).1 e) hh)))
  have nh : ¬ (0 ≤ j.who ∧ j.who < s.js.length) → Sc.askS s j = (s, 1) := fun hh => bad (.inr (.inl (by unfold Sc.hasL; rw [decide_eq_false_iff_not, ← hn]; exact hh)))
  simp -implicitDefEqProofs only [↓aP, aQ, ↓reduceIte, reduceCtorEq, forall_const, implies_true, exists_const, ne_eq, seval, encSd, encJb, encSi]
  refine ask (by have := rRight6_spec s h; rw [encSd] at this; exact this) ?_
  by_cases c1 : j.tries = 0
  case neg => simp -implicitDefEqProofs only [↓aP, aQ, ↓reduceIte, reduceCtorEq, forall_const, implies_true, exists_const, ne_eq, seval, show (j.tries != 0) = true from bne_iff_ne.2 c1, nb (fun x => c1 x.1), encSd]
  by_cases c2 : j.who < 0
  · simp -implicitDefEqProofs only [↓aP, aQ, ↓reduceIte, reduceCtorEq, forall_const, implies_true, exists_const, ne_eq, seval, c1, bne_self_eq_false, decide_eq_true c2, nh (by omega), encSd]
  by_cases c3 : (s.js.length : Int) ≤ j.who
  · simp -implicitDefEqProofs only [↓aP, aQ, ↓reduceIte, reduceCtorEq, forall_const, implies_true, exists_const, ne_eq, seval, c1, bne_self_eq_false, decide_eq_false c2, encSd, List.length_map, decide_eq_true c3, nh (by omega)]
  simp -implicitDefEqProofs only [↓aP, aQ, ↓reduceIte, reduceCtorEq, forall_const, implies_true, exists_const, ne_eq, seval, c1, bne_self_eq_false, decide_eq_false c2, encSd, List.length_map, decide_eq_false c3]
  refine ask (may_spec j.kind j.page j.data) ?_
  cases c4 : isB j.kind j.page j.data
  · simp -implicitDefEqProofs only [↓aP, aQ, ↓reduceIte, reduceCtorEq, forall_const, implies_true, exists_const, ne_eq, seval, nb (fun x => by rw [c4] at x; exact Bool.noConfusion x.2), encSd]
  obtain ⟨k, ek⟩ : ∃ k : Nat, j.who = k := ⟨j.who.toNat, by omega⟩
  have k1 : k < s.js.length := by omega
  have k2 : k < s.l.l.length := by omega
  have hcost := h.cost k k1 k2
  have hcl : s.js[k].length = s.l.l[k].cs.length := by have := congrArg List.length hcost; simpa using this
  have hno : ¬ (Sc.rightS s = false ∨ Sc.hasL s j.who = false ∨ Sc.newB s.dv.disk j = false) := fun x => by
    rcases x with x | x | x
    · rw [r1] at x; exact Bool.noConfusion x
    · unfold Sc.hasL at x; rw [decide_eq_false_iff_not] at x; exact x (by omega)
    · rw [(Sc.newB_iff h.d).2 ⟨c1, c4⟩] at x; exact Bool.noConfusion x
  have hbad : ¬ badP s.l k (Sc.costI j.kind) := fun hb => by
    rcases hb with e | e | e | e
    · rw [h.l] at e; exact Bool.noConfusion e
    · omega
    · omega
    · rw [Sc.cost_ok c4] at e; exact Bool.noConfusion e
  by_cases c5 : s.js[k].length = 200
  · have hpush := push_full hbad k2 (by omega)
    have e : Sc.askS s j = (s, 7) := by
      unfold Sc.askS
      rw [if_neg hno, ek, hpush, if_pos (show (7 : Int) ≠ 0 by decide)]
    simp -implicitDefEqProofs only [↓aP, aQ, ↓reduceIte, reduceCtorEq, forall_const, implies_true, exists_const, ne_eq, seval, encSd, askIdx_map, k1, ek, encJs, List.length_map, c5, e]
  have hpush := push_ok hbad k2 (by omega)
  have e : Sc.askS s j = (⟨⟨s.l.l.set k ⟨s.l.l[k].w, s.l.l[k].d, s.l.l[k].cs ++ [Sc.costI j.kind]⟩, s.l.at', s.l.g⟩, s.js.set k (s.js[k] ++ [j]), s.dv, s.out⟩, 0) := by
    unfold Sc.askS
    rw [if_neg hno, ek, hpush, if_neg (fun x => x rfl), Int.toNat_natCast, List.getD_eq_getElem?_getD, List.getElem?_eq_getElem k1]; rfl
  rw [e]
  obtain ⟨L, hL⟩ : ∃ L, L = s.l.l.set k ⟨s.l.l[k].w, s.l.l[k].d, s.l.l[k].cs ++ [Sc.costI j.kind]⟩ := ⟨_, rfl⟩
  obtain ⟨J, hJ⟩ : ∃ J, J = s.js.set k (s.js[k] ++ [j]) := ⟨_, rfl⟩
  rw [← hL, ← hJ]
  have hLl : L.length = s.l.l.length := by rw [hL, List.length_set]
  have hJl : J.length = s.js.length := by rw [hJ, List.length_set]
  simp -implicitDefEqProofs only [↓aP, aQ, ↓reduceIte, reduceCtorEq, forall_const, implies_true, exists_const, ne_eq, seval, encSd, askIdx_map, k1, ek, encJs, List.length_map, show ((s.js[k].length : Int) == 200) = false by rw [beq_eq_false_iff_ne]; omega]
  refine ⟨by decide +kernel, ?_⟩
  refine shift (sub_cell (p := 6) (i := 0) (j := 0) 108 36 3 rfl (by exact Nat.succ_pos _) (by rfl) (by decide) (by decide)) ?_
  refine shift (sub_cell (p := 6) (i := 0) (j := 3) 115 76 1 rfl (by exact Nat.succ_pos _) (by rfl) (by decide) (by decide)) ?_
  refine rangeB s.js.length (fun i σ => ∃ g u, σ.slot 2 = .c (.ptr 2 1 0 0) ∧ σ.h.gen 2 = 1 ∧ σ.h.blk 2 = .box 78 9 [(encSd s).map AC.s] ∧ σ.slot 3 = .c (.ptr 3 1 0 0) ∧ σ.h.gen 3 = 1 ∧ σ.h.blk 3 = .box 86 5 [(encJb j).map AC.s] ∧ σ.slot 4 = .c (.ptr 4 1 0 0) ∧ σ.h.gen 4 = 1 ∧ σ.h.blk 4 = .box 78 9 [[.zc, .s (.pv (.int .i64 0)), .s (.pv (.bool false)), .zc, .zc, .zc, .s (.pv (.int .i64 0)), .zc, .zc]] ∧ σ.slot 5 = vI 0 ∧ σ.slot 6 = .c (.ptr 6 1 0 0) ∧ σ.h.gen 6 = 1 ∧ σ.h.blk 6 = .box 78 9 [[.own 108 g, .s (.pv (.int .i64 s.l.at')), .s (.pv (.bool s.l.g)), .own 115 u, .s (.sl 1 (s.dv.disk.sectors.map encS)), .s (.sl 2 (s.dv.disk.cache.map encWr)), .s (.pv (.int .i64 s.dv.next)), .s (.sl 4 (s.dv.flight.map encRq)), .s (.sl 5 (s.out.map encJb))]] ∧ σ.h.gen 108 = g ∧ σ.h.blk 108 = .row 36 3 ((L.take i).map encLn) ∧ σ.h.gen 115 = u ∧ σ.h.blk 115 = .row 76 1 ((J.take i).map encJs) ∧ σ.slot 7 = vI i) ?_ ?_ ?_
  · simp -implicitDefEqProofs only [↓aP, aQ, ↓reduceIte, reduceCtorEq, forall_const, implies_true, exists_const, ne_eq, seval, encSd, encJb, List.take_zero, List.map_nil, ek]
    exact ⟨1, 1, by rw [c1], rfl, rfl, rfl⟩
  · rintro i m σ him hi hlt ⟨g, u, s2, g2, b2, s3, g3, b3, s4, g4, b4, s5, s6, g6, b6, g108, b108, g115, b115, s7⟩
    have hi2 : i < s.l.l.length := by omega
    have hiL : i < L.length := by omega
    have hiJ : i < J.length := by omega
    have l1 : (L.take i).length ≤ 1000 := by rw [List.length_take]; omega
    have l2 : (J.take i).length ≤ 1000 := by rw [List.length_take]; omega
    simp -implicitDefEqProofs only [↓aP, aQ, ↓reduceIte, reduceCtorEq, forall_const, implies_true, exists_const, ne_eq, seval, hlt, s2, g2, b2, s3, g3, b3, s4, g4, b4, s5, s6, g6, b6, g108, b108, g115, b115, s7, encSd, askIdx_map, hi, hi2, encLn, encJs, encJb, List.length_map]
    by_cases ei : i = k
    · subst ei
      have eL : L[i] = ⟨s.l.l[i].w, s.l.l[i].d, s.l.l[i].cs ++ [Sc.costI j.kind]⟩ := by simp only [hL]; exact List.getElem_set_self _
      have eJ : J[i] = s.js[i] ++ [j] := by simp only [hJ]; exact List.getElem_set_self _
      have h200 := hlen.2.2.2.2.2.1 _ (List.getElem_mem hi2)
      simp -implicitDefEqProofs only [↓aP, aQ, ↓reduceIte, reduceCtorEq, forall_const, implies_true, exists_const, ne_eq, seval, ek, beq_self_eq_true, s2, g2, b2, s3, g3, b3, s4, g4, b4, s5, s6, g6, b6, g108, b108, g115, b115, s7, encJb]
      refine ⟨by omega, by omega, ?_⟩
      refine ask (rCost6_spec j.kind) ?_
      simp -implicitDefEqProofs only [↓aP, aQ, ↓reduceIte, reduceCtorEq, forall_const, implies_true, exists_const, ne_eq, seval, cost6_eq c4, List.length_map, s2, g2, b2, s3, g3, b3, s4, g4, b4, s5, s6, g6, b6, g108, b108, g115, b115, s7, encJb, ek]
      refine ⟨by omega, by omega, ?_⟩
      refine ask (by have := rBehind_spec s.js[i] j (by have := hlen.2.2.2.2.1 _ (List.getElem_mem hi); omega); rw [encJb, ek] at this; exact this) ?_
      simp -implicitDefEqProofs only [↓aP, aQ, ↓reduceIte, reduceCtorEq, forall_const, implies_true, exists_const, ne_eq, seval, s2, g2, b2, s3, g3, b3, s4, g4, b4, s5, s6, g6, b6, g108, b108, g115, b115, s7, List.length_map, wrapS (show i < 4611686018427387904 by omega)]
      refine ⟨by omega, by omega, by omega, by omega, ?_⟩
      refine nextR hi him ⟨g + 1, u + 1, ?_⟩
      simp -implicitDefEqProofs only [↓aP, aQ, ↓reduceIte, reduceCtorEq, forall_const, implies_true, exists_const, ne_eq, seval, s2, g2, b2, s3, g3, b3, s4, g4, b4, s5, s6, g6, b6, g108, b108, g115, b115, s7, encSd, encJb, ek, take_snoc hiL, take_snoc hiJ, eL, eJ, List.map_append, List.map_cons, List.map_nil, encLn, encJs, encI]
    · have eL : L[i] = s.l.l[i] := by simp only [hL]; rw [List.getElem_set_ne (by omega)]
      have eJ : J[i] = s.js[i] := by simp only [hJ]; rw [List.getElem_set_ne (by omega)]
      simp -implicitDefEqProofs only [↓aP, aQ, ↓reduceIte, reduceCtorEq, forall_const, implies_true, exists_const, ne_eq, seval, ek, show ((i : Int) == (k : Int)) = false by simp; omega, s2, g2, b2, s3, g3, b3, s4, g4, b4, s5, s6, g6, b6, g108, b108, g115, b115, s7, encJb, List.length_map, wrapS (show i < 4611686018427387904 by omega)]
      refine ⟨by omega, by omega, by omega, by omega, ?_⟩
      refine nextR hi him ⟨g + 1, u + 1, ?_⟩
      simp -implicitDefEqProofs only [↓aP, aQ, ↓reduceIte, reduceCtorEq, forall_const, implies_true, exists_const, ne_eq, seval, s2, g2, b2, s3, g3, b3, s4, g4, b4, s5, s6, g6, b6, g108, b108, g115, b115, s7, encSd, encJb, ek, take_snoc hiL, take_snoc hiJ, eL, eJ, List.map_append, List.map_cons, List.map_nil, encLn, encJs]
  · rintro m σ hlt ⟨g, u, s2, g2, b2, s3, g3, b3, s4, g4, b4, s5, s6, g6, b6, g108, b108, g115, b115, s7⟩
    rw [← hJl, List.take_length] at b115
    rw [show s.js.length = L.length by omega, List.take_length] at b108
    simp -implicitDefEqProofs only [↓aP, aQ, ↓reduceIte, reduceCtorEq, forall_const, implies_true, exists_const, ne_eq, seval, hlt, s2, g2, b2, s3, g3, b3, s4, g4, b4, s5, s6, g6, b6, g108, b108, g115, b115, s7, encSd, List.length_map]
end Go.Proofs.Ytfmbfgoofiojcaa
