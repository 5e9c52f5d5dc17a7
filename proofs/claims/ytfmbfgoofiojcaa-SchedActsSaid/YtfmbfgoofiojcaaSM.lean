/- layer 6: the document's Pump. -/
import Derived.Test.YtfmbfgoofiojcaaSK
import Derived.Test.YtfmbfgoofiojcaaS7
import Derived.Test.YtfmbfgoofiojcaaQE
namespace Go.Proofs.Ytfmbfgoofiojcaa
open Go.RowKit Lk
set_option linter.unusedVariables false
set_option linter.unusedSimpArgs false
theorem goes_iff {t : Sd} (h : Sc.Rs t) : Sc.goes t = (decide (t.out.length < 4) && (decide (t.dv.next < 2147483647) && waits t.l)) := by
  unfold Sc.goes
  rw [h.m]
  congr 2
  cases e : waits t.l
  · rw [next_none e]
  · obtain ⟨_, _, _, k3, _⟩ := next_facts h.l e
    exact k3


set_option maxRecDepth 100000 in
set_option maxHeartbeats 4000000 in
theorem rPump6_spec (s : Sd) (h : Sc.Rs s) : Spec Try.prog 30 [.agg (encSd s)] (.val (.agg (encSd (Sc.pumpS s)))) := by
  refine spec_val mixed fn30 (by simp) ?_
  unfold ac30
  have e : Sc.pumpS s = Sc.pumpN 5 s := by unfold Sc.pumpS; rw [if_neg (by rw [Sc.rs_iff.2 h]; decide)]
  rw [e]
  have hlen := h.len
  simp -implicitDefEqProofs only [↓aP, aQ, ↓reduceIte, reduceCtorEq, forall_const, implies_true, exists_const, ne_eq, seval, encSd]
  refine ask (by have := rRight6_spec s h; rw [encSd] at this; exact this) ?_
  simp -implicitDefEqProofs only [↓aP, aQ, ↓reduceIte, reduceCtorEq, forall_const, implies_true, exists_const, ne_eq, seval, encSd]
  refine loopA (fun m σ => ∃ (t : Sd) (n : Nat), Sc.Rs t ∧ Sc.pumpN m t = Sc.pumpN 5 s ∧ n + m = 5 ∧ n ≤ t.dv.flight.length ∧ σ.slot 1 = .c (.ptr 1 1 0 0) ∧ σ.h.gen 1 = 1 ∧ σ.h.blk 1 = .box 78 9 [(encSd t).map AC.s] ∧ σ.slot 2 = .c (.ptr 2 1 0 0) ∧ σ.h.gen 2 = 1 ∧ σ.h.blk 2 = .box 78 9 [[.zc, .s (.pv (.int .i64 0)), .s (.pv (.bool false)), .zc, .zc, .zc, .s (.pv (.int .i64 0)), .zc, .zc]] ∧ σ.slot 3 = vI n) 5 ⟨s, 0, h, rfl, by omega, by omega, ?_⟩ ?_
  · simp -implicitDefEqProofs only [↓aP, aQ, ↓reduceIte, reduceCtorEq, forall_const, implies_true, exists_const, ne_eq, seval, encSd]
  rintro m σ ⟨t, n, hrt, hpe, hm, hn, s1, g1, b1, s2, g2, b2, s3⟩
  have hl4 := hrt.len
  have htm := hrt.m
  obtain ⟨m', rfl⟩ : ∃ m', m = m' + 1 := ⟨m - 1, by omega⟩
  have hgi := goes_iff hrt
  have stop : Sc.goes t = false → Sc.pumpN 5 s = t := fun hg => by rw [← hpe]; unfold Sc.pumpN; rw [if_neg (by rw [hg]; decide)]
  by_cases h0 : n < 4
  case neg =>
    have e2 := stop (by rw [hgi, decide_eq_false (by omega), Bool.false_and])
    simp -implicitDefEqProofs only [↓aP, aQ, ↓reduceIte, reduceCtorEq, forall_const, implies_true, exists_const, ne_eq, seval, s1, g1, b1, s2, g2, b2, s3, show decide ((n : Int) < 4) = false by simp; omega, e2, encSd]
  by_cases h1 : t.out.length < 4
  case neg =>
    have e2 := stop (by rw [hgi, decide_eq_false h1, Bool.false_and])
    simp -implicitDefEqProofs only [↓aP, aQ, ↓reduceIte, reduceCtorEq, forall_const, implies_true, exists_const, ne_eq, seval, s1, g1, b1, s2, g2, b2, s3, encSd, List.length_map, show decide ((n : Int) < 4) = true by simp; omega, show decide ((t.out.length : Int) < 4) = false by simp; omega, e2]
  by_cases h2 : t.dv.next < 2147483647
  case neg =>
    have e2 := stop (by rw [hgi, decide_eq_false h2, Bool.false_and, Bool.and_false])
    simp -implicitDefEqProofs only [↓aP, aQ, ↓reduceIte, reduceCtorEq, forall_const, implies_true, exists_const, ne_eq, seval, s1, g1, b1, s2, g2, b2, s3, encSd, List.length_map, show decide ((n : Int) < 4) = true by simp; omega, show decide ((t.out.length : Int) < 4) = true by simp; omega, decide_eq_false h2, e2]
  simp -implicitDefEqProofs only [↓aP, aQ, ↓reduceIte, reduceCtorEq, forall_const, implies_true, exists_const, ne_eq, seval, s1, g1, b1, s2, g2, b2, s3, encSd, List.length_map, show decide ((n : Int) < 4) = true by simp; omega, show decide ((t.out.length : Int) < 4) = true by simp; omega, decide_eq_true h2]
  refine ask (by have := waits05_spec t.l (by omega); rw [encLs] at this; exact this) ?_
  cases h3 : waits t.l
  · have e2 := stop (by rw [hgi, h3, Bool.and_false, Bool.and_false])
    simp -implicitDefEqProofs only [↓aP, aQ, ↓reduceIte, reduceCtorEq, forall_const, implies_true, exists_const, ne_eq, seval, s1, g1, b1, s2, g2, b2, s3, e2, encSd]
  have hg : Sc.goes t = true := by rw [hgi, decide_eq_true h1, decide_eq_true h2, h3]; rfl
  obtain ⟨k, j, tl, hk, hkl, ejk, e2, _, _, hrn, hcs⟩ := Sc.goes_at hrt hg
  have ejk2 : t.js[k] = j :: tl := by rw [List.getElem?_eq_getElem hk] at ejk; exact Option.some.inj ejk
  have hstep := Sc.step_eq ejk e2
  obtain ⟨w1, w2, w3⟩ := hrt.wait k hk j (by rw [ejk2]; simp)
  have h200 := hl4.2.2.2.2.1 _ (List.getElem_mem hk)
  have hpn : Sc.pumpN m' (Sc.stepS t) = Sc.pumpN 5 s := by rw [← hpe]; conv => rhs; unfold Sc.pumpN; rw [if_pos hg]
  have hfl := (Sc.step_facts hrt hg).2.2.2.2.2
  have wn : IntKind.i64.wrap ((n : Int) + 1) = ((n + 1 : Nat) : Int) := by rw [wrapI (by omega)]; omega
  have cN := next05_spec t.l hrt.l h3
  rw [encLs, e2] at cN
  obtain ⟨G, hG⟩ : ∃ G, σ.h.gen 4 = G := ⟨_, rfl⟩
  simp -implicitDefEqProofs only [↓aP, aQ, ↓reduceIte, reduceCtorEq, forall_const, implies_true, exists_const, ne_eq, seval, encSd, s1, g1, b1, s2, g2, b2, s3]
  refine ask cN ?_
  simp -implicitDefEqProofs only [↓aP, aQ, ↓reduceIte, reduceCtorEq, forall_const, implies_true, exists_const, ne_eq, seval, s1, g1, b1, s2, g2, b2, s3, encLs, hG]
  refine shift (sub_slot (s := 7) 59 76 1 (by simp -implicitDefEqProofs only [↓aP, aQ, ↓reduceIte, reduceCtorEq, forall_const, implies_true, exists_const, ne_eq, seval]) (by decide)) ?_
  refine rangeB t.js.length (fun i σ => ∃ g, σ.slot 1 = .c (.ptr 1 1 0 0) ∧ σ.h.gen 1 = 1 ∧ σ.h.blk 1 = .box 78 9 [(encSd t).map AC.s] ∧ σ.slot 2 = .c (.ptr 2 1 0 0) ∧ σ.h.gen 2 = 1 ∧ σ.h.blk 2 = .box 78 9 [[.zc, .s (.pv (.int .i64 0)), .s (.pv (.bool false)), .zc, .zc, .zc, .s (.pv (.int .i64 0)), .zc, .zc]] ∧ σ.slot 3 = vI n ∧ σ.slot 4 = .c (.ptr 4 (G + 1) 0 0) ∧ σ.h.gen 4 = G + 1 ∧ σ.h.blk 4 = .box 28 3 [(encLs (nextI t.l).1).map AC.s] ∧ σ.slot 5 = vI k ∧ σ.slot 7 = .c (.own 59 g) ∧ σ.h.gen 59 = g ∧ σ.h.blk 59 = .row 76 1 (((t.js.set k tl).take i).map encJs) ∧ σ.slot 8 = vI i) ?_ ?_ ?_
  · simp -implicitDefEqProofs only [↓aP, aQ, ↓reduceIte, reduceCtorEq, forall_const, implies_true, exists_const, ne_eq, seval, s1, g1, b1, s2, g2, b2, s3, encLs, encSd, List.take_zero, List.map_nil, hG]
    exact ⟨_, rfl, rfl⟩
  · clear s1 g1 b1 s2 g2 b2 s3
    clear hG
    rintro i m2 σ him hi hlt ⟨g, s1, g1, b1, s2, g2, b2, s3, s4, g4, b4, s5, s7, g59, b59, s8⟩
    have hi1 : i < (t.js.set k tl).length := by simpa using hi
    have l1 : ((t.js.set k tl).take i).length ≤ 1000 := by rw [List.length_take]; omega
    by_cases ei : i = k
    · subst ei
      have eJ : (t.js.set i tl)[i] = tl := List.getElem_set_self _
      have cW := rWithout_spec t.js[i] 0 (by omega)
      rw [show (t.js[i].eraseIdx 0) = tl by rw [ejk2]; rfl] at cW
      simp -implicitDefEqProofs only [↓aP, aQ, ↓reduceIte, reduceCtorEq, forall_const, implies_true, exists_const, ne_eq, seval, hlt, s1, g1, b1, s2, g2, b2, s3, s4, g4, b4, s5, s7, g59, b59, s8, encSd, askIdx_map, hi, encJs, List.length_map, beq_self_eq_true]
      refine ask cW ?_
      simp -implicitDefEqProofs only [↓aP, aQ, ↓reduceIte, reduceCtorEq, forall_const, implies_true, exists_const, ne_eq, seval, s1, g1, b1, s2, g2, b2, s3, s4, g4, b4, s5, s7, g59, b59, s8, List.length_map, wrapS (show i < 4611686018427387904 by omega)]
      refine ⟨by omega, by omega, ?_⟩
      refine nextR hi him ⟨g + 1, ?_⟩
      simp -implicitDefEqProofs only [↓aP, aQ, ↓reduceIte, reduceCtorEq, forall_const, implies_true, exists_const, ne_eq, seval, s1, g1, b1, s2, g2, b2, s3, s4, g4, b4, s5, s7, g59, b59, s8, encSd, encLs, take_snoc hi1, eJ, List.map_append, List.map_cons, List.map_nil, encJs]
    · have eJ : (t.js.set k tl)[i] = t.js[i] := by rw [List.getElem_set_ne (by omega)]
      simp -implicitDefEqProofs only [↓aP, aQ, ↓reduceIte, reduceCtorEq, forall_const, implies_true, exists_const, ne_eq, seval, hlt, s1, g1, b1, s2, g2, b2, s3, s4, g4, b4, s5, s7, g59, b59, s8, encSd, askIdx_map, hi, encJs, List.length_map, show ((i : Int) == (k : Int)) = false by simp; omega, wrapS (show i < 4611686018427387904 by omega)]
      refine ⟨by omega, by omega, ?_⟩
      refine nextR hi him ⟨g + 1, ?_⟩
      simp -implicitDefEqProofs only [↓aP, aQ, ↓reduceIte, reduceCtorEq, forall_const, implies_true, exists_const, ne_eq, seval, s1, g1, b1, s2, g2, b2, s3, s4, g4, b4, s5, s7, g59, b59, s8, encSd, encLs, take_snoc hi1, eJ, List.map_append, List.map_cons, List.map_nil, encJs]
  · clear s1 g1 b1 s2 g2 b2 s3
    clear hG
    rintro m2 σ hlt ⟨g, s1, g1, b1, s2, g2, b2, s3, s4, g4, b4, s5, s7, g59, b59, s8⟩
    rw [show t.js.length = (t.js.set k tl).length by simp, List.take_length] at b59
    have cA := rAgain_spec ⟨(nextI t.l).1, t.js.set k tl, t.dv, t.out⟩ j (by show t.out.length ≤ 1000000; omega) (by omega)
    rw [← hstep] at cA
    simp only [encSd, encJb] at cA
    simp -implicitDefEqProofs only [↓aP, aQ, ↓reduceIte, reduceCtorEq, forall_const, implies_true, exists_const, ne_eq, seval, hlt, s1, g1, b1, s2, g2, b2, s3, s4, g4, b4, s5, s7, g59, b59, s8, encSd, encLs, askIdx_map, hk, encJs, ejk2, List.map_cons, encJb, List.length_map]
    refine ask cA ?_
    simp -implicitDefEqProofs only [↓aP, aQ, ↓reduceIte, reduceCtorEq, forall_const, implies_true, exists_const, ne_eq, seval, s1, g1, b1, s2, g2, b2, s3, s4, g4, b4, s5, s7, g59, b59, s8, wn, encSd]
    refine ⟨by decide +kernel, m', by omega, Sc.stepS t, n + 1, Sc.rs_step hrt hg, hpn, by omega, by omega, ?_⟩
    simp -implicitDefEqProofs only [↓aP, aQ, ↓reduceIte, reduceCtorEq, forall_const, implies_true, exists_const, ne_eq, seval, s1, g1, b1, s2, g2, b2, s3, s4, g4, b4, s5, s7, g59, b59, s8, encSd]
end Go.Proofs.Ytfmbfgoofiojcaa
namespace Go.Proofs.Ytfmbfgoofiojcaa
open Go.RowKit Lk
set_option linter.unusedVariables false
set_option linter.unusedSimpArgs false
set_option maxRecDepth 100000 in
set_option maxHeartbeats 4000000 in
theorem rDone6_spec (s : Sd) (i : Int) (fault : Bool) (h : Sc.Rs s) : Spec Try.prog 32 [.agg (encSd s), rI i, rB fault] (.val (encDn (Sc.doneS s i fault))) := by
  refine spec_val mixed fn32 (by simp) ?_
  unfold ac32
  have r1 := Sc.rs_iff.2 h
  have hlen := h.len
  simp -implicitDefEqProofs only [↓aP, aQ, ↓reduceIte, reduceCtorEq, forall_const, implies_true, exists_const, ne_eq, seval, encSd, encDn]
  refine ask (by have := rRight6_spec s h; rw [encSd] at this; exact this) ?_
  have bad : (Sc.rightS s = false ∨ i < 0 ∨ (s.out.length : Int) ≤ i) → Sc.doneS s i fault = (s, zJ, 1, false) := fun h => by unfold Sc.doneS; rw [if_pos h]
  by_cases h0 : i < 0
  · simp -implicitDefEqProofs only [↓aP, aQ, ↓reduceIte, reduceCtorEq, forall_const, implies_true, exists_const, ne_eq, seval, encSd, decide_eq_true h0, bad (.inr (.inl h0)), encJb, zJ]
  by_cases h1 : (s.out.length : Int) ≤ i
  · simp -implicitDefEqProofs only [↓aP, aQ, ↓reduceIte, reduceCtorEq, forall_const, implies_true, exists_const, ne_eq, seval, encSd, decide_eq_false h0, List.length_map, decide_eq_true h1, bad (.inr (.inr h1)), encJb, zJ]
  obtain ⟨k, rfl⟩ : ∃ k : Nat, i = k := ⟨i.toNat, by omega⟩
  have hk : k < s.out.length := by omega
  have hkf : k < s.dv.flight.length := by have := h.m; omega
  have hfit := h.fl k hk hkf
  unfold Sc.fitJ at hfit
  rw [Bool.and_eq_true, Bool.and_eq_true, decide_eq_true_iff, decide_eq_true_iff] at hfit
  obtain ⟨_, _, ht⟩ := hfit
  have eo : s.out.getD (k : Int).toNat zJ = s.out[k] := by rw [Int.toNat_natCast, List.getD_eq_getElem?_getD, List.getElem?_eq_getElem hk]; rfl
  have hd : Sc.doneS s k fault = if (finishV s.dv k fault).2.2 = 8 ∧ s.out[k].tries < 3 ∧ (finishV s.dv k fault).1.next < 2147483647 then (Sc.submS ⟨s.l, s.js, (finishV s.dv k fault).1, s.out.eraseIdx k⟩ s.out[k], zJ, 0, false)
      else (⟨s.l, s.js, (finishV s.dv k fault).1, s.out.eraseIdx k⟩, ⟨s.out[k].who, s.out[k].kind, s.out[k].page, (finishV s.dv k fault).2.1.data, s.out[k].tries⟩, (finishV s.dv k fault).2.2, true) := by
    have hno : ¬ (Sc.rightS s = false ∨ (k : Int) < 0 ∨ (s.out.length : Int) ≤ (k : Int)) := by rw [r1]; simp; omega
    unfold Sc.doneS
    rw [if_neg hno, eo, Int.toNat_natCast]
  rw [hd]
  have cF := refFinish_spec s.dv (k : Int) fault
  have cW := rWithout_spec s.out k (by omega)
  generalize hj : s.out[k] = j at ht
  generalize finishV s.dv k fault = F at cF
  obtain ⟨D, Rr, E⟩ := F
  simp only [encDv, encFin] at cF
  simp -implicitDefEqProofs only [↓aP, aQ, ↓reduceIte, reduceCtorEq, forall_const, implies_true, exists_const, ne_eq, seval, encSd, decide_eq_false h0, List.length_map, decide_eq_false h1, askIdx_map, hk, hj, encJb]
  refine ask cF ?_
  simp -implicitDefEqProofs only [↓aP, aQ, ↓reduceIte, reduceCtorEq, forall_const, implies_true, exists_const, ne_eq, seval, encRq, encSd]
  refine ask cW ?_
  have nx : ¬ (E = 8 ∧ j.tries < 3 ∧ D.next < 2147483647) → (if E = 8 ∧ j.tries < 3 ∧ D.next < 2147483647 then (Sc.submS ⟨s.l, s.js, D, s.out.eraseIdx k⟩ j, zJ, (0 : Int), false) else (⟨s.l, s.js, D, s.out.eraseIdx k⟩, ⟨j.who, j.kind, j.page, Rr.data, j.tries⟩, E, true)) = (⟨s.l, s.js, D, s.out.eraseIdx k⟩, ⟨j.who, j.kind, j.page, Rr.data, j.tries⟩, E, true) := fun h => if_neg h
  by_cases e1 : E = 8
  case neg =>
    rw [nx (fun h => e1 h.1)]
    simp -implicitDefEqProofs only [↓aP, aQ, ↓reduceIte, reduceCtorEq, forall_const, implies_true, exists_const, ne_eq, seval, show (E == 8) = false from beq_eq_false_iff_ne.2 e1, encSd, encJb]
    exact ⟨by decide +kernel, by decide +kernel⟩
  by_cases e2 : j.tries < 3
  case neg =>
    rw [nx (fun h => e2 h.2.1)]
    simp -implicitDefEqProofs only [↓aP, aQ, ↓reduceIte, reduceCtorEq, forall_const, implies_true, exists_const, ne_eq, seval, e1, beq_self_eq_true, decide_eq_false e2, encSd, encJb]
    exact ⟨by decide +kernel, by decide +kernel⟩
  by_cases e3 : D.next < 2147483647
  case neg =>
    rw [nx (fun h => e3 h.2.2)]
    simp -implicitDefEqProofs only [↓aP, aQ, ↓reduceIte, reduceCtorEq, forall_const, implies_true, exists_const, ne_eq, seval, e1, beq_self_eq_true, decide_eq_true e2, decide_eq_false e3, encSd, encJb]
    exact ⟨by decide +kernel, by decide +kernel⟩
  rw [if_pos ⟨e1, e2, e3⟩]
  simp -implicitDefEqProofs only [↓aP, aQ, ↓reduceIte, reduceCtorEq, forall_const, implies_true, exists_const, ne_eq, seval, e1, beq_self_eq_true, decide_eq_true e2, decide_eq_true e3, encSd, encJb]
  have cs := rAgain_spec ⟨s.l, s.js, D, s.out.eraseIdx k⟩ j (by show (s.out.eraseIdx k).length ≤ 1000000; have := List.length_eraseIdx_of_lt hk; omega) (by omega)
  simp only [encSd, encJb] at cs
  refine ⟨by decide +kernel, ?_⟩
  refine ask cs ?_
  simp -implicitDefEqProofs only [↓aP, aQ, ↓reduceIte, reduceCtorEq, forall_const, implies_true, exists_const, ne_eq, seval, encSd, encJb, zJ, Sc.submS]
end Go.Proofs.Ytfmbfgoofiojcaa
