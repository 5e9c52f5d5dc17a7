/- layer 6: the document's Right (of a right one), Cost, behind, without, again. -/
import Derived.Test.YtfmbfgoofiojcaaS4
import Derived.Test.YtfmbfgoofiojcaaSA
import Derived.Test.YtfmbfgoofiojcaaLC
import Derived.Test.YtfmbfgoofiojcaaSJ
namespace Go.Proofs.Ytfmbfgoofiojcaa
open Go.RowKit Lk
set_option linter.unusedVariables false
set_option linter.unusedSimpArgs false
def cost6 (k : Int) : Int := if k = 1 then 2 else if k = 2 then 4 else 1
theorem cost6_eq {k p : Int} {s : ByteArray} (h : isB k p s = true) : cost6 k = Sc.costI k := by
  rcases isB_cases h with ⟨e, _⟩ | ⟨e, _⟩ | ⟨e, _⟩ <;> subst e <;> decide
theorem rCost6_spec (k : Int) : Spec Try.prog 55 [rI k] (.val (rI (cost6 k))) := by
  refine spec_val mixed fn55 (by simp) ?_
  unfold ac55
  by_cases h1 : k = 1
  · subst h1; simp -implicitDefEqProofs only [↓aP, aQ, ↓reduceIte, reduceCtorEq, forall_const, implies_true, exists_const, ne_eq, seval, beq_self_eq_true, show cost6 1 = 2 from rfl]
  by_cases h2 : k = 2
  · subst h2; simp -implicitDefEqProofs only [↓aP, aQ, ↓reduceIte, reduceCtorEq, forall_const, implies_true, exists_const, ne_eq, seval, beq_self_eq_true, show ((2 : Int) == 1) = false by decide, show cost6 2 = 4 from rfl]
  simp -implicitDefEqProofs only [↓aP, aQ, ↓reduceIte, reduceCtorEq, forall_const, implies_true, exists_const, ne_eq, seval, show (k == 1) = false from beq_eq_false_iff_ne.2 h1, show (k == 2) = false from beq_eq_false_iff_ne.2 h2, show cost6 k = 1 by unfold cost6; rw [if_neg h1, if_neg h2]]



set_option maxRecDepth 100000 in
set_option maxHeartbeats 4000000 in
theorem rRight6_spec (s : Sd) (h : Sc.Rs s) : Spec Try.prog 53 [.agg (encSd s)] (.val (rB true)) := by
  refine spec_val mixed fn53 (by simp) ?_
  unfold ac53
  have hlen := h.len
  have hn := h.n
  have hm := h.m
  simp -implicitDefEqProofs only [↓aP, aQ, ↓reduceIte, reduceCtorEq, forall_const, implies_true, exists_const, ne_eq, seval, encSd]
  refine ask (by have := rRight_spec s.l ⟨by omega, fun y hy => by have := hlen.2.2.2.2.2.1 y hy; omega⟩; rw [encLs, h.l] at this; exact this) ?_
  simp -implicitDefEqProofs only [↓aP, aQ, ↓reduceIte, reduceCtorEq, forall_const, implies_true, exists_const, ne_eq, seval, encSd]
  refine ask (by have := refRightV_spec s.dv; rw [encDv, h.d] at this; exact this) ?_
  simp -implicitDefEqProofs only [↓aP, aQ, ↓reduceIte, reduceCtorEq, forall_const, implies_true, exists_const, ne_eq, seval, encSd, List.length_map, hn, hm, bne_self_eq_false]
  refine rangeB s.l.l.length (fun i σ => σ.slot 1 = .c (.ptr 1 1 0 0) ∧ σ.h.gen 1 = 1 ∧ σ.h.blk 1 = .box 78 9 [(encSd s).map AC.s] ∧ σ.slot 3 = vI i) ?_ ?_ ?_
  · simp -implicitDefEqProofs only [↓aP, aQ, ↓reduceIte, reduceCtorEq, forall_const, implies_true, exists_const, ne_eq, seval, encSd]
  · rintro i m σ him hi2 hlt ⟨s1, g1, b1, s3⟩
    have hi : i < s.js.length := by omega
    have hcost := h.cost i hi hi2
    have hcl : s.js[i].length = s.l.l[i].cs.length := by have := congrArg List.length hcost; simpa using this
    have hwt := h.wait i hi
    have h200 := hlen.2.2.2.2.1 _ (List.getElem_mem hi)
    simp -implicitDefEqProofs only [↓aP, aQ, ↓reduceIte, reduceCtorEq, forall_const, implies_true, exists_const, ne_eq, seval, hlt, s1, g1, b1, s3, encSd, List.length_map, hn, askIdx_map, hi, hi2, encLn, encJs, hcl, bne_self_eq_false]
    refine rangeB s.l.l[i].cs.length (fun k σ => σ.slot 1 = .c (.ptr 1 1 0 0) ∧ σ.h.gen 1 = 1 ∧ σ.h.blk 1 = .box 78 9 [(encSd s).map AC.s] ∧ σ.slot 3 = vI i ∧ σ.slot 4 = vL 1 (s.l.l[i].cs.map encI) ∧ σ.slot 5 = vI k) ?_ ?_ ?_
    · simp -implicitDefEqProofs only [↓aP, aQ, ↓reduceIte, reduceCtorEq, forall_const, implies_true, exists_const, ne_eq, seval, s1, g1, b1, s3, encSd]
    · clear hlt s1 g1 b1 s3
      rintro k m2 σ hkm hk hlt ⟨s1, g1, b1, s3, s4, s5⟩
      have hkj : k < s.js[i].length := by omega
      obtain ⟨w1, w2, w3⟩ := hwt _ (List.getElem_mem hkj)
      have hck : cost6 (s.js[i][k]).kind = s.l.l[i].cs[k] := by
        rw [cost6_eq w3]
        simp only [← hcost, List.getElem_map]
      have cM := may_spec (s.js[i][k]).kind (s.js[i][k]).page (s.js[i][k]).data
      rw [w3] at cM
      simp -implicitDefEqProofs only [↓aP, aQ, ↓reduceIte, reduceCtorEq, forall_const, implies_true, exists_const, ne_eq, seval, hlt, s1, g1, b1, s3, s4, s5, encSd, List.length_map, askIdx_map, hi, hi2, hk, hkj, encJs, encJb, w1, w2, bne_self_eq_false]
      refine ask (rCost6_spec _) ?_
      simp -implicitDefEqProofs only [↓aP, aQ, ↓reduceIte, reduceCtorEq, forall_const, implies_true, exists_const, ne_eq, seval, s1, g1, b1, s3, s4, s5, askIdx_map, hk, encI, hck, bne_self_eq_false]
      refine ask cM ?_
      simp -implicitDefEqProofs only [↓aP, aQ, ↓reduceIte, reduceCtorEq, forall_const, implies_true, exists_const, ne_eq, seval, s1, g1, b1, s3, s4, s5, wrapS (show k < 4611686018427387904 by omega)]
      refine ⟨by decide +kernel, ?_⟩
      refine nextR hk hkm ?_
      simp -implicitDefEqProofs only [↓aP, aQ, ↓reduceIte, reduceCtorEq, forall_const, implies_true, exists_const, ne_eq, seval, s1, g1, b1, s3, s4, s5, encSd]
    · clear hlt s1 g1 b1 s3
      rintro m2 σ hlt ⟨s1, g1, b1, s3, s4, s5⟩
      simp -implicitDefEqProofs only [↓aP, aQ, ↓reduceIte, reduceCtorEq, forall_const, implies_true, exists_const, ne_eq, seval, hlt, s1, g1, b1, s3, s4, s5, List.length_map, wrapS (show i < 4611686018427387904 by omega)]
      refine nextR hi2 him ?_
      simp -implicitDefEqProofs only [↓aP, aQ, ↓reduceIte, reduceCtorEq, forall_const, implies_true, exists_const, ne_eq, seval, s1, g1, b1, s3, s4, s5, encSd]
  · rintro m σ hlt ⟨s1, g1, b1, s3⟩
    simp -implicitDefEqProofs only [↓aP, aQ, ↓reduceIte, reduceCtorEq, forall_const, implies_true, exists_const, ne_eq, seval, hlt, s1, g1, b1, s3, encSd, List.length_map, hn]
    refine rangeB s.out.length (fun i σ => σ.slot 1 = .c (.ptr 1 1 0 0) ∧ σ.h.gen 1 = 1 ∧ σ.h.blk 1 = .box 78 9 [(encSd s).map AC.s] ∧ σ.slot 7 = vI i) ?_ ?_ ?_
    · simp -implicitDefEqProofs only [↓aP, aQ, ↓reduceIte, reduceCtorEq, forall_const, implies_true, exists_const, ne_eq, seval, s1, g1, b1, s3, encSd]
    · clear hlt s1 g1 b1 s3
      rintro i m σ him hi hlt ⟨s1, g1, b1, s7⟩
      have hi2 : i < s.dv.flight.length := by omega
      have hf := h.fl i hi hi2
      unfold Sc.fitJ Sc.hasL at hf
      simp only [Bool.and_eq_true, decide_eq_true_eq] at hf
      obtain ⟨⟨e1, e2, e3⟩, e4, e5⟩ := hf
      simp -implicitDefEqProofs only [↓aP, aQ, ↓reduceIte, reduceCtorEq, forall_const, implies_true, exists_const, ne_eq, seval, hlt, s1, g1, b1, s7, encSd, List.length_map, askIdx_map, hi, hi2, encJb, encRq, e1, e2, e3, bne_self_eq_false, hn, show decide (s.out[i].who < 0) = false from decide_eq_false (by omega), show decide ((s.l.l.length : Int) ≤ s.out[i].who) = false from decide_eq_false (by omega), show decide (s.out[i].tries < 1) = false from decide_eq_false (by omega), show decide (3 < s.out[i].tries) = false from decide_eq_false (by omega), wrapS (show i < 4611686018427387904 by omega)]
      refine ⟨by decide +kernel, ?_⟩
      refine nextR hi him ?_
      simp -implicitDefEqProofs only [↓aP, aQ, ↓reduceIte, reduceCtorEq, forall_const, implies_true, exists_const, ne_eq, seval, s1, g1, b1, s7, encSd]
    · clear hlt s1 g1 b1 s3
      rintro m σ hlt ⟨s1, g1, b1, s7⟩
      simp -implicitDefEqProofs only [↓aP, aQ, ↓reduceIte, reduceCtorEq, forall_const, implies_true, exists_const, ne_eq, seval, hlt, s1, g1, b1, s7, encSd, List.length_map]
theorem rBehind_spec (l : List Jb) (j : Jb) (hl : l.length ≤ 1000000) : Spec Try.prog 56 [rL 5 (l.map encJb), .agg (encJb j)] (.val (rL 5 ((l ++ [j]).map encJb))) := by
  refine spec_val mixed fn56 (by simp) ?_
  unfold ac56
  simp -implicitDefEqProofs only [↓aP, aQ, ↓reduceIte, reduceCtorEq, forall_const, implies_true, exists_const, ne_eq, seval, encJb, List.length_map]
  exact ⟨by omega, by omega, by omega, by omega, Sim.eq (by simp [encJb])⟩
theorem eraseTake_succ {α : Type} {l : List α} {k i : Nat} (hi : i < l.length) : (l.take (i + 1)).eraseIdx k = if i = k then (l.take i).eraseIdx k else (l.take i).eraseIdx k ++ [l[i]] := by
  rw [take_snoc hi]
  have hlen : (l.take i).length = i := by rw [List.length_take]; omega
  by_cases h : i = k
  · rw [if_pos h, ← h, List.eraseIdx_append_of_length_le (by omega), hlen]
    simp
    rw [List.eraseIdx_of_length_le (by omega)]
  · rw [if_neg h]
    by_cases h2 : k < i
    · rw [List.eraseIdx_append_of_lt_length (by omega)]
    · rw [List.eraseIdx_append_of_length_le (by omega), hlen, List.eraseIdx_of_length_le (by simp; omega), List.eraseIdx_of_length_le (by omega)]

theorem rWithout_spec (l : List Jb) (k : Nat) (hl : l.length ≤ 1000000) : Spec Try.prog 60 [rL 5 (l.map encJb), rI (k : Int)] (.val (rL 5 ((l.eraseIdx k).map encJb))) := by
  refine spec_val mixed fn60 (by simp) ?_
  unfold ac60
  simp -implicitDefEqProofs only [↓aP, aQ, ↓reduceIte, reduceCtorEq, forall_const, implies_true, exists_const, ne_eq, seval]
  refine shift (sub_slot (s := 5) 22 86 5 (by simp -implicitDefEqProofs only [↓aP, aQ, ↓reduceIte, reduceCtorEq, forall_const, implies_true, exists_const, ne_eq, seval]) (by decide)) ?_
  refine rangeB l.length (fun i σ => ∃ g, σ.slot 0 = vL 5 (l.map encJb) ∧ σ.slot 1 = vI k ∧ σ.slot 5 = .c (.own 22 g) ∧ σ.h.gen 22 = g ∧ σ.h.blk 22 = .row 86 5 (((l.take i).eraseIdx k).map encJb) ∧ σ.slot 6 = vI i) ?_ ?_ ?_
  · simp -implicitDefEqProofs only [↓aP, aQ, ↓reduceIte, reduceCtorEq, forall_const, implies_true, exists_const, ne_eq, seval, List.take_zero, List.eraseIdx_nil, List.map_nil]
    exact ⟨1, rfl, rfl⟩
  · rintro i m σ him hi hlt ⟨g, s0, s1, s5, g22, b22, s6⟩
    have hs := eraseTake_succ (k := k) hi
    have hle : ((l.take i).eraseIdx k).length ≤ 1000000 := by
      have := List.length_eraseIdx_le (l.take i) k
      rw [List.length_take] at this; omega
    by_cases e : i = k
    · rw [if_pos e] at hs
      simp -implicitDefEqProofs only [↓aP, aQ, ↓reduceIte, reduceCtorEq, forall_const, implies_true, exists_const, ne_eq, seval, hlt, s0, s1, s5, g22, b22, s6, List.length_map, show ((i : Int) != (k : Int)) = false by rw [e]; exact bne_self_eq_false _, wrapS (show i < 4611686018427387904 by omega)]
      refine nextR hi him ⟨g, ?_⟩
      simp -implicitDefEqProofs only [↓aP, aQ, ↓reduceIte, reduceCtorEq, forall_const, implies_true, exists_const, ne_eq, seval, s0, s1, s5, g22, b22, s6, hs]
    · rw [if_neg e] at hs
      simp -implicitDefEqProofs only [↓aP, aQ, ↓reduceIte, reduceCtorEq, forall_const, implies_true, exists_const, ne_eq, seval, hlt, s0, s1, s5, g22, b22, s6, List.length_map, show ((i : Int) != (k : Int)) = true by rw [bne_iff_ne]; omega, askIdx_map, hi, encJb, wrapS (show i < 4611686018427387904 by omega)]
      refine ⟨by omega, by omega, ?_⟩
      refine nextR hi him ⟨g + 1, ?_⟩
      simp -implicitDefEqProofs only [↓aP, aQ, ↓reduceIte, reduceCtorEq, forall_const, implies_true, exists_const, ne_eq, seval, s0, s1, s5, g22, b22, s6, hs, List.map_append, List.map_cons, List.map_nil, encJb]
  · rintro m σ hlt ⟨g, s0, s1, s5, g22, b22, s6⟩
    rw [List.take_length] at b22
    simp -implicitDefEqProofs only [↓aP, aQ, ↓reduceIte, reduceCtorEq, forall_const, implies_true, exists_const, ne_eq, seval, hlt, s0, s1, s5, g22, b22, s6, List.length_map]
theorem rAgain_spec (s : Sd) (j : Jb) (hl : s.out.length ≤ 1000000) (ht : -1000 ≤ j.tries ∧ j.tries ≤ 1000) : Spec Try.prog 61 [.agg (encSd s), .agg (encJb j)] (.val (.agg (encSd (Sc.submS s j)))) := by
  refine spec_val mixed fn61 (by simp) ?_
  unfold ac61
  simp -implicitDefEqProofs only [↓aP, aQ, ↓reduceIte, reduceCtorEq, forall_const, implies_true, exists_const, ne_eq, seval, encSd, encJb]
  refine ask (by have := refSubmit_spec s.dv j.kind j.page j.data; rw [encDv] at this; exact this) ?_
  simp -implicitDefEqProofs only [↓aP, aQ, ↓reduceIte, reduceCtorEq, forall_const, implies_true, exists_const, ne_eq, seval, encSub, encDv, show IntKind.i64.wrap (j.tries + 1) = j.tries + 1 from wrapI (by omega)]
  refine ask (by have := rBehind_spec s.out (Sc.more j) hl; rw [encJb] at this; exact this) ?_
  simp -implicitDefEqProofs only [↓aP, aQ, ↓reduceIte, reduceCtorEq, forall_const, implies_true, exists_const, ne_eq, seval, Sc.submS, Sc.more, encSd, encJb]
  decide +kernel
end Go.Proofs.Ytfmbfgoofiojcaa
