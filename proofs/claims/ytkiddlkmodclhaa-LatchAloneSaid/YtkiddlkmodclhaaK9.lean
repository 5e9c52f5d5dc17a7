/- layer 8: the contracts: the document's with, let, Ask, Drop. -/
import Derived.Test.YtkiddlkmodclhaaK8
namespace Go.Proofs.Ytkiddlkmodclhaa
open Go.RowKit La
set_option linter.unusedVariables false
set_option linter.unusedSimpArgs false
def wth (h : List Int) (x : Int) (i : Nat) : List Int := if pos h x < i then h.take (pos h x) ++ [x] ++ (h.take i).drop (pos h x) else h.take i
theorem wth_len {h : List Int} {x : Int} {i : Nat} (hi : i ≤ h.length) : (wth h x i).length ≤ i + 1 := by
  unfold wth
  split <;> simp <;> omega
theorem wth_far {h : List Int} {x : Int} {i : Nat} (hi : i < h.length) (hp : pos h x < i) : wth h x (i + 1) = wth h x i ++ [h[i]] := by
  unfold wth
  rw [if_pos (by omega), if_pos hp, take_snoc hi, List.drop_append_of_le_length (by simp; omega), List.append_assoc]
  simp
theorem wth_at {h : List Int} {x : Int} {i : Nat} (hi : i < h.length) (hp : pos h x = i) : wth h x (i + 1) = wth h x i ++ [x] ++ [h[i]] := by
  unfold wth
  rw [if_pos (by omega), if_neg (by omega), take_snoc hi, hp, List.drop_append_of_le_length (by simp; omega)]
  simp
theorem wth_near {h : List Int} {x : Int} {i : Nat} (hi : i < h.length) (hp : i < pos h x) : wth h x (i + 1) = wth h x i ++ [h[i]] := by
  unfold wth
  rw [if_neg (by omega), if_neg (by omega), take_snoc hi]
theorem wth_end {h : List Int} {x : Int} : ins h x = if pos h x < h.length then wth h x h.length else wth h x h.length ++ [x] := by
  unfold wth ins
  have := pos_le (h := h) (x := x)
  split
  · rename_i hp; rw [List.take_length]
  · rename_i hp
    rw [List.take_length, List.drop_of_length_le (by omega), List.take_of_length_le (by omega), List.append_nil]
theorem gt_pos {h : List Int} {x : Int} (hm : h.Pairwise (· < ·)) (hx : x ∉ h) {i : Nat} (hi : i < h.length) : x < h[i] ↔ pos h x ≤ i := by
  have hle : h.Pairwise (· ≤ ·) := hm.imp (fun x => by omega)
  have h1 := pos_lt hle (x := x) hi
  have h2 : h[i] ≠ x := fun e => hx (e ▸ List.getElem_mem hi)
  constructor
  · intro h3
    rcases Nat.lt_or_ge i (pos h x) with h4 | h4
    · have := h1.2 h4; omega
    · exact h4
  · intro h3
    by_cases h4 : h[i] < x
    · have := h1.1 h4; omega
    · omega

theorem with_spec (h : List Int) (x : Int) (hm : h.Pairwise (· < ·)) (hx : x ∉ h) (hl : h.length ≤ 1000) : Spec Try.prog 67 [rL 1 (h.map encI), rI x] (.val (rL 1 ((ins h x).map encI))) := by
  refine spec_val mixed fn67 (by simp) ?_
  unfold ac67
  simp -implicitDefEqProofs only [↓aP, aQ, ↓reduceIte, Nat.reduceEqDiff, Nat.reduceAdd, Nat.reduceSub, Nat.reduceMul, Nat.reduceLT, Nat.reduceLeDiff, reduceCtorEq, Nat.reduceBEq, forall_const, implies_true, exists_const, ne_eq, Int.reduceAdd, Int.reduceSub, Int.reduceMul, Int.reduceBEq, Int.reduceEq, Int.reduceLT, Int.reduceLE, Int.reduceToNat, Int.reduceNeg, Int.reduceBNe]
  refine shift (sub_slot (s := 5) 34 3 1 rfl (by exact Nat.succ_pos _)) ?_
  refine rangeB h.length (fun i σ => ∃ g, σ.slot 0 = vL 1 (h.map encI) ∧ σ.slot 1 = vI x ∧ σ.slot 5 = .c (.own 34 g) ∧ σ.h.gen 34 = g ∧ σ.h.blk 34 = .row 3 1 ((wth h x i).map encI) ∧ σ.slot 6 = vB (decide (pos h x < i)) ∧ σ.slot 7 = vI i) ?_ ?_ ?_
  · simp -implicitDefEqProofs only [↓aP, aQ, ↓reduceIte, Nat.reduceEqDiff, Nat.reduceAdd, Nat.reduceSub, Nat.reduceMul, Nat.reduceLT, Nat.reduceLeDiff, reduceCtorEq, Nat.reduceBEq, forall_const, implies_true, exists_const, ne_eq, Int.reduceAdd, Int.reduceSub, Int.reduceMul, Int.reduceBEq, Int.reduceEq, Int.reduceLT, Int.reduceLE, Int.reduceToNat, Int.reduceNeg, Int.reduceBNe]
    refine ⟨1, ?_⟩
    simp [wth]
  · rintro i m σ him hi hlt ⟨g, s0, s1, s5, g34, b34, s6, s7⟩
    have hwl := wth_len (x := x) (Nat.le_of_lt hi)
    by_cases hp : pos h x < i
    · have hp1 : pos h x < i + 1 := by omega
      simp -implicitDefEqProofs only [↓aP, aQ, ↓reduceIte, Nat.reduceEqDiff, Nat.reduceAdd, Nat.reduceSub, Nat.reduceMul, Nat.reduceLT, Nat.reduceLeDiff, reduceCtorEq, Nat.reduceBEq, forall_const, implies_true, exists_const, ne_eq, Int.reduceAdd, Int.reduceSub, Int.reduceMul, Int.reduceBEq, Int.reduceEq, Int.reduceLT, Int.reduceLE, Int.reduceToNat, Int.reduceNeg, Int.reduceBNe, hlt, s0, s1, s5, g34, b34, s6, s7, decide_eq_true hp, askIdx_map, hi, encI, List.length_map, wrapS (show i < 4611686018427387904 by omega)]
      refine ⟨by omega, by omega, ?_⟩
      refine nextR hi him ⟨g + 1, ?_⟩
      simp -implicitDefEqProofs only [↓aP, aQ, ↓reduceIte, Nat.reduceEqDiff, Nat.reduceAdd, Nat.reduceSub, Nat.reduceMul, Nat.reduceLT, Nat.reduceLeDiff, reduceCtorEq, Nat.reduceBEq, forall_const, implies_true, exists_const, ne_eq, Int.reduceAdd, Int.reduceSub, Int.reduceMul, Int.reduceBEq, Int.reduceEq, Int.reduceLT, Int.reduceLE, Int.reduceToNat, Int.reduceNeg, Int.reduceBNe, s0, s1, s5, g34, b34, s6, s7, wth_far hi hp, decide_eq_true hp1, decide_eq_true hp, List.map_append, List.map_cons, List.map_nil, encI]
    have hgt := gt_pos hm hx hi
    by_cases hc : x < h[i]
    · have hpe : pos h x = i := by have := hgt.1 hc; omega
      have hp1 : pos h x < i + 1 := by omega
      simp -implicitDefEqProofs only [↓aP, aQ, ↓reduceIte, Nat.reduceEqDiff, Nat.reduceAdd, Nat.reduceSub, Nat.reduceMul, Nat.reduceLT, Nat.reduceLeDiff, reduceCtorEq, Nat.reduceBEq, forall_const, implies_true, exists_const, ne_eq, Int.reduceAdd, Int.reduceSub, Int.reduceMul, Int.reduceBEq, Int.reduceEq, Int.reduceLT, Int.reduceLE, Int.reduceToNat, Int.reduceNeg, Int.reduceBNe, hlt, s0, s1, s5, g34, b34, s6, s7, decide_eq_false hp, decide_eq_true hc, askIdx_map, hi, encI, List.length_map, List.length_append, wrapS (show i < 4611686018427387904 by omega)]
      refine ⟨by omega, by omega, by omega, by omega, ?_⟩
      refine nextR hi him ⟨g + 1 + 1, ?_⟩
      simp -implicitDefEqProofs only [↓aP, aQ, ↓reduceIte, Nat.reduceEqDiff, Nat.reduceAdd, Nat.reduceSub, Nat.reduceMul, Nat.reduceLT, Nat.reduceLeDiff, reduceCtorEq, Nat.reduceBEq, forall_const, implies_true, exists_const, ne_eq, Int.reduceAdd, Int.reduceSub, Int.reduceMul, Int.reduceBEq, Int.reduceEq, Int.reduceLT, Int.reduceLE, Int.reduceToNat, Int.reduceNeg, Int.reduceBNe, s0, s1, s5, g34, b34, s6, s7, wth_at hi hpe, decide_eq_true hp1, List.map_append, List.map_cons, List.map_nil, encI]
    · have hp2 : i < pos h x := by
        rcases Nat.lt_or_ge i (pos h x) with h4 | h4
        · exact h4
        · exact absurd (hgt.2 h4) hc
      have hp1 : ¬ pos h x < i + 1 := by omega
      simp -implicitDefEqProofs only [↓aP, aQ, ↓reduceIte, Nat.reduceEqDiff, Nat.reduceAdd, Nat.reduceSub, Nat.reduceMul, Nat.reduceLT, Nat.reduceLeDiff, reduceCtorEq, Nat.reduceBEq, forall_const, implies_true, exists_const, ne_eq, Int.reduceAdd, Int.reduceSub, Int.reduceMul, Int.reduceBEq, Int.reduceEq, Int.reduceLT, Int.reduceLE, Int.reduceToNat, Int.reduceNeg, Int.reduceBNe, hlt, s0, s1, s5, g34, b34, s6, s7, decide_eq_false hp, decide_eq_false hc, askIdx_map, hi, encI, List.length_map, wrapS (show i < 4611686018427387904 by omega)]
      refine ⟨by omega, by omega, ?_⟩
      refine nextR hi him ⟨g + 1, ?_⟩
      simp -implicitDefEqProofs only [↓aP, aQ, ↓reduceIte, Nat.reduceEqDiff, Nat.reduceAdd, Nat.reduceSub, Nat.reduceMul, Nat.reduceLT, Nat.reduceLeDiff, reduceCtorEq, Nat.reduceBEq, forall_const, implies_true, exists_const, ne_eq, Int.reduceAdd, Int.reduceSub, Int.reduceMul, Int.reduceBEq, Int.reduceEq, Int.reduceLT, Int.reduceLE, Int.reduceToNat, Int.reduceNeg, Int.reduceBNe, s0, s1, s5, g34, b34, s6, s7, wth_near hi hp2, decide_eq_false hp1, decide_eq_false hp, List.map_append, List.map_cons, List.map_nil, encI]
  · rintro m σ hlt ⟨g, s0, s1, s5, g34, b34, s6, s7⟩
    have hwl := wth_len (x := x) (Nat.le_refl h.length)
    by_cases hp : pos h x < h.length
    · have e : ins h x = wth h x h.length := by rw [wth_end, if_pos hp]
      simp -implicitDefEqProofs only [↓aP, aQ, ↓reduceIte, Nat.reduceEqDiff, Nat.reduceAdd, Nat.reduceSub, Nat.reduceMul, Nat.reduceLT, Nat.reduceLeDiff, reduceCtorEq, Nat.reduceBEq, forall_const, implies_true, exists_const, ne_eq, Int.reduceAdd, Int.reduceSub, Int.reduceMul, Int.reduceBEq, Int.reduceEq, Int.reduceLT, Int.reduceLE, Int.reduceToNat, Int.reduceNeg, Int.reduceBNe, hlt, s0, s1, s5, g34, b34, s6, s7, decide_eq_true hp, e, List.length_map]
    · have e : ins h x = wth h x h.length ++ [x] := by rw [wth_end, if_neg hp]
      simp -implicitDefEqProofs only [↓aP, aQ, ↓reduceIte, Nat.reduceEqDiff, Nat.reduceAdd, Nat.reduceSub, Nat.reduceMul, Nat.reduceLT, Nat.reduceLeDiff, reduceCtorEq, Nat.reduceBEq, forall_const, implies_true, exists_const, ne_eq, Int.reduceAdd, Int.reduceSub, Int.reduceMul, Int.reduceBEq, Int.reduceEq, Int.reduceLT, Int.reduceLE, Int.reduceToNat, Int.reduceNeg, Int.reduceBNe, hlt, s0, s1, s5, g34, b34, s6, s7, decide_eq_false hp, e, List.length_map]
      refine ⟨by omega, by omega, ?_⟩
      simp -implicitDefEqProofs only [↓aP, aQ, ↓reduceIte, Nat.reduceEqDiff, Nat.reduceAdd, Nat.reduceSub, Nat.reduceMul, Nat.reduceLT, Nat.reduceLeDiff, reduceCtorEq, Nat.reduceBEq, forall_const, implies_true, exists_const, ne_eq, Int.reduceAdd, Int.reduceSub, Int.reduceMul, Int.reduceBEq, Int.reduceEq, Int.reduceLT, Int.reduceLE, Int.reduceToNat, Int.reduceNeg, Int.reduceBNe, List.map_append, List.map_cons, List.map_nil, encI]

theorem let_spec (l : Lt) (hp : Pre l) : Spec Try.prog 57 [.agg (encLt l)] (.val (encEn (ent l.h l.ex l.q))) := by
  refine spec_val mixed fn57 (by simp) ?_
  unfold ac57
  simp -implicitDefEqProofs only [↓aP, aQ, ↓reduceIte, Nat.reduceEqDiff, Nat.reduceAdd, Nat.reduceSub, Nat.reduceMul, Nat.reduceLT, Nat.reduceLeDiff, reduceCtorEq, Nat.reduceBEq, forall_const, implies_true, exists_const, ne_eq, Int.reduceAdd, Int.reduceSub, Int.reduceMul, Int.reduceBEq, Int.reduceEq, Int.reduceLT, Int.reduceLE, Int.reduceToNat, Int.reduceNeg, Int.reduceBNe, encLt, encEn]
  refine shift (sub_slot (s := 4) 16 3 1 rfl (by exact Nat.succ_pos _)) ?_
  refine loopA (fun m σ => ∃ x ws g, Pre x ∧ m = x.q.length ∧ ws.length + x.q.length ≤ 64 ∧ ent l.h l.ex l.q = ((ent x.h x.ex x.q).1, ws ++ (ent x.h x.ex x.q).2) ∧ σ.slot 1 = .c (.ptr 1 1 0 0) ∧ σ.h.gen 1 = 1 ∧ σ.slot 2 = .c (.ptr 2 1 0 0) ∧ σ.h.gen 2 = 1 ∧ σ.h.blk 1 = .box 57 3 [(encLt x).map AC.s] ∧ σ.h.blk 2 = .box 57 3 [[.zc, .s (.pv (.bool false)), .zc]] ∧ σ.slot 4 = .c (.own 16 g) ∧ σ.h.gen 16 = g ∧ σ.h.blk 16 = .row 3 1 (ws.map encI)) l.q.length ?_ ?_
  · simp -implicitDefEqProofs only [↓aP, aQ, ↓reduceIte, Nat.reduceEqDiff, Nat.reduceAdd, Nat.reduceSub, Nat.reduceMul, Nat.reduceLT, Nat.reduceLeDiff, reduceCtorEq, Nat.reduceBEq, forall_const, implies_true, exists_const, ne_eq, Int.reduceAdd, Int.reduceSub, Int.reduceMul, Int.reduceBEq, Int.reduceEq, Int.reduceLT, Int.reduceLE, Int.reduceToNat, Int.reduceNeg, Int.reduceBNe, encLt]
    refine ⟨l, [], 1, hp, rfl, ?_, rfl, ?_⟩
    · have := hp.1; simp; omega
    · simp -implicitDefEqProofs only [↓aP, aQ, ↓reduceIte, Nat.reduceEqDiff, Nat.reduceAdd, Nat.reduceSub, Nat.reduceMul, Nat.reduceLT, Nat.reduceLeDiff, reduceCtorEq, Nat.reduceBEq, forall_const, implies_true, exists_const, ne_eq, Int.reduceAdd, Int.reduceSub, Int.reduceMul, Int.reduceBEq, Int.reduceEq, Int.reduceLT, Int.reduceLE, Int.reduceToNat, Int.reduceNeg, Int.reduceBNe, encLt, List.map_nil]
  · rintro m σ ⟨x, ws, g, hx, hm, hlen, hent, s1, g1, s2, g2, b1, b2, s4, g16, b16⟩
    have hx1 := hx.1
    cases hmay : may x
    · have en := ent_no (h := x.h) (ex := x.ex) (q := x.q) hmay
      rw [en] at hent
      rw [hent]
      simp -implicitDefEqProofs only [↓aP, aQ, ↓reduceIte, Nat.reduceEqDiff, Nat.reduceAdd, Nat.reduceSub, Nat.reduceMul, Nat.reduceLT, Nat.reduceLeDiff, reduceCtorEq, Nat.reduceBEq, forall_const, implies_true, exists_const, ne_eq, Int.reduceAdd, Int.reduceSub, Int.reduceMul, Int.reduceBEq, Int.reduceEq, Int.reduceLT, Int.reduceLE, Int.reduceToNat, Int.reduceNeg, Int.reduceBNe, s1, g1, s2, g2, b1, b2, s4, g16, b16, encLt]
      refine ask (rmay_spec x) ?_
      simp -implicitDefEqProofs only [↓aP, aQ, ↓reduceIte, Nat.reduceEqDiff, Nat.reduceAdd, Nat.reduceSub, Nat.reduceMul, Nat.reduceLT, Nat.reduceLeDiff, reduceCtorEq, Nat.reduceBEq, forall_const, implies_true, exists_const, ne_eq, Int.reduceAdd, Int.reduceSub, Int.reduceMul, Int.reduceBEq, Int.reduceEq, Int.reduceLT, Int.reduceLE, Int.reduceToNat, Int.reduceNeg, Int.reduceBNe, hmay, s1, g1, s2, g2, b1, b2, s4, g16, b16, encLt, List.append_nil]
    · obtain ⟨h, ex, q0⟩ := x
      cases q0 with
      | nil => cases hmay
      | cons w q =>
      obtain ⟨p1, p2⟩ := pre_next hx hmay
      have en := ent_yes hmay
      simp only at hent hm hlen hx1 b1 p1
      rw [en] at hent
      simp only [List.length_cons] at hm hlen hx1
      have hwx : w.who ∉ h := by
        have := (List.nodup_append.1 hx.2.2.2.2).2.2
        intro hh
        exact this _ hh _ (by simp) rfl
      have tk : (q.map encWt).take q.length = q.map encWt := List.take_of_length_le (by simp)
      simp -implicitDefEqProofs only [↓aP, aQ, ↓reduceIte, Nat.reduceEqDiff, Nat.reduceAdd, Nat.reduceSub, Nat.reduceMul, Nat.reduceLT, Nat.reduceLeDiff, reduceCtorEq, Nat.reduceBEq, forall_const, implies_true, exists_const, ne_eq, Int.reduceAdd, Int.reduceSub, Int.reduceMul, Int.reduceBEq, Int.reduceEq, Int.reduceLT, Int.reduceLE, Int.reduceToNat, Int.reduceNeg, Int.reduceBNe, s1, g1, s2, g2, b1, b2, s4, g16, b16, encLt]
      refine ask (rmay_spec ⟨h, ex, w :: q⟩) ?_
      simp -implicitDefEqProofs only [↓aP, aQ, ↓reduceIte, Nat.reduceEqDiff, Nat.reduceAdd, Nat.reduceSub, Nat.reduceMul, Nat.reduceLT, Nat.reduceLeDiff, reduceCtorEq, Nat.reduceBEq, forall_const, implies_true, exists_const, ne_eq, Int.reduceAdd, Int.reduceSub, Int.reduceMul, Int.reduceBEq, Int.reduceEq, Int.reduceLT, Int.reduceLE, Int.reduceToNat, Int.reduceNeg, Int.reduceBNe, hmay, s1, g1, s2, g2, b1, b2, s4, g16, b16, encLt, encWt, List.map_cons, List.length_map, tk]
      refine ⟨by omega, by omega, ?_⟩
      refine ask (with_spec h w.who hx.2.2.1 hwx (by omega)) ?_
      simp -implicitDefEqProofs only [↓aP, aQ, ↓reduceIte, Nat.reduceEqDiff, Nat.reduceAdd, Nat.reduceSub, Nat.reduceMul, Nat.reduceLT, Nat.reduceLeDiff, reduceCtorEq, Nat.reduceBEq, forall_const, implies_true, exists_const, ne_eq, Int.reduceAdd, Int.reduceSub, Int.reduceMul, Int.reduceBEq, Int.reduceEq, Int.reduceLT, Int.reduceLE, Int.reduceToNat, Int.reduceNeg, Int.reduceBNe, s1, g1, s2, g2, b1, b2, s4, g16, b16, encLt, encWt, List.map_cons, List.length_map, tk]
      refine ⟨by omega, by decide +kernel, q.length, by omega, ⟨ins h w.who, w.ex, q⟩, ws ++ [w.who], g + 1, p1, rfl, by simp; omega, ?_, rfl, rfl, rfl, ?_⟩
      · rw [hent]; simp
      · simp [encI]
end Go.Proofs.Ytkiddlkmodclhaa
