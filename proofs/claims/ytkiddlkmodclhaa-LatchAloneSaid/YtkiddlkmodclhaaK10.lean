/- layer 8: the contracts: the document's Ask, Drop. -/
import Derived.Test.YtkiddlkmodclhaaK9
namespace Go.Proofs.Ytkiddlkmodclhaa
open Go.RowKit La
set_option linter.unusedVariables false
set_option linter.unusedSimpArgs false
theorem filter_erase {α : Type} (f : α → Int) {l : List α} (hn : (l.map f).Nodup) {k : Nat} (hk : k < l.length) {x : Int} (hx : f l[k] = x) : l.filter (fun y => f y != x) = l.eraseIdx k := by
  have e : l = l.take k ++ l[k] :: l.drop (k + 1) := by simp
  rw [List.eraseIdx_eq_take_drop_succ]
  have hn2 : ((l.take k ++ l[k] :: l.drop (k + 1)).map f).Nodup := by rw [← e]; exact hn
  rw [List.map_append, List.map_cons, List.nodup_append, List.nodup_cons] at hn2
  obtain ⟨_, ⟨h2, _⟩, h3⟩ := hn2
  conv => lhs; rw [e]
  rw [List.filter_append, List.filter_cons_of_neg (by simp [hx])]
  congr 1
  · rw [List.filter_eq_self]
    intro a ha
    have := h3 (f a) (List.mem_map.2 ⟨a, ha, rfl⟩) (f l[k]) (by simp)
    rw [hx] at this
    simpa using this
  · rw [List.filter_eq_self]
    intro a ha
    have : f a ≠ f l[k] := fun e => h2 (e ▸ List.mem_map.2 ⟨a, ha, rfl⟩)
    rw [hx] at this
    simpa using this
theorem filter_none {α : Type} (f : α → Int) {l : List α} {x : Int} (hx : x ∉ l.map f) : l.filter (fun y => f y != x) = l := by
  rw [List.filter_eq_self]
  intro a ha
  have : f a ≠ x := fun e => hx (e ▸ List.mem_map.2 ⟨a, ha, rfl⟩)
  simpa using this
theorem rAsk_spec (l : Lt) (who : Int) (ex : Bool) (hp : Pre ⟨l.h, l.ex, l.q ++ [⟨who, ex⟩]⟩) : Spec Try.prog 32 [.agg (encLt l), rI who, rB ex] (.val (encEn (ent l.h l.ex (l.q ++ [⟨who, ex⟩])))) := by
  have h64 := hp.1
  simp only [List.length_append, List.length_cons, List.length_nil] at h64
  refine spec_val mixed fn32 (by simp) ?_
  unfold ac32
  simp -implicitDefEqProofs only [↓aP, aQ, ↓reduceIte, Nat.reduceEqDiff, Nat.reduceAdd, Nat.reduceSub, Nat.reduceMul, Nat.reduceLT, Nat.reduceLeDiff, reduceCtorEq, Nat.reduceBEq, forall_const, implies_true, exists_const, ne_eq, Int.reduceAdd, Int.reduceSub, Int.reduceMul, Int.reduceBEq, Int.reduceEq, Int.reduceLT, Int.reduceLE, Int.reduceToNat, Int.reduceNeg, Int.reduceBNe, encLt, List.length_map]
  refine ⟨by omega, by omega, by omega, by omega, ?_⟩
  refine ask (by have := let_spec _ hp; simp only [encLt_eq, List.map_append, List.map_cons, List.map_nil, encWt] at this; exact this) ?_
  simp -implicitDefEqProofs only [↓aP, aQ, ↓reduceIte, Nat.reduceEqDiff, Nat.reduceAdd, Nat.reduceSub, Nat.reduceMul, Nat.reduceLT, Nat.reduceLeDiff, reduceCtorEq, Nat.reduceBEq, forall_const, implies_true, exists_const, ne_eq, Int.reduceAdd, Int.reduceSub, Int.reduceMul, Int.reduceBEq, Int.reduceEq, Int.reduceLT, Int.reduceLE, Int.reduceToNat, Int.reduceNeg, Int.reduceBNe, encEn, encLt]
  decide +kernel
def drH (l : List Int) (who : Int) : List Int := l.filter (fun y => y != who)
def drQ (l : List Wt) (who : Int) : List Wt := l.filter (fun y => y.who != who)
def drE (l : List Int) (ex : Bool) : Bool := match l with | [] => false | _ :: _ => ex
theorem dre_snoc {l : List Int} {x : Int} {ex : Bool} : drE (l ++ [x]) ex = ex := by cases l <;> rfl


theorem rDrop_spec (l : Lt) (who : Int) (hl : l.h.length + l.q.length ≤ 64) (hp : Pre ⟨drH l.h who, drE (drH l.h who) l.ex, drQ l.q who⟩) : Spec Try.prog 33 [.agg (encLt l), rI who] (.val (encEn (ent (drH l.h who) (drE (drH l.h who) l.ex) (drQ l.q who)))) := by
  refine spec_val mixed fn33 (by simp) ?_
  unfold ac33
  simp -implicitDefEqProofs only [↓aP, aQ, ↓reduceIte, Nat.reduceEqDiff, Nat.reduceAdd, Nat.reduceSub, Nat.reduceMul, Nat.reduceLT, Nat.reduceLeDiff, reduceCtorEq, Nat.reduceBEq, forall_const, implies_true, exists_const, ne_eq, Int.reduceAdd, Int.reduceSub, Int.reduceMul, Int.reduceBEq, Int.reduceEq, Int.reduceLT, Int.reduceLE, Int.reduceToNat, Int.reduceNeg, Int.reduceBNe, encLt]
  refine shift (sub_cell (p := 6) (i := 0) (j := 0) 31 3 1 rfl (by exact Nat.succ_pos _) (by rfl) (by decide) (by decide)) ?_
  refine shift (sub_cell (p := 6) (i := 0) (j := 2) 59 89 2 rfl (by exact Nat.succ_pos _) (by rfl) (by decide) (by decide)) ?_
  refine rangeB l.h.length (fun i σ => ∃ g k, σ.slot 1 = vI who ∧ σ.slot 2 = .c (.ptr 2 1 0 0) ∧ σ.h.gen 2 = 1 ∧ σ.h.blk 2 = .box 57 3 [(encLt l).map AC.s] ∧ σ.slot 4 = .c (.ptr 4 1 0 0) ∧ σ.h.gen 4 = 1 ∧ σ.h.blk 4 = .box 57 3 [[.zc, .s (.pv (.bool false)), .zc]] ∧ σ.slot 6 = .c (.ptr 6 1 0 0) ∧ σ.h.gen 6 = 1 ∧ σ.h.blk 6 = .box 57 3 [[.own 31 g, .s (.pv (.bool (drE (drH (l.h.take i) who) l.ex))), .own 59 k]] ∧ σ.h.gen 31 = g ∧ σ.h.blk 31 = .row 3 1 ((drH (l.h.take i) who).map encI) ∧ σ.h.gen 59 = k ∧ σ.h.blk 59 = .row 89 2 [] ∧ σ.slot 7 = vI i) ?_ ?_ ?_
  · simp -implicitDefEqProofs only [↓aP, aQ, ↓reduceIte, Nat.reduceEqDiff, Nat.reduceAdd, Nat.reduceSub, Nat.reduceMul, Nat.reduceLT, Nat.reduceLeDiff, reduceCtorEq, Nat.reduceBEq, forall_const, implies_true, exists_const, ne_eq, Int.reduceAdd, Int.reduceSub, Int.reduceMul, Int.reduceBEq, Int.reduceEq, Int.reduceLT, Int.reduceLE, Int.reduceToNat, Int.reduceNeg, Int.reduceBNe, encLt]
    exact ⟨1, 1, by simp [drH, drE]⟩
  · rintro i m σ him hi hlt ⟨g, k, s1, s2, g2, b2, s4, g4, b4, s6, g6, b6, g31, b31, g59, b59, s7⟩
    have hfl : (drH (l.h.take i) who).length ≤ i := by
      have := List.length_filter_le (fun y => y != who) (l.h.take i)
      unfold drH
      simp only [List.length_take] at this; omega
    have hs : drH (l.h.take (i + 1)) who = drH (l.h.take i) who ++ (if l.h[i] != who then [l.h[i]] else []) := by
      unfold drH
      rw [take_snoc hi, List.filter_append]
      congr 1
      by_cases h : (l.h[i] != who) = true
      · rw [if_pos h]; simp only [List.filter, h]
      · rw [if_neg h]; simp only [Bool.not_eq_true] at h; simp only [List.filter, h]
    simp -implicitDefEqProofs only [↓aP, aQ, ↓reduceIte, Nat.reduceEqDiff, Nat.reduceAdd, Nat.reduceSub, Nat.reduceMul, Nat.reduceLT, Nat.reduceLeDiff, reduceCtorEq, Nat.reduceBEq, forall_const, implies_true, exists_const, ne_eq, Int.reduceAdd, Int.reduceSub, Int.reduceMul, Int.reduceBEq, Int.reduceEq, Int.reduceLT, Int.reduceLE, Int.reduceToNat, Int.reduceNeg, Int.reduceBNe, hlt, s1, s2, g2, b2, s4, g4, b4, s6, g6, b6, g31, b31, g59, b59, s7, encLt, askIdx_map, hi, encI, List.length_map]
    by_cases hc : l.h[i] = who
    · have e : (l.h[i] != who) = false := by simpa using hc
      rw [e, if_neg (by simp), List.append_nil] at hs
      simp -implicitDefEqProofs only [↓aP, aQ, ↓reduceIte, Nat.reduceEqDiff, Nat.reduceAdd, Nat.reduceSub, Nat.reduceMul, Nat.reduceLT, Nat.reduceLeDiff, reduceCtorEq, Nat.reduceBEq, forall_const, implies_true, exists_const, ne_eq, Int.reduceAdd, Int.reduceSub, Int.reduceMul, Int.reduceBEq, Int.reduceEq, Int.reduceLT, Int.reduceLE, Int.reduceToNat, Int.reduceNeg, Int.reduceBNe, e, s1, s2, g2, b2, s4, g4, b4, s6, g6, b6, g31, b31, g59, b59, s7, encLt, wrapS (show i < 4611686018427387904 by omega)]
      refine nextR hi him ⟨g, k, ?_⟩
      simp -implicitDefEqProofs only [↓aP, aQ, ↓reduceIte, Nat.reduceEqDiff, Nat.reduceAdd, Nat.reduceSub, Nat.reduceMul, Nat.reduceLT, Nat.reduceLeDiff, reduceCtorEq, Nat.reduceBEq, forall_const, implies_true, exists_const, ne_eq, Int.reduceAdd, Int.reduceSub, Int.reduceMul, Int.reduceBEq, Int.reduceEq, Int.reduceLT, Int.reduceLE, Int.reduceToNat, Int.reduceNeg, Int.reduceBNe, s1, s2, g2, b2, s4, g4, b4, s6, g6, b6, g31, b31, g59, b59, s7, encLt, hs]
    · have e : (l.h[i] != who) = true := by simpa using hc
      rw [e, if_pos rfl] at hs
      simp -implicitDefEqProofs only [↓aP, aQ, ↓reduceIte, Nat.reduceEqDiff, Nat.reduceAdd, Nat.reduceSub, Nat.reduceMul, Nat.reduceLT, Nat.reduceLeDiff, reduceCtorEq, Nat.reduceBEq, forall_const, implies_true, exists_const, ne_eq, Int.reduceAdd, Int.reduceSub, Int.reduceMul, Int.reduceBEq, Int.reduceEq, Int.reduceLT, Int.reduceLE, Int.reduceToNat, Int.reduceNeg, Int.reduceBNe, e, s1, s2, g2, b2, s4, g4, b4, s6, g6, b6, g31, b31, g59, b59, s7, encLt, askIdx_map, hi, encI, List.length_map, wrapS (show i < 4611686018427387904 by omega)]
      refine ⟨by omega, by omega, by decide +kernel, ?_⟩
      refine nextR hi him ⟨g + 1, k, ?_⟩
      simp -implicitDefEqProofs only [↓aP, aQ, ↓reduceIte, Nat.reduceEqDiff, Nat.reduceAdd, Nat.reduceSub, Nat.reduceMul, Nat.reduceLT, Nat.reduceLeDiff, reduceCtorEq, Nat.reduceBEq, forall_const, implies_true, exists_const, ne_eq, Int.reduceAdd, Int.reduceSub, Int.reduceMul, Int.reduceBEq, Int.reduceEq, Int.reduceLT, Int.reduceLE, Int.reduceToNat, Int.reduceNeg, Int.reduceBNe, s1, s2, g2, b2, s4, g4, b4, s6, g6, b6, g31, b31, g59, b59, s7, encLt, hs, dre_snoc, List.map_append, List.map_cons, List.map_nil, encI]
  · rintro m σ hlt ⟨g, k, s1, s2, g2, b2, s4, g4, b4, s6, g6, b6, g31, b31, g59, b59, s7⟩
    rw [List.take_length] at b6 b31
    simp -implicitDefEqProofs only [↓aP, aQ, ↓reduceIte, Nat.reduceEqDiff, Nat.reduceAdd, Nat.reduceSub, Nat.reduceMul, Nat.reduceLT, Nat.reduceLeDiff, reduceCtorEq, Nat.reduceBEq, forall_const, implies_true, exists_const, ne_eq, Int.reduceAdd, Int.reduceSub, Int.reduceMul, Int.reduceBEq, Int.reduceEq, Int.reduceLT, Int.reduceLE, Int.reduceToNat, Int.reduceNeg, Int.reduceBNe, hlt, s1, s2, g2, b2, s4, g4, b4, s6, g6, b6, g31, b31, g59, b59, s7, encLt, List.length_map]
    refine rangeB l.q.length (fun i σ => ∃ g k, σ.slot 1 = vI who ∧ σ.slot 2 = .c (.ptr 2 1 0 0) ∧ σ.h.gen 2 = 1 ∧ σ.h.blk 2 = .box 57 3 [(encLt l).map AC.s] ∧ σ.slot 4 = .c (.ptr 4 1 0 0) ∧ σ.h.gen 4 = 1 ∧ σ.h.blk 4 = .box 57 3 [[.zc, .s (.pv (.bool false)), .zc]] ∧ σ.slot 6 = .c (.ptr 6 1 0 0) ∧ σ.h.gen 6 = 1 ∧ σ.h.blk 6 = .box 57 3 [[.own 31 g, .s (.pv (.bool (drE (drH l.h who) l.ex))), .own 59 k]] ∧ σ.h.gen 31 = g ∧ σ.h.blk 31 = .row 3 1 ((drH l.h who).map encI) ∧ σ.h.gen 59 = k ∧ σ.h.blk 59 = .row 89 2 ((drQ (l.q.take i) who).map encWt) ∧ σ.slot 8 = vI i) ?_ ?_ ?_
    · simp -implicitDefEqProofs only [↓aP, aQ, ↓reduceIte, Nat.reduceEqDiff, Nat.reduceAdd, Nat.reduceSub, Nat.reduceMul, Nat.reduceLT, Nat.reduceLeDiff, reduceCtorEq, Nat.reduceBEq, forall_const, implies_true, exists_const, ne_eq, Int.reduceAdd, Int.reduceSub, Int.reduceMul, Int.reduceBEq, Int.reduceEq, Int.reduceLT, Int.reduceLE, Int.reduceToNat, Int.reduceNeg, Int.reduceBNe, s1, s2, g2, b2, s4, g4, b4, s6, g6, b6, g31, b31, g59, b59, s7, encLt]
      exact ⟨g, k, by simp [drQ]⟩
    · clear hlt s1 s2 g2 b2 s4 g4 b4 s6 g6 b6 g31 b31 g59 b59 s7
      rintro i m σ him hi hlt ⟨g, k, s1, s2, g2, b2, s4, g4, b4, s6, g6, b6, g31, b31, g59, b59, s8⟩
      have hfl : (drQ (l.q.take i) who).length ≤ i := by
        have := List.length_filter_le (fun y : Wt => y.who != who) (l.q.take i)
        unfold drQ
        simp only [List.length_take] at this; omega
      have hs : drQ (l.q.take (i + 1)) who = drQ (l.q.take i) who ++ (if l.q[i].who != who then [l.q[i]] else []) := by
        unfold drQ
        rw [take_snoc hi, List.filter_append]
        congr 1
        by_cases h : (l.q[i].who != who) = true
        · rw [if_pos h]; simp only [List.filter, h]
        · rw [if_neg h]; simp only [Bool.not_eq_true] at h; simp only [List.filter, h]
      simp -implicitDefEqProofs only [↓aP, aQ, ↓reduceIte, Nat.reduceEqDiff, Nat.reduceAdd, Nat.reduceSub, Nat.reduceMul, Nat.reduceLT, Nat.reduceLeDiff, reduceCtorEq, Nat.reduceBEq, forall_const, implies_true, exists_const, ne_eq, Int.reduceAdd, Int.reduceSub, Int.reduceMul, Int.reduceBEq, Int.reduceEq, Int.reduceLT, Int.reduceLE, Int.reduceToNat, Int.reduceNeg, Int.reduceBNe, hlt, s1, s2, g2, b2, s4, g4, b4, s6, g6, b6, g31, b31, g59, b59, s8, encLt, askIdx_map, hi, encWt, List.length_map]
      by_cases hc : l.q[i].who = who
      · have e : (l.q[i].who != who) = false := by simpa using hc
        rw [e, if_neg (by simp), List.append_nil] at hs
        simp -implicitDefEqProofs only [↓aP, aQ, ↓reduceIte, Nat.reduceEqDiff, Nat.reduceAdd, Nat.reduceSub, Nat.reduceMul, Nat.reduceLT, Nat.reduceLeDiff, reduceCtorEq, Nat.reduceBEq, forall_const, implies_true, exists_const, ne_eq, Int.reduceAdd, Int.reduceSub, Int.reduceMul, Int.reduceBEq, Int.reduceEq, Int.reduceLT, Int.reduceLE, Int.reduceToNat, Int.reduceNeg, Int.reduceBNe, e, s1, s2, g2, b2, s4, g4, b4, s6, g6, b6, g31, b31, g59, b59, s8, encLt, wrapS (show i < 4611686018427387904 by omega)]
        refine nextR hi him ⟨g, k, ?_⟩
        simp -implicitDefEqProofs only [↓aP, aQ, ↓reduceIte, Nat.reduceEqDiff, Nat.reduceAdd, Nat.reduceSub, Nat.reduceMul, Nat.reduceLT, Nat.reduceLeDiff, reduceCtorEq, Nat.reduceBEq, forall_const, implies_true, exists_const, ne_eq, Int.reduceAdd, Int.reduceSub, Int.reduceMul, Int.reduceBEq, Int.reduceEq, Int.reduceLT, Int.reduceLE, Int.reduceToNat, Int.reduceNeg, Int.reduceBNe, s1, s2, g2, b2, s4, g4, b4, s6, g6, b6, g31, b31, g59, b59, s8, encLt, hs]
      · have e : (l.q[i].who != who) = true := by simpa using hc
        rw [e, if_pos rfl] at hs
        simp -implicitDefEqProofs only [↓aP, aQ, ↓reduceIte, Nat.reduceEqDiff, Nat.reduceAdd, Nat.reduceSub, Nat.reduceMul, Nat.reduceLT, Nat.reduceLeDiff, reduceCtorEq, Nat.reduceBEq, forall_const, implies_true, exists_const, ne_eq, Int.reduceAdd, Int.reduceSub, Int.reduceMul, Int.reduceBEq, Int.reduceEq, Int.reduceLT, Int.reduceLE, Int.reduceToNat, Int.reduceNeg, Int.reduceBNe, e, s1, s2, g2, b2, s4, g4, b4, s6, g6, b6, g31, b31, g59, b59, s8, encLt, askIdx_map, hi, encWt, List.length_map, wrapS (show i < 4611686018427387904 by omega)]
        refine ⟨by omega, by omega, by decide +kernel, ?_⟩
        refine nextR hi him ⟨g, k + 1, ?_⟩
        simp -implicitDefEqProofs only [↓aP, aQ, ↓reduceIte, Nat.reduceEqDiff, Nat.reduceAdd, Nat.reduceSub, Nat.reduceMul, Nat.reduceLT, Nat.reduceLeDiff, reduceCtorEq, Nat.reduceBEq, forall_const, implies_true, exists_const, ne_eq, Int.reduceAdd, Int.reduceSub, Int.reduceMul, Int.reduceBEq, Int.reduceEq, Int.reduceLT, Int.reduceLE, Int.reduceToNat, Int.reduceNeg, Int.reduceBNe, s1, s2, g2, b2, s4, g4, b4, s6, g6, b6, g31, b31, g59, b59, s8, encLt, hs, List.map_append, List.map_cons, List.map_nil, encWt]
    · clear hlt s1 s2 g2 b2 s4 g4 b4 s6 g6 b6 g31 b31 g59 b59 s7
      rintro m σ hlt ⟨g, k, s1, s2, g2, b2, s4, g4, b4, s6, g6, b6, g31, b31, g59, b59, s8⟩
      rw [List.take_length] at b59
      simp -implicitDefEqProofs only [↓aP, aQ, ↓reduceIte, Nat.reduceEqDiff, Nat.reduceAdd, Nat.reduceSub, Nat.reduceMul, Nat.reduceLT, Nat.reduceLeDiff, reduceCtorEq, Nat.reduceBEq, forall_const, implies_true, exists_const, ne_eq, Int.reduceAdd, Int.reduceSub, Int.reduceMul, Int.reduceBEq, Int.reduceEq, Int.reduceLT, Int.reduceLE, Int.reduceToNat, Int.reduceNeg, Int.reduceBNe, hlt, s1, s2, g2, b2, s4, g4, b4, s6, g6, b6, g31, b31, g59, b59, s8, encLt, List.length_map]
      refine ask (by have := let_spec _ hp; rw [encLt_eq] at this; exact this) ?_
      simp -implicitDefEqProofs only [↓aP, aQ, ↓reduceIte, Nat.reduceEqDiff, Nat.reduceAdd, Nat.reduceSub, Nat.reduceMul, Nat.reduceLT, Nat.reduceLeDiff, reduceCtorEq, Nat.reduceBEq, forall_const, implies_true, exists_const, ne_eq, Int.reduceAdd, Int.reduceSub, Int.reduceMul, Int.reduceBEq, Int.reduceEq, Int.reduceLT, Int.reduceLE, Int.reduceToNat, Int.reduceNeg, Int.reduceBNe, encEn, s1, s2, g2, b2, s4, g4, b4, s6, g6, b6, g31, b31, g59, b59, s8, encLt]
theorem drop_h {l : Lt} {who : Int} (h : right l = true) (hw : who ∈ l.h) : drH l.h who = l.h.eraseIdx (pos l.h who) ∧ drE (drH l.h who) l.ex = false ∧ drQ l.q who = l.q := by
  obtain ⟨⟨h1, h2, h3, h4, h5⟩, h6⟩ := right_iff.1 h
  have hle : l.h.Pairwise (· ≤ ·) := h3.imp (fun x => by omega)
  have hhas : has l.h who = true := by rw [has_mem hle, decide_eq_true hw]
  obtain ⟨hp, hpe⟩ := has_at hhas
  have hn := List.nodup_append.1 h5
  have e1 : drH l.h who = l.h.eraseIdx (pos l.h who) := filter_erase (fun y => y) (by simpa using hn.1) hp hpe
  have e3 : drQ l.q who = l.q := filter_none Wt.who (fun hq => hn.2.2 _ hw _ hq rfl)
  refine ⟨e1, ?_, e3⟩
  cases hx : l.ex
  · cases drH l.h who <;> rfl
  · have := h2 hx
    have e : (drH l.h who).length = 0 := by rw [e1, List.length_eraseIdx, if_pos hp]; omega
    rw [List.eq_nil_of_length_eq_zero e]
    rfl
theorem drop_q {l : Lt} {who : Int} (h : right l = true) (hw : who ∉ l.h) (hq : at' l who < l.q.length) : drH l.h who = l.h ∧ drE (drH l.h who) l.ex = l.ex ∧ drQ l.q who = l.q.eraseIdx (at' l who) := by
  obtain ⟨⟨h1, h2, h3, h4, h5⟩, h6⟩ := right_iff.1 h
  have hn := List.nodup_append.1 h5
  have e1 : drH l.h who = l.h := filter_none (fun y => y) (by simpa using hw)
  have hat : (l.q[at' l who]'hq).who = who := by
    have := List.findIdx_getElem (p := fun w : Wt => decide (w.who = who)) (xs := l.q) (w := hq)
    exact of_decide_eq_true this
  refine ⟨e1, ?_, filter_erase Wt.who hn.2.1 hq hat⟩
  rw [e1]
  cases hh : l.h with
  | cons a t => rfl
  | nil =>
    unfold may at h6
    cases hq2 : l.q with
    | nil => rw [hq2] at hq; simp at hq
    | cons a t => rw [hq2] at h6; simp [hh] at h6
theorem rDrop_eq {l : Lt} {who : Int} (h : right l = true) (hw : who ∈ whos l) : Pre ⟨drH l.h who, drE (drH l.h who) l.ex, drQ l.q who⟩ ∧ dropM l who = ((ent (drH l.h who) (drE (drH l.h who) l.ex) (drQ l.q who)).1, (ent (drH l.h who) (drE (drH l.h who) l.ex) (drQ l.q who)).2, 0) := by
  by_cases h1 : who ∈ l.h
  · obtain ⟨e1, e2, e3⟩ := drop_h h h1
    rw [e2, e3, e1]
    refine ⟨pre_dropH h h1, ?_⟩
    unfold dropM
    rw [if_neg (by rw [h]; simp), if_pos h1]
  · have hq : at' l who < l.q.length := by
      rw [at_lt]
      rcases List.mem_append.1 hw with h2 | h2
      · exact absurd h2 h1
      · exact h2
    obtain ⟨e1, e2, e3⟩ := drop_q h h1 hq
    rw [e2, e3, e1]
    refine ⟨pre_dropQ h, ?_⟩
    unfold dropM
    rw [if_neg (by rw [h]; simp), if_neg h1, if_pos hq]
end Go.Proofs.Ytkiddlkmodclhaa
