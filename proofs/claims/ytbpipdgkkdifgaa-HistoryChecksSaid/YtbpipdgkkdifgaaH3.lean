/- layer 21: stable sorting of events, by the machine: places, and blocks of places, change. -/
import Derived.Test.YtbpipdgkkdifgaaRowX
import Derived.Test.YtbpipdgkkdifgaaH5
import Derived.Test.YtbpipdgkkdifgaaO4
namespace Go.Proofs.Ytbpipdgkkdifgaa
open Go.RowKit Ok Ss Hi
set_option linter.unusedVariables false
set_option linter.unusedSimpArgs false
def encEv (e : Ev) : List SC := [.pv (.int .i64 e.who), .pv (.int .i64 e.op.kind), .pv (.int .i64 e.op.id), .pv (.string e.op.body), .pv (.int .i64 e.r.e), .pv (.int .i64 e.r.p.id), .pv (.int .i64 e.r.p.ver), .pv (.string e.r.p.body), .pv (.int .i64 e.began), .pv (.int .i64 e.done), .pv (.int .i64 e.ended)]
theorem natI {a b : Nat} (h : a + b < 4611686018427387904) : IntKind.i64.wrap ((a : Int) + (b : Int)) = ((a + b : Nat) : Int) := by rw [wrapI (by omega)]; omega
theorem subI {a b : Nat} (h : b ≤ a) (h2 : a < 4611686018427387904) : IntKind.i64.wrap ((a : Int) - (b : Int)) = ((a - b : Nat) : Int) := by rw [wrapI (by omega)]; omega
theorem set_ev {l : List Ev} {i : Nat} {x : Ev} : (l.map encEv).set i [.pv (.int .i64 x.who), .pv (.int .i64 x.op.kind), .pv (.int .i64 x.op.id), .pv (.string x.op.body), .pv (.int .i64 x.r.e), .pv (.int .i64 x.r.p.id), .pv (.int .i64 x.r.p.ver), .pv (.string x.r.p.body), .pv (.int .i64 x.began), .pv (.int .i64 x.done), .pv (.int .i64 x.ended)] = (l.set i x).map encEv := by rw [List.map_set]; rfl
abbrev tEv : Nat := 52

set_option maxHeartbeats 1000000 in
theorem swap_spec (l : List Ev) (a b n : Nat) (g : Nat) (caps : List SC) (h1 : a + n ≤ b) (h2 : b + n ≤ l.length) (hl : l.length < 1000000) :
    SpecX Try.prog 52 ⟨true, tEv, 11, l.map encEv, none, (swr a b n l).map encEv, some (.tup [])⟩ [rI a, rI b, rI n, .c (.fn g caps)] := by
  refine spec_xr mixed fn52 99 (r := .tup []) rfl rfl (by simp) rfl (by simp [swr_len h1 h2]) (by simp) ?_
  unfold ac52
  simp -implicitDefEqProofs only [↓aP, aQ, ↓reduceIte, Nat.reduceEqDiff, Nat.reduceAdd, Nat.reduceSub, Nat.reduceMul, Nat.reduceLT, Nat.reduceLeDiff, reduceCtorEq, Nat.reduceBEq, forall_const, implies_true, exists_const, ne_eq, Int.reduceAdd, Int.reduceSub, Int.reduceMul, Int.reduceBEq, Int.reduceEq, Int.reduceLT, Int.reduceLE, Int.reduceToNat, Int.reduceNeg, Int.reduceBNe, initX_slot, initX_gen, initX_blk, XR.lb0, XR.at0]
  refine rangeB n (fun i σ => σ.slot 0 = .c (.own 99 0) ∧ σ.h.gen 99 = 0 ∧ σ.h.blk 99 = .row tEv 11 ((swr a b i l).map encEv) ∧ σ.slot 1 = vI a ∧ σ.slot 2 = vI b ∧ σ.slot 3 = vI n ∧ σ.slot 10 = vI i) ?_ ?_ ?_
  · simp -implicitDefEqProofs only [↓aP, aQ, ↓reduceIte, Nat.reduceEqDiff, Nat.reduceAdd, Nat.reduceSub, Nat.reduceMul, Nat.reduceLT, Nat.reduceLeDiff, reduceCtorEq, Nat.reduceBEq, forall_const, implies_true, exists_const, ne_eq, Int.reduceAdd, Int.reduceSub, Int.reduceMul, Int.reduceBEq, Int.reduceEq, Int.reduceLT, Int.reduceLE, Int.reduceToNat, Int.reduceNeg, Int.reduceBNe, initX_slot, initX_gen, initX_blk, XR.lb0, XR.at0, swr_zero (show a ≤ b by omega)]
  · rintro i m σ him hi hlt ⟨s0, g99, b99, s1, s2, s3, s10⟩
    have hsl : (swr a b i l).length = l.length := swr_len (by omega) (by omega)
    have hA : a + i < (swr a b i l).length := by omega
    have hB : b + i < (swr a b i l).length := by omega
    have hS := swr_succ (a := a) (b := b) (i := i) (l := l) (by omega) (by omega) hA hB
    have hB2 : b + i < ((swr a b i l).set (a + i) ((swr a b i l)[b + i])).length := by rw [List.length_set]; exact hB
    simp -implicitDefEqProofs only [↓aP, aQ, ↓reduceIte, Nat.reduceEqDiff, Nat.reduceAdd, Nat.reduceSub, Nat.reduceMul, Nat.reduceLT, Nat.reduceLeDiff, reduceCtorEq, Nat.reduceBEq, forall_const, implies_true, exists_const, ne_eq, Int.reduceAdd, Int.reduceSub, Int.reduceMul, Int.reduceBEq, Int.reduceEq, Int.reduceLT, Int.reduceLE, Int.reduceToNat, Int.reduceNeg, Int.reduceBNe, hlt, s0, g99, b99, s1, s2, s3, s10, natI (show a + i < 4611686018427387904 by omega), natI (show b + i < 4611686018427387904 by omega), askIdx_map, hA, hB, hB2, encEv, set_ev, List.length_map, hS]
    refine ⟨by decide +kernel, ?_⟩
    simp -implicitDefEqProofs only [↓aP, aQ, ↓reduceIte, Nat.reduceEqDiff, Nat.reduceAdd, Nat.reduceSub, Nat.reduceMul, Nat.reduceLT, Nat.reduceLeDiff, reduceCtorEq, Nat.reduceBEq, forall_const, implies_true, exists_const, ne_eq, Int.reduceAdd, Int.reduceSub, Int.reduceMul, Int.reduceBEq, Int.reduceEq, Int.reduceLT, Int.reduceLE, Int.reduceToNat, Int.reduceNeg, Int.reduceBNe, s0, g99, b99, s1, s2, s3, s10, wrapS (show i < 4611686018427387904 by omega)]
    refine nextR hi him ?_
    simp -implicitDefEqProofs only [↓aP, aQ, ↓reduceIte, Nat.reduceEqDiff, Nat.reduceAdd, Nat.reduceSub, Nat.reduceMul, Nat.reduceLT, Nat.reduceLeDiff, reduceCtorEq, Nat.reduceBEq, forall_const, implies_true, exists_const, ne_eq, Int.reduceAdd, Int.reduceSub, Int.reduceMul, Int.reduceBEq, Int.reduceEq, Int.reduceLT, Int.reduceLE, Int.reduceToNat, Int.reduceNeg, Int.reduceBNe, s0, g99, b99, s1, s2, s3, s10]
  · rintro m σ hlt ⟨s0, g99, b99, s1, s2, s3, s10⟩
    simp -implicitDefEqProofs only [↓aP, aQ, ↓reduceIte, Nat.reduceEqDiff, Nat.reduceAdd, Nat.reduceSub, Nat.reduceMul, Nat.reduceLT, Nat.reduceLeDiff, reduceCtorEq, Nat.reduceBEq, forall_const, implies_true, exists_const, ne_eq, Int.reduceAdd, Int.reduceSub, Int.reduceMul, Int.reduceBEq, Int.reduceEq, Int.reduceLT, Int.reduceLE, Int.reduceToNat, Int.reduceNeg, Int.reduceBNe, hlt, s0, g99, b99, s1, s2, s3, s10, finX, boxC, lbX]

set_option maxHeartbeats 1000000 in
theorem rot_spec (l : List Ev) (a m b : Nat) (g : Nat) (caps : List SC) (h1 : a < m) (h2 : m < b) (h3 : b ≤ l.length) (hl : l.length < 1000000) :
    SpecX Try.prog 51 ⟨true, tEv, 11, l.map encEv, none, (rot a m b l).map encEv, some (.tup [])⟩ [rI a, rI m, rI b, .c (.fn g caps)] := by
  refine spec_xr mixed fn51 99 (r := .tup []) rfl rfl (by simp) rfl (by simp [rot_len (Nat.le_of_lt h1) (Nat.le_of_lt h2) h3]) (by simp) ?_
  unfold ac51
  simp -implicitDefEqProofs only [↓aP, aQ, ↓reduceIte, Nat.reduceEqDiff, Nat.reduceAdd, Nat.reduceSub, Nat.reduceMul, Nat.reduceLT, Nat.reduceLeDiff, reduceCtorEq, Nat.reduceBEq, forall_const, implies_true, exists_const, ne_eq, Int.reduceAdd, Int.reduceSub, Int.reduceMul, Int.reduceBEq, Int.reduceEq, Int.reduceLT, Int.reduceLE, Int.reduceToNat, Int.reduceNeg, Int.reduceBNe, initX_slot, initX_gen, initX_blk, XR.lb0, XR.at0, subI (show a ≤ m by omega) (show m < 4611686018427387904 by omega), subI (show m ≤ b by omega) (show b < 4611686018427387904 by omega)]
  refine loopA (fun k σ => ∃ (i j : Nat) (cur : List Ev), 0 < i ∧ 0 < j ∧ i ≤ m ∧ m + j ≤ l.length ∧ i + j = k ∧ cur.length = l.length ∧ rot (m - i) m (m + j) cur = rot a m b l ∧ σ.slot 0 = .c (.own 99 0) ∧ σ.h.gen 99 = 0 ∧ σ.h.blk 99 = .row tEv 11 (cur.map encEv) ∧ σ.slot 1 = vI a ∧ σ.slot 2 = vI m ∧ σ.slot 3 = vI b ∧ σ.slot 4 = .c (.s (.fn g caps)) ∧ σ.slot 10 = vI i ∧ σ.slot 11 = vI j) (m - a + (b - m)) ?_ ?_
  · refine ⟨m - a, b - m, l, by omega, by omega, by omega, by omega, rfl, rfl, ?_, ?_⟩
    · rw [show m - (m - a) = a by omega, show m + (b - m) = b by omega]
    · simp -implicitDefEqProofs only [↓aP, aQ, ↓reduceIte, Nat.reduceEqDiff, Nat.reduceAdd, Nat.reduceSub, Nat.reduceMul, Nat.reduceLT, Nat.reduceLeDiff, reduceCtorEq, Nat.reduceBEq, forall_const, implies_true, exists_const, ne_eq, Int.reduceAdd, Int.reduceSub, Int.reduceMul, Int.reduceBEq, Int.reduceEq, Int.reduceLT, Int.reduceLE, Int.reduceToNat, Int.reduceNeg, Int.reduceBNe, initX_slot, initX_gen, initX_blk, XR.lb0, XR.at0]
  · rintro k σ ⟨i, j, cur, hi, hj, hm, hb, hk, hcl, hR, s0, g99, b99, s1, s2, s3, s4, s10, s11⟩
    by_cases hij : i = j
    · subst hij
      simp -implicitDefEqProofs only [↓aP, aQ, ↓reduceIte, Nat.reduceEqDiff, Nat.reduceAdd, Nat.reduceSub, Nat.reduceMul, Nat.reduceLT, Nat.reduceLeDiff, reduceCtorEq, Nat.reduceBEq, forall_const, implies_true, exists_const, ne_eq, Int.reduceAdd, Int.reduceSub, Int.reduceMul, Int.reduceBEq, Int.reduceEq, Int.reduceLT, Int.reduceLE, Int.reduceToNat, Int.reduceNeg, Int.reduceBNe, s0, g99, b99, s1, s2, s3, s4, s10, s11, bne_self_eq_false, subI hm (show m < 4611686018427387904 by omega)]
      refine askX2 (swap_spec cur (m - i) m i g caps (by omega) (by omega) (by omega)) (by simp -implicitDefEqProofs only [↓aP, aQ, ↓reduceIte, Nat.reduceEqDiff, Nat.reduceAdd, Nat.reduceSub, Nat.reduceMul, Nat.reduceLT, Nat.reduceLeDiff, reduceCtorEq, Nat.reduceBEq, forall_const, implies_true, exists_const, ne_eq, Int.reduceAdd, Int.reduceSub, Int.reduceMul, Int.reduceBEq, Int.reduceEq, Int.reduceLT, Int.reduceLE, Int.reduceToNat, Int.reduceNeg, Int.reduceBNe]) ?_
      simp -implicitDefEqProofs only [↓aP, aQ, ↓reduceIte, Nat.reduceEqDiff, Nat.reduceAdd, Nat.reduceSub, Nat.reduceMul, Nat.reduceLT, Nat.reduceLeDiff, reduceCtorEq, Nat.reduceBEq, forall_const, implies_true, exists_const, ne_eq, Int.reduceAdd, Int.reduceSub, Int.reduceMul, Int.reduceBEq, Int.reduceEq, Int.reduceLT, Int.reduceLE, Int.reduceToNat, Int.reduceNeg, Int.reduceBNe, s0, g99, b99, s1, s2, s3, s4, s10, s11, XR.lb, finX, boxC, lbX, rot_eq hm (show m + i ≤ cur.length by omega), hR]
    have d1 : ((i : Int) != (j : Int)) = true := by simp; omega
    by_cases hgt : j < i
    · have d2 : decide ((j : Int) < (i : Int)) = true := by simp; omega
      simp -implicitDefEqProofs only [↓aP, aQ, ↓reduceIte, Nat.reduceEqDiff, Nat.reduceAdd, Nat.reduceSub, Nat.reduceMul, Nat.reduceLT, Nat.reduceLeDiff, reduceCtorEq, Nat.reduceBEq, forall_const, implies_true, exists_const, ne_eq, Int.reduceAdd, Int.reduceSub, Int.reduceMul, Int.reduceBEq, Int.reduceEq, Int.reduceLT, Int.reduceLE, Int.reduceToNat, Int.reduceNeg, Int.reduceBNe, s0, g99, b99, s1, s2, s3, s4, s10, s11, d1, d2, subI hm (show m < 4611686018427387904 by omega)]
      refine askX2 (swap_spec cur (m - i) m j g caps (by omega) (by omega) (by omega)) (by simp -implicitDefEqProofs only [↓aP, aQ, ↓reduceIte, Nat.reduceEqDiff, Nat.reduceAdd, Nat.reduceSub, Nat.reduceMul, Nat.reduceLT, Nat.reduceLeDiff, reduceCtorEq, Nat.reduceBEq, forall_const, implies_true, exists_const, ne_eq, Int.reduceAdd, Int.reduceSub, Int.reduceMul, Int.reduceBEq, Int.reduceEq, Int.reduceLT, Int.reduceLE, Int.reduceToNat, Int.reduceNeg, Int.reduceBNe]) ?_
      simp -implicitDefEqProofs only [↓aP, aQ, ↓reduceIte, Nat.reduceEqDiff, Nat.reduceAdd, Nat.reduceSub, Nat.reduceMul, Nat.reduceLT, Nat.reduceLeDiff, reduceCtorEq, Nat.reduceBEq, forall_const, implies_true, exists_const, ne_eq, Int.reduceAdd, Int.reduceSub, Int.reduceMul, Int.reduceBEq, Int.reduceEq, Int.reduceLT, Int.reduceLE, Int.reduceToNat, Int.reduceNeg, Int.reduceBNe, s0, g99, b99, s1, s2, s3, s4, s10, s11, XR.lb, subI (show j ≤ i by omega) (show i < 4611686018427387904 by omega)]
      refine ⟨i - j + j, by omega, i - j, j, swr (m - i) m j cur, by omega, hj, by omega, hb, rfl, ?_, ?_, ?_⟩
      · rw [swr_len (by omega) (by omega)]; exact hcl
      · rw [rot_gt hgt hm (by omega)]; exact hR
      · simp -implicitDefEqProofs only [↓aP, aQ, ↓reduceIte, Nat.reduceEqDiff, Nat.reduceAdd, Nat.reduceSub, Nat.reduceMul, Nat.reduceLT, Nat.reduceLeDiff, reduceCtorEq, Nat.reduceBEq, forall_const, implies_true, exists_const, ne_eq, Int.reduceAdd, Int.reduceSub, Int.reduceMul, Int.reduceBEq, Int.reduceEq, Int.reduceLT, Int.reduceLE, Int.reduceToNat, Int.reduceNeg, Int.reduceBNe, s0, g99, b99, s1, s2, s3, s4, s10, s11]
    · have d2 : decide ((j : Int) < (i : Int)) = false := by simp; omega
      simp -implicitDefEqProofs only [↓aP, aQ, ↓reduceIte, Nat.reduceEqDiff, Nat.reduceAdd, Nat.reduceSub, Nat.reduceMul, Nat.reduceLT, Nat.reduceLeDiff, reduceCtorEq, Nat.reduceBEq, forall_const, implies_true, exists_const, ne_eq, Int.reduceAdd, Int.reduceSub, Int.reduceMul, Int.reduceBEq, Int.reduceEq, Int.reduceLT, Int.reduceLE, Int.reduceToNat, Int.reduceNeg, Int.reduceBNe, s0, g99, b99, s1, s2, s3, s4, s10, s11, d1, d2, subI hm (show m < 4611686018427387904 by omega), natI (show m + j < 4611686018427387904 by omega), subI (show i ≤ m + j by omega) (show m + j < 4611686018427387904 by omega)]
      refine askX2 (swap_spec cur (m - i) (m + j - i) i g caps (by omega) (by omega) (by omega)) (by simp -implicitDefEqProofs only [↓aP, aQ, ↓reduceIte, Nat.reduceEqDiff, Nat.reduceAdd, Nat.reduceSub, Nat.reduceMul, Nat.reduceLT, Nat.reduceLeDiff, reduceCtorEq, Nat.reduceBEq, forall_const, implies_true, exists_const, ne_eq, Int.reduceAdd, Int.reduceSub, Int.reduceMul, Int.reduceBEq, Int.reduceEq, Int.reduceLT, Int.reduceLE, Int.reduceToNat, Int.reduceNeg, Int.reduceBNe]) ?_
      simp -implicitDefEqProofs only [↓aP, aQ, ↓reduceIte, Nat.reduceEqDiff, Nat.reduceAdd, Nat.reduceSub, Nat.reduceMul, Nat.reduceLT, Nat.reduceLeDiff, reduceCtorEq, Nat.reduceBEq, forall_const, implies_true, exists_const, ne_eq, Int.reduceAdd, Int.reduceSub, Int.reduceMul, Int.reduceBEq, Int.reduceEq, Int.reduceLT, Int.reduceLE, Int.reduceToNat, Int.reduceNeg, Int.reduceBNe, s0, g99, b99, s1, s2, s3, s4, s10, s11, XR.lb, subI (show i ≤ j by omega) (show j < 4611686018427387904 by omega)]
      refine ⟨i + (j - i), by omega, i, j - i, swr (m - i) (m + j - i) i cur, hi, by omega, hm, by omega, rfl, ?_, ?_, ?_⟩
      · rw [swr_len (by omega) (by omega)]; exact hcl
      · rw [rot_lt (show i < j by omega) hm (by omega)]; exact hR
      · simp -implicitDefEqProofs only [↓aP, aQ, ↓reduceIte, Nat.reduceEqDiff, Nat.reduceAdd, Nat.reduceSub, Nat.reduceMul, Nat.reduceLT, Nat.reduceLeDiff, reduceCtorEq, Nat.reduceBEq, forall_const, implies_true, exists_const, ne_eq, Int.reduceAdd, Int.reduceSub, Int.reduceMul, Int.reduceBEq, Int.reduceEq, Int.reduceLT, Int.reduceLE, Int.reduceToNat, Int.reduceNeg, Int.reduceBNe, s0, g99, b99, s1, s2, s3, s4, s10, s11]
/-- how events are compared -/
structure CmpF (g : Nat) (caps : List SC) (lt : Ev → Ev → Bool) : Prop where
  call : callable Try.prog g = true
  swo : Swo lt
  ask : ∀ x y, ∃ c, Spec Try.prog g (.agg (encEv x) :: .agg (encEv y) :: caps.map TV.c) (.val (rI c)) ∧ decide (c < 0) = lt x y
theorem getL {l : List Ev} {i : Nat} (h : i < l.length) {x : Ev} (e : l[i] = x) : l[i]? = some x := by rw [List.getElem?_eq_getElem h, e]
theorem swapped {A B : List Ev} {x y : Ev} {i : Nat} (hi : i = A.length) : ((A ++ y :: x :: B).set (i + 1) y).set i x = A ++ x :: y :: B := by subst hi; exact sub_one
theorem swapped2 {A B : List Ev} {x y : Ev} {i : Nat} (hi : i = A.length) : ((A ++ y :: x :: B).set i x).set (i + 1) y = A ++ x :: y :: B := by subst hi; exact sub_two


set_option maxHeartbeats 2000000 in
theorem isort_spec (l : List Ev) (a b : Nat) {g : Nat} {caps : List SC} {lt : Ev → Ev → Bool} (hc : CmpF g caps lt) (h1 : a ≤ b) (h2 : b ≤ l.length) (hl : l.length < 1000000) :
    SpecX Try.prog 48 ⟨true, tEv, 11, l.map encEv, none, (ss lt a b l).map encEv, some (.tup [])⟩ [rI a, rI b, .c (.fn g caps)] := by
  refine spec_xr mixed fn48 99 (r := .tup []) rfl rfl (by simp) rfl (by simp [ss_len h1 h2]) (by simp) ?_
  unfold ac48
  have hcb := hc.call
  simp -implicitDefEqProofs only [↓aP, aQ, ↓reduceIte, Nat.reduceEqDiff, Nat.reduceAdd, Nat.reduceSub, Nat.reduceMul, Nat.reduceLT, Nat.reduceLeDiff, reduceCtorEq, Nat.reduceBEq, forall_const, implies_true, exists_const, ne_eq, Int.reduceAdd, Int.reduceSub, Int.reduceMul, Int.reduceBEq, Int.reduceEq, Int.reduceLT, Int.reduceLE, Int.reduceToNat, Int.reduceNeg, Int.reduceBNe, initX_slot, initX_gen, initX_blk, XR.lb0, XR.at0, wrapS (show a < 4611686018427387904 by omega)]
  refine loopA (fun n σ => ∃ i, a + 1 ≤ i ∧ (i ≤ b ∨ i = a + 1) ∧ i + n = b + 1 + a ∧ σ.slot 0 = .c (.own 99 0) ∧ σ.h.gen 99 = 0 ∧ σ.h.blk 99 = .row tEv 11 ((ss lt a i l).map encEv) ∧ σ.slot 1 = vI a ∧ σ.slot 2 = vI b ∧ σ.slot 3 = .c (.s (.fn g caps)) ∧ σ.slot 8 = vI i) (b + 1 + a - (a + 1)) ?_ ?_
  · refine ⟨a + 1, by omega, by omega, by omega, ?_⟩
    simp -implicitDefEqProofs only [↓aP, aQ, ↓reduceIte, Nat.reduceEqDiff, Nat.reduceAdd, Nat.reduceSub, Nat.reduceMul, Nat.reduceLT, Nat.reduceLeDiff, reduceCtorEq, Nat.reduceBEq, forall_const, implies_true, exists_const, ne_eq, Int.reduceAdd, Int.reduceSub, Int.reduceMul, Int.reduceBEq, Int.reduceEq, Int.reduceLT, Int.reduceLE, Int.reduceToNat, Int.reduceNeg, Int.reduceBNe, initX_slot, initX_gen, initX_blk, XR.lb0, XR.at0, ss_one (lt := lt) (l := l) (show a + 1 ≤ a + 1 by omega) (show a ≤ a + 1 by omega)]
  · rintro n σ ⟨i, hi, hib, hn, s0, g99, b99, s1, s2, s3, s8⟩
    by_cases hlt : i < b
    · have d1 : decide ((i : Int) < (b : Int)) = true := by simp; omega
      have hil : i < l.length := by omega
      simp -implicitDefEqProofs only [↓aP, aQ, ↓reduceIte, Nat.reduceEqDiff, Nat.reduceAdd, Nat.reduceSub, Nat.reduceMul, Nat.reduceLT, Nat.reduceLeDiff, reduceCtorEq, Nat.reduceBEq, forall_const, implies_true, exists_const, ne_eq, Int.reduceAdd, Int.reduceSub, Int.reduceMul, Int.reduceBEq, Int.reduceEq, Int.reduceLT, Int.reduceLE, Int.reduceToNat, Int.reduceNeg, Int.reduceBNe, s0, g99, b99, s1, s2, s3, s8, d1]
      refine loopA (fun k' σ => ∃ k, k = k' ∧ k ≤ i - a ∧ (∀ y ∈ (stbl lt (seg a i l)).drop k, lt l[i] y = true) ∧ σ.slot 0 = .c (.own 99 0) ∧ σ.h.gen 99 = 0 ∧ σ.h.blk 99 = .row tEv 11 ((ins lt a i k l l[i]).map encEv) ∧ σ.slot 1 = vI a ∧ σ.slot 2 = vI b ∧ σ.slot 3 = .c (.s (.fn g caps)) ∧ σ.slot 8 = vI i ∧ σ.slot 9 = .c (.s (.pv (.int .i64 ((a + k : Nat) : Int))))) (i - a) ?_ ?_
      · refine ⟨i - a, rfl, Nat.le_refl _, ?_, ?_⟩
        · intro y hy
          rw [List.drop_eq_nil_of_le (by rw [stbl_len, seg_len (by omega)]; omega)] at hy
          simp at hy
        · rw [ins_start (lt := lt) (show a ≤ i by omega) hil] at b99
          simp -implicitDefEqProofs only [↓aP, aQ, ↓reduceIte, Nat.reduceEqDiff, Nat.reduceAdd, Nat.reduceSub, Nat.reduceMul, Nat.reduceLT, Nat.reduceLeDiff, reduceCtorEq, Nat.reduceBEq, forall_const, implies_true, exists_const, ne_eq, Int.reduceAdd, Int.reduceSub, Int.reduceMul, Int.reduceBEq, Int.reduceEq, Int.reduceLT, Int.reduceLE, Int.reduceToNat, Int.reduceNeg, Int.reduceBNe, s0, g99, b99, s1, s2, s3, s8, show a + (i - a) = i by omega]
      · clear s0 g99 b99 s1 s2 s3 s8
        rintro k' σ ⟨k, rfl, hk, hall, s0, g99, b99, s1, s2, s3, s8, s9⟩
        have hsl : (stbl lt (seg a i l)).length = i - a := by rw [stbl_len, seg_len (by omega)]
        have done : (k = 0 ∨ ∃ hk : k - 1 < (stbl lt (seg a i l)).length, 0 < k ∧ lt l[i] ((stbl lt (seg a i l))[k - 1]'hk) = false) → ins lt a i k l l[i] = ss lt a (i + 1) l := fun h => ins_end hc.swo (by omega) hil h hall
        cases k with
        | zero =>
          have d2 : decide ((a : Int) < (a : Int)) = false := by simp
          rw [done (.inl rfl)] at b99
          simp -implicitDefEqProofs only [↓aP, aQ, ↓reduceIte, Nat.reduceEqDiff, Nat.reduceAdd, Nat.reduceSub, Nat.reduceMul, Nat.reduceLT, Nat.reduceLeDiff, reduceCtorEq, Nat.reduceBEq, forall_const, implies_true, exists_const, ne_eq, Int.reduceAdd, Int.reduceSub, Int.reduceMul, Int.reduceBEq, Int.reduceEq, Int.reduceLT, Int.reduceLE, Int.reduceToNat, Int.reduceNeg, Int.reduceBNe, s0, g99, b99, s1, s2, s3, s8, s9, d2, wrapS (show i < 4611686018427387904 by omega)]
          refine ⟨by decide +kernel, n - 1, by omega, i + 1, by omega, by omega, by omega, ?_⟩
          simp -implicitDefEqProofs only [↓aP, aQ, ↓reduceIte, Nat.reduceEqDiff, Nat.reduceAdd, Nat.reduceSub, Nat.reduceMul, Nat.reduceLT, Nat.reduceLeDiff, reduceCtorEq, Nat.reduceBEq, forall_const, implies_true, exists_const, ne_eq, Int.reduceAdd, Int.reduceSub, Int.reduceMul, Int.reduceBEq, Int.reduceEq, Int.reduceLT, Int.reduceLE, Int.reduceToNat, Int.reduceNeg, Int.reduceBNe, s0, g99, b99, s1, s2, s3, s8, s9]
        | succ k =>
          obtain ⟨A, B, y, hy, hA, e1, e2⟩ := ins_step (lt := lt) (x := l[i]) hil (show a ≤ i by omega) (show k < (stbl lt (seg a i l)).length by omega)
          have d2 : decide ((a : Int) < ((a + (k + 1) : Nat) : Int)) = true := by simp; omega
          have w1 : IntKind.i64.wrap (((a + (k + 1) : Nat) : Int) - 1) = ((a + k : Nat) : Int) := by rw [wrapI (by omega)]; omega
          have hlen : (A ++ y :: l[i] :: B).length = l.length := by rw [← e1, ins_len (by omega) hil (by omega)]
          have q1 : a + (k + 1) < (A ++ y :: l[i] :: B).length := by omega
          have q0 : a + k < (A ++ y :: l[i] :: B).length := by omega
          have v1 : (A ++ y :: l[i] :: B)[a + (k + 1)] = l[i] := at_1 (by omega) _
          have v0 : (A ++ y :: l[i] :: B)[a + k] = y := at_0 (by omega) _
          rw [e1] at b99
          simp -implicitDefEqProofs only [↓aP, aQ, ↓reduceIte, Nat.reduceEqDiff, Nat.reduceAdd, Nat.reduceSub, Nat.reduceMul, Nat.reduceLT, Nat.reduceLeDiff, reduceCtorEq, Nat.reduceBEq, forall_const, implies_true, exists_const, ne_eq, Int.reduceAdd, Int.reduceSub, Int.reduceMul, Int.reduceBEq, Int.reduceEq, Int.reduceLT, Int.reduceLE, Int.reduceToNat, Int.reduceNeg, Int.reduceBNe, s0, g99, b99, s1, s2, s3, s8, s9, d2, w1, askIdx_map, q1, q0, hcb, v1, v0, encEv]
          obtain ⟨c, hs, hcl⟩ := hc.ask l[i] y
          refine askV hs ?_
          simp -implicitDefEqProofs only [↓aP, aQ, ↓reduceIte, Nat.reduceEqDiff, Nat.reduceAdd, Nat.reduceSub, Nat.reduceMul, Nat.reduceLT, Nat.reduceLeDiff, reduceCtorEq, Nat.reduceBEq, forall_const, implies_true, exists_const, ne_eq, Int.reduceAdd, Int.reduceSub, Int.reduceMul, Int.reduceBEq, Int.reduceEq, Int.reduceLT, Int.reduceLE, Int.reduceToNat, Int.reduceNeg, Int.reduceBNe, hcl]
          cases hxy : lt l[i] y
          · have hD := done (.inr ⟨by omega, by omega, by rw [← hxy, hy]; rfl⟩)
            rw [← e1, hD] at b99
            simp -implicitDefEqProofs only [↓aP, aQ, ↓reduceIte, Nat.reduceEqDiff, Nat.reduceAdd, Nat.reduceSub, Nat.reduceMul, Nat.reduceLT, Nat.reduceLeDiff, reduceCtorEq, Nat.reduceBEq, forall_const, implies_true, exists_const, ne_eq, Int.reduceAdd, Int.reduceSub, Int.reduceMul, Int.reduceBEq, Int.reduceEq, Int.reduceLT, Int.reduceLE, Int.reduceToNat, Int.reduceNeg, Int.reduceBNe, s0, g99, b99, s1, s2, s3, s8, s9, hxy, wrapS (show i < 4611686018427387904 by omega)]
            refine ⟨by decide +kernel, n - 1, by omega, i + 1, by omega, by omega, by omega, ?_⟩
            simp -implicitDefEqProofs only [↓aP, aQ, ↓reduceIte, Nat.reduceEqDiff, Nat.reduceAdd, Nat.reduceSub, Nat.reduceMul, Nat.reduceLT, Nat.reduceLeDiff, reduceCtorEq, Nat.reduceBEq, forall_const, implies_true, exists_const, ne_eq, Int.reduceAdd, Int.reduceSub, Int.reduceMul, Int.reduceBEq, Int.reduceEq, Int.reduceLT, Int.reduceLE, Int.reduceToNat, Int.reduceNeg, Int.reduceBNe, s0, g99, b99, s1, s2, s3, s8, s9]
          · have q2 : a + k < ((A ++ y :: l[i] :: B).set (a + (k + 1)) y).length := by rw [List.length_set]; exact q0
            have hsw : ((A ++ y :: l[i] :: B).set (a + (k + 1)) y).set (a + k) l[i] = A ++ l[i] :: y :: B := swapped (i := a + k) (by omega)
            simp -implicitDefEqProofs only [↓aP, aQ, ↓reduceIte, Nat.reduceEqDiff, Nat.reduceAdd, Nat.reduceSub, Nat.reduceMul, Nat.reduceLT, Nat.reduceLeDiff, reduceCtorEq, Nat.reduceBEq, forall_const, implies_true, exists_const, ne_eq, Int.reduceAdd, Int.reduceSub, Int.reduceMul, Int.reduceBEq, Int.reduceEq, Int.reduceLT, Int.reduceLE, Int.reduceToNat, Int.reduceNeg, Int.reduceBNe, s0, g99, b99, s1, s2, s3, s8, s9, hxy, w1, askIdx_map, q1, q0, v1, v0, q2, encEv, set_ev, List.length_map]
            rw [hsw, ← e2]
            refine ⟨by decide +kernel, by decide +kernel, k, by omega, k, rfl, by omega, ?_, ?_⟩
            · intro z hz
              rw [List.drop_eq_getElem_cons (by omega)] at hz
              rcases List.mem_cons.1 hz with rfl | hz
              · rw [← hy]; exact hxy
              · exact hall z hz
            · simp -implicitDefEqProofs only [↓aP, aQ, ↓reduceIte, Nat.reduceEqDiff, Nat.reduceAdd, Nat.reduceSub, Nat.reduceMul, Nat.reduceLT, Nat.reduceLeDiff, reduceCtorEq, Nat.reduceBEq, forall_const, implies_true, exists_const, ne_eq, Int.reduceAdd, Int.reduceSub, Int.reduceMul, Int.reduceBEq, Int.reduceEq, Int.reduceLT, Int.reduceLE, Int.reduceToNat, Int.reduceNeg, Int.reduceBNe, s0, g99, b99, s1, s2, s3, s8, s9]
    · have d1 : decide ((i : Int) < (b : Int)) = false := by simp; omega
      simp -implicitDefEqProofs only [↓aP, aQ, ↓reduceIte, Nat.reduceEqDiff, Nat.reduceAdd, Nat.reduceSub, Nat.reduceMul, Nat.reduceLT, Nat.reduceLeDiff, reduceCtorEq, Nat.reduceBEq, forall_const, implies_true, exists_const, ne_eq, Int.reduceAdd, Int.reduceSub, Int.reduceMul, Int.reduceBEq, Int.reduceEq, Int.reduceLT, Int.reduceLE, Int.reduceToNat, Int.reduceNeg, Int.reduceBNe, s0, g99, b99, s1, s2, s3, s8, d1, finX, boxC, lbX]
      rcases hib with h | h
      · rw [show i = b by omega]
      · by_cases e : i = b
        · rw [e]
        · have e2 : b = a := by omega
          rw [ss_one (l := l) (lt := lt) (show i ≤ a + 1 by omega) (by omega), ss_one (l := l) (lt := lt) (show b ≤ a + 1 by omega) h1]
end Go.Proofs.Ytbpipdgkkdifgaa
