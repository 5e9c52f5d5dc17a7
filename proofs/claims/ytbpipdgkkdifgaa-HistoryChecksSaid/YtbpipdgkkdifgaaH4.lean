/- layer 21: stable sorting of events, by the machine: merging in place. -/
import Derived.Test.YtbpipdgkkdifgaaH3
namespace Go.Proofs.Ytbpipdgkkdifgaa
open Go.RowKit Ok Ss Hi
set_option linter.unusedVariables false
set_option linter.unusedSimpArgs false
/-- by place -/
def ltAt (lt : Ev → Ev → Bool) (l : List Ev) (i j : Nat) : Bool := lt (l.getD i default) (l.getD j default)
theorem ltAt_eq {lt : Ev → Ev → Bool} {l : List Ev} {i j : Nat} (hi : i < l.length) (hj : j < l.length) : ltAt lt l i j = lt l[i] l[j] := by
  unfold ltAt
  rw [List.getD_eq_getElem?_getD, List.getElem?_eq_getElem hi, List.getD_eq_getElem?_getD, List.getElem?_eq_getElem hj]
  rfl
theorem half_rng {i j : Nat} (h : i < j) : i ≤ (i + j) / 2 ∧ (i + j) / 2 < j := by omega
/-- the element at a, moved behind those up to k -/
def up1 (a k : Nat) (l : List Ev) (x : Ev) : List Ev := (l.take a ++ seg (a + 1) (k + 1) l) ++ x :: l.drop (k + 1)
def dn1 (k m : Nat) (l : List Ev) (x : Ev) : List Ev := l.take k ++ x :: (seg k m l ++ l.drop (m + 1))
theorem up1_0 {a : Nat} {l : List Ev} (h : a < l.length) : up1 a a l l[a] = l := by
  unfold up1 seg
  simp
theorem dn1_0 {m : Nat} {l : List Ev} (h : m < l.length) : dn1 m m l l[m] = l := by
  unfold dn1 seg
  simp
theorem up1_step {a k : Nat} {l : List Ev} {x : Ev} (h1 : a ≤ k) (h2 : k + 1 < l.length) : ∃ A B, A.length = k ∧ up1 a k l x = A ++ x :: l[k + 1] :: B ∧ up1 a (k + 1) l x = A ++ l[k + 1] :: x :: B := by
  refine ⟨l.take a ++ seg (a + 1) (k + 1) l, l.drop (k + 2), ?_, ?_, ?_⟩
  · rw [List.length_append, seg_len (by omega)]; simp; omega
  · unfold up1
    rw [List.drop_eq_getElem_cons h2]
  · unfold up1
    have : seg (a + 1) (k + 1 + 1) l = seg (a + 1) (k + 1) l ++ [l[k + 1]] := by
      rw [seg_split (a := a + 1) (m := k + 1) (b := k + 1 + 1) (by omega) (by omega)]
      congr 1
      unfold seg
      rw [show k + 1 + 1 - (k + 1) = 1 by omega, List.drop_eq_getElem_cons h2]
      rfl
    rw [this]
    simp only [List.append_assoc, List.cons_append, List.nil_append]
theorem dn1_step {k m : Nat} {l : List Ev} {x : Ev} (h1 : k < m) (h2 : m < l.length) : ∃ A B, A.length = k ∧ dn1 (k + 1) m l x = A ++ l[k] :: x :: B ∧ dn1 k m l x = A ++ x :: l[k] :: B := by
  refine ⟨l.take k, seg (k + 1) m l ++ l.drop (m + 1), by simp; omega, ?_, ?_⟩
  · unfold dn1
    rw [List.take_succ_eq_append_getElem (by omega)]
    simp only [List.append_assoc, List.cons_append, List.nil_append]
  · unfold dn1
    have : seg k m l = l[k] :: seg (k + 1) m l := by
      rw [seg_split (a := k) (m := k + 1) (b := m) (by omega) (by omega)]
      have : seg k (k + 1) l = [l[k]] := by
        unfold seg
        rw [show k + 1 - k = 1 by omega, List.drop_eq_getElem_cons (by omega)]
        rfl
      rw [this]; rfl
    rw [this]
    rfl
theorem up1_len {a k : Nat} {l : List Ev} {x : Ev} (h1 : a ≤ k) (h2 : k < l.length) : (up1 a k l x).length = l.length := by
  unfold up1
  simp only [List.length_append, List.length_cons, seg_len (show k + 1 ≤ l.length by omega), List.length_take, List.length_drop]
  omega
theorem dn1_len {m k : Nat} {l : List Ev} {x : Ev} (h1 : k ≤ m) (h2 : m < l.length) : (dn1 k m l x).length = l.length := by
  unfold dn1
  simp only [List.length_append, List.length_cons, seg_len (show m ≤ l.length by omega), List.length_take, List.length_drop]
  omega
def SymOk (g : Nat) (caps : List SC) (lt : Ev → Ev → Bool) (l : List Ev) (a m b : Nat) : Prop :=
  SpecX Try.prog 49 ⟨true, tEv, 11, l.map encEv, none, (ss lt a b l).map encEv, some (.tup [])⟩ [rI a, rI m, rI b, .c (.fn g caps)]
abbrev acSym : ACode := ac49


set_option maxHeartbeats 2000000 in
theorem sym_first (l : List Ev) (a b : Nat) {g : Nat} {caps : List SC} {lt : Ev → Ev → Bool} (hc : CmpF g caps lt) (h2 : a + 1 < b) (h3 : b ≤ l.length) (hl : l.length < 1000000) (hr : Srtd lt (seg (a + 1) b l)) : SymOk g caps lt l a (a + 1) b := by
  refine spec_xr mixed fn49 99 (r := .tup []) rfl rfl (by simp) rfl (by simp [ss_len (show a ≤ b by omega) h3]) (by simp) ?_
  unfold ac49
  have hcb := hc.call
  have hal : a < l.length := by omega
  have w1 : IntKind.i64.wrap (((a + 1 : Nat) : Int) - (a : Int)) = 1 := by rw [wrapI (by omega)]; omega
  simp -implicitDefEqProofs only [↓aP, aQ, ↓reduceIte, Nat.reduceEqDiff, Nat.reduceAdd, Nat.reduceSub, Nat.reduceMul, Nat.reduceLT, Nat.reduceLeDiff, reduceCtorEq, Nat.reduceBEq, forall_const, implies_true, exists_const, ne_eq, Int.reduceAdd, Int.reduceSub, Int.reduceMul, Int.reduceBEq, Int.reduceEq, Int.reduceLT, Int.reduceLE, Int.reduceToNat, Int.reduceNeg, Int.reduceBNe, initX_slot, initX_gen, initX_blk, XR.lb0, XR.at0, w1]
  refine loopA (fun n σ => ∃ i j : Nat, i + n = j ∧ Cut (fun k => ltAt lt l k a) (a + 1) b i j ∧ σ.slot 0 = .c (.own 99 0) ∧ σ.h.gen 99 = 0 ∧ σ.h.blk 99 = .row tEv 11 (l.map encEv) ∧ σ.slot 1 = vI a ∧ σ.slot 4 = .c (.s (.fn g caps)) ∧ σ.slot 10 = vI i ∧ σ.slot 11 = vI j) (b - (a + 1)) ?_ ?_
  · refine ⟨a + 1, b, by omega, Cut.start (by omega), ?_⟩
    simp -implicitDefEqProofs only [↓aP, aQ, ↓reduceIte, Nat.reduceEqDiff, Nat.reduceAdd, Nat.reduceSub, Nat.reduceMul, Nat.reduceLT, Nat.reduceLeDiff, reduceCtorEq, Nat.reduceBEq, forall_const, implies_true, exists_const, ne_eq, Int.reduceAdd, Int.reduceSub, Int.reduceMul, Int.reduceBEq, Int.reduceEq, Int.reduceLT, Int.reduceLE, Int.reduceToNat, Int.reduceNeg, Int.reduceBNe, initX_slot, initX_gen, initX_blk, XR.lb0, XR.at0]
  · rintro n σ ⟨i, j, hn, hcut, s0, g99, b99, s1, s4, s10, s11⟩
    have c1 := hcut.1
    have c2 := hcut.2.1
    have c3 := hcut.2.2.1
    by_cases hij : i < j
    · obtain ⟨h, hh⟩ : ∃ h, h = (i + j) / 2 := ⟨_, rfl⟩
      have hhr := half_rng hij
      rw [← hh] at hhr
      have hhl : h < l.length := by omega
      simp -implicitDefEqProofs only [↓aP, aQ, ↓reduceIte, Nat.reduceEqDiff, Nat.reduceAdd, Nat.reduceSub, Nat.reduceMul, Nat.reduceLT, Nat.reduceLeDiff, reduceCtorEq, Nat.reduceBEq, forall_const, implies_true, exists_const, ne_eq, Int.reduceAdd, Int.reduceSub, Int.reduceMul, Int.reduceBEq, Int.reduceEq, Int.reduceLT, Int.reduceLE, Int.reduceToNat, Int.reduceNeg, Int.reduceBNe, s0, g99, b99, s1, s4, s10, s11, show decide ((i : Int) < (j : Int)) = true by simp; omega, half_eq (show i + j < 4611686018427387904 by omega), ← hh, askIdx_map, hhl, hal, hcb, encEv]
      obtain ⟨c, hs, hcl⟩ := hc.ask l[h] l[a]
      refine askV hs ?_
      simp -implicitDefEqProofs only [↓aP, aQ, ↓reduceIte, Nat.reduceEqDiff, Nat.reduceAdd, Nat.reduceSub, Nat.reduceMul, Nat.reduceLT, Nat.reduceLeDiff, reduceCtorEq, Nat.reduceBEq, forall_const, implies_true, exists_const, ne_eq, Int.reduceAdd, Int.reduceSub, Int.reduceMul, Int.reduceBEq, Int.reduceEq, Int.reduceLT, Int.reduceLE, Int.reduceToNat, Int.reduceNeg, Int.reduceBNe, hcl]
      refine ⟨by decide +kernel, ?_⟩
      have hm : ∀ k k', a + 1 ≤ k → k ≤ k' → k' < b → ltAt lt l k' a = true → ltAt lt l k a = true := by
        intro k k' q1 q2 q3 q4
        rw [ltAt_eq (by omega) (by omega)] at q4 ⊢
        by_cases e : k = k'
        · subst e; exact q4
        · exact hc.swo.lelt (srtd_at hr h3 q1 (by omega) q3) q4
      cases hp : lt l[h] l[a]
      · simp -implicitDefEqProofs only [↓aP, aQ, ↓reduceIte, Nat.reduceEqDiff, Nat.reduceAdd, Nat.reduceSub, Nat.reduceMul, Nat.reduceLT, Nat.reduceLeDiff, reduceCtorEq, Nat.reduceBEq, forall_const, implies_true, exists_const, ne_eq, Int.reduceAdd, Int.reduceSub, Int.reduceMul, Int.reduceBEq, Int.reduceEq, Int.reduceLT, Int.reduceLE, Int.reduceToNat, Int.reduceNeg, Int.reduceBNe, s0, g99, b99, s1, s4, s10, s11, hp]
        refine ⟨h - i, by omega, i, h, by omega, hcut.down hm hhr.1 hhr.2 (by show ltAt lt l h a = false; rw [ltAt_eq hhl hal]; exact hp), ?_⟩
        simp -implicitDefEqProofs only [↓aP, aQ, ↓reduceIte, Nat.reduceEqDiff, Nat.reduceAdd, Nat.reduceSub, Nat.reduceMul, Nat.reduceLT, Nat.reduceLeDiff, reduceCtorEq, Nat.reduceBEq, forall_const, implies_true, exists_const, ne_eq, Int.reduceAdd, Int.reduceSub, Int.reduceMul, Int.reduceBEq, Int.reduceEq, Int.reduceLT, Int.reduceLE, Int.reduceToNat, Int.reduceNeg, Int.reduceBNe, s0, g99, b99, s1, s4, s10, s11]
      · simp -implicitDefEqProofs only [↓aP, aQ, ↓reduceIte, Nat.reduceEqDiff, Nat.reduceAdd, Nat.reduceSub, Nat.reduceMul, Nat.reduceLT, Nat.reduceLeDiff, reduceCtorEq, Nat.reduceBEq, forall_const, implies_true, exists_const, ne_eq, Int.reduceAdd, Int.reduceSub, Int.reduceMul, Int.reduceBEq, Int.reduceEq, Int.reduceLT, Int.reduceLE, Int.reduceToNat, Int.reduceNeg, Int.reduceBNe, s0, g99, b99, s1, s4, s10, s11, hp, wrapS (show h < 4611686018427387904 by omega)]
        refine ⟨j - (h + 1), by omega, h + 1, j, by omega, hcut.up hm hhr.1 hhr.2 (by show ltAt lt l h a = true; rw [ltAt_eq hhl hal]; exact hp), ?_⟩
        simp -implicitDefEqProofs only [↓aP, aQ, ↓reduceIte, Nat.reduceEqDiff, Nat.reduceAdd, Nat.reduceSub, Nat.reduceMul, Nat.reduceLT, Nat.reduceLeDiff, reduceCtorEq, Nat.reduceBEq, forall_const, implies_true, exists_const, ne_eq, Int.reduceAdd, Int.reduceSub, Int.reduceMul, Int.reduceBEq, Int.reduceEq, Int.reduceLT, Int.reduceLE, Int.reduceToNat, Int.reduceNeg, Int.reduceBNe, s0, g99, b99, s1, s4, s10, s11]
    · have e : j = i := by omega
      subst e
      have hil : j - 1 < l.length := by omega
      have hR := mrg_first hc.swo (l := l) (a := a) (b := b) (i := j) c1 c3 h3 hr (fun k hk q1 q2 => by have := hcut.2.2.2.1 k q1 q2; simp only [ltAt_eq hk hal] at this; exact this) (fun k hk q1 q2 => by have := hcut.2.2.2.2 k q1 q2; simp only [ltAt_eq hk hal] at this; exact this)
      have hR2 : up1 a (j - 1) l l[a] = ss lt a b l := by
        rw [hR]
        unfold up1
        rw [show j - 1 + 1 = j by omega]
        have : l.drop j = seg j b l ++ l.drop b := by
          have := split3 (l := l.drop j) (a := 0) (b := b - j) (by omega)
          rw [List.drop_drop, show j + (b - j) = b by omega] at this
          unfold seg at this ⊢
          simpa using this
        rw [this]
        simp only [List.append_assoc, List.cons_append, List.nil_append]
      have w2 : IntKind.i64.wrap ((j : Int) - 1) = ((j - 1 : Nat) : Int) := by rw [wrapI (by omega)]; omega
      simp -implicitDefEqProofs only [↓aP, aQ, ↓reduceIte, Nat.reduceEqDiff, Nat.reduceAdd, Nat.reduceSub, Nat.reduceMul, Nat.reduceLT, Nat.reduceLeDiff, reduceCtorEq, Nat.reduceBEq, forall_const, implies_true, exists_const, ne_eq, Int.reduceAdd, Int.reduceSub, Int.reduceMul, Int.reduceBEq, Int.reduceEq, Int.reduceLT, Int.reduceLE, Int.reduceToNat, Int.reduceNeg, Int.reduceBNe, s0, g99, b99, s1, s4, s10, s11, show decide ((j : Int) < (j : Int)) = false by simp]
      refine loopA (fun n σ => ∃ (k i : Nat), i = j ∧ a ≤ k ∧ k + n = i - 1 ∧ σ.slot 0 = .c (.own 99 0) ∧ σ.h.gen 99 = 0 ∧ σ.h.blk 99 = .row tEv 11 ((up1 a k l l[a]).map encEv) ∧ σ.slot 1 = vI a ∧ σ.slot 4 = .c (.s (.fn g caps)) ∧ σ.slot 10 = vI i ∧ σ.slot 13 = vI k) (j - 1 - a) ?_ ?_
      · refine ⟨a, j, rfl, by omega, by omega, ?_⟩
        simp -implicitDefEqProofs only [↓aP, aQ, ↓reduceIte, Nat.reduceEqDiff, Nat.reduceAdd, Nat.reduceSub, Nat.reduceMul, Nat.reduceLT, Nat.reduceLeDiff, reduceCtorEq, Nat.reduceBEq, forall_const, implies_true, exists_const, ne_eq, Int.reduceAdd, Int.reduceSub, Int.reduceMul, Int.reduceBEq, Int.reduceEq, Int.reduceLT, Int.reduceLE, Int.reduceToNat, Int.reduceNeg, Int.reduceBNe, s0, g99, b99, s1, s4, s10, s11, up1_0 hal]
      · clear s0 g99 b99 s1 s4 s10 s11
        rintro n σ ⟨k, i, rfl, hak, hkn, s0, g99, b99, s1, s4, s10, s13⟩
        by_cases hki : k < i - 1
        · obtain ⟨A, B, hA, e1, e2⟩ := up1_step (l := l) (x := l[a]) hak (show k + 1 < l.length by omega)
          have hlen : (A ++ l[a] :: l[k + 1] :: B).length = l.length := by rw [← e1, up1_len hak (by omega)]
          have q1 : k + 1 < (A ++ l[a] :: l[k + 1] :: B).length := by omega
          have q0 : k < (A ++ l[a] :: l[k + 1] :: B).length := by omega
          have v1 : (A ++ l[a] :: l[k + 1] :: B)[k + 1] = l[k + 1] := at_1 (by omega) _
          have v0 : (A ++ l[a] :: l[k + 1] :: B)[k] = l[a] := at_0 (by omega) _
          have q2 : k + 1 < ((A ++ l[a] :: l[k + 1] :: B).set k l[k + 1]).length := by rw [List.length_set]; exact q1
          have hsw : ((A ++ l[a] :: l[k + 1] :: B).set k l[k + 1]).set (k + 1) l[a] = A ++ l[k + 1] :: l[a] :: B := swapped2 (i := k) (by omega)
          rw [e1] at b99
          simp -implicitDefEqProofs only [↓aP, aQ, ↓reduceIte, Nat.reduceEqDiff, Nat.reduceAdd, Nat.reduceSub, Nat.reduceMul, Nat.reduceLT, Nat.reduceLeDiff, reduceCtorEq, Nat.reduceBEq, forall_const, implies_true, exists_const, ne_eq, Int.reduceAdd, Int.reduceSub, Int.reduceMul, Int.reduceBEq, Int.reduceEq, Int.reduceLT, Int.reduceLE, Int.reduceToNat, Int.reduceNeg, Int.reduceBNe, s0, g99, b99, s1, s4, s10, s13, w2, show decide ((k : Int) < ((i - 1 : Nat) : Int)) = true by simp; omega, wrapS (show k < 4611686018427387904 by omega), askIdx_map, q1, q0, v1, v0, q2, encEv, set_ev, List.length_map]
          rw [hsw, ← e2]
          refine ⟨by decide +kernel, n - 1, by omega, k + 1, i, rfl, by omega, by omega, ?_⟩
          simp -implicitDefEqProofs only [↓aP, aQ, ↓reduceIte, Nat.reduceEqDiff, Nat.reduceAdd, Nat.reduceSub, Nat.reduceMul, Nat.reduceLT, Nat.reduceLeDiff, reduceCtorEq, Nat.reduceBEq, forall_const, implies_true, exists_const, ne_eq, Int.reduceAdd, Int.reduceSub, Int.reduceMul, Int.reduceBEq, Int.reduceEq, Int.reduceLT, Int.reduceLE, Int.reduceToNat, Int.reduceNeg, Int.reduceBNe, s0, g99, b99, s1, s4, s10, s13]
        · have : k = i - 1 := by omega
          subst this
          rw [hR2] at b99
          simp -implicitDefEqProofs only [↓aP, aQ, ↓reduceIte, Nat.reduceEqDiff, Nat.reduceAdd, Nat.reduceSub, Nat.reduceMul, Nat.reduceLT, Nat.reduceLeDiff, reduceCtorEq, Nat.reduceBEq, forall_const, implies_true, exists_const, ne_eq, Int.reduceAdd, Int.reduceSub, Int.reduceMul, Int.reduceBEq, Int.reduceEq, Int.reduceLT, Int.reduceLE, Int.reduceToNat, Int.reduceNeg, Int.reduceBNe, s0, g99, b99, s1, s4, s10, s13, w2, show decide (((i - 1 : Nat) : Int) < ((i - 1 : Nat) : Int)) = false by simp, finX, boxC, lbX]
end Go.Proofs.Ytbpipdgkkdifgaa
