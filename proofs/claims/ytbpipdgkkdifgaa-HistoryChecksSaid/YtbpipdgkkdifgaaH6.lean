/- layer 21: stable sorting of events, by the machine: merging in place, whole. -/
import Derived.Test.YtbpipdgkkdifgaaH4
import Derived.Test.YtbpipdgkkdifgaaSub
namespace Go.Proofs.Ytbpipdgkkdifgaa
open Go.RowKit Ok Ss Hi
set_option linter.unusedVariables false
set_option linter.unusedSimpArgs false


set_option maxHeartbeats 2000000 in
theorem sym_last (l : List Ev) (a m : Nat) {g : Nat} {caps : List SC} {lt : Ev → Ev → Bool} (hc : CmpF g caps lt) (h2 : a + 1 < m) (h3 : m < l.length) (hl : l.length < 1000000) (hr : Srtd lt (seg a m l)) : SymOk g caps lt l a m (m + 1) := by
  refine spec_xr mixed fn49 99 (r := .tup []) rfl rfl (by simp) rfl (by simp [ss_len (show a ≤ m + 1 by omega) (show m + 1 ≤ l.length by omega)]) (by simp) ?_
  unfold ac49
  have hcb := hc.call
  have w1 : IntKind.i64.wrap (((m + 1 : Nat) : Int) - (m : Int)) = 1 := by rw [wrapI (by omega)]; omega
  have w0 : IntKind.i64.wrap ((m : Int) - (a : Int)) = ((m - a : Nat) : Int) := subI (by omega) (by omega)
  simp -implicitDefEqProofs only [↓aP, aQ, ↓reduceIte, Nat.reduceEqDiff, Nat.reduceAdd, Nat.reduceSub, Nat.reduceMul, Nat.reduceLT, Nat.reduceLeDiff, reduceCtorEq, Nat.reduceBEq, forall_const, implies_true, exists_const, ne_eq, Int.reduceAdd, Int.reduceSub, Int.reduceMul, Int.reduceBEq, Int.reduceEq, Int.reduceLT, Int.reduceLE, Int.reduceToNat, Int.reduceNeg, Int.reduceBNe, initX_slot, initX_gen, initX_blk, XR.lb0, XR.at0, w1, w0, show (((m - a : Nat) : Int) == 1) = false by simp; omega]
  refine loopA (fun n σ => ∃ i j : Nat, i + n = j ∧ Cut (fun k => !ltAt lt l m k) a m i j ∧ σ.slot 0 = .c (.own 99 0) ∧ σ.h.gen 99 = 0 ∧ σ.h.blk 99 = .row tEv 11 (l.map encEv) ∧ σ.slot 2 = vI m ∧ σ.slot 4 = .c (.s (.fn g caps)) ∧ σ.slot 14 = vI i ∧ σ.slot 15 = vI j) (m - a) ?_ ?_
  · refine ⟨a, m, by omega, Cut.start (by omega), ?_⟩
    simp -implicitDefEqProofs only [↓aP, aQ, ↓reduceIte, Nat.reduceEqDiff, Nat.reduceAdd, Nat.reduceSub, Nat.reduceMul, Nat.reduceLT, Nat.reduceLeDiff, reduceCtorEq, Nat.reduceBEq, forall_const, implies_true, exists_const, ne_eq, Int.reduceAdd, Int.reduceSub, Int.reduceMul, Int.reduceBEq, Int.reduceEq, Int.reduceLT, Int.reduceLE, Int.reduceToNat, Int.reduceNeg, Int.reduceBNe, initX_slot, initX_gen, initX_blk, XR.lb0, XR.at0]
  · rintro n σ ⟨i, j, hn, hcut, s0, g99, b99, s2, s4, s14, s15⟩
    have c1 := hcut.1
    have c2 := hcut.2.1
    have c3 := hcut.2.2.1
    by_cases hij : i < j
    · obtain ⟨h, hh⟩ : ∃ h, h = (i + j) / 2 := ⟨_, rfl⟩
      have hhr := half_rng hij
      rw [← hh] at hhr
      have hhl : h < l.length := by omega
      simp -implicitDefEqProofs only [↓aP, aQ, ↓reduceIte, Nat.reduceEqDiff, Nat.reduceAdd, Nat.reduceSub, Nat.reduceMul, Nat.reduceLT, Nat.reduceLeDiff, reduceCtorEq, Nat.reduceBEq, forall_const, implies_true, exists_const, ne_eq, Int.reduceAdd, Int.reduceSub, Int.reduceMul, Int.reduceBEq, Int.reduceEq, Int.reduceLT, Int.reduceLE, Int.reduceToNat, Int.reduceNeg, Int.reduceBNe, s0, g99, b99, s2, s4, s14, s15, show decide ((i : Int) < (j : Int)) = true by simp; omega, half_eq (show i + j < 4611686018427387904 by omega), ← hh, askIdx_map, hhl, h3, hcb, encEv]
      obtain ⟨c, hs, hcl⟩ := hc.ask l[m] l[h]
      refine askV hs ?_
      simp -implicitDefEqProofs only [↓aP, aQ, ↓reduceIte, Nat.reduceEqDiff, Nat.reduceAdd, Nat.reduceSub, Nat.reduceMul, Nat.reduceLT, Nat.reduceLeDiff, reduceCtorEq, Nat.reduceBEq, forall_const, implies_true, exists_const, ne_eq, Int.reduceAdd, Int.reduceSub, Int.reduceMul, Int.reduceBEq, Int.reduceEq, Int.reduceLT, Int.reduceLE, Int.reduceToNat, Int.reduceNeg, Int.reduceBNe, hcl]
      refine ⟨by decide +kernel, ?_⟩
      have hm : ∀ k k', a ≤ k → k ≤ k' → k' < m → (!ltAt lt l m k') = true → (!ltAt lt l m k) = true := by
        intro k k' q1 q2 q3 q4
        rw [ltAt_eq (by omega) (by omega)] at q4 ⊢
        by_cases e : k = k'
        · subst e; exact q4
        · simp only [Bool.not_eq_true'] at q4 ⊢
          exact hc.swo.neg _ _ _ q4 (srtd_at hr (by omega) q1 (by omega) q3)
      cases hp : lt l[m] l[h]
      · simp -implicitDefEqProofs only [↓aP, aQ, ↓reduceIte, Nat.reduceEqDiff, Nat.reduceAdd, Nat.reduceSub, Nat.reduceMul, Nat.reduceLT, Nat.reduceLeDiff, reduceCtorEq, Nat.reduceBEq, forall_const, implies_true, exists_const, ne_eq, Int.reduceAdd, Int.reduceSub, Int.reduceMul, Int.reduceBEq, Int.reduceEq, Int.reduceLT, Int.reduceLE, Int.reduceToNat, Int.reduceNeg, Int.reduceBNe, s0, g99, b99, s2, s4, s14, s15, hp, wrapS (show h < 4611686018427387904 by omega)]
        refine ⟨j - (h + 1), by omega, h + 1, j, by omega, hcut.up hm hhr.1 hhr.2 (by show (!ltAt lt l m h) = true; rw [ltAt_eq h3 hhl, hp]; rfl), ?_⟩
        simp -implicitDefEqProofs only [↓aP, aQ, ↓reduceIte, Nat.reduceEqDiff, Nat.reduceAdd, Nat.reduceSub, Nat.reduceMul, Nat.reduceLT, Nat.reduceLeDiff, reduceCtorEq, Nat.reduceBEq, forall_const, implies_true, exists_const, ne_eq, Int.reduceAdd, Int.reduceSub, Int.reduceMul, Int.reduceBEq, Int.reduceEq, Int.reduceLT, Int.reduceLE, Int.reduceToNat, Int.reduceNeg, Int.reduceBNe, s0, g99, b99, s2, s4, s14, s15]
      · simp -implicitDefEqProofs only [↓aP, aQ, ↓reduceIte, Nat.reduceEqDiff, Nat.reduceAdd, Nat.reduceSub, Nat.reduceMul, Nat.reduceLT, Nat.reduceLeDiff, reduceCtorEq, Nat.reduceBEq, forall_const, implies_true, exists_const, ne_eq, Int.reduceAdd, Int.reduceSub, Int.reduceMul, Int.reduceBEq, Int.reduceEq, Int.reduceLT, Int.reduceLE, Int.reduceToNat, Int.reduceNeg, Int.reduceBNe, s0, g99, b99, s2, s4, s14, s15, hp]
        refine ⟨h - i, by omega, i, h, by omega, hcut.down hm hhr.1 hhr.2 (by show (!ltAt lt l m h) = false; rw [ltAt_eq h3 hhl, hp]; rfl), ?_⟩
        simp -implicitDefEqProofs only [↓aP, aQ, ↓reduceIte, Nat.reduceEqDiff, Nat.reduceAdd, Nat.reduceSub, Nat.reduceMul, Nat.reduceLT, Nat.reduceLeDiff, reduceCtorEq, Nat.reduceBEq, forall_const, implies_true, exists_const, ne_eq, Int.reduceAdd, Int.reduceSub, Int.reduceMul, Int.reduceBEq, Int.reduceEq, Int.reduceLT, Int.reduceLE, Int.reduceToNat, Int.reduceNeg, Int.reduceBNe, s0, g99, b99, s2, s4, s14, s15]
    · have e : j = i := by omega
      subst e
      have hR := mrg_last hc.swo (l := l) (a := a) (m := m) (i := j) c1 c3 h3 hr (fun k hk q1 q2 => by have := hcut.2.2.2.1 k q1 q2; simp only [ltAt_eq h3 hk] at this; simpa using this) (fun k hk q1 q2 => by have := hcut.2.2.2.2 k q1 q2; simp only [ltAt_eq h3 hk] at this; simpa using this)
      have hR2 : dn1 j m l l[m] = ss lt a (m + 1) l := by
        rw [hR]
        unfold dn1
        have : l.take j = l.take a ++ seg a j l := by
          unfold seg
          rw [← List.take_add, show a + (j - a) = j by omega]
        rw [this]
        simp only [List.append_assoc, List.cons_append, List.nil_append]
      simp -implicitDefEqProofs only [↓aP, aQ, ↓reduceIte, Nat.reduceEqDiff, Nat.reduceAdd, Nat.reduceSub, Nat.reduceMul, Nat.reduceLT, Nat.reduceLeDiff, reduceCtorEq, Nat.reduceBEq, forall_const, implies_true, exists_const, ne_eq, Int.reduceAdd, Int.reduceSub, Int.reduceMul, Int.reduceBEq, Int.reduceEq, Int.reduceLT, Int.reduceLE, Int.reduceToNat, Int.reduceNeg, Int.reduceBNe, s0, g99, b99, s2, s4, s14, s15, show decide ((j : Int) < (j : Int)) = false by simp]
      refine loopA (fun n σ => ∃ (k i : Nat), i = j ∧ k ≤ m ∧ k = i + n ∧ σ.slot 0 = .c (.own 99 0) ∧ σ.h.gen 99 = 0 ∧ σ.h.blk 99 = .row tEv 11 ((dn1 k m l l[m]).map encEv) ∧ σ.slot 2 = vI m ∧ σ.slot 4 = .c (.s (.fn g caps)) ∧ σ.slot 14 = vI i ∧ σ.slot 17 = vI k) (m - j) ?_ ?_
      · refine ⟨m, j, rfl, by omega, by omega, ?_⟩
        simp -implicitDefEqProofs only [↓aP, aQ, ↓reduceIte, Nat.reduceEqDiff, Nat.reduceAdd, Nat.reduceSub, Nat.reduceMul, Nat.reduceLT, Nat.reduceLeDiff, reduceCtorEq, Nat.reduceBEq, forall_const, implies_true, exists_const, ne_eq, Int.reduceAdd, Int.reduceSub, Int.reduceMul, Int.reduceBEq, Int.reduceEq, Int.reduceLT, Int.reduceLE, Int.reduceToNat, Int.reduceNeg, Int.reduceBNe, s0, g99, b99, s2, s4, s14, s15, dn1_0 h3]
      · clear s0 g99 b99 s2 s4 s14 s15
        rintro n σ ⟨k, i, rfl, hkm, hkn, s0, g99, b99, s2, s4, s14, s17⟩
        by_cases hki : i < k
        · obtain ⟨k, rfl⟩ : ∃ q, k = q + 1 := ⟨k - 1, by omega⟩
          have hkl : k < l.length := by omega
          obtain ⟨A, B, hA, e1, e2⟩ := dn1_step (l := l) (x := l[m]) (show k < m by omega) h3
          have hlen : (A ++ l[k] :: l[m] :: B).length = l.length := by rw [← e1, dn1_len hkm h3]
          have q1 : k + 1 < (A ++ l[k] :: l[m] :: B).length := by omega
          have q0 : k < (A ++ l[k] :: l[m] :: B).length := by omega
          have v1 : (A ++ l[k] :: l[m] :: B)[k + 1] = l[m] := at_1 (by omega) _
          have v0 : (A ++ l[k] :: l[m] :: B)[k] = l[k] := at_0 (by omega) _
          have q2 : k < ((A ++ l[k] :: l[m] :: B).set (k + 1) l[k]).length := by rw [List.length_set]; exact q0
          have hsw : ((A ++ l[k] :: l[m] :: B).set (k + 1) l[k]).set k l[m] = A ++ l[m] :: l[k] :: B := swapped (i := k) (by omega)
          have w2 : IntKind.i64.wrap (((k + 1 : Nat) : Int) - 1) = (k : Int) := by rw [wrapI (by omega)]; omega
          rw [e1] at b99
          simp -implicitDefEqProofs only [↓aP, aQ, ↓reduceIte, Nat.reduceEqDiff, Nat.reduceAdd, Nat.reduceSub, Nat.reduceMul, Nat.reduceLT, Nat.reduceLeDiff, reduceCtorEq, Nat.reduceBEq, forall_const, implies_true, exists_const, ne_eq, Int.reduceAdd, Int.reduceSub, Int.reduceMul, Int.reduceBEq, Int.reduceEq, Int.reduceLT, Int.reduceLE, Int.reduceToNat, Int.reduceNeg, Int.reduceBNe, s0, g99, b99, s2, s4, s14, s17, w2, show decide ((i : Int) < ((k + 1 : Nat) : Int)) = true by simp; omega, askIdx_map, q1, q0, v1, v0, q2, encEv, set_ev, List.length_map]
          rw [hsw, ← e2]
          refine ⟨by decide +kernel, n - 1, by omega, k, i, rfl, by omega, by omega, ?_⟩
          simp -implicitDefEqProofs only [↓aP, aQ, ↓reduceIte, Nat.reduceEqDiff, Nat.reduceAdd, Nat.reduceSub, Nat.reduceMul, Nat.reduceLT, Nat.reduceLeDiff, reduceCtorEq, Nat.reduceBEq, forall_const, implies_true, exists_const, ne_eq, Int.reduceAdd, Int.reduceSub, Int.reduceMul, Int.reduceBEq, Int.reduceEq, Int.reduceLT, Int.reduceLE, Int.reduceToNat, Int.reduceNeg, Int.reduceBNe, s0, g99, b99, s2, s4, s14, s17]
        · have : k = i := by omega
          subst this
          rw [hR2] at b99
          simp -implicitDefEqProofs only [↓aP, aQ, ↓reduceIte, Nat.reduceEqDiff, Nat.reduceAdd, Nat.reduceSub, Nat.reduceMul, Nat.reduceLT, Nat.reduceLeDiff, reduceCtorEq, Nat.reduceBEq, forall_const, implies_true, exists_const, ne_eq, Int.reduceAdd, Int.reduceSub, Int.reduceMul, Int.reduceBEq, Int.reduceEq, Int.reduceLT, Int.reduceLE, Int.reduceToNat, Int.reduceNeg, Int.reduceBNe, s0, g99, b99, s2, s4, s14, s17, show decide ((k : Int) < (k : Int)) = false by simp, finX, boxC, lbX]


set_option maxHeartbeats 4000000 in
theorem sym_half (l : List Ev) (a m b : Nat) {g : Nat} {caps : List SC} {lt : Ev → Ev → Bool} (hc : CmpF g caps lt) (h1 : a + 1 < m) (h2 : m + 1 < b) (h3 : b ≤ l.length) (hl : l.length < 1000000) (hL : Srtd lt (seg a m l)) (hR : Srtd lt (seg m b l))
    (ih : ∀ (l : List Ev) (a' m' b' : Nat), b' - a' < b - a → a' < m' → m' < b' → b' ≤ l.length → l.length < 1000000 → Srtd lt (seg a' m' l) → Srtd lt (seg m' b' l) → SymOk g caps lt l a' m' b') : SymOk g caps lt l a m b := by
  refine spec_xr mixed fn49 99 (r := .tup []) rfl rfl (by simp) rfl (by simp [ss_len (show a ≤ b by omega) h3]) (by simp) ?_
  unfold ac49
  have hcb := hc.call
  have w0 : IntKind.i64.wrap ((m : Int) - (a : Int)) = ((m - a : Nat) : Int) := subI (by omega) (by omega)
  have w1 : IntKind.i64.wrap ((b : Int) - (m : Int)) = ((b - m : Nat) : Int) := subI (by omega) (by omega)
  obtain ⟨mid, hmid⟩ : ∃ mid, mid = (a + b) / 2 := ⟨_, rfl⟩
  obtain ⟨s0v, r0v, hs0⟩ : ∃ s0v r0v : Nat, (if mid < m then s0v = mid + m - b ∧ r0v = mid else s0v = a ∧ r0v = m) := by
    by_cases h : mid < m
    · exact ⟨mid + m - b, mid, by rw [if_pos h]; exact ⟨rfl, rfl⟩⟩
    · exact ⟨a, m, by rw [if_neg h]; exact ⟨rfl, rfl⟩⟩
  have hrs : s0v ≤ r0v ∧ a ≤ s0v ∧ r0v ≤ m ∧ r0v ≤ mid ∧ mid + m ≤ b + s0v ∧ (r0v = mid ∨ r0v = m) ∧ (s0v = a ∨ s0v + b = mid + m) := by
    split at hs0 <;> omega
  have e1 : (((m - a : Nat) : Int) == 1) = false := by simp; omega
  have e2 : (((b - m : Nat) : Int) == 1) = false := by simp; omega
  have e3 := half_eq (show a + b < 4611686018427387904 by omega)
  rw [← hmid] at e3
  have e4 := natI (show mid + m < 4611686018427387904 by omega)
  have e5 : IntKind.i64.wrap (((mid + m : Nat) : Int) - 1) = ((mid + m - 1 : Nat) : Int) := by rw [wrapI (by omega)]; omega
  apply with_tail (F := fun σ => ∃ i j, i = s0v ∧ j = r0v ∧ σ.slot 0 = .c (.own 99 0) ∧ σ.h.gen 99 = 0 ∧ σ.h.blk 99 = .row tEv 11 (l.map encEv) ∧ σ.slot 1 = vI a ∧ σ.slot 2 = vI m ∧ σ.slot 3 = vI b ∧ σ.slot 4 = .c (.s (.fn g caps)) ∧ σ.slot 18 = vI mid ∧ σ.slot 19 = vI (mid + m : Nat) ∧ σ.slot 22 = vI (mid + m - 1 : Nat) ∧ σ.slot 20 = vI i ∧ σ.slot 21 = vI j)
  case h1 =>
    intro tail
    by_cases hlt : mid < m
    · rw [if_pos hlt] at hs0
      have e6 : IntKind.i64.wrap (((mid + m : Nat) : Int) - (b : Int)) = ((mid + m - b : Nat) : Int) := subI (by omega) (by omega)
      simp -implicitDefEqProofs only [↓aP, aQ, ↓reduceIte, Nat.reduceEqDiff, Nat.reduceAdd, Nat.reduceSub, Nat.reduceMul, Nat.reduceLT, Nat.reduceLeDiff, reduceCtorEq, Nat.reduceBEq, forall_const, implies_true, exists_const, ne_eq, Int.reduceAdd, Int.reduceSub, Int.reduceMul, Int.reduceBEq, Int.reduceEq, Int.reduceLT, Int.reduceLE, Int.reduceToNat, Int.reduceNeg, Int.reduceBNe, initX_slot, initX_gen, initX_blk, XR.lb0, XR.at0, w0, w1, e1, e2, e3, e4, e5, e6, show decide ((mid : Int) < (m : Int)) = true by simp; omega]
      refine tail _ ⟨s0v, r0v, rfl, rfl, ?_⟩
      rw [hs0.1, hs0.2]
      simp -implicitDefEqProofs only [↓aP, aQ, ↓reduceIte, Nat.reduceEqDiff, Nat.reduceAdd, Nat.reduceSub, Nat.reduceMul, Nat.reduceLT, Nat.reduceLeDiff, reduceCtorEq, Nat.reduceBEq, forall_const, implies_true, exists_const, ne_eq, Int.reduceAdd, Int.reduceSub, Int.reduceMul, Int.reduceBEq, Int.reduceEq, Int.reduceLT, Int.reduceLE, Int.reduceToNat, Int.reduceNeg, Int.reduceBNe, initX_slot, initX_gen, initX_blk, XR.lb0, XR.at0]
    · rw [if_neg hlt] at hs0
      simp -implicitDefEqProofs only [↓aP, aQ, ↓reduceIte, Nat.reduceEqDiff, Nat.reduceAdd, Nat.reduceSub, Nat.reduceMul, Nat.reduceLT, Nat.reduceLeDiff, reduceCtorEq, Nat.reduceBEq, forall_const, implies_true, exists_const, ne_eq, Int.reduceAdd, Int.reduceSub, Int.reduceMul, Int.reduceBEq, Int.reduceEq, Int.reduceLT, Int.reduceLE, Int.reduceToNat, Int.reduceNeg, Int.reduceBNe, initX_slot, initX_gen, initX_blk, XR.lb0, XR.at0, w0, w1, e1, e2, e3, e4, e5, show decide ((mid : Int) < (m : Int)) = false by simp; omega]
      refine tail _ ⟨s0v, r0v, rfl, rfl, ?_⟩
      rw [hs0.1, hs0.2]
      simp -implicitDefEqProofs only [↓aP, aQ, ↓reduceIte, Nat.reduceEqDiff, Nat.reduceAdd, Nat.reduceSub, Nat.reduceMul, Nat.reduceLT, Nat.reduceLeDiff, reduceCtorEq, Nat.reduceBEq, forall_const, implies_true, exists_const, ne_eq, Int.reduceAdd, Int.reduceSub, Int.reduceMul, Int.reduceBEq, Int.reduceEq, Int.reduceLT, Int.reduceLE, Int.reduceToNat, Int.reduceNeg, Int.reduceBNe, initX_slot, initX_gen, initX_blk, XR.lb0, XR.at0]
  case h2 =>
    rintro σ ⟨i, j, rfl, rfl, s0, g99, b99, s1, s2, s3, s4, s18, s19, s22, s20, s21⟩
    refine loopA (fun n σ => ∃ i' j' : Nat, i' + n = j' ∧ Cut (fun k => !ltAt lt l (mid + m - 1 - k) k) i j i' j' ∧ σ.slot 20 = vI i' ∧ σ.slot 21 = vI j' ∧ σ.slot 0 = .c (.own 99 0) ∧ σ.h.gen 99 = 0 ∧ σ.h.blk 99 = .row tEv 11 (l.map encEv) ∧ σ.slot 1 = vI a ∧ σ.slot 2 = vI m ∧ σ.slot 3 = vI b ∧ σ.slot 4 = .c (.s (.fn g caps)) ∧ σ.slot 18 = vI mid ∧ σ.slot 19 = vI (mid + m : Nat) ∧ σ.slot 22 = vI (mid + m - 1 : Nat)) (j - i) ?_ ?_
    · refine ⟨i, j, by omega, Cut.start (by omega), ?_⟩
      simp -implicitDefEqProofs only [↓aP, aQ, ↓reduceIte, Nat.reduceEqDiff, Nat.reduceAdd, Nat.reduceSub, Nat.reduceMul, Nat.reduceLT, Nat.reduceLeDiff, reduceCtorEq, Nat.reduceBEq, forall_const, implies_true, exists_const, ne_eq, Int.reduceAdd, Int.reduceSub, Int.reduceMul, Int.reduceBEq, Int.reduceEq, Int.reduceLT, Int.reduceLE, Int.reduceToNat, Int.reduceNeg, Int.reduceBNe, s0, g99, b99, s1, s2, s3, s4, s18, s19, s22, s20, s21]
    · clear s0 g99 b99 s1 s2 s3 s4 s18 s19 s22 s20 s21
      rintro n σ ⟨i', j', hn, hcut, s20, s21, s0, g99, b99, s1, s2, s3, s4, s18, s19, s22⟩
      have c1 := hcut.1
      have c2 := hcut.2.1
      have c3 := hcut.2.2.1
      by_cases hij : i' < j'
      · obtain ⟨h, hh⟩ : ∃ h, h = (i' + j') / 2 := ⟨_, rfl⟩
        have hhr := half_rng hij
        rw [← hh] at hhr
        have hhl : h < l.length := by omega
        have hpl : mid + m - 1 - h < l.length := by omega
        have w2 : IntKind.i64.wrap (((mid + m - 1 : Nat) : Int) - (h : Int)) = ((mid + m - 1 - h : Nat) : Int) := subI (by omega) (by omega)
        simp -implicitDefEqProofs only [↓aP, aQ, ↓reduceIte, Nat.reduceEqDiff, Nat.reduceAdd, Nat.reduceSub, Nat.reduceMul, Nat.reduceLT, Nat.reduceLeDiff, reduceCtorEq, Nat.reduceBEq, forall_const, implies_true, exists_const, ne_eq, Int.reduceAdd, Int.reduceSub, Int.reduceMul, Int.reduceBEq, Int.reduceEq, Int.reduceLT, Int.reduceLE, Int.reduceToNat, Int.reduceNeg, Int.reduceBNe, s0, g99, b99, s1, s2, s3, s4, s18, s19, s22, s20, s21, show decide ((i' : Int) < (j' : Int)) = true by simp; omega, half_eq (show i' + j' < 4611686018427387904 by omega), ← hh, w2, askIdx_map, hhl, hpl, hcb, encEv]
        obtain ⟨c, hs, hcl⟩ := hc.ask l[mid + m - 1 - h] l[h]
        refine askV hs ?_
        simp -implicitDefEqProofs only [↓aP, aQ, ↓reduceIte, Nat.reduceEqDiff, Nat.reduceAdd, Nat.reduceSub, Nat.reduceMul, Nat.reduceLT, Nat.reduceLeDiff, reduceCtorEq, Nat.reduceBEq, forall_const, implies_true, exists_const, ne_eq, Int.reduceAdd, Int.reduceSub, Int.reduceMul, Int.reduceBEq, Int.reduceEq, Int.reduceLT, Int.reduceLE, Int.reduceToNat, Int.reduceNeg, Int.reduceBNe, hcl]
        refine ⟨by decide +kernel, ?_⟩
        have hm : ∀ k k', i ≤ k → k ≤ k' → k' < j → (!ltAt lt l (mid + m - 1 - k') k') = true → (!ltAt lt l (mid + m - 1 - k) k) = true := by
          intro k k' q1 q2 q3 q4
          rw [ltAt_eq (by omega) (by omega)] at q4 ⊢
          by_cases e : k = k'
          · subst e; exact q4
          · simp only [Bool.not_eq_true'] at q4 ⊢
            cases q5 : lt (l[mid + m - 1 - k]'(by omega)) (l[k]'(by omega))
            · rfl
            · have q6 := hc.swo.ltle q5 (srtd_at hL (by omega) (show a ≤ k by omega) (show k < k' by omega) (by omega))
              have q7 := hc.swo.lelt (srtd_at hR h3 (show m ≤ mid + m - 1 - k' by omega) (show mid + m - 1 - k' < mid + m - 1 - k by omega) (by omega)) q6
              rw [q7] at q4; cases q4
        cases hp : lt l[mid + m - 1 - h] l[h]
        · simp -implicitDefEqProofs only [↓aP, aQ, ↓reduceIte, Nat.reduceEqDiff, Nat.reduceAdd, Nat.reduceSub, Nat.reduceMul, Nat.reduceLT, Nat.reduceLeDiff, reduceCtorEq, Nat.reduceBEq, forall_const, implies_true, exists_const, ne_eq, Int.reduceAdd, Int.reduceSub, Int.reduceMul, Int.reduceBEq, Int.reduceEq, Int.reduceLT, Int.reduceLE, Int.reduceToNat, Int.reduceNeg, Int.reduceBNe, s0, g99, b99, s1, s2, s3, s4, s18, s19, s22, s20, s21, hp, wrapS (show h < 4611686018427387904 by omega)]
          refine ⟨j' - (h + 1), by omega, h + 1, j', by omega, hcut.up hm hhr.1 hhr.2 (by show (!ltAt lt l (mid + m - 1 - h) h) = true; rw [ltAt_eq hpl hhl, hp]; rfl), ?_⟩
          simp -implicitDefEqProofs only [↓aP, aQ, ↓reduceIte, Nat.reduceEqDiff, Nat.reduceAdd, Nat.reduceSub, Nat.reduceMul, Nat.reduceLT, Nat.reduceLeDiff, reduceCtorEq, Nat.reduceBEq, forall_const, implies_true, exists_const, ne_eq, Int.reduceAdd, Int.reduceSub, Int.reduceMul, Int.reduceBEq, Int.reduceEq, Int.reduceLT, Int.reduceLE, Int.reduceToNat, Int.reduceNeg, Int.reduceBNe, s0, g99, b99, s1, s2, s3, s4, s18, s19, s22]
        · simp -implicitDefEqProofs only [↓aP, aQ, ↓reduceIte, Nat.reduceEqDiff, Nat.reduceAdd, Nat.reduceSub, Nat.reduceMul, Nat.reduceLT, Nat.reduceLeDiff, reduceCtorEq, Nat.reduceBEq, forall_const, implies_true, exists_const, ne_eq, Int.reduceAdd, Int.reduceSub, Int.reduceMul, Int.reduceBEq, Int.reduceEq, Int.reduceLT, Int.reduceLE, Int.reduceToNat, Int.reduceNeg, Int.reduceBNe, s0, g99, b99, s1, s2, s3, s4, s18, s19, s22, s20, s21, hp]
          refine ⟨h - i', by omega, i', h, by omega, hcut.down hm hhr.1 hhr.2 (by show (!ltAt lt l (mid + m - 1 - h) h) = false; rw [ltAt_eq hpl hhl, hp]; rfl), ?_⟩
          simp -implicitDefEqProofs only [↓aP, aQ, ↓reduceIte, Nat.reduceEqDiff, Nat.reduceAdd, Nat.reduceSub, Nat.reduceMul, Nat.reduceLT, Nat.reduceLeDiff, reduceCtorEq, Nat.reduceBEq, forall_const, implies_true, exists_const, ne_eq, Int.reduceAdd, Int.reduceSub, Int.reduceMul, Int.reduceBEq, Int.reduceEq, Int.reduceLT, Int.reduceLE, Int.reduceToNat, Int.reduceNeg, Int.reduceBNe, s0, g99, b99, s1, s2, s3, s4, s18, s19, s22]
      · have e : j' = i' := by omega
        subst e
        obtain ⟨e, he⟩ : ∃ e, e = mid + m - j' := ⟨_, rfl⟩
        have k1 : j' < m → m < e → ∀ (q1 : j' < l.length) (q2 : e - 1 < l.length), lt l[e - 1] l[j'] = true := by
          intro p1 p2 q1 q2
          have := hcut.2.2.2.2 j' (Nat.le_refl _) (by omega)
          simp only [Bool.not_eq_false', ltAt_eq (show mid + m - 1 - j' < l.length by omega) q1] at this
          simp only [show e - 1 = mid + m - 1 - j' by omega]
          exact this
        have k2 : a < j' → e < b → ∀ (q1 : j' - 1 < l.length) (q2 : e < l.length), lt l[e] l[j' - 1] = false := by
          intro p1 p2 q1 q2
          have := hcut.2.2.2.1 (j' - 1) (by omega) (by omega)
          simp only [Bool.not_eq_true', ltAt_eq (show mid + m - 1 - (j' - 1) < l.length by omega) q1] at this
          simp only [show e = mid + m - 1 - (j' - 1) by omega]
          exact this
        obtain ⟨g1, g2, g3, g4⟩ := mrg_half hc.swo (l := l) (a := a) (m := m) (b := b) (mid := mid) (s := j') (e := e) (by omega) (by omega) (by omega) (by omega) h3 (by omega) hL hR k1 k2
        have w3 : IntKind.i64.wrap (((mid + m : Nat) : Int) - (j' : Int)) = (e : Int) := by rw [subI (by omega) (by omega), he]
        have hrl : (rot j' m e l).length = l.length := rot_len (by omega) (by omega) (by omega)
        have hsl : (ss lt a mid (rot j' m e l)).length = l.length := by rw [ss_len (by omega) (by omega)]; exact hrl
        obtain ⟨g5, g6⟩ := g4 (ss lt a mid (rot j' m e l)) (ss_drop (by omega) (by omega))
        have o1 : ¬ (j' < m ∧ m < e) → rot j' m e l = l := fun h => rot_none (by omega) (by omega) (by omega)
        have o2 : ¬ (a < j' ∧ j' < mid) → ss lt a mid (rot j' m e l) = rot j' m e l := by
          intro h
          refine ss_self hc.swo (by omega) ?_
          by_cases h5 : a < j'
          · rw [show mid = j' by omega]; exact g2
          · rw [show a = j' by omega]; exact g3
        have o3 : ¬ (mid < e ∧ e < b) → ss lt mid b (ss lt a mid (rot j' m e l)) = ss lt a mid (rot j' m e l) := by
          intro h
          refine ss_self hc.swo (by omega) ?_
          by_cases h5 : mid < e
          · rw [show b = e by omega]; exact g5
          · have e7 : e = mid := by omega
            simpa only [e7] using g6
        rw [← g1]
        have hs1 := fun (p : j' < m ∧ m < e) => rot_spec l j' m e g caps p.1 p.2 (by omega) (by omega)
        have hs2 := fun (p : a < j' ∧ j' < mid) => ih (rot j' m e l) a j' mid (by omega) p.1 p.2 (by omega) (by omega) g2 g3
        have hs3 := fun (p : mid < e ∧ e < b) => ih (ss lt a mid (rot j' m e l)) mid e b (by omega) p.1 p.2 (by omega) (by omega) g5 g6
        unfold SymOk at hs2 hs3
        obtain ⟨l3, h3'⟩ : ∃ l3, l3 = ss lt mid b (ss lt a mid (rot j' m e l)) := ⟨_, rfl⟩
        obtain ⟨l2, h2'⟩ : ∃ l2, l2 = ss lt a mid (rot j' m e l) := ⟨_, rfl⟩
        obtain ⟨l1, h1'⟩ : ∃ l1, l1 = rot j' m e l := ⟨_, rfl⟩
        rw [← h3'] at o3 hs3 ⊢
        rw [← h2'] at o2 o3 hs2 hs3
        rw [← h1'] at o1 o2 hs1 hs2
        clear h1' h2' h3' g1 g2 g3 g4 g5 g6 k1 k2 hcut
        have T : ∀ x y : Nat, x < y → decide ((x : Int) < (y : Int)) = true := fun x y h => by simp; omega
        have F : ∀ x y : Nat, ¬ x < y → decide ((x : Int) < (y : Int)) = false := fun x y h => by simp; omega
        rcases (show (j' < m ∧ m < e) ∨ ¬ j' < m ∨ (j' < m ∧ ¬ m < e) by omega) with p | p | p
        all_goals first
          | (have hp := hs1 p
             simp -implicitDefEqProofs only [↓aP, aQ, ↓reduceIte, Nat.reduceEqDiff, Nat.reduceAdd, Nat.reduceSub, Nat.reduceMul, Nat.reduceLT, Nat.reduceLeDiff, reduceCtorEq, Nat.reduceBEq, forall_const, implies_true, exists_const, ne_eq, Int.reduceAdd, Int.reduceSub, Int.reduceMul, Int.reduceBEq, Int.reduceEq, Int.reduceLT, Int.reduceLE, Int.reduceToNat, Int.reduceNeg, Int.reduceBNe, s0, g99, b99, s1, s2, s3, s4, s18, s19, s22, s20, s21, F j' j' (by omega), w3, T _ _ p.1, T _ _ p.2]
             refine askX2 hp (by simp -implicitDefEqProofs only [↓aP, aQ, ↓reduceIte, Nat.reduceEqDiff, Nat.reduceAdd, Nat.reduceSub, Nat.reduceMul, Nat.reduceLT, Nat.reduceLeDiff, reduceCtorEq, Nat.reduceBEq, forall_const, implies_true, exists_const, ne_eq, Int.reduceAdd, Int.reduceSub, Int.reduceMul, Int.reduceBEq, Int.reduceEq, Int.reduceLT, Int.reduceLE, Int.reduceToNat, Int.reduceNeg, Int.reduceBNe]) ?_
             simp -implicitDefEqProofs only [↓aP, aQ, ↓reduceIte, Nat.reduceEqDiff, Nat.reduceAdd, Nat.reduceSub, Nat.reduceMul, Nat.reduceLT, Nat.reduceLeDiff, reduceCtorEq, Nat.reduceBEq, forall_const, implies_true, exists_const, ne_eq, Int.reduceAdd, Int.reduceSub, Int.reduceMul, Int.reduceBEq, Int.reduceEq, Int.reduceLT, Int.reduceLE, Int.reduceToNat, Int.reduceNeg, Int.reduceBNe, s0, g99, b99, s1, s2, s3, s4, s18, s19, s22, s20, s21, XR.lb])
          | (have q2 := F _ _ p.2
             rw [← o1 (by omega)] at b99
             simp -implicitDefEqProofs only [↓aP, aQ, ↓reduceIte, Nat.reduceEqDiff, Nat.reduceAdd, Nat.reduceSub, Nat.reduceMul, Nat.reduceLT, Nat.reduceLeDiff, reduceCtorEq, Nat.reduceBEq, forall_const, implies_true, exists_const, ne_eq, Int.reduceAdd, Int.reduceSub, Int.reduceMul, Int.reduceBEq, Int.reduceEq, Int.reduceLT, Int.reduceLE, Int.reduceToNat, Int.reduceNeg, Int.reduceBNe, s0, g99, b99, s1, s2, s3, s4, s18, s19, s22, s20, s21, F j' j' (by omega), w3, T _ _ p.1, q2])
          | (have q2 := F _ _ p
             rw [← o1 (by omega)] at b99
             simp -implicitDefEqProofs only [↓aP, aQ, ↓reduceIte, Nat.reduceEqDiff, Nat.reduceAdd, Nat.reduceSub, Nat.reduceMul, Nat.reduceLT, Nat.reduceLeDiff, reduceCtorEq, Nat.reduceBEq, forall_const, implies_true, exists_const, ne_eq, Int.reduceAdd, Int.reduceSub, Int.reduceMul, Int.reduceBEq, Int.reduceEq, Int.reduceLT, Int.reduceLE, Int.reduceToNat, Int.reduceNeg, Int.reduceBNe, s0, g99, b99, s1, s2, s3, s4, s18, s19, s22, s20, s21, F j' j' (by omega), w3, q2])
        all_goals (clear p; rcases (show (a < j' ∧ j' < mid) ∨ ¬ a < j' ∨ (a < j' ∧ ¬ j' < mid) by omega) with p | p | p)
        all_goals first
          | (have hp := hs2 p
             simp -implicitDefEqProofs only [↓aP, aQ, ↓reduceIte, Nat.reduceEqDiff, Nat.reduceAdd, Nat.reduceSub, Nat.reduceMul, Nat.reduceLT, Nat.reduceLeDiff, reduceCtorEq, Nat.reduceBEq, forall_const, implies_true, exists_const, ne_eq, Int.reduceAdd, Int.reduceSub, Int.reduceMul, Int.reduceBEq, Int.reduceEq, Int.reduceLT, Int.reduceLE, Int.reduceToNat, Int.reduceNeg, Int.reduceBNe, s0, g99, b99, s1, s2, s3, s4, s18, s19, s22, s20, s21, T _ _ p.1, T _ _ p.2]
             refine askX2 hp (by simp -implicitDefEqProofs only [↓aP, aQ, ↓reduceIte, Nat.reduceEqDiff, Nat.reduceAdd, Nat.reduceSub, Nat.reduceMul, Nat.reduceLT, Nat.reduceLeDiff, reduceCtorEq, Nat.reduceBEq, forall_const, implies_true, exists_const, ne_eq, Int.reduceAdd, Int.reduceSub, Int.reduceMul, Int.reduceBEq, Int.reduceEq, Int.reduceLT, Int.reduceLE, Int.reduceToNat, Int.reduceNeg, Int.reduceBNe]) ?_
             simp -implicitDefEqProofs only [↓aP, aQ, ↓reduceIte, Nat.reduceEqDiff, Nat.reduceAdd, Nat.reduceSub, Nat.reduceMul, Nat.reduceLT, Nat.reduceLeDiff, reduceCtorEq, Nat.reduceBEq, forall_const, implies_true, exists_const, ne_eq, Int.reduceAdd, Int.reduceSub, Int.reduceMul, Int.reduceBEq, Int.reduceEq, Int.reduceLT, Int.reduceLE, Int.reduceToNat, Int.reduceNeg, Int.reduceBNe, s0, g99, b99, s1, s2, s3, s4, s18, s19, s22, s20, s21, XR.lb])
          | (have q2 := F _ _ p.2
             first | rw [← o2 (by omega)] at b99 | rw [← o2 (by omega)]
             simp -implicitDefEqProofs only [↓aP, aQ, ↓reduceIte, Nat.reduceEqDiff, Nat.reduceAdd, Nat.reduceSub, Nat.reduceMul, Nat.reduceLT, Nat.reduceLeDiff, reduceCtorEq, Nat.reduceBEq, forall_const, implies_true, exists_const, ne_eq, Int.reduceAdd, Int.reduceSub, Int.reduceMul, Int.reduceBEq, Int.reduceEq, Int.reduceLT, Int.reduceLE, Int.reduceToNat, Int.reduceNeg, Int.reduceBNe, s0, g99, b99, s1, s2, s3, s4, s18, s19, s22, s20, s21, T _ _ p.1, q2])
          | (have q2 := F _ _ p
             first | rw [← o2 (by omega)] at b99 | rw [← o2 (by omega)]
             simp -implicitDefEqProofs only [↓aP, aQ, ↓reduceIte, Nat.reduceEqDiff, Nat.reduceAdd, Nat.reduceSub, Nat.reduceMul, Nat.reduceLT, Nat.reduceLeDiff, reduceCtorEq, Nat.reduceBEq, forall_const, implies_true, exists_const, ne_eq, Int.reduceAdd, Int.reduceSub, Int.reduceMul, Int.reduceBEq, Int.reduceEq, Int.reduceLT, Int.reduceLE, Int.reduceToNat, Int.reduceNeg, Int.reduceBNe, s0, g99, b99, s1, s2, s3, s4, s18, s19, s22, s20, s21, q2])
        all_goals (clear p; rcases (show (mid < e ∧ e < b) ∨ ¬ mid < e ∨ (mid < e ∧ ¬ e < b) by omega) with p | p | p)
        all_goals first
          | (have hp := hs3 p
             simp -implicitDefEqProofs only [↓aP, aQ, ↓reduceIte, Nat.reduceEqDiff, Nat.reduceAdd, Nat.reduceSub, Nat.reduceMul, Nat.reduceLT, Nat.reduceLeDiff, reduceCtorEq, Nat.reduceBEq, forall_const, implies_true, exists_const, ne_eq, Int.reduceAdd, Int.reduceSub, Int.reduceMul, Int.reduceBEq, Int.reduceEq, Int.reduceLT, Int.reduceLE, Int.reduceToNat, Int.reduceNeg, Int.reduceBNe, s0, g99, b99, s1, s2, s3, s4, s18, s19, s22, s20, s21, T _ _ p.1, T _ _ p.2]
             refine askX2 hp (by simp -implicitDefEqProofs only [↓aP, aQ, ↓reduceIte, Nat.reduceEqDiff, Nat.reduceAdd, Nat.reduceSub, Nat.reduceMul, Nat.reduceLT, Nat.reduceLeDiff, reduceCtorEq, Nat.reduceBEq, forall_const, implies_true, exists_const, ne_eq, Int.reduceAdd, Int.reduceSub, Int.reduceMul, Int.reduceBEq, Int.reduceEq, Int.reduceLT, Int.reduceLE, Int.reduceToNat, Int.reduceNeg, Int.reduceBNe]) ?_
             simp -implicitDefEqProofs only [↓aP, aQ, ↓reduceIte, Nat.reduceEqDiff, Nat.reduceAdd, Nat.reduceSub, Nat.reduceMul, Nat.reduceLT, Nat.reduceLeDiff, reduceCtorEq, Nat.reduceBEq, forall_const, implies_true, exists_const, ne_eq, Int.reduceAdd, Int.reduceSub, Int.reduceMul, Int.reduceBEq, Int.reduceEq, Int.reduceLT, Int.reduceLE, Int.reduceToNat, Int.reduceNeg, Int.reduceBNe, s0, g99, b99, s1, s2, s3, s4, s18, s19, s22, s20, s21, XR.lb, finX, boxC, lbX])
          | (have q2 := F _ _ p.2
             first | rw [← o3 (by omega)] at b99 | rw [← o3 (by omega)]
             simp -implicitDefEqProofs only [↓aP, aQ, ↓reduceIte, Nat.reduceEqDiff, Nat.reduceAdd, Nat.reduceSub, Nat.reduceMul, Nat.reduceLT, Nat.reduceLeDiff, reduceCtorEq, Nat.reduceBEq, forall_const, implies_true, exists_const, ne_eq, Int.reduceAdd, Int.reduceSub, Int.reduceMul, Int.reduceBEq, Int.reduceEq, Int.reduceLT, Int.reduceLE, Int.reduceToNat, Int.reduceNeg, Int.reduceBNe, s0, g99, b99, s1, s2, s3, s4, s18, s19, s22, s20, s21, T _ _ p.1, q2, finX, boxC, lbX])
          | (have q2 := F _ _ p
             first | rw [← o3 (by omega)] at b99 | rw [← o3 (by omega)]
             simp -implicitDefEqProofs only [↓aP, aQ, ↓reduceIte, Nat.reduceEqDiff, Nat.reduceAdd, Nat.reduceSub, Nat.reduceMul, Nat.reduceLT, Nat.reduceLeDiff, reduceCtorEq, Nat.reduceBEq, forall_const, implies_true, exists_const, ne_eq, Int.reduceAdd, Int.reduceSub, Int.reduceMul, Int.reduceBEq, Int.reduceEq, Int.reduceLT, Int.reduceLE, Int.reduceToNat, Int.reduceNeg, Int.reduceBNe, s0, g99, b99, s1, s2, s3, s4, s18, s19, s22, s20, s21, q2, finX, boxC, lbX])
theorem sym_spec {g : Nat} {caps : List SC} {lt : Ev → Ev → Bool} (hc : CmpF g caps lt) : ∀ (n : Nat) (l : List Ev) (a m b : Nat), b - a < n → a < m → m < b → b ≤ l.length → l.length < 1000000 → Srtd lt (seg a m l) → Srtd lt (seg m b l) → SymOk g caps lt l a m b := by
  intro n
  induction n with
  | zero => intro l a m b h; omega
  | succ n ih =>
    intro l a m b h h1 h2 h3 hl hL hR
    by_cases e1 : m = a + 1
    · subst e1; exact sym_first l a b hc h2 h3 hl hR
    by_cases e2 : b = m + 1
    · subst e2; exact sym_last l a m hc (by omega) (by omega) hl hL
    exact sym_half l a m b hc (by omega) (by omega) h3 hl hL hR fun l a' m' b' h5 h6 h7 h8 h9 h10 h11 => ih l a' m' b' (by omega) h6 h7 h8 h9 h10 h11
end Go.Proofs.Ytbpipdgkkdifgaa
