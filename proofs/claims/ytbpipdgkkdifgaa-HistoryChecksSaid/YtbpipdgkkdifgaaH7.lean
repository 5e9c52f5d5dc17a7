/- layer 21: stable sorting of events, by the machine: slices.SortStableFunc. -/
import Derived.Test.YtbpipdgkkdifgaaH6
namespace Go.Proofs.Ytbpipdgkkdifgaa
open Go.RowKit Ok Ss Hi
set_option linter.unusedVariables false
set_option linter.unusedSimpArgs false
namespace Ss
section
variable {α : Type} {lt : α → α → Bool}
theorem seg_end {a b c : Nat} {l : List α} (h1 : l.length ≤ b) (h2 : l.length ≤ c) : seg a b l = seg a c l := by
  unfold seg
  rw [List.take_of_length_le (by simp; omega), List.take_of_length_le (by simp; omega)]
theorem seg_none {a b : Nat} {l : List α} (h1 : l.length ≤ a) : seg a b l = [] := by
  unfold seg
  rw [List.drop_eq_nil_of_le h1]; simp
def BkAt (lt : α → α → Bool) (bs k : Nat) (l0 cur : List α) : Prop := seg (k * bs) (k * bs + bs) cur = stbl lt (seg (k * bs) (k * bs + bs) l0)
def Bk (lt : α → α → Bool) (bs : Nat) (l0 cur : List α) : Prop := cur.length = l0.length ∧ ∀ k, BkAt lt bs k l0 cur
def B1 (lt : α → α → Bool) (bs j : Nat) (l0 cur : List α) : Prop := cur.length = l0.length ∧ (∀ k, k < j → BkAt lt bs k l0 cur) ∧ cur.drop (j * bs) = l0.drop (j * bs)
def Bh (lt : α → α → Bool) (bs j : Nat) (l0 cur : List α) : Prop := cur.length = l0.length ∧ (∀ k, k < j → BkAt lt (2 * bs) k l0 cur) ∧ ∀ k, 2 * j ≤ k → BkAt lt bs k l0 cur
theorem step_le {k j bs : Nat} (h : k < j) : k * bs + bs ≤ j * bs := by
  have := Nat.mul_le_mul_right bs (show k + 1 ≤ j by omega)
  rwa [Nat.add_mul, Nat.one_mul] at this
theorem bk_take {bs k a : Nat} {l0 cur cur' : List α} (h : BkAt lt bs k l0 cur) (ht : cur'.take a = cur.take a) (hk : k * bs + bs ≤ a) : BkAt lt bs k l0 cur' := by
  unfold BkAt at h ⊢
  rw [seg_take ht hk]; exact h
theorem bk_past {bs k : Nat} {l0 cur : List α} (h1 : cur.length = l0.length) (h2 : l0.length ≤ k * bs) : BkAt lt bs k l0 cur := by
  unfold BkAt
  rw [seg_none (by omega), seg_none h2]; rfl
theorem b1_start {bs : Nat} {l0 : List α} : B1 lt bs 0 l0 l0 := ⟨rfl, fun k h => by omega, by simp⟩
theorem b1_step {bs j : Nat} {l0 cur : List α} (h : B1 lt bs j l0 cur) (hb : j * bs + bs ≤ l0.length) : B1 lt bs (j + 1) l0 (ss lt (j * bs) (j * bs + bs) cur) := by
  obtain ⟨h1, h2, h3⟩ := h
  refine ⟨by rw [ss_len (by omega) (by omega)]; exact h1, fun k hk => ?_, ?_⟩
  · by_cases e : k = j
    · subst e
      unfold BkAt
      rw [ss_seg (by omega) (by omega), seg_drop h3 (Nat.le_refl _)]
    · exact bk_take (h2 k (by omega)) (ss_take (by omega)) (step_le (by omega))
  · rw [Nat.add_mul, Nat.one_mul, ss_drop (by omega) (by omega), ← List.drop_drop, h3, List.drop_drop]
theorem b1_end {bs j : Nat} {l0 cur : List α} (h : B1 lt bs j l0 cur) (ha : j * bs ≤ l0.length) (hb : l0.length < j * bs + bs) : Bk lt bs l0 (ss lt (j * bs) l0.length cur) := by
  obtain ⟨h1, h2, h3⟩ := h
  have hl : (ss lt (j * bs) l0.length cur).length = l0.length := by rw [ss_len ha (by omega)]; exact h1
  refine ⟨hl, fun k => ?_⟩
  by_cases e : k = j
  · subst e
    unfold BkAt
    rw [seg_end (b := k * bs + bs) (c := l0.length) (by omega) (by omega), ss_seg ha (by omega), seg_drop h3 (Nat.le_refl _), seg_end (b := k * bs + bs) (c := l0.length) (by omega) (by omega)]
  by_cases e2 : k < j
  · exact bk_take (h2 k e2) (ss_take (by omega)) (step_le e2)
  · exact bk_past hl (by have := step_le (bs := bs) (show j < k by omega); omega)
theorem bh_start {bs : Nat} {l0 cur : List α} (h : Bk lt bs l0 cur) : Bh lt bs 0 l0 cur := ⟨h.1, fun k h => by omega, fun k _ => h.2 k⟩
theorem dbl {j bs : Nat} : j * (2 * bs) = 2 * j * bs := by rw [← Nat.mul_assoc, Nat.mul_comm j 2]
theorem dbl1 {j bs : Nat} : (2 * j + 1) * bs = j * (2 * bs) + bs := by rw [Nat.add_mul, Nat.one_mul, dbl]
theorem bh_at {bs j : Nat} {l0 cur : List α} (h : Bh lt bs j l0 cur) : seg (j * (2 * bs)) (j * (2 * bs) + bs) cur = stbl lt (seg (j * (2 * bs)) (j * (2 * bs) + bs) l0) ∧
    seg (j * (2 * bs) + bs) (j * (2 * bs) + 2 * bs) cur = stbl lt (seg (j * (2 * bs) + bs) (j * (2 * bs) + 2 * bs) l0) := by
  have h1 := h.2.2 (2 * j) (Nat.le_refl _)
  have h2 := h.2.2 (2 * j + 1) (by omega)
  unfold BkAt at h1 h2
  rw [dbl1] at h2
  rw [← dbl] at h1
  rw [show j * (2 * bs) + bs + bs = j * (2 * bs) + 2 * bs by omega] at h2
  exact ⟨h1, h2⟩
theorem bh_both (hw : Swo lt) {bs j : Nat} {l0 cur : List α} (h : Bh lt bs j l0 cur) : stbl lt (seg (j * (2 * bs)) (j * (2 * bs) + 2 * bs) cur) = stbl lt (seg (j * (2 * bs)) (j * (2 * bs) + 2 * bs) l0) := by
  obtain ⟨h1, h2⟩ := bh_at h
  rw [seg_split (a := j * (2 * bs)) (m := j * (2 * bs) + bs) (b := j * (2 * bs) + 2 * bs) (by omega) (by omega), h1, h2, stbl_parts hw, seg_split (a := j * (2 * bs)) (m := j * (2 * bs) + bs) (b := j * (2 * bs) + 2 * bs) (by omega) (by omega)]
theorem bh_step (hw : Swo lt) {bs j : Nat} {l0 cur : List α} (h : Bh lt bs j l0 cur) (hb : j * (2 * bs) + 2 * bs ≤ l0.length) : Bh lt bs (j + 1) l0 (ss lt (j * (2 * bs)) (j * (2 * bs) + 2 * bs) cur) := by
  have h1 := h.1
  refine ⟨by rw [ss_len (by omega) (by omega)]; exact h1, fun k hk => ?_, fun k hk => ?_⟩
  · by_cases e : k = j
    · subst e
      unfold BkAt
      rw [ss_seg (by omega) (by omega), bh_both hw h]
    · exact bk_take (h.2.1 k (by omega)) (ss_take (by omega)) (step_le (by omega))
  · have := h.2.2 k (by omega)
    unfold BkAt at this ⊢
    rw [seg_drop (c := j * (2 * bs) + 2 * bs) (ss_drop (by omega) (by omega)) ?_]
    · exact this
    · have := Nat.mul_le_mul_right bs hk
      rw [show 2 * (j + 1) = 2 * j + 2 by omega, Nat.add_mul, ← dbl] at this
      exact this
theorem bh_end (hw : Swo lt) {bs j : Nat} {l0 cur : List α} (h : Bh lt bs j l0 cur) (ha : j * (2 * bs) ≤ l0.length) (hb : l0.length < j * (2 * bs) + 2 * bs) : Bk lt (2 * bs) l0 (ss lt (j * (2 * bs)) l0.length cur) := by
  have h1 := h.1
  have hl : (ss lt (j * (2 * bs)) l0.length cur).length = l0.length := by rw [ss_len ha (by omega)]; exact h1
  refine ⟨hl, fun k => ?_⟩
  by_cases e : k = j
  · subst e
    have := bh_both hw h
    unfold BkAt
    rw [seg_end (b := k * (2 * bs) + 2 * bs) (c := l0.length) (by omega) (by omega), ss_seg ha (by omega), ← this, seg_end (b := k * (2 * bs) + 2 * bs) (c := l0.length) (by omega) (by omega)]
  by_cases e2 : k < j
  · exact bk_take (h.2.1 k e2) (ss_take (by omega)) (step_le e2)
  · exact bk_past hl (by have := step_le (bs := 2 * bs) (show j < k by omega); omega)
theorem bh_short (hw : Swo lt) {bs j : Nat} {l0 cur : List α} (h : Bh lt bs j l0 cur) (ha : j * (2 * bs) ≤ l0.length) (hb : l0.length ≤ j * (2 * bs) + bs) : ss lt (j * (2 * bs)) l0.length cur = cur := by
  refine ss_self hw ha ?_
  have h1 := h.1
  rw [seg_end (c := j * (2 * bs) + bs) (by omega) (by omega), (bh_at h).1]
  exact (stbl_ok hw _).1
theorem bk_end {bs : Nat} {l0 cur : List α} (h : Bk lt bs l0 cur) (hb : l0.length ≤ bs) : cur = stbl lt l0 := by
  have h1 := h.1
  have := h.2 0
  unfold BkAt at this
  rw [Nat.zero_mul, Nat.zero_add] at this
  have e : ∀ l : List α, l.length ≤ bs → seg 0 bs l = l := fun l hl => by unfold seg; simp [List.take_of_length_le hl]
  rwa [e _ (by omega), e _ hb] at this
theorem bh_srt (hw : Swo lt) {bs j e : Nat} {l0 cur : List α} (h : Bh lt bs j l0 cur) (h1 : j * (2 * bs) + bs ≤ e) (h2 : e = j * (2 * bs) + 2 * bs ∨ e = l0.length ∧ l0.length ≤ j * (2 * bs) + 2 * bs) : Srtd lt (seg (j * (2 * bs)) (j * (2 * bs) + bs) cur) ∧ Srtd lt (seg (j * (2 * bs) + bs) e cur) := by
  have hl := h.1
  obtain ⟨q1, q2⟩ := bh_at h
  refine ⟨by rw [q1]; exact (stbl_ok hw _).1, ?_⟩
  rcases h2 with rfl | ⟨rfl, h3⟩
  · rw [q2]; exact (stbl_ok hw _).1
  · rw [seg_end (c := j * (2 * bs) + 2 * bs) (by omega) (by omega), q2]; exact (stbl_ok hw _).1
end
end Ss



set_option maxHeartbeats 4000000 in
theorem stable_spec (l : List Ev) {g : Nat} {caps : List SC} {lt : Ev → Ev → Bool} (hc : CmpF g caps lt) (hl : l.length < 1000000) :
    SpecX Try.prog 46 ⟨true, tEv, 11, l.map encEv, none, (stbl lt l).map encEv, some (.tup [])⟩ [rI l.length, .c (.fn g caps)] := by
  refine spec_xr mixed fn46 99 (r := .tup []) rfl rfl (by simp) rfl (by simp [stbl_len]) (by simp) ?_
  unfold ac46
  simp -implicitDefEqProofs only [↓aP, aQ, ↓reduceIte, Nat.reduceEqDiff, Nat.reduceAdd, Nat.reduceSub, Nat.reduceMul, Nat.reduceLT, Nat.reduceLeDiff, reduceCtorEq, Nat.reduceBEq, forall_const, implies_true, exists_const, ne_eq, Int.reduceAdd, Int.reduceSub, Int.reduceMul, Int.reduceBEq, Int.reduceEq, Int.reduceLT, Int.reduceLE, Int.reduceToNat, Int.reduceNeg, Int.reduceBNe, initX_slot, initX_gen, initX_blk, XR.lb0, XR.at0]
  refine loopA (fun n σ => ∃ (j : Nat) (cur : List Ev), B1 lt 20 j l cur ∧ j * 20 ≤ l.length ∧ n = l.length - j * 20 ∧ σ.slot 0 = .c (.own 99 0) ∧ σ.h.gen 99 = 0 ∧ σ.h.blk 99 = .row tEv 11 (cur.map encEv) ∧ σ.slot 1 = vI l.length ∧ σ.slot 2 = .c (.s (.fn g caps)) ∧ σ.slot 6 = vI 20 ∧ σ.slot 7 = vI (j * 20 : Nat) ∧ σ.slot 8 = vI (j * 20 + 20 : Nat)) l.length ?_ ?_
  · refine ⟨0, l, b1_start, by omega, by omega, ?_⟩
    simp -implicitDefEqProofs only [↓aP, aQ, ↓reduceIte, Nat.reduceEqDiff, Nat.reduceAdd, Nat.reduceSub, Nat.reduceMul, Nat.reduceLT, Nat.reduceLeDiff, reduceCtorEq, Nat.reduceBEq, forall_const, implies_true, exists_const, ne_eq, Int.reduceAdd, Int.reduceSub, Int.reduceMul, Int.reduceBEq, Int.reduceEq, Int.reduceLT, Int.reduceLE, Int.reduceToNat, Int.reduceNeg, Int.reduceBNe, initX_slot, initX_gen, initX_blk, XR.lb0, XR.at0]
  · rintro n σ ⟨j, cur, hB, hj, rfl, s0, g99, b99, s1, s2, s6, s7, s8⟩
    have hcl := hB.1
    by_cases hle : j * 20 + 20 ≤ l.length
    · simp -implicitDefEqProofs only [↓aP, aQ, ↓reduceIte, Nat.reduceEqDiff, Nat.reduceAdd, Nat.reduceSub, Nat.reduceMul, Nat.reduceLT, Nat.reduceLeDiff, reduceCtorEq, Nat.reduceBEq, forall_const, implies_true, exists_const, ne_eq, Int.reduceAdd, Int.reduceSub, Int.reduceMul, Int.reduceBEq, Int.reduceEq, Int.reduceLT, Int.reduceLE, Int.reduceToNat, Int.reduceNeg, Int.reduceBNe, s0, g99, b99, s1, s2, s6, s7, s8, show decide (((j * 20 + 20 : Nat) : Int) ≤ (l.length : Int)) = true by simp; omega]
      refine askX2 (isort_spec cur (j * 20) (j * 20 + 20) hc (by omega) (by omega) (by omega)) (by simp -implicitDefEqProofs only [↓aP, aQ, ↓reduceIte, Nat.reduceEqDiff, Nat.reduceAdd, Nat.reduceSub, Nat.reduceMul, Nat.reduceLT, Nat.reduceLeDiff, reduceCtorEq, Nat.reduceBEq, forall_const, implies_true, exists_const, ne_eq, Int.reduceAdd, Int.reduceSub, Int.reduceMul, Int.reduceBEq, Int.reduceEq, Int.reduceLT, Int.reduceLE, Int.reduceToNat, Int.reduceNeg, Int.reduceBNe]) ?_
      simp -implicitDefEqProofs only [↓aP, aQ, ↓reduceIte, Nat.reduceEqDiff, Nat.reduceAdd, Nat.reduceSub, Nat.reduceMul, Nat.reduceLT, Nat.reduceLeDiff, reduceCtorEq, Nat.reduceBEq, forall_const, implies_true, exists_const, ne_eq, Int.reduceAdd, Int.reduceSub, Int.reduceMul, Int.reduceBEq, Int.reduceEq, Int.reduceLT, Int.reduceLE, Int.reduceToNat, Int.reduceNeg, Int.reduceBNe, s0, g99, b99, s1, s2, s6, s7, s8, XR.lb, show IntKind.i64.wrap (((j * 20 + 20 : Nat) : Int) + 20) = ((j * 20 + 20 + 20 : Nat) : Int) by rw [wrapI (by omega)]; omega]
      refine ⟨l.length - (j + 1) * 20, by omega, j + 1, _, b1_step hB hle, by omega, rfl, ?_⟩
      simp -implicitDefEqProofs only [↓aP, aQ, ↓reduceIte, Nat.reduceEqDiff, Nat.reduceAdd, Nat.reduceSub, Nat.reduceMul, Nat.reduceLT, Nat.reduceLeDiff, reduceCtorEq, Nat.reduceBEq, forall_const, implies_true, exists_const, ne_eq, Int.reduceAdd, Int.reduceSub, Int.reduceMul, Int.reduceBEq, Int.reduceEq, Int.reduceLT, Int.reduceLE, Int.reduceToNat, Int.reduceNeg, Int.reduceBNe, s0, g99, b99, s1, s2, s6, s7, s8, show (j + 1) * 20 = j * 20 + 20 by omega]
    · simp -implicitDefEqProofs only [↓aP, aQ, ↓reduceIte, Nat.reduceEqDiff, Nat.reduceAdd, Nat.reduceSub, Nat.reduceMul, Nat.reduceLT, Nat.reduceLeDiff, reduceCtorEq, Nat.reduceBEq, forall_const, implies_true, exists_const, ne_eq, Int.reduceAdd, Int.reduceSub, Int.reduceMul, Int.reduceBEq, Int.reduceEq, Int.reduceLT, Int.reduceLE, Int.reduceToNat, Int.reduceNeg, Int.reduceBNe, s0, g99, b99, s1, s2, s6, s7, s8, show decide (((j * 20 + 20 : Nat) : Int) ≤ (l.length : Int)) = false by simp; omega]
      refine askX2 (isort_spec cur (j * 20) l.length hc (by omega) (by omega) (by omega)) (by simp -implicitDefEqProofs only [↓aP, aQ, ↓reduceIte, Nat.reduceEqDiff, Nat.reduceAdd, Nat.reduceSub, Nat.reduceMul, Nat.reduceLT, Nat.reduceLeDiff, reduceCtorEq, Nat.reduceBEq, forall_const, implies_true, exists_const, ne_eq, Int.reduceAdd, Int.reduceSub, Int.reduceMul, Int.reduceBEq, Int.reduceEq, Int.reduceLT, Int.reduceLE, Int.reduceToNat, Int.reduceNeg, Int.reduceBNe]) ?_
      have hBk := b1_end hB hj (by omega)
      obtain ⟨cur2, hc2⟩ : ∃ c, c = ss lt (j * 20) l.length cur := ⟨_, rfl⟩
      rw [← hc2] at hBk ⊢
      simp -implicitDefEqProofs only [↓aP, aQ, ↓reduceIte, Nat.reduceEqDiff, Nat.reduceAdd, Nat.reduceSub, Nat.reduceMul, Nat.reduceLT, Nat.reduceLeDiff, reduceCtorEq, Nat.reduceBEq, forall_const, implies_true, exists_const, ne_eq, Int.reduceAdd, Int.reduceSub, Int.reduceMul, Int.reduceBEq, Int.reduceEq, Int.reduceLT, Int.reduceLE, Int.reduceToNat, Int.reduceNeg, Int.reduceBNe, s0, g99, b99, s1, s2, s6, s7, s8, XR.lb]
      clear hc2 hB hcl hj hle
      refine loopA (fun n σ => ∃ (bs : Nat) (cur : List Ev), Bk lt bs l cur ∧ 1 ≤ bs ∧ bs < 2000000 ∧ n = l.length - bs ∧ σ.slot 0 = .c (.own 99 0) ∧ σ.h.gen 99 = 0 ∧ σ.h.blk 99 = .row tEv 11 (cur.map encEv) ∧ σ.slot 1 = vI l.length ∧ σ.slot 2 = .c (.s (.fn g caps)) ∧ σ.slot 6 = vI bs) (l.length - 20) ?_ ?_
      · refine ⟨20, cur2, hBk, by omega, by omega, rfl, ?_⟩
        simp -implicitDefEqProofs only [↓aP, aQ, ↓reduceIte, Nat.reduceEqDiff, Nat.reduceAdd, Nat.reduceSub, Nat.reduceMul, Nat.reduceLT, Nat.reduceLeDiff, reduceCtorEq, Nat.reduceBEq, forall_const, implies_true, exists_const, ne_eq, Int.reduceAdd, Int.reduceSub, Int.reduceMul, Int.reduceBEq, Int.reduceEq, Int.reduceLT, Int.reduceLE, Int.reduceToNat, Int.reduceNeg, Int.reduceBNe, s0, g99, b99, s1, s2, s6, s7, s8]
      · clear s0 g99 b99 s1 s2 s6 s7 s8 hBk cur2 cur σ j
        rintro n σ ⟨bs, cur, hB, h1, h2, rfl, s0, g99, b99, s1, s2, s6⟩
        have hcl := hB.1
        by_cases hlt : bs < l.length
        · have w2 : IntKind.i64.wrap (2 * (bs : Int)) = ((2 * bs : Nat) : Int) := by rw [wrapI (by omega)]; omega
          simp -implicitDefEqProofs only [↓aP, aQ, ↓reduceIte, Nat.reduceEqDiff, Nat.reduceAdd, Nat.reduceSub, Nat.reduceMul, Nat.reduceLT, Nat.reduceLeDiff, reduceCtorEq, Nat.reduceBEq, forall_const, implies_true, exists_const, ne_eq, Int.reduceAdd, Int.reduceSub, Int.reduceMul, Int.reduceBEq, Int.reduceEq, Int.reduceLT, Int.reduceLE, Int.reduceToNat, Int.reduceNeg, Int.reduceBNe, s0, g99, b99, s1, s2, s6, show decide ((bs : Int) < (l.length : Int)) = true by simp; omega, w2]
          refine loopA (fun n σ => ∃ (j : Nat) (cur : List Ev), Bh lt bs j l cur ∧ j * (2 * bs) ≤ l.length ∧ n = l.length - j * (2 * bs) ∧ σ.slot 0 = .c (.own 99 0) ∧ σ.h.gen 99 = 0 ∧ σ.h.blk 99 = .row tEv 11 (cur.map encEv) ∧ σ.slot 1 = vI l.length ∧ σ.slot 2 = .c (.s (.fn g caps)) ∧ σ.slot 6 = vI bs ∧ σ.slot 7 = vI (j * (2 * bs) : Nat) ∧ σ.slot 8 = vI (j * (2 * bs) + 2 * bs : Nat)) l.length ?_ ?_
          · refine ⟨0, cur, bh_start hB, by omega, by omega, ?_⟩
            simp -implicitDefEqProofs only [↓aP, aQ, ↓reduceIte, Nat.reduceEqDiff, Nat.reduceAdd, Nat.reduceSub, Nat.reduceMul, Nat.reduceLT, Nat.reduceLeDiff, reduceCtorEq, Nat.reduceBEq, forall_const, implies_true, exists_const, ne_eq, Int.reduceAdd, Int.reduceSub, Int.reduceMul, Int.reduceBEq, Int.reduceEq, Int.reduceLT, Int.reduceLE, Int.reduceToNat, Int.reduceNeg, Int.reduceBNe, s0, g99, b99, s1, s2, s6]
            rw [Nat.zero_mul, Nat.zero_add]
            exact ⟨rfl, rfl⟩
          · clear s0 g99 b99 s1 s2 s6 hB hcl cur σ
            rintro n σ ⟨j, cur, hB, hj, rfl, s0, g99, b99, s1, s2, s6, s7, s8⟩
            have hcl := hB.1
            have hstep := bh_step hc.swo hB
            have hend := bh_end hc.swo hB hj
            have hshort := bh_short hc.swo hB hj
            have hsrt := fun e => bh_srt hc.swo (e := e) hB
            have ej : (j + 1) * (2 * bs) = j * (2 * bs) + 2 * bs := by rw [Nat.add_mul, Nat.one_mul]
            obtain ⟨P', hP'⟩ : ∃ P', P' = (j + 1) * (2 * bs) := ⟨_, rfl⟩
            obtain ⟨P, hP⟩ : ∃ P, P = j * (2 * bs) := ⟨_, rfl⟩
            obtain ⟨W, hW⟩ : ∃ W, W = 2 * bs := ⟨_, rfl⟩
            have eW : W = bs + bs := by omega
            rw [← hP', ← hP, ← hW] at ej
            rw [← hP] at hstep hend hshort hsrt hj s7 s8 ⊢
            rw [← hW] at hstep hend hsrt s8 w2
            have w3 : IntKind.i64.wrap ((P : Int) + (bs : Int)) = ((P + bs : Nat) : Int) := natI (by omega)
            have w4 : IntKind.i64.wrap ((bs : Int) * 2) = (W : Int) := by rw [wrapI (by omega)]; omega
            have w5 : IntKind.i64.wrap (((P + W : Nat) : Int) + (W : Int)) = ((P + W + W : Nat) : Int) := natI (by omega)
            by_cases hle : P + W ≤ l.length
            · obtain ⟨s1', s2'⟩ := hsrt (P + W) (by omega) (.inl (by omega))
              have hs := sym_spec hc (W + 1) cur P (P + bs) (P + W) (by omega) (by omega) (by omega) (by omega) (by omega) s1' s2'
              unfold SymOk at hs
              simp -implicitDefEqProofs only [↓aP, aQ, ↓reduceIte, Nat.reduceEqDiff, Nat.reduceAdd, Nat.reduceSub, Nat.reduceMul, Nat.reduceLT, Nat.reduceLeDiff, reduceCtorEq, Nat.reduceBEq, forall_const, implies_true, exists_const, ne_eq, Int.reduceAdd, Int.reduceSub, Int.reduceMul, Int.reduceBEq, Int.reduceEq, Int.reduceLT, Int.reduceLE, Int.reduceToNat, Int.reduceNeg, Int.reduceBNe, s0, g99, b99, s1, s2, s6, s7, s8, w3, show decide (((P + W : Nat) : Int) ≤ (l.length : Int)) = true by simp; omega]
              refine askX2 hs (by simp -implicitDefEqProofs only [↓aP, aQ, ↓reduceIte, Nat.reduceEqDiff, Nat.reduceAdd, Nat.reduceSub, Nat.reduceMul, Nat.reduceLT, Nat.reduceLeDiff, reduceCtorEq, Nat.reduceBEq, forall_const, implies_true, exists_const, ne_eq, Int.reduceAdd, Int.reduceSub, Int.reduceMul, Int.reduceBEq, Int.reduceEq, Int.reduceLT, Int.reduceLE, Int.reduceToNat, Int.reduceNeg, Int.reduceBNe]) ?_
              simp -implicitDefEqProofs only [↓aP, aQ, ↓reduceIte, Nat.reduceEqDiff, Nat.reduceAdd, Nat.reduceSub, Nat.reduceMul, Nat.reduceLT, Nat.reduceLeDiff, reduceCtorEq, Nat.reduceBEq, forall_const, implies_true, exists_const, ne_eq, Int.reduceAdd, Int.reduceSub, Int.reduceMul, Int.reduceBEq, Int.reduceEq, Int.reduceLT, Int.reduceLE, Int.reduceToNat, Int.reduceNeg, Int.reduceBNe, s0, g99, b99, s1, s2, s6, s7, s8, XR.lb, w2, w5]
              refine ⟨l.length - P', by omega, j + 1, _, hstep hle, by omega, by omega, ?_⟩
              rw [← hP', ← hW, ej]
              simp -implicitDefEqProofs only [↓aP, aQ, ↓reduceIte, Nat.reduceEqDiff, Nat.reduceAdd, Nat.reduceSub, Nat.reduceMul, Nat.reduceLT, Nat.reduceLeDiff, reduceCtorEq, Nat.reduceBEq, forall_const, implies_true, exists_const, ne_eq, Int.reduceAdd, Int.reduceSub, Int.reduceMul, Int.reduceBEq, Int.reduceEq, Int.reduceLT, Int.reduceLE, Int.reduceToNat, Int.reduceNeg, Int.reduceBNe, s0, g99, b99, s1, s2, s6, s7, s8]
            · have d1 : decide (((P + W : Nat) : Int) ≤ (l.length : Int)) = false := by simp; omega
              by_cases hm : P + bs < l.length
              · obtain ⟨s1', s2'⟩ := hsrt l.length (by omega) (.inr ⟨rfl, by omega⟩)
                have hs := sym_spec hc (W + 1) cur P (P + bs) l.length (by omega) (by omega) (by omega) (by omega) (by omega) s1' s2'
                unfold SymOk at hs
                simp -implicitDefEqProofs only [↓aP, aQ, ↓reduceIte, Nat.reduceEqDiff, Nat.reduceAdd, Nat.reduceSub, Nat.reduceMul, Nat.reduceLT, Nat.reduceLeDiff, reduceCtorEq, Nat.reduceBEq, forall_const, implies_true, exists_const, ne_eq, Int.reduceAdd, Int.reduceSub, Int.reduceMul, Int.reduceBEq, Int.reduceEq, Int.reduceLT, Int.reduceLE, Int.reduceToNat, Int.reduceNeg, Int.reduceBNe, s0, g99, b99, s1, s2, s6, s7, s8, w3, w4, d1, show decide (((P + bs : Nat) : Int) < (l.length : Int)) = true by simp; omega]
                refine askX2 hs (by simp -implicitDefEqProofs only [↓aP, aQ, ↓reduceIte, Nat.reduceEqDiff, Nat.reduceAdd, Nat.reduceSub, Nat.reduceMul, Nat.reduceLT, Nat.reduceLeDiff, reduceCtorEq, Nat.reduceBEq, forall_const, implies_true, exists_const, ne_eq, Int.reduceAdd, Int.reduceSub, Int.reduceMul, Int.reduceBEq, Int.reduceEq, Int.reduceLT, Int.reduceLE, Int.reduceToNat, Int.reduceNeg, Int.reduceBNe]) ?_
                simp -implicitDefEqProofs only [↓aP, aQ, ↓reduceIte, Nat.reduceEqDiff, Nat.reduceAdd, Nat.reduceSub, Nat.reduceMul, Nat.reduceLT, Nat.reduceLeDiff, reduceCtorEq, Nat.reduceBEq, forall_const, implies_true, exists_const, ne_eq, Int.reduceAdd, Int.reduceSub, Int.reduceMul, Int.reduceBEq, Int.reduceEq, Int.reduceLT, Int.reduceLE, Int.reduceToNat, Int.reduceNeg, Int.reduceBNe, s0, g99, b99, s1, s2, s6, s7, s8, XR.lb, w4]
                exact ⟨l.length - W, by omega, W, _, hend (by omega), by omega, by omega, rfl, rfl, rfl⟩
              · have hBk := hend (by omega)
                rw [hshort (by omega)] at hBk
                simp -implicitDefEqProofs only [↓aP, aQ, ↓reduceIte, Nat.reduceEqDiff, Nat.reduceAdd, Nat.reduceSub, Nat.reduceMul, Nat.reduceLT, Nat.reduceLeDiff, reduceCtorEq, Nat.reduceBEq, forall_const, implies_true, exists_const, ne_eq, Int.reduceAdd, Int.reduceSub, Int.reduceMul, Int.reduceBEq, Int.reduceEq, Int.reduceLT, Int.reduceLE, Int.reduceToNat, Int.reduceNeg, Int.reduceBNe, s0, g99, b99, s1, s2, s6, s7, s8, w3, w4, d1, show decide (((P + bs : Nat) : Int) < (l.length : Int)) = false by simp; omega]
                exact ⟨l.length - W, by omega, W, _, hBk, by omega, by omega, rfl, rfl, rfl⟩
        · rw [bk_end hB (by omega)] at b99
          simp -implicitDefEqProofs only [↓aP, aQ, ↓reduceIte, Nat.reduceEqDiff, Nat.reduceAdd, Nat.reduceSub, Nat.reduceMul, Nat.reduceLT, Nat.reduceLeDiff, reduceCtorEq, Nat.reduceBEq, forall_const, implies_true, exists_const, ne_eq, Int.reduceAdd, Int.reduceSub, Int.reduceMul, Int.reduceBEq, Int.reduceEq, Int.reduceLT, Int.reduceLE, Int.reduceToNat, Int.reduceNeg, Int.reduceBNe, s0, g99, b99, s1, s2, s6, show decide ((bs : Int) < (l.length : Int)) = false by simp; omega, finX, boxC, lbX]
theorem sortS_spec (l : List Ev) {g : Nat} {caps : List SC} {lt : Ev → Ev → Bool} (hc : CmpF g caps lt) (hl : l.length < 1000000) :
    SpecX Try.prog 38 ⟨true, tEv, 11, l.map encEv, none, (stbl lt l).map encEv, some (.tup [])⟩ [.c (.fn g caps)] := by
  refine spec_xr mixed fn38 99 (r := .tup []) rfl rfl (by simp) rfl (by simp [stbl_len]) (by simp) ?_
  unfold ac38
  simp -implicitDefEqProofs only [↓aP, aQ, ↓reduceIte, Nat.reduceEqDiff, Nat.reduceAdd, Nat.reduceSub, Nat.reduceMul, Nat.reduceLT, Nat.reduceLeDiff, reduceCtorEq, Nat.reduceBEq, forall_const, implies_true, exists_const, ne_eq, Int.reduceAdd, Int.reduceSub, Int.reduceMul, Int.reduceBEq, Int.reduceEq, Int.reduceLT, Int.reduceLE, Int.reduceToNat, Int.reduceNeg, Int.reduceBNe, initX_slot, initX_gen, initX_blk, XR.lb0, XR.at0, List.length_map]
  refine askX2 (stable_spec l hc hl) (by simp -implicitDefEqProofs only [↓aP, aQ, ↓reduceIte, Nat.reduceEqDiff, Nat.reduceAdd, Nat.reduceSub, Nat.reduceMul, Nat.reduceLT, Nat.reduceLeDiff, reduceCtorEq, Nat.reduceBEq, forall_const, implies_true, exists_const, ne_eq, Int.reduceAdd, Int.reduceSub, Int.reduceMul, Int.reduceBEq, Int.reduceEq, Int.reduceLT, Int.reduceLE, Int.reduceToNat, Int.reduceNeg, Int.reduceBNe]) ?_
  simp -implicitDefEqProofs only [↓aP, aQ, ↓reduceIte, Nat.reduceEqDiff, Nat.reduceAdd, Nat.reduceSub, Nat.reduceMul, Nat.reduceLT, Nat.reduceLeDiff, reduceCtorEq, Nat.reduceBEq, forall_const, implies_true, exists_const, ne_eq, Int.reduceAdd, Int.reduceSub, Int.reduceMul, Int.reduceBEq, Int.reduceEq, Int.reduceLT, Int.reduceLE, Int.reduceToNat, Int.reduceNeg, Int.reduceBNe, initX_slot, initX_gen, initX_blk, XR.lb0, XR.at0, XR.lb, finX, boxC, lbX]
end Go.Proofs.Ytbpipdgkkdifgaa
