/- layer 21: the laws HistoryOps and HistoryLate: their walks. -/
import Derived.Test.YtbpipdgkkdifgaaH14
namespace Go.Proofs.Ytbpipdgkkdifgaa
open Go.RowKit Ok Ss Hi
set_option linter.unusedVariables false
set_option linter.unusedSimpArgs false
namespace Hi
def evO (n : Nat) (o : Opr) (r : Rs) : Ev := ⟨n, o, r, 0, 1 + n, 1000⟩
def evsO : Nat → List Opr → List Rs → List Ev
  | n, o :: os, r :: rs => evO n o r :: evsO (n + 1) os rs
  | _, _, _ => []
theorem evsO_len : ∀ {os : List Opr} {rs : List Rs} {n : Nat}, rs.length = os.length → (evsO n os rs).length = os.length
  | [], [], n, _ => rfl
  | o :: os, r :: rs, n, h => by simp only [evsO, List.length_cons]; rw [evsO_len (by simpa using h)]
  | [], r :: rs, n, h => by simp at h
  | o :: os, [], n, h => by simp at h
theorem evsO_at : ∀ {os : List Opr} {rs : List Rs} {n : Nat} (h : rs.length = os.length) {i : Nat} (hi : i < os.length), (evsO n os rs)[i]'(by rw [evsO_len h]; exact hi) = evO (n + i) os[i] (rs[i]'(by omega))
  | o :: os, r :: rs, n, h, 0, hi => rfl
  | o :: os, r :: rs, n, h, i + 1, hi => by
    have := evsO_at (os := os) (rs := rs) (n := n + 1) (by simpa using h) (i := i) (by simpa using hi)
    simp only [evsO, List.getElem_cons_succ]
    rw [this]
    congr 1; omega
  | [], rs, n, h, i, hi => by simp at hi
theorem evsO_apart {os : List Opr} {rs : List Rs} (h : rs.length = os.length) (h60 : os.length ≤ 60) : apart (evsO 0 os rs) = true ∧ (evsO 0 os rs).Pairwise fun a b => a.done < b.done := by
  have hl := evsO_len (n := 0) h
  constructor
  · refine apart_iff.2 ⟨fun e he => ?_, List.pairwise_iff_getElem.2 fun i j hi hj hij => ?_⟩
    · obtain ⟨i, hi, rfl⟩ := List.getElem_of_mem he
      rw [evsO_at h (by omega)]
      unfold evO
      simp only
      omega
    · rw [evsO_at h (show i < os.length by omega), evsO_at h (show j < os.length by omega)]
      unfold evO sep
      simp only
      omega
  · refine List.pairwise_iff_getElem.2 fun i j hi hj hij => ?_
    rw [evsO_at h (show i < os.length by omega), evsO_at h (show j < os.length by omega)]
    unfold evO
    simp only
    omega
theorem goM_all : ∀ {os : List Opr} {m : List Pg} {i n : Nat}, goM m i (evsO n os (allM m os).2) = ((allM m os).1, i + os.length, 0)
  | [], m, i, n => rfl
  | o :: os, m, i, n => by
    simp only [allM, evsO, goM_cons]
    have hb : bad8 (evO n o (doM m o).2) = false := by
      unfold bad8
      rw [decide_eq_false_iff_not]
      intro h
      exact do_e8 (l := m) (o := o) (congrArg (fun r : Rs => r.e) h)
    rw [if_neg (by rw [hb]; simp), if_pos (by rfl)]
    show goM (doM m o).1 (i + 1) _ = _
    rw [goM_all (os := os)]
    simp only [List.length_cons, Prod.mk.injEq, true_and, and_true]
    omega
theorem check_all {os : List Opr} {m : List Pg} (h60 : os.length ≤ 60) (hr : rightM m = true) : checkM m (evsO 0 os (allM m os).2) = ((allM m os).1, os.length, 0) := by
  have hl := allM_len (l := m) (os := os)
  obtain ⟨h1, h2⟩ := evsO_apart hl h60
  rw [check_of (by rw [evsO_len hl]; omega) hr h1, sort_self h2, goM_all]
  simp
def evL (who b d e : Int) : Ev := ⟨who, ⟨2, 1, ⟨#[]⟩⟩, ⟨3, zP⟩, b, d, e⟩
theorem late_one {who b d e : Int} : checkM [] [evL who b d e] = if b < d ∧ d < e then ([], 1, 0) else ([], 0, 2) := by
  have ha : apart [evL who b d e] = decide (b < d ∧ d < e) := by
    rw [Bool.eq_iff_iff, apart_iff, decide_eq_true_iff]
    simp [evL]
  unfold checkM
  rw [if_neg (by simp), if_neg (by decide), ha]
  by_cases h : b < d ∧ d < e
  · rw [if_pos h, if_neg (by simp [h])]
    rfl
  · rw [if_neg h, if_pos (by simpa using h)]
theorem late_two {who b d e : Int} : checkM [] [evL who b d e, evL who b d e] = ([], 0, 2) := by
  have ha : apart [evL who b d e, evL who b d e] = false := by
    cases q : apart [evL who b d e, evL who b d e]
    · rfl
    · have := (apart_iff.1 q).2
      rw [List.pairwise_cons] at this
      have := this.1 (evL who b d e) (by simp)
      exact absurd rfl this.1
  unfold checkM
  rw [if_neg (by simp), if_neg (by decide), if_pos ha]
end Hi


set_option maxHeartbeats 1000000 in
theorem lawOps_spec (m : List Pg) (os : List Opr) (hm : m.length ≤ 9223372036854775807) (hl : os.length ≤ 9223372036854775807) : Spec Try.prog 7 [.agg (encMap m), rL 3 (os.map encOp)] (.val (rB true)) := by
  refine spec_val mixed fn7 (by simp) ?_
  unfold ac7
  simp -implicitDefEqProofs only [↓aP, aQ, ↓reduceIte, Nat.reduceEqDiff, Nat.reduceAdd, Nat.reduceSub, Nat.reduceMul, Nat.reduceLT, Nat.reduceLeDiff, reduceCtorEq, Nat.reduceBEq, forall_const, implies_true, exists_const, ne_eq, Int.reduceAdd, Int.reduceSub, Int.reduceMul, Int.reduceBEq, Int.reduceEq, Int.reduceLT, Int.reduceLE, Int.reduceToNat, Int.reduceNeg, Int.reduceBNe, encMap]
  refine ask (pages_spec m hm) ?_
  cases hp : smallM m
  · simp -implicitDefEqProofs only [↓aP, aQ, ↓reduceIte, Nat.reduceEqDiff, Nat.reduceAdd, Nat.reduceSub, Nat.reduceMul, Nat.reduceLT, Nat.reduceLeDiff, reduceCtorEq, Nat.reduceBEq, forall_const, implies_true, exists_const, ne_eq, Int.reduceAdd, Int.reduceSub, Int.reduceMul, Int.reduceBEq, Int.reduceEq, Int.reduceLT, Int.reduceLE, Int.reduceToNat, Int.reduceNeg, Int.reduceBNe]
    refine ask awake_spec ?_
    simp -implicitDefEqProofs only [↓aP, aQ, ↓reduceIte, Nat.reduceEqDiff, Nat.reduceAdd, Nat.reduceSub, Nat.reduceMul, Nat.reduceLT, Nat.reduceLeDiff, reduceCtorEq, Nat.reduceBEq, forall_const, implies_true, exists_const, ne_eq, Int.reduceAdd, Int.reduceSub, Int.reduceMul, Int.reduceBEq, Int.reduceEq, Int.reduceLT, Int.reduceLE, Int.reduceToNat, Int.reduceNeg, Int.reduceBNe]
  have hm4 := small_len hp
  by_cases h60 : 60 < os.length
  · simp -implicitDefEqProofs only [↓aP, aQ, ↓reduceIte, Nat.reduceEqDiff, Nat.reduceAdd, Nat.reduceSub, Nat.reduceMul, Nat.reduceLT, Nat.reduceLeDiff, reduceCtorEq, Nat.reduceBEq, forall_const, implies_true, exists_const, ne_eq, Int.reduceAdd, Int.reduceSub, Int.reduceMul, Int.reduceBEq, Int.reduceEq, Int.reduceLT, Int.reduceLE, Int.reduceToNat, Int.reduceNeg, Int.reduceBNe, List.length_map, show decide ((60 : Int) < (os.length : Int)) = true by simp; omega]
    refine ask awake_spec ?_
    simp -implicitDefEqProofs only [↓aP, aQ, ↓reduceIte, Nat.reduceEqDiff, Nat.reduceAdd, Nat.reduceSub, Nat.reduceMul, Nat.reduceLT, Nat.reduceLeDiff, reduceCtorEq, Nat.reduceBEq, forall_const, implies_true, exists_const, ne_eq, Int.reduceAdd, Int.reduceSub, Int.reduceMul, Int.reduceBEq, Int.reduceEq, Int.reduceLT, Int.reduceLE, Int.reduceToNat, Int.reduceNeg, Int.reduceBNe]
  simp -implicitDefEqProofs only [↓aP, aQ, ↓reduceIte, Nat.reduceEqDiff, Nat.reduceAdd, Nat.reduceSub, Nat.reduceMul, Nat.reduceLT, Nat.reduceLeDiff, reduceCtorEq, Nat.reduceBEq, forall_const, implies_true, exists_const, ne_eq, Int.reduceAdd, Int.reduceSub, Int.reduceMul, Int.reduceBEq, Int.reduceEq, Int.reduceLT, Int.reduceLE, Int.reduceToNat, Int.reduceNeg, Int.reduceBNe, encMap, List.length_map, show decide ((60 : Int) < (os.length : Int)) = false by simp; omega]
  refine ask (rRight_spec m (by omega)) ?_
  cases hr : rightM m
  · simp -implicitDefEqProofs only [↓aP, aQ, ↓reduceIte, Nat.reduceEqDiff, Nat.reduceAdd, Nat.reduceSub, Nat.reduceMul, Nat.reduceLT, Nat.reduceLeDiff, reduceCtorEq, Nat.reduceBEq, forall_const, implies_true, exists_const, ne_eq, Int.reduceAdd, Int.reduceSub, Int.reduceMul, Int.reduceBEq, Int.reduceEq, Int.reduceLT, Int.reduceLE, Int.reduceToNat, Int.reduceNeg, Int.reduceBNe]
    refine ask awake_spec ?_
    simp -implicitDefEqProofs only [↓aP, aQ, ↓reduceIte, Nat.reduceEqDiff, Nat.reduceAdd, Nat.reduceSub, Nat.reduceMul, Nat.reduceLT, Nat.reduceLeDiff, reduceCtorEq, Nat.reduceBEq, forall_const, implies_true, exists_const, ne_eq, Int.reduceAdd, Int.reduceSub, Int.reduceMul, Int.reduceBEq, Int.reduceEq, Int.reduceLT, Int.reduceLE, Int.reduceToNat, Int.reduceNeg, Int.reduceBNe]
  simp -implicitDefEqProofs only [↓aP, aQ, ↓reduceIte, Nat.reduceEqDiff, Nat.reduceAdd, Nat.reduceSub, Nat.reduceMul, Nat.reduceLT, Nat.reduceLeDiff, reduceCtorEq, Nat.reduceBEq, forall_const, implies_true, exists_const, ne_eq, Int.reduceAdd, Int.reduceSub, Int.reduceMul, Int.reduceBEq, Int.reduceEq, Int.reduceLT, Int.reduceLE, Int.reduceToNat, Int.reduceNeg, Int.reduceBNe, encMap, List.length_map]
  refine rangeB os.length (fun i σ => σ.slot 1 = vL 3 (os.map encOp) ∧ σ.slot 2 = .c (.ptr 2 1 0 0) ∧ σ.h.gen 2 = 1 ∧ σ.h.blk 2 = .box 24 1 [(encMap m).map AC.s] ∧ σ.slot 30 = vL 3 (os.map encOp) ∧ σ.slot 31 = vI os.length ∧ σ.slot 32 = vI i) ?_ ?_ ?_
  · simp -implicitDefEqProofs only [↓aP, aQ, ↓reduceIte, Nat.reduceEqDiff, Nat.reduceAdd, Nat.reduceSub, Nat.reduceMul, Nat.reduceLT, Nat.reduceLeDiff, reduceCtorEq, Nat.reduceBEq, forall_const, implies_true, exists_const, ne_eq, Int.reduceAdd, Int.reduceSub, Int.reduceMul, Int.reduceBEq, Int.reduceEq, Int.reduceLT, Int.reduceLE, Int.reduceToNat, Int.reduceNeg, Int.reduceBNe, encMap]
  · rintro i k σ him hi hlt ⟨s1, s2, g2, b2, s30, s31, s32⟩
    cases hb : decide ((100 : Int) < (os[i].body.size : Int))
    · simp -implicitDefEqProofs only [↓aP, aQ, ↓reduceIte, Nat.reduceEqDiff, Nat.reduceAdd, Nat.reduceSub, Nat.reduceMul, Nat.reduceLT, Nat.reduceLeDiff, reduceCtorEq, Nat.reduceBEq, forall_const, implies_true, exists_const, ne_eq, Int.reduceAdd, Int.reduceSub, Int.reduceMul, Int.reduceBEq, Int.reduceEq, Int.reduceLT, Int.reduceLE, Int.reduceToNat, Int.reduceNeg, Int.reduceBNe, hlt, s1, s2, g2, b2, s30, s31, s32, askIdx_map, hi, encOp, hb, wrapS (show i < 4611686018427387904 by omega)]
      refine nextR hi him ?_
      simp -implicitDefEqProofs only [↓aP, aQ, ↓reduceIte, Nat.reduceEqDiff, Nat.reduceAdd, Nat.reduceSub, Nat.reduceMul, Nat.reduceLT, Nat.reduceLeDiff, reduceCtorEq, Nat.reduceBEq, forall_const, implies_true, exists_const, ne_eq, Int.reduceAdd, Int.reduceSub, Int.reduceMul, Int.reduceBEq, Int.reduceEq, Int.reduceLT, Int.reduceLE, Int.reduceToNat, Int.reduceNeg, Int.reduceBNe, s1, s2, g2, b2, s30, s31, s32, encMap]
    · simp -implicitDefEqProofs only [↓aP, aQ, ↓reduceIte, Nat.reduceEqDiff, Nat.reduceAdd, Nat.reduceSub, Nat.reduceMul, Nat.reduceLT, Nat.reduceLeDiff, reduceCtorEq, Nat.reduceBEq, forall_const, implies_true, exists_const, ne_eq, Int.reduceAdd, Int.reduceSub, Int.reduceMul, Int.reduceBEq, Int.reduceEq, Int.reduceLT, Int.reduceLE, Int.reduceToNat, Int.reduceNeg, Int.reduceBNe, hlt, s1, s2, g2, b2, s30, s31, s32, askIdx_map, hi, encOp, hb]
      refine ask awake_spec ?_
      simp -implicitDefEqProofs only [↓aP, aQ, ↓reduceIte, Nat.reduceEqDiff, Nat.reduceAdd, Nat.reduceSub, Nat.reduceMul, Nat.reduceLT, Nat.reduceLeDiff, reduceCtorEq, Nat.reduceBEq, forall_const, implies_true, exists_const, ne_eq, Int.reduceAdd, Int.reduceSub, Int.reduceMul, Int.reduceBEq, Int.reduceEq, Int.reduceLT, Int.reduceLE, Int.reduceToNat, Int.reduceNeg, Int.reduceBNe]
  · rintro k σ hlt ⟨s1, s2, g2, b2, s30, s31, s32⟩
    have h1 := oAll_spec m os (by omega)
    have hck := check_all (os := os) (m := m) (by omega) hr
    have hrl := allM_len (l := m) (os := os)
    have hnl := runM_len (l := m) (os := os)
    rw [← allM_run] at hnl
    obtain ⟨n, rs, hx⟩ : ∃ n rs, allM m os = (n, rs) := ⟨_, _, rfl⟩
    rw [hx] at h1 hck hrl hnl
    simp only at hck hrl hnl
    have g1 := hCheck_spec m (evsO 0 os rs) (by omega) (by rw [evsO_len hrl]; omega)
    rw [hck] at g1
    obtain ⟨GA, hGA⟩ : ∃ G, σ.h.gen 7 = G := ⟨_, rfl⟩
    simp -implicitDefEqProofs only [↓aP, aQ, ↓reduceIte, Nat.reduceEqDiff, Nat.reduceAdd, Nat.reduceSub, Nat.reduceMul, Nat.reduceLT, Nat.reduceLeDiff, reduceCtorEq, Nat.reduceBEq, forall_const, implies_true, exists_const, ne_eq, Int.reduceAdd, Int.reduceSub, Int.reduceMul, Int.reduceBEq, Int.reduceEq, Int.reduceLT, Int.reduceLE, Int.reduceToNat, Int.reduceNeg, Int.reduceBNe, hlt, s1, s2, g2, b2, s30, s31, s32, encMap]
    refine ask h1 ?_
    simp -implicitDefEqProofs only [↓aP, aQ, ↓reduceIte, Nat.reduceEqDiff, Nat.reduceAdd, Nat.reduceSub, Nat.reduceMul, Nat.reduceLT, Nat.reduceLeDiff, reduceCtorEq, Nat.reduceBEq, forall_const, implies_true, exists_const, ne_eq, Int.reduceAdd, Int.reduceSub, Int.reduceMul, Int.reduceBEq, Int.reduceEq, Int.reduceLT, Int.reduceLE, Int.reduceToNat, Int.reduceNeg, Int.reduceBNe, s1, s2, g2, b2, s30, s31, s32, encAll, encMap, List.length_map, hrl, bne_self_eq_false, hGA]
    refine shift (sub_slot (s := 9) 71 tEv 11 rfl (by exact Nat.succ_pos _)) ?_
    refine rangeB os.length (fun i σ => ∃ g, σ.slot 1 = vL 3 (os.map encOp) ∧ σ.slot 2 = .c (.ptr 2 1 0 0) ∧ σ.h.gen 2 = 1 ∧ σ.h.blk 2 = .box 24 1 [(encMap m).map AC.s] ∧ σ.slot 7 = .c (.ptr 7 (GA + 1) 0 0) ∧ σ.h.gen 7 = GA + 1 ∧ σ.h.blk 7 = .box 24 1 [(encMap n).map AC.s] ∧ σ.slot 8 = .c (.s (.sl 4 (rs.map encRs))) ∧ σ.slot 9 = .c (.own 71 g) ∧ σ.h.gen 71 = g ∧ σ.h.blk 71 = .row tEv 11 (((evsO 0 os rs).take i).map encEv) ∧ σ.slot 53 = vL 3 (os.map encOp) ∧ σ.slot 54 = vI os.length ∧ σ.slot 55 = vI i) ?_ ?_ ?_
    · simp -implicitDefEqProofs only [↓aP, aQ, ↓reduceIte, Nat.reduceEqDiff, Nat.reduceAdd, Nat.reduceSub, Nat.reduceMul, Nat.reduceLT, Nat.reduceLeDiff, reduceCtorEq, Nat.reduceBEq, forall_const, implies_true, exists_const, ne_eq, Int.reduceAdd, Int.reduceSub, Int.reduceMul, Int.reduceBEq, Int.reduceEq, Int.reduceLT, Int.reduceLE, Int.reduceToNat, Int.reduceNeg, Int.reduceBNe, s1, s2, g2, b2, s30, s31, s32, encMap, List.take_zero, List.map_nil, hGA]
      exact ⟨_, rfl, rfl⟩
    · clear s1 s2 g2 b2 s30 s31 s32 hGA hlt σ k
      rintro i k σ him hi hlt ⟨g, s1, s2, g2, b2, s7, g7, b7, s8, s9, g71, b71, s53, s54, s55⟩
      have hir : i < rs.length := by omega
      have hit : i < (evsO 0 os rs).length := by rw [evsO_len hrl]; exact hi
      have hat := evsO_at (n := 0) hrl hi
      rw [Nat.zero_add] at hat
      have w1 : IntKind.i64.wrap (1 + (i : Int)) = 1 + (i : Int) := wrapI (by omega)
      have htl : (List.take i (evsO 0 os rs)).length = i := by simp; omega
      simp -implicitDefEqProofs only [↓aP, aQ, ↓reduceIte, Nat.reduceEqDiff, Nat.reduceAdd, Nat.reduceSub, Nat.reduceMul, Nat.reduceLT, Nat.reduceLeDiff, reduceCtorEq, Nat.reduceBEq, forall_const, implies_true, exists_const, ne_eq, Int.reduceAdd, Int.reduceSub, Int.reduceMul, Int.reduceBEq, Int.reduceEq, Int.reduceLT, Int.reduceLE, Int.reduceToNat, Int.reduceNeg, Int.reduceBNe, hlt, s1, s2, g2, b2, s7, g7, b7, s8, s9, g71, b71, s53, s54, s55, List.length_map, askIdx_map, hi, hir, encOp, encRs, w1]
      refine ⟨by omega, by omega, by decide +kernel, ?_⟩
      refine nextR hi him ⟨g + 1, ?_⟩
      simp -implicitDefEqProofs only [↓aP, aQ, ↓reduceIte, Nat.reduceEqDiff, Nat.reduceAdd, Nat.reduceSub, Nat.reduceMul, Nat.reduceLT, Nat.reduceLeDiff, reduceCtorEq, Nat.reduceBEq, forall_const, implies_true, exists_const, ne_eq, Int.reduceAdd, Int.reduceSub, Int.reduceMul, Int.reduceBEq, Int.reduceEq, Int.reduceLT, Int.reduceLE, Int.reduceToNat, Int.reduceNeg, Int.reduceBNe, s1, s2, g2, b2, s7, g7, b7, s8, s9, g71, b71, s53, s54, s55, wrapS (show i < 4611686018427387904 by omega), take_snoc hit, hat, List.map_append, evO, encEv, encMap]
    · clear s1 s2 g2 b2 s30 s31 s32 hGA hlt σ k
      rintro k σ hlt ⟨g, s1, s2, g2, b2, s7, g7, b7, s8, s9, g71, b71, s53, s54, s55⟩
      rw [List.take_of_length_le (by rw [evsO_len hrl]; exact Nat.le_refl _)] at b71
      simp -implicitDefEqProofs only [↓aP, aQ, ↓reduceIte, Nat.reduceEqDiff, Nat.reduceAdd, Nat.reduceSub, Nat.reduceMul, Nat.reduceLT, Nat.reduceLeDiff, reduceCtorEq, Nat.reduceBEq, forall_const, implies_true, exists_const, ne_eq, Int.reduceAdd, Int.reduceSub, Int.reduceMul, Int.reduceBEq, Int.reduceEq, Int.reduceLT, Int.reduceLE, Int.reduceToNat, Int.reduceNeg, Int.reduceBNe, hlt, s1, s2, g2, b2, s7, g7, b7, s8, s9, g71, b71, s53, s54, s55, List.length_map, encMap]
      refine ask g1 ?_
      simp -implicitDefEqProofs only [↓aP, aQ, ↓reduceIte, Nat.reduceEqDiff, Nat.reduceAdd, Nat.reduceSub, Nat.reduceMul, Nat.reduceLT, Nat.reduceLeDiff, reduceCtorEq, Nat.reduceBEq, forall_const, implies_true, exists_const, ne_eq, Int.reduceAdd, Int.reduceSub, Int.reduceMul, Int.reduceBEq, Int.reduceEq, Int.reduceLT, Int.reduceLE, Int.reduceToNat, Int.reduceNeg, Int.reduceBNe, s1, s2, g2, b2, s7, g7, b7, s8, s9, g71, b71, s53, s54, s55, encCk, encMap, List.length_map, evsO_len hrl, beq_self_eq_true]
      refine ask (rSame_spec n (by omega)) ?_
      simp -implicitDefEqProofs only [↓aP, aQ, ↓reduceIte, Nat.reduceEqDiff, Nat.reduceAdd, Nat.reduceSub, Nat.reduceMul, Nat.reduceLT, Nat.reduceLeDiff, reduceCtorEq, Nat.reduceBEq, forall_const, implies_true, exists_const, ne_eq, Int.reduceAdd, Int.reduceSub, Int.reduceMul, Int.reduceBEq, Int.reduceEq, Int.reduceLT, Int.reduceLE, Int.reduceToNat, Int.reduceNeg, Int.reduceBNe]
      refine ask awake_spec ?_
      simp -implicitDefEqProofs only [↓aP, aQ, ↓reduceIte, Nat.reduceEqDiff, Nat.reduceAdd, Nat.reduceSub, Nat.reduceMul, Nat.reduceLT, Nat.reduceLeDiff, reduceCtorEq, Nat.reduceBEq, forall_const, implies_true, exists_const, ne_eq, Int.reduceAdd, Int.reduceSub, Int.reduceMul, Int.reduceBEq, Int.reduceEq, Int.reduceLT, Int.reduceLE, Int.reduceToNat, Int.reduceNeg, Int.reduceBNe]
theorem historyOps_walk {w : World} (v0 : Value) (a0 : ∃ l : List Pg, l.length ≤ maxLen ∧ RepT (RepS w fun _ => False) (.agg (encMap l)) v0) (v1 : Value) (a1 : ∃ l : List Opr, l.length ≤ maxLen ∧ RepT (RepS w fun _ => False) (rL 3 (l.map encOp)) v1) :
    Calls Try.prog 7 #[v0, v1] w fun e w' => e = .returned (.bool true) ∧ Below w.heap.size w w' := by
  obtain ⟨m, hm, h0⟩ := a0
  obtain ⟨l, hl, h1⟩ := a1
  unfold maxLen at hm hl
  exact (lawOps_spec m l hm hl).plain (us := [v0, v1]) (.cons h0 (.cons h1 .nil))
set_option maxHeartbeats 1000000 in
theorem lawLate_spec (b d e who : Int) : Spec Try.prog 8 [rI b, rI d, rI e, rI who] (.val (rB true)) := by
  refine spec_val mixed fn8 (by simp) ?_
  unfold ac8
  have g1 := hCheck_spec [] [evL who b d e] (by simp) (by simp)
  have g2 := hCheck_spec [] [evL who b d e, evL who b d e] (by simp) (by simp)
  rw [late_one] at g1
  rw [late_two] at g2
  simp -implicitDefEqProofs only [↓aP, aQ, ↓reduceIte, Nat.reduceEqDiff, Nat.reduceAdd, Nat.reduceSub, Nat.reduceMul, Nat.reduceLT, Nat.reduceLeDiff, reduceCtorEq, Nat.reduceBEq, forall_const, implies_true, exists_const, ne_eq, Int.reduceAdd, Int.reduceSub, Int.reduceMul, Int.reduceBEq, Int.reduceEq, Int.reduceLT, Int.reduceLE, Int.reduceToNat, Int.reduceNeg, Int.reduceBNe]
  by_cases h : b < d ∧ d < e
  · rw [if_pos h] at g1
    refine askS g1 (by simp -implicitDefEqProofs only [↓aP, aQ, ↓reduceIte, Nat.reduceEqDiff, Nat.reduceAdd, Nat.reduceSub, Nat.reduceMul, Nat.reduceLT, Nat.reduceLeDiff, reduceCtorEq, Nat.reduceBEq, forall_const, implies_true, exists_const, ne_eq, Int.reduceAdd, Int.reduceSub, Int.reduceMul, Int.reduceBEq, Int.reduceEq, Int.reduceLT, Int.reduceLE, Int.reduceToNat, Int.reduceNeg, Int.reduceBNe, encMap, encEv, evL, zP]) ?_
    simp -implicitDefEqProofs only [↓aP, aQ, ↓reduceIte, Nat.reduceEqDiff, Nat.reduceAdd, Nat.reduceSub, Nat.reduceMul, Nat.reduceLT, Nat.reduceLeDiff, reduceCtorEq, Nat.reduceBEq, forall_const, implies_true, exists_const, ne_eq, Int.reduceAdd, Int.reduceSub, Int.reduceMul, Int.reduceBEq, Int.reduceEq, Int.reduceLT, Int.reduceLE, Int.reduceToNat, Int.reduceNeg, Int.reduceBNe, encCk, encMap, show decide (d ≤ b) = false by simp; omega, show decide (e ≤ d) = false by simp; omega]
    refine askS g2 (by simp -implicitDefEqProofs only [↓aP, aQ, ↓reduceIte, Nat.reduceEqDiff, Nat.reduceAdd, Nat.reduceSub, Nat.reduceMul, Nat.reduceLT, Nat.reduceLeDiff, reduceCtorEq, Nat.reduceBEq, forall_const, implies_true, exists_const, ne_eq, Int.reduceAdd, Int.reduceSub, Int.reduceMul, Int.reduceBEq, Int.reduceEq, Int.reduceLT, Int.reduceLE, Int.reduceToNat, Int.reduceNeg, Int.reduceBNe, encMap, encEv, evL, zP]) ?_
    simp -implicitDefEqProofs only [↓aP, aQ, ↓reduceIte, Nat.reduceEqDiff, Nat.reduceAdd, Nat.reduceSub, Nat.reduceMul, Nat.reduceLT, Nat.reduceLeDiff, reduceCtorEq, Nat.reduceBEq, forall_const, implies_true, exists_const, ne_eq, Int.reduceAdd, Int.reduceSub, Int.reduceMul, Int.reduceBEq, Int.reduceEq, Int.reduceLT, Int.reduceLE, Int.reduceToNat, Int.reduceNeg, Int.reduceBNe, encCk, encMap]
    refine ask awake_spec ?_
    simp -implicitDefEqProofs only [↓aP, aQ, ↓reduceIte, Nat.reduceEqDiff, Nat.reduceAdd, Nat.reduceSub, Nat.reduceMul, Nat.reduceLT, Nat.reduceLeDiff, reduceCtorEq, Nat.reduceBEq, forall_const, implies_true, exists_const, ne_eq, Int.reduceAdd, Int.reduceSub, Int.reduceMul, Int.reduceBEq, Int.reduceEq, Int.reduceLT, Int.reduceLE, Int.reduceToNat, Int.reduceNeg, Int.reduceBNe]
  · rw [if_neg h] at g1
    refine askS g1 (by simp -implicitDefEqProofs only [↓aP, aQ, ↓reduceIte, Nat.reduceEqDiff, Nat.reduceAdd, Nat.reduceSub, Nat.reduceMul, Nat.reduceLT, Nat.reduceLeDiff, reduceCtorEq, Nat.reduceBEq, forall_const, implies_true, exists_const, ne_eq, Int.reduceAdd, Int.reduceSub, Int.reduceMul, Int.reduceBEq, Int.reduceEq, Int.reduceLT, Int.reduceLE, Int.reduceToNat, Int.reduceNeg, Int.reduceBNe, encMap, encEv, evL, zP]) ?_
    by_cases h2 : d ≤ b
    · simp -implicitDefEqProofs only [↓aP, aQ, ↓reduceIte, Nat.reduceEqDiff, Nat.reduceAdd, Nat.reduceSub, Nat.reduceMul, Nat.reduceLT, Nat.reduceLeDiff, reduceCtorEq, Nat.reduceBEq, forall_const, implies_true, exists_const, ne_eq, Int.reduceAdd, Int.reduceSub, Int.reduceMul, Int.reduceBEq, Int.reduceEq, Int.reduceLT, Int.reduceLE, Int.reduceToNat, Int.reduceNeg, Int.reduceBNe, encCk, encMap, show decide (d ≤ b) = true by simp; omega]
      refine ask awake_spec ?_
      simp -implicitDefEqProofs only [↓aP, aQ, ↓reduceIte, Nat.reduceEqDiff, Nat.reduceAdd, Nat.reduceSub, Nat.reduceMul, Nat.reduceLT, Nat.reduceLeDiff, reduceCtorEq, Nat.reduceBEq, forall_const, implies_true, exists_const, ne_eq, Int.reduceAdd, Int.reduceSub, Int.reduceMul, Int.reduceBEq, Int.reduceEq, Int.reduceLT, Int.reduceLE, Int.reduceToNat, Int.reduceNeg, Int.reduceBNe]
    · simp -implicitDefEqProofs only [↓aP, aQ, ↓reduceIte, Nat.reduceEqDiff, Nat.reduceAdd, Nat.reduceSub, Nat.reduceMul, Nat.reduceLT, Nat.reduceLeDiff, reduceCtorEq, Nat.reduceBEq, forall_const, implies_true, exists_const, ne_eq, Int.reduceAdd, Int.reduceSub, Int.reduceMul, Int.reduceBEq, Int.reduceEq, Int.reduceLT, Int.reduceLE, Int.reduceToNat, Int.reduceNeg, Int.reduceBNe, encCk, encMap, show decide (d ≤ b) = false by simp; omega, show decide (e ≤ d) = true by simp; omega]
      refine ask awake_spec ?_
      simp -implicitDefEqProofs only [↓aP, aQ, ↓reduceIte, Nat.reduceEqDiff, Nat.reduceAdd, Nat.reduceSub, Nat.reduceMul, Nat.reduceLT, Nat.reduceLeDiff, reduceCtorEq, Nat.reduceBEq, forall_const, implies_true, exists_const, ne_eq, Int.reduceAdd, Int.reduceSub, Int.reduceMul, Int.reduceBEq, Int.reduceEq, Int.reduceLT, Int.reduceLE, Int.reduceToNat, Int.reduceNeg, Int.reduceBNe]
theorem historyLate_walk {w : World} (b : Int) (hb : (Lit.int .i64 b).wf = true) (d : Int) (hd : (Lit.int .i64 d).wf = true) (e : Int) (he : (Lit.int .i64 e).wf = true) (who : Int) (hw : (Lit.int .i64 who).wf = true) :
    Calls Try.prog 8 #[.int .i64 b, .int .i64 d, .int .i64 e, .int .i64 who] w fun e w' => e = .returned (.bool true) ∧ Below w.heap.size w w' :=
  (lawLate_spec b d e who).plain (us := [.int .i64 b, .int .i64 d, .int .i64 e, .int .i64 who]) (.cons (.pv rfl) (.cons (.pv rfl) (.cons (.pv rfl) (.cons (.pv rfl) .nil))))
end Go.Proofs.Ytbpipdgkkdifgaa
