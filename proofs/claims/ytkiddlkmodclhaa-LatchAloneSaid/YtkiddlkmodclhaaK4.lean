/- layer 8: the contracts: people, Right, enter. -/
import Derived.Test.YtkiddlkmodclhaaK3
namespace Go.Proofs.Ytkiddlkmodclhaa
open Go.RowKit La
set_option linter.unusedVariables false
set_option linter.unusedSimpArgs false
theorem srt_perm {zs : List Int} : (srt zs).Perm zs := List.mergeSort_perm _ _
theorem srt_sorted {zs : List Int} : (srt zs).Pairwise (· ≤ ·) := by
  have h := List.pairwise_mergeSort (le := fun x y : Int => decide (x ≤ y)) (fun a b c h1 h2 => by simp at h1 h2 ⊢; omega) (fun a b => by simp; omega) zs
  exact h.imp (fun x => by simpa using x)
theorem people_srt {l : Lt} (hs : l.h.Pairwise (· ≤ ·)) {S : List Int} (hS : S = srt (whos l)) : people l = true ↔ (∀ n ∈ S, okWho n = true) ∧ ∀ i (h : i + 1 < S.length), S[i] ≠ S[i + 1] := by
  subst hS
  unfold people
  simp only [Bool.and_eq_true, decide_eq_true_eq, List.all_eq_true]
  have hp := srt_perm (zs := whos l)
  constructor
  · rintro ⟨_, h1, h2⟩
    refine ⟨fun n hn => h1 n (hp.mem_iff.1 hn), fun i hi => ?_⟩
    exact List.pairwise_iff_getElem.1 (hp.nodup_iff.2 h2) _ _ _ _ (by omega)
  · rintro ⟨h1, h2⟩
    refine ⟨hs, fun n hn => h1 n (hp.mem_iff.2 hn), hp.nodup_iff.1 ?_⟩
    have hst := sorted_iff.1 (srt_sorted (zs := whos l))
    have key : ∀ d i (h : i + 1 + d < (srt (whos l)).length), (srt (whos l))[i] < (srt (whos l))[i + 1 + d] := by
      intro d
      induction d with
      | zero => intro i h; have := hst i h; have := h2 i h; show _ < (srt (whos l))[i + 1]; omega
      | succ d ih =>
        intro i h
        have a := ih i (by omega)
        have b := hst (i + 1 + d) (by omega)
        exact Int.lt_of_lt_of_le a b
    rw [List.Nodup, List.pairwise_iff_getElem]
    intro i j hi hj hij
    obtain ⟨d, rfl⟩ : ∃ d, j = i + 1 + d := ⟨j - (i + 1), by omega⟩
    have := key d i hj
    omega


theorem people_spec (l : Lt) (hl : l.h.length + l.q.length ≤ 1000000) : Spec Try.prog 55 [.agg (encLt l)] (.val (rB (people l))) := by
  refine spec_val mixed fn55 (by simp) ?_
  unfold ac55
  simp -implicitDefEqProofs only [↓aP, aQ, ↓reduceIte, Nat.reduceEqDiff, Nat.reduceAdd, Nat.reduceSub, Nat.reduceMul, Nat.reduceLT, Nat.reduceLeDiff, reduceCtorEq, Nat.reduceBEq, forall_const, implies_true, exists_const, ne_eq, Int.reduceAdd, Int.reduceSub, Int.reduceMul, Int.reduceBEq, Int.reduceEq, Int.reduceLT, Int.reduceLE, Int.reduceToNat, Int.reduceNeg, Int.reduceBNe, encLt]
  refine ask (cloneIn _ (by simp; omega)) ?_
  simp -implicitDefEqProofs only [↓aP, aQ, ↓reduceIte, Nat.reduceEqDiff, Nat.reduceAdd, Nat.reduceSub, Nat.reduceMul, Nat.reduceLT, Nat.reduceLeDiff, reduceCtorEq, Nat.reduceBEq, forall_const, implies_true, exists_const, ne_eq, Int.reduceAdd, Int.reduceSub, Int.reduceMul, Int.reduceBEq, Int.reduceEq, Int.reduceLT, Int.reduceLE, Int.reduceToNat, Int.reduceNeg, Int.reduceBNe, encLt]
  refine ask (isSorted_spec l.h (by omega)) ?_
  by_cases hs : l.h.Pairwise (· ≤ ·)
  case neg =>
    have e : people l = false := by unfold people; rw [decide_eq_false hs]; rfl
    simp -implicitDefEqProofs only [↓aP, aQ, ↓reduceIte, Nat.reduceEqDiff, Nat.reduceAdd, Nat.reduceSub, Nat.reduceMul, Nat.reduceLT, Nat.reduceLeDiff, reduceCtorEq, Nat.reduceBEq, forall_const, implies_true, exists_const, ne_eq, Int.reduceAdd, Int.reduceSub, Int.reduceMul, Int.reduceBEq, Int.reduceEq, Int.reduceLT, Int.reduceLE, Int.reduceToNat, Int.reduceNeg, Int.reduceBNe, decide_eq_false hs, e]
  simp -implicitDefEqProofs only [↓aP, aQ, ↓reduceIte, Nat.reduceEqDiff, Nat.reduceAdd, Nat.reduceSub, Nat.reduceMul, Nat.reduceLT, Nat.reduceLeDiff, reduceCtorEq, Nat.reduceBEq, forall_const, implies_true, exists_const, ne_eq, Int.reduceAdd, Int.reduceSub, Int.reduceMul, Int.reduceBEq, Int.reduceEq, Int.reduceLT, Int.reduceLE, Int.reduceToNat, Int.reduceNeg, Int.reduceBNe, decide_eq_true hs, encLt]
  refine rangeB l.q.length (fun i σ => ∃ g, σ.slot 1 = .c (.ptr 1 1 0 0) ∧ σ.h.gen 1 = 1 ∧ σ.h.blk 1 = .box 54 3 [(encLt l).map AC.s] ∧ σ.slot 3 = .c (.own 10 g) ∧ σ.h.gen 10 = g ∧ σ.h.blk 10 = .row 3 1 ((l.h ++ (l.q.take i).map Wt.who).map encI) ∧ σ.slot 15 = vL 2 (l.q.map encWt) ∧ σ.slot 16 = vI l.q.length ∧ σ.slot 17 = vI i) ?_ ?_ ?_
  · simp -implicitDefEqProofs only [↓aP, aQ, ↓reduceIte, Nat.reduceEqDiff, Nat.reduceAdd, Nat.reduceSub, Nat.reduceMul, Nat.reduceLT, Nat.reduceLeDiff, reduceCtorEq, Nat.reduceBEq, forall_const, implies_true, exists_const, ne_eq, Int.reduceAdd, Int.reduceSub, Int.reduceMul, Int.reduceBEq, Int.reduceEq, Int.reduceLT, Int.reduceLE, Int.reduceToNat, Int.reduceNeg, Int.reduceBNe, encLt]
    simp
  · rintro i m σ him hi hlt ⟨g, s1, g1, b1, s3, g10, b10, s15, s16, s17⟩
    simp -implicitDefEqProofs only [↓aP, aQ, ↓reduceIte, Nat.reduceEqDiff, Nat.reduceAdd, Nat.reduceSub, Nat.reduceMul, Nat.reduceLT, Nat.reduceLeDiff, reduceCtorEq, Nat.reduceBEq, forall_const, implies_true, exists_const, ne_eq, Int.reduceAdd, Int.reduceSub, Int.reduceMul, Int.reduceBEq, Int.reduceEq, Int.reduceLT, Int.reduceLE, Int.reduceToNat, Int.reduceNeg, Int.reduceBNe, hlt, s1, g1, b1, s3, g10, b10, s15, s16, s17, askIdx_map, hi, encWt, List.length_map, List.length_append, List.length_take, wrapS (show i < 4611686018427387904 by omega)]
    refine ⟨by omega, by omega, ?_⟩
    refine nextR hi him ⟨g + 1, ?_⟩
    simp -implicitDefEqProofs only [↓aP, aQ, ↓reduceIte, Nat.reduceEqDiff, Nat.reduceAdd, Nat.reduceSub, Nat.reduceMul, Nat.reduceLT, Nat.reduceLeDiff, reduceCtorEq, Nat.reduceBEq, forall_const, implies_true, exists_const, ne_eq, Int.reduceAdd, Int.reduceSub, Int.reduceMul, Int.reduceBEq, Int.reduceEq, Int.reduceLT, Int.reduceLE, Int.reduceToNat, Int.reduceNeg, Int.reduceBNe, s1, g1, b1, s3, g10, b10, s15, s16, s17, encLt]
    rw [take_snoc hi]
    simp only [List.map_append, List.map_cons, List.map_nil, List.append_assoc]
    rfl
  · rintro m σ hlt ⟨g, s1, g1, b1, s3, g10, b10, s15, s16, s17⟩
    rw [List.take_length] at b10
    have hw : l.h ++ l.q.map Wt.who = whos l := rfl
    have hwl : (whos l).length = l.h.length + l.q.length := by simp [whos]
    rw [hw] at b10
    simp -implicitDefEqProofs only [↓aP, aQ, ↓reduceIte, Nat.reduceEqDiff, Nat.reduceAdd, Nat.reduceSub, Nat.reduceMul, Nat.reduceLT, Nat.reduceLeDiff, reduceCtorEq, Nat.reduceBEq, forall_const, implies_true, exists_const, ne_eq, Int.reduceAdd, Int.reduceSub, Int.reduceMul, Int.reduceBEq, Int.reduceEq, Int.reduceLT, Int.reduceLE, Int.reduceToNat, Int.reduceNeg, Int.reduceBNe, hlt, s1, g1, b1, s3, g10, b10, s15, s16, s17]
    refine askX2 (sort_spec (whos l) (by omega)) (by simp -implicitDefEqProofs only [↓aP, aQ, ↓reduceIte, Nat.reduceEqDiff, Nat.reduceAdd, Nat.reduceSub, Nat.reduceMul, Nat.reduceLT, Nat.reduceLeDiff, reduceCtorEq, Nat.reduceBEq, forall_const, implies_true, exists_const, ne_eq, Int.reduceAdd, Int.reduceSub, Int.reduceMul, Int.reduceBEq, Int.reduceEq, Int.reduceLT, Int.reduceLE, Int.reduceToNat, Int.reduceNeg, Int.reduceBNe]) ?_
    simp -implicitDefEqProofs only [↓aP, aQ, ↓reduceIte, Nat.reduceEqDiff, Nat.reduceAdd, Nat.reduceSub, Nat.reduceMul, Nat.reduceLT, Nat.reduceLeDiff, reduceCtorEq, Nat.reduceBEq, forall_const, implies_true, exists_const, ne_eq, Int.reduceAdd, Int.reduceSub, Int.reduceMul, Int.reduceBEq, Int.reduceEq, Int.reduceLT, Int.reduceLE, Int.reduceToNat, Int.reduceNeg, Int.reduceBNe, s1, g1, b1, s3, g10, b10, s15, s16, s17, XR.lb]
    obtain ⟨S, hS⟩ : ∃ S, S = srt (whos l) := ⟨_, rfl⟩
    have hSl : S.length = (whos l).length := by rw [hS, srt_len]
    have hp := people_srt hs hS
    rw [← hS]
    refine rangeB S.length (fun i σ => (∀ k (h : k < S.length), k < i → okWho S[k] = true) ∧ (∀ k (h : k + 1 < S.length), k + 1 < i → S[k] ≠ S[k + 1]) ∧ σ.slot 3 = .c (.own 10 g) ∧ σ.h.gen 10 = g ∧ σ.h.blk 10 = .row 3 1 (S.map encI) ∧ σ.slot 29 = .c (.own 10 g) ∧ σ.slot 30 = vI S.length ∧ σ.slot 31 = vI i) ?_ ?_ ?_
    · simp -implicitDefEqProofs only [↓aP, aQ, ↓reduceIte, Nat.reduceEqDiff, Nat.reduceAdd, Nat.reduceSub, Nat.reduceMul, Nat.reduceLT, Nat.reduceLeDiff, reduceCtorEq, Nat.reduceBEq, forall_const, implies_true, exists_const, ne_eq, Int.reduceAdd, Int.reduceSub, Int.reduceMul, Int.reduceBEq, Int.reduceEq, Int.reduceLT, Int.reduceLE, Int.reduceToNat, Int.reduceNeg, Int.reduceBNe, s1, g1, b1, s3, g10, b10, s15, s16, s17, List.length_map, hSl]
      exact ⟨fun k _ h => by omega, fun k _ h => by omega⟩
    · clear hlt s1 g1 b1 s3 g10 b10 s15 s16 s17
      rintro i m σ him hi hlt ⟨h1, h2, s3, g10, b10, s29, s30, s31⟩
      simp -implicitDefEqProofs only [↓aP, aQ, ↓reduceIte, Nat.reduceEqDiff, Nat.reduceAdd, Nat.reduceSub, Nat.reduceMul, Nat.reduceLT, Nat.reduceLeDiff, reduceCtorEq, Nat.reduceBEq, forall_const, implies_true, exists_const, ne_eq, Int.reduceAdd, Int.reduceSub, Int.reduceMul, Int.reduceBEq, Int.reduceEq, Int.reduceLT, Int.reduceLE, Int.reduceToNat, Int.reduceNeg, Int.reduceBNe, hlt, s3, g10, b10, s29, s30, s31, askIdx_map, hi, encI, List.length_map]
      refine ask (isWho_spec S[i]) ?_
      cases hok : okWho S[i]
      · have e : people l = false := by
          cases hh : people l
          · rfl
          · have := (hp.1 hh).1 _ (List.getElem_mem hi); rw [hok] at this; cases this
        simp -implicitDefEqProofs only [↓aP, aQ, ↓reduceIte, Nat.reduceEqDiff, Nat.reduceAdd, Nat.reduceSub, Nat.reduceMul, Nat.reduceLT, Nat.reduceLeDiff, reduceCtorEq, Nat.reduceBEq, forall_const, implies_true, exists_const, ne_eq, Int.reduceAdd, Int.reduceSub, Int.reduceMul, Int.reduceBEq, Int.reduceEq, Int.reduceLT, Int.reduceLE, Int.reduceToNat, Int.reduceNeg, Int.reduceBNe, e]
      have n1 : ∀ k (h : k < S.length), k < i + 1 → okWho S[k] = true := fun k hk hki => by
        by_cases e : k = i
        · subst e; exact hok
        · exact h1 k hk (by omega)
      by_cases hi0 : i = 0
      · have d0 : decide ((0 : Int) < (i : Int)) = false := by simp; omega
        simp -implicitDefEqProofs only [↓aP, aQ, ↓reduceIte, Nat.reduceEqDiff, Nat.reduceAdd, Nat.reduceSub, Nat.reduceMul, Nat.reduceLT, Nat.reduceLeDiff, reduceCtorEq, Nat.reduceBEq, forall_const, implies_true, exists_const, ne_eq, Int.reduceAdd, Int.reduceSub, Int.reduceMul, Int.reduceBEq, Int.reduceEq, Int.reduceLT, Int.reduceLE, Int.reduceToNat, Int.reduceNeg, Int.reduceBNe, s3, g10, b10, s29, s30, s31, d0, wrapS (show i < 4611686018427387904 by omega)]
        refine nextR hi him ⟨n1, fun k hk hki => by omega, ?_⟩
        simp -implicitDefEqProofs only [↓aP, aQ, ↓reduceIte, Nat.reduceEqDiff, Nat.reduceAdd, Nat.reduceSub, Nat.reduceMul, Nat.reduceLT, Nat.reduceLeDiff, reduceCtorEq, Nat.reduceBEq, forall_const, implies_true, exists_const, ne_eq, Int.reduceAdd, Int.reduceSub, Int.reduceMul, Int.reduceBEq, Int.reduceEq, Int.reduceLT, Int.reduceLE, Int.reduceToNat, Int.reduceNeg, Int.reduceBNe, s3, g10, b10, s29, s30, s31]
      · have d0 : decide ((0 : Int) < (i : Int)) = true := by simp; omega
        have hi1 : i - 1 < S.length := by omega
        have w1 : IntKind.i64.wrap ((i : Int) - 1) = ((i - 1 : Nat) : Int) := by rw [wrapI (by omega)]; omega
        simp -implicitDefEqProofs only [↓aP, aQ, ↓reduceIte, Nat.reduceEqDiff, Nat.reduceAdd, Nat.reduceSub, Nat.reduceMul, Nat.reduceLT, Nat.reduceLeDiff, reduceCtorEq, Nat.reduceBEq, forall_const, implies_true, exists_const, ne_eq, Int.reduceAdd, Int.reduceSub, Int.reduceMul, Int.reduceBEq, Int.reduceEq, Int.reduceLT, Int.reduceLE, Int.reduceToNat, Int.reduceNeg, Int.reduceBNe, s3, g10, b10, s29, s30, s31, d0, w1, askIdx_map, hi1, encI, List.length_map]
        by_cases hne : S[i - 1] = S[i]
        · have e : people l = false := by
            cases hh : people l
            · rfl
            · have := (hp.1 hh).2 (i - 1) (by omega)
              simp only [show i - 1 + 1 = i by omega] at this
              exact absurd hne this
          simp -implicitDefEqProofs only [↓aP, aQ, ↓reduceIte, Nat.reduceEqDiff, Nat.reduceAdd, Nat.reduceSub, Nat.reduceMul, Nat.reduceLT, Nat.reduceLeDiff, reduceCtorEq, Nat.reduceBEq, forall_const, implies_true, exists_const, ne_eq, Int.reduceAdd, Int.reduceSub, Int.reduceMul, Int.reduceBEq, Int.reduceEq, Int.reduceLT, Int.reduceLE, Int.reduceToNat, Int.reduceNeg, Int.reduceBNe, show (S[i - 1] == S[i]) = true by simpa using hne, e]
        · simp -implicitDefEqProofs only [↓aP, aQ, ↓reduceIte, Nat.reduceEqDiff, Nat.reduceAdd, Nat.reduceSub, Nat.reduceMul, Nat.reduceLT, Nat.reduceLeDiff, reduceCtorEq, Nat.reduceBEq, forall_const, implies_true, exists_const, ne_eq, Int.reduceAdd, Int.reduceSub, Int.reduceMul, Int.reduceBEq, Int.reduceEq, Int.reduceLT, Int.reduceLE, Int.reduceToNat, Int.reduceNeg, Int.reduceBNe, show (S[i - 1] == S[i]) = false by simpa using hne, s3, g10, b10, s29, s30, s31, wrapS (show i < 4611686018427387904 by omega)]
          refine nextR hi him ⟨n1, fun k hk hki => ?_, ?_⟩
          · by_cases e : k = i - 1
            · subst e
              simp only [show i - 1 + 1 = i by omega]
              exact hne
            · exact h2 k hk (by omega)
          · simp -implicitDefEqProofs only [↓aP, aQ, ↓reduceIte, Nat.reduceEqDiff, Nat.reduceAdd, Nat.reduceSub, Nat.reduceMul, Nat.reduceLT, Nat.reduceLeDiff, reduceCtorEq, Nat.reduceBEq, forall_const, implies_true, exists_const, ne_eq, Int.reduceAdd, Int.reduceSub, Int.reduceMul, Int.reduceBEq, Int.reduceEq, Int.reduceLT, Int.reduceLE, Int.reduceToNat, Int.reduceNeg, Int.reduceBNe, s3, g10, b10, s29, s30, s31]
    · clear hlt s1 g1 b1 s3 g10 b10 s15 s16 s17
      rintro m σ hlt ⟨h1, h2, s3, g10, b10, s29, s30, s31⟩
      have e : people l = true := hp.2 ⟨fun n hn => by obtain ⟨k, hk, rfl⟩ := List.getElem_of_mem hn; exact h1 k hk hk, fun k hk => h2 k hk hk⟩
      simp -implicitDefEqProofs only [↓aP, aQ, ↓reduceIte, Nat.reduceEqDiff, Nat.reduceAdd, Nat.reduceSub, Nat.reduceMul, Nat.reduceLT, Nat.reduceLeDiff, reduceCtorEq, Nat.reduceBEq, forall_const, implies_true, exists_const, ne_eq, Int.reduceAdd, Int.reduceSub, Int.reduceMul, Int.reduceBEq, Int.reduceEq, Int.reduceLT, Int.reduceLE, Int.reduceToNat, Int.reduceNeg, Int.reduceBNe, hlt, s3, g10, b10, s29, s30, s31, e]
theorem lRight_spec (l : Lt) (hl : l.h.length + l.q.length ≤ 1000000) : Spec Try.prog 30 [.agg (encLt l)] (.val (rB (right l))) := by
  refine spec_val mixed fn30 (by simp) ?_
  unfold ac30
  have w : IntKind.i64.wrap ((l.h.length : Int) + (l.q.length : Int)) = ((l.h.length + l.q.length : Nat) : Int) := by rw [wrapI (by omega)]; omega
  simp -implicitDefEqProofs only [↓aP, aQ, ↓reduceIte, Nat.reduceEqDiff, Nat.reduceAdd, Nat.reduceSub, Nat.reduceMul, Nat.reduceLT, Nat.reduceLeDiff, reduceCtorEq, Nat.reduceBEq, forall_const, implies_true, exists_const, ne_eq, Int.reduceAdd, Int.reduceSub, Int.reduceMul, Int.reduceBEq, Int.reduceEq, Int.reduceLT, Int.reduceLE, Int.reduceToNat, Int.reduceNeg, Int.reduceBNe, encLt, List.length_map, w]
  by_cases hb : l.h.length + l.q.length ≤ 64 ∧ (l.ex = true → l.h.length = 1)
  case neg =>
    have e : right l = false := by unfold right; rw [decide_eq_false hb]; rfl
    by_cases h64 : 64 < l.h.length + l.q.length
    · simp -implicitDefEqProofs only [↓aP, aQ, ↓reduceIte, Nat.reduceEqDiff, Nat.reduceAdd, Nat.reduceSub, Nat.reduceMul, Nat.reduceLT, Nat.reduceLeDiff, reduceCtorEq, Nat.reduceBEq, forall_const, implies_true, exists_const, ne_eq, Int.reduceAdd, Int.reduceSub, Int.reduceMul, Int.reduceBEq, Int.reduceEq, Int.reduceLT, Int.reduceLE, Int.reduceToNat, Int.reduceNeg, Int.reduceBNe, show decide ((64 : Int) < ((l.h.length + l.q.length : Nat) : Int)) = true by simp; omega, e]
    · have hex : l.ex = true ∧ l.h.length ≠ 1 := by
        refine ⟨?_, ?_⟩
        · cases hx : l.ex
          · exact absurd ⟨by omega, fun h => by rw [hx] at h; cases h⟩ hb
          · rfl
        · intro h1; exact hb ⟨by omega, fun _ => h1⟩
      simp -implicitDefEqProofs only [↓aP, aQ, ↓reduceIte, Nat.reduceEqDiff, Nat.reduceAdd, Nat.reduceSub, Nat.reduceMul, Nat.reduceLT, Nat.reduceLeDiff, reduceCtorEq, Nat.reduceBEq, forall_const, implies_true, exists_const, ne_eq, Int.reduceAdd, Int.reduceSub, Int.reduceMul, Int.reduceBEq, Int.reduceEq, Int.reduceLT, Int.reduceLE, Int.reduceToNat, Int.reduceNeg, Int.reduceBNe, show decide ((64 : Int) < ((l.h.length + l.q.length : Nat) : Int)) = false by simp; omega, e, hex.1, encLt, List.length_map, show ((l.h.length : Int) != 1) = true by simp; omega]
  have e : right l = (people l && !may l) := by unfold right; rw [decide_eq_true hb]; rfl
  have d : decide ((64 : Int) < ((l.h.length + l.q.length : Nat) : Int)) = false := by simp; omega
  cases hx : l.ex
  · simp -implicitDefEqProofs only [↓aP, aQ, ↓reduceIte, Nat.reduceEqDiff, Nat.reduceAdd, Nat.reduceSub, Nat.reduceMul, Nat.reduceLT, Nat.reduceLeDiff, reduceCtorEq, Nat.reduceBEq, forall_const, implies_true, exists_const, ne_eq, Int.reduceAdd, Int.reduceSub, Int.reduceMul, Int.reduceBEq, Int.reduceEq, Int.reduceLT, Int.reduceLE, Int.reduceToNat, Int.reduceNeg, Int.reduceBNe, d, hx, encLt]
    refine ask (by have := people_spec l hl; rw [encLt, hx] at this; exact this) ?_
    cases hp : people l
    · simp -implicitDefEqProofs only [↓aP, aQ, ↓reduceIte, Nat.reduceEqDiff, Nat.reduceAdd, Nat.reduceSub, Nat.reduceMul, Nat.reduceLT, Nat.reduceLeDiff, reduceCtorEq, Nat.reduceBEq, forall_const, implies_true, exists_const, ne_eq, Int.reduceAdd, Int.reduceSub, Int.reduceMul, Int.reduceBEq, Int.reduceEq, Int.reduceLT, Int.reduceLE, Int.reduceToNat, Int.reduceNeg, Int.reduceBNe, e, hp, Bool.false_and]
    · simp -implicitDefEqProofs only [↓aP, aQ, ↓reduceIte, Nat.reduceEqDiff, Nat.reduceAdd, Nat.reduceSub, Nat.reduceMul, Nat.reduceLT, Nat.reduceLeDiff, reduceCtorEq, Nat.reduceBEq, forall_const, implies_true, exists_const, ne_eq, Int.reduceAdd, Int.reduceSub, Int.reduceMul, Int.reduceBEq, Int.reduceEq, Int.reduceLT, Int.reduceLE, Int.reduceToNat, Int.reduceNeg, Int.reduceBNe, hx, encLt]
      refine ask (by have := may_spec l; rw [encLt, hx] at this; exact this) ?_
      simp -implicitDefEqProofs only [↓aP, aQ, ↓reduceIte, Nat.reduceEqDiff, Nat.reduceAdd, Nat.reduceSub, Nat.reduceMul, Nat.reduceLT, Nat.reduceLeDiff, reduceCtorEq, Nat.reduceBEq, forall_const, implies_true, exists_const, ne_eq, Int.reduceAdd, Int.reduceSub, Int.reduceMul, Int.reduceBEq, Int.reduceEq, Int.reduceLT, Int.reduceLE, Int.reduceToNat, Int.reduceNeg, Int.reduceBNe, e, hp, Bool.true_and]
  · have h1 := hb.2 hx
    simp -implicitDefEqProofs only [↓aP, aQ, ↓reduceIte, Nat.reduceEqDiff, Nat.reduceAdd, Nat.reduceSub, Nat.reduceMul, Nat.reduceLT, Nat.reduceLeDiff, reduceCtorEq, Nat.reduceBEq, forall_const, implies_true, exists_const, ne_eq, Int.reduceAdd, Int.reduceSub, Int.reduceMul, Int.reduceBEq, Int.reduceEq, Int.reduceLT, Int.reduceLE, Int.reduceToNat, Int.reduceNeg, Int.reduceBNe, d, hx, encLt, List.length_map, show ((l.h.length : Int) != 1) = false by simp; omega]
    refine ask (by have := people_spec l hl; rw [encLt, hx] at this; exact this) ?_
    cases hp : people l
    · simp -implicitDefEqProofs only [↓aP, aQ, ↓reduceIte, Nat.reduceEqDiff, Nat.reduceAdd, Nat.reduceSub, Nat.reduceMul, Nat.reduceLT, Nat.reduceLeDiff, reduceCtorEq, Nat.reduceBEq, forall_const, implies_true, exists_const, ne_eq, Int.reduceAdd, Int.reduceSub, Int.reduceMul, Int.reduceBEq, Int.reduceEq, Int.reduceLT, Int.reduceLE, Int.reduceToNat, Int.reduceNeg, Int.reduceBNe, e, hp, Bool.false_and]
    · simp -implicitDefEqProofs only [↓aP, aQ, ↓reduceIte, Nat.reduceEqDiff, Nat.reduceAdd, Nat.reduceSub, Nat.reduceMul, Nat.reduceLT, Nat.reduceLeDiff, reduceCtorEq, Nat.reduceBEq, forall_const, implies_true, exists_const, ne_eq, Int.reduceAdd, Int.reduceSub, Int.reduceMul, Int.reduceBEq, Int.reduceEq, Int.reduceLT, Int.reduceLE, Int.reduceToNat, Int.reduceNeg, Int.reduceBNe, hx, encLt]
      refine ask (by have := may_spec l; rw [encLt, hx] at this; exact this) ?_
      simp -implicitDefEqProofs only [↓aP, aQ, ↓reduceIte, Nat.reduceEqDiff, Nat.reduceAdd, Nat.reduceSub, Nat.reduceMul, Nat.reduceLT, Nat.reduceLeDiff, reduceCtorEq, Nat.reduceBEq, forall_const, implies_true, exists_const, ne_eq, Int.reduceAdd, Int.reduceSub, Int.reduceMul, Int.reduceBEq, Int.reduceEq, Int.reduceLT, Int.reduceLE, Int.reduceToNat, Int.reduceNeg, Int.reduceBNe, e, hp, Bool.true_and]
def encEn (x : Lt × List Int) : TV SC := .tup [(true, encLt x.1), (false, [.sl 1 (x.2.map encI)])]
theorem ent_yes {h : List Int} {ex : Bool} {w : Wt} {q : List Wt} (hm : may ⟨h, ex, w :: q⟩ = true) : ent h ex (w :: q) = ((ent (ins h w.who) w.ex q).1, w.who :: (ent (ins h w.who) w.ex q).2) := by
  conv => lhs; unfold ent
  rw [if_pos hm]
theorem ent_no {h : List Int} {ex : Bool} {q : List Wt} (hm : may ⟨h, ex, q⟩ = false) : ent h ex q = (⟨h, ex, q⟩, []) := by
  cases q with
  | nil => rfl
  | cons w q => unfold ent; rw [if_neg (by rw [hm]; simp)]
theorem ins_enc {h : List Int} {x : Int} : (h.map encI).take (pos h x) ++ [encI x] ++ (h.map encI).drop (pos h x) = (ins h x).map encI := by
  unfold ins
  simp only [List.map_append, List.map_take, List.map_drop, List.map_cons, List.map_nil]
end Go.Proofs.Ytkiddlkmodclhaa
