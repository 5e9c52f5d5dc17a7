/- layer 9 for layer 15: the contracts of the clock by the machine. -/
import Derived.Test.YtcindpblgbpcoaaCkP
namespace Go.Proofs.Ytcindpblgbpcoaa
open Go.RowKit
set_option linter.unusedVariables false
set_option linter.unusedSimpArgs false
def encFr (x : Fr) : List SC := [.pv (.int .i64 x.page), .pv (.int .i64 x.pins), .pv (.bool x.used)]
structure Clk where
  fr : List Fr
  hand : Int
def encClk (c : Clk) : List SC := [.sl 3 (c.fr.map encFr), .pv (.int .i64 c.hand)]
theorem cloneFr (l : List (List SC)) (hl : l.length * 24 ≤ 2 ^ 47) : Spec Try.prog 96 [.c (.sl 3 l)] (.row 46 3 l) := by
  refine Spec.tag ?_ ?_
  · intro h
    subst h
    refine spec_row mixed fn96 (by simp) ?_
    unfold ac96
    simp -implicitDefEqProofs only [↓aP, aQ, ↓reduceIte, Nat.reduceEqDiff, Nat.reduceAdd, Nat.reduceSub, Nat.reduceMul, Nat.reduceLT, Nat.reduceLeDiff, reduceCtorEq, Nat.reduceBEq, forall_const, implies_true, exists_const, ne_eq, Int.reduceAdd, Int.reduceSub, Int.reduceMul, Int.reduceBEq, Int.reduceEq, Int.reduceLT, Int.reduceLE, Int.reduceToNat, Int.reduceNeg, Int.reduceBNe]
  · refine spec_row mixed fn96 (by simp) ?_
    unfold ac96
    simp -implicitDefEqProofs only [↓aP, aQ, ↓reduceIte, Nat.reduceEqDiff, Nat.reduceAdd, Nat.reduceSub, Nat.reduceMul, Nat.reduceLT, Nat.reduceLeDiff, reduceCtorEq, Nat.reduceBEq, forall_const, implies_true, exists_const, ne_eq, Int.reduceAdd, Int.reduceSub, Int.reduceMul, Int.reduceBEq, Int.reduceEq, Int.reduceLT, Int.reduceLE, Int.reduceToNat, Int.reduceNeg, Int.reduceBNe]
    refine ⟨?_, ?_⟩ <;> omega

theorem idxFr_spec (l : List Fr) (p : Fr → Bool) (g : Nat) (caps : List SC) (hg : callable Try.prog g = true) (hp : ∀ x, Spec Try.prog g (.agg (encFr x) :: caps.map TV.c) (.val (rB (p x)))) (hl : l.length < 4611686018427387904) :
    Spec Try.prog 91 [rL 3 (l.map encFr), .c (.fn g caps)] (.val (rI (fst? p l))) := by
  refine spec_val mixed fn91 (by simp) ?_
  unfold ac91
  simp -implicitDefEqProofs only [↓aP, aQ, ↓reduceIte, Nat.reduceEqDiff, Nat.reduceAdd, Nat.reduceSub, Nat.reduceMul, Nat.reduceLT, Nat.reduceLeDiff, reduceCtorEq, Nat.reduceBEq, forall_const, implies_true, exists_const, ne_eq, Int.reduceAdd, Int.reduceSub, Int.reduceMul, Int.reduceBEq, Int.reduceEq, Int.reduceLT, Int.reduceLE, Int.reduceToNat, Int.reduceNeg, Int.reduceBNe]
  refine rangeB l.length (fun i σ => (∀ x ∈ l.take i, p x = false) ∧ σ.slot 0 = vL 3 (l.map encFr) ∧ σ.slot 1 = .c (.s (.fn g caps)) ∧ σ.slot 7 = vI l.length ∧ σ.slot 8 = vI i) ?_ ?_ ?_
  · simp -implicitDefEqProofs only [↓aP, aQ, ↓reduceIte, Nat.reduceEqDiff, Nat.reduceAdd, Nat.reduceSub, Nat.reduceMul, Nat.reduceLT, Nat.reduceLeDiff, reduceCtorEq, Nat.reduceBEq, forall_const, implies_true, exists_const, ne_eq, Int.reduceAdd, Int.reduceSub, Int.reduceMul, Int.reduceBEq, Int.reduceEq, Int.reduceLT, Int.reduceLE, Int.reduceToNat, Int.reduceNeg, Int.reduceBNe]
    simp
  · rintro i m σ him hi hlt ⟨hno, s0, s1, s7, s8⟩
    simp -implicitDefEqProofs only [↓aP, aQ, ↓reduceIte, Nat.reduceEqDiff, Nat.reduceAdd, Nat.reduceSub, Nat.reduceMul, Nat.reduceLT, Nat.reduceLeDiff, reduceCtorEq, Nat.reduceBEq, forall_const, implies_true, exists_const, ne_eq, Int.reduceAdd, Int.reduceSub, Int.reduceMul, Int.reduceBEq, Int.reduceEq, Int.reduceLT, Int.reduceLE, Int.reduceToNat, Int.reduceNeg, Int.reduceBNe, hlt, s0, s1, s7, s8, askIdx_map, hi, hg, encFr]
    refine askV (hp l[i]) ?_
    simp -implicitDefEqProofs only [↓aP, aQ, ↓reduceIte, Nat.reduceEqDiff, Nat.reduceAdd, Nat.reduceSub, Nat.reduceMul, Nat.reduceLT, Nat.reduceLeDiff, reduceCtorEq, Nat.reduceBEq, forall_const, implies_true, exists_const, ne_eq, Int.reduceAdd, Int.reduceSub, Int.reduceMul, Int.reduceBEq, Int.reduceEq, Int.reduceLT, Int.reduceLE, Int.reduceToNat, Int.reduceNeg, Int.reduceBNe]
    refine fork ?_ ?_ <;> intro hc
    · simp -implicitDefEqProofs only [↓aP, aQ, ↓reduceIte, Nat.reduceEqDiff, Nat.reduceAdd, Nat.reduceSub, Nat.reduceMul, Nat.reduceLT, Nat.reduceLeDiff, reduceCtorEq, Nat.reduceBEq, forall_const, implies_true, exists_const, ne_eq, Int.reduceAdd, Int.reduceSub, Int.reduceMul, Int.reduceBEq, Int.reduceEq, Int.reduceLT, Int.reduceLE, Int.reduceToNat, Int.reduceNeg, Int.reduceBNe, fst_at hi hc hno]
    · simp -implicitDefEqProofs only [↓aP, aQ, ↓reduceIte, Nat.reduceEqDiff, Nat.reduceAdd, Nat.reduceSub, Nat.reduceMul, Nat.reduceLT, Nat.reduceLeDiff, reduceCtorEq, Nat.reduceBEq, forall_const, implies_true, exists_const, ne_eq, Int.reduceAdd, Int.reduceSub, Int.reduceMul, Int.reduceBEq, Int.reduceEq, Int.reduceLT, Int.reduceLE, Int.reduceToNat, Int.reduceNeg, Int.reduceBNe, s0, s1, s7, s8, wrapS (show i < 4611686018427387904 by omega)]
      refine nextR hi him ?_
      simp -implicitDefEqProofs only [↓aP, aQ, ↓reduceIte, Nat.reduceEqDiff, Nat.reduceAdd, Nat.reduceSub, Nat.reduceMul, Nat.reduceLT, Nat.reduceLeDiff, reduceCtorEq, Nat.reduceBEq, forall_const, implies_true, exists_const, ne_eq, Int.reduceAdd, Int.reduceSub, Int.reduceMul, Int.reduceBEq, Int.reduceEq, Int.reduceLT, Int.reduceLE, Int.reduceToNat, Int.reduceNeg, Int.reduceBNe, s0, s1, s7, s8]
      rw [take_snoc hi]
      intro x hx
      rcases List.mem_append.1 hx with h | h
      · exact hno x h
      · rw [List.mem_singleton.1 h]; exact hc
  · rintro m σ hlt ⟨hno, s0, s1, s7, s8⟩
    rw [List.take_length] at hno
    simp -implicitDefEqProofs only [↓aP, aQ, ↓reduceIte, Nat.reduceEqDiff, Nat.reduceAdd, Nat.reduceSub, Nat.reduceMul, Nat.reduceLT, Nat.reduceLeDiff, reduceCtorEq, Nat.reduceBEq, forall_const, implies_true, exists_const, ne_eq, Int.reduceAdd, Int.reduceSub, Int.reduceMul, Int.reduceBEq, Int.reduceEq, Int.reduceLT, Int.reduceLE, Int.reduceToNat, Int.reduceNeg, Int.reduceBNe, hlt, s0, s1, s7, s8, fst_none hno]

theorem any_fst {α : Type} {p : α → Bool} {l : List α} : decide (0 ≤ fst? p l) = l.any p := by
  cases h : l.findIdx? p with
  | none =>
    have h1 := List.findIdx?_eq_none_iff.1 h
    have h2 : fst? p l = -1 := by unfold fst?; rw [h]
    rw [h2]
    symm
    simpa using h1
  | some k =>
    obtain ⟨hk, h1, _⟩ := List.findIdx?_eq_some_iff_getElem.1 h
    have h2 : fst? p l = k := by unfold fst?; rw [h]
    rw [h2]
    symm
    rw [show l.any p = true from List.any_eq_true.2 ⟨_, List.getElem_mem hk, h1⟩]
    simp
theorem chas_spec (c : Clk) (k : Int) : Spec Try.prog 81 [.agg (encClk c), rI k] (.val (rB (decide (0 ≤ k ∧ k < c.fr.length)))) := by
  refine spec_val mixed fn81 (by simp) ?_
  unfold ac81
  simp -implicitDefEqProofs only [↓aP, aQ, ↓reduceIte, Nat.reduceEqDiff, Nat.reduceAdd, Nat.reduceSub, Nat.reduceMul, Nat.reduceLT, Nat.reduceLeDiff, reduceCtorEq, Nat.reduceBEq, forall_const, implies_true, exists_const, ne_eq, Int.reduceAdd, Int.reduceSub, Int.reduceMul, Int.reduceBEq, Int.reduceEq, Int.reduceLT, Int.reduceLE, Int.reduceToNat, Int.reduceNeg, Int.reduceBNe, encClk]
  by_cases h : 0 ≤ k
  · simp -implicitDefEqProofs only [↓aP, aQ, ↓reduceIte, Nat.reduceEqDiff, Nat.reduceAdd, Nat.reduceSub, Nat.reduceMul, Nat.reduceLT, Nat.reduceLeDiff, reduceCtorEq, Nat.reduceBEq, forall_const, implies_true, exists_const, ne_eq, Int.reduceAdd, Int.reduceSub, Int.reduceMul, Int.reduceBEq, Int.reduceEq, Int.reduceLT, Int.reduceLE, Int.reduceToNat, Int.reduceNeg, Int.reduceBNe, decide_eq_true h, List.length_map, h, true_and]
  · simp -implicitDefEqProofs only [↓aP, aQ, ↓reduceIte, Nat.reduceEqDiff, Nat.reduceAdd, Nat.reduceSub, Nat.reduceMul, Nat.reduceLT, Nat.reduceLeDiff, reduceCtorEq, Nat.reduceBEq, forall_const, implies_true, exists_const, ne_eq, Int.reduceAdd, Int.reduceSub, Int.reduceMul, Int.reduceBEq, Int.reduceEq, Int.reduceLT, Int.reduceLE, Int.reduceToNat, Int.reduceNeg, Int.reduceBNe, decide_eq_false h, List.length_map, h, false_and]
theorem cpinned_spec (x : Fr) : Spec Try.prog 95 [.agg (encFr x)] (.val (rB (decide (0 < x.pins)))) := by
  refine spec_val mixed fn95 (by simp) ?_
  unfold ac95
  simp -implicitDefEqProofs only [↓aP, aQ, ↓reduceIte, Nat.reduceEqDiff, Nat.reduceAdd, Nat.reduceSub, Nat.reduceMul, Nat.reduceLT, Nat.reduceLeDiff, reduceCtorEq, Nat.reduceBEq, forall_const, implies_true, exists_const, ne_eq, Int.reduceAdd, Int.reduceSub, Int.reduceMul, Int.reduceBEq, Int.reduceEq, Int.reduceLT, Int.reduceLE, Int.reduceToNat, Int.reduceNeg, Int.reduceBNe, encFr]
theorem csweep1_spec (x : Fr) : Spec Try.prog 94 [.agg (encFr x)] (.val (rB (!decide (0 < x.pins)))) := by
  refine spec_val mixed fn94 (by simp) ?_
  unfold ac94
  simp -implicitDefEqProofs only [↓aP, aQ, ↓reduceIte, Nat.reduceEqDiff, Nat.reduceAdd, Nat.reduceSub, Nat.reduceMul, Nat.reduceLT, Nat.reduceLeDiff, reduceCtorEq, Nat.reduceBEq, forall_const, implies_true, exists_const, ne_eq, Int.reduceAdd, Int.reduceSub, Int.reduceMul, Int.reduceBEq, Int.reduceEq, Int.reduceLT, Int.reduceLE, Int.reduceToNat, Int.reduceNeg, Int.reduceBNe, encFr]
  refine ask (by have := cpinned_spec x; rw [encFr] at this; exact this) ?_
  simp -implicitDefEqProofs only [↓aP, aQ, ↓reduceIte, Nat.reduceEqDiff, Nat.reduceAdd, Nat.reduceSub, Nat.reduceMul, Nat.reduceLT, Nat.reduceLeDiff, reduceCtorEq, Nat.reduceBEq, forall_const, implies_true, exists_const, ne_eq, Int.reduceAdd, Int.reduceSub, Int.reduceMul, Int.reduceBEq, Int.reduceEq, Int.reduceLT, Int.reduceLE, Int.reduceToNat, Int.reduceNeg, Int.reduceBNe]
theorem cany_spec (l : List Fr) (hl : l.length < 4611686018427387904) : Spec Try.prog 93 [rL 3 (l.map encFr), .c (.fn 94 [])] (.val (rB (l.any fun y => !decide (0 < y.pins)))) := by
  refine spec_val mixed fn93 (by simp) ?_
  unfold ac93
  simp -implicitDefEqProofs only [↓aP, aQ, ↓reduceIte, Nat.reduceEqDiff, Nat.reduceAdd, Nat.reduceSub, Nat.reduceMul, Nat.reduceLT, Nat.reduceLeDiff, reduceCtorEq, Nat.reduceBEq, forall_const, implies_true, exists_const, ne_eq, Int.reduceAdd, Int.reduceSub, Int.reduceMul, Int.reduceBEq, Int.reduceEq, Int.reduceLT, Int.reduceLE, Int.reduceToNat, Int.reduceNeg, Int.reduceBNe]
  refine ask (idxFr_spec l (fun x => !decide (0 < x.pins)) 94 [] (by kernel_rfl) (fun x => csweep1_spec x) hl) ?_
  simp -implicitDefEqProofs only [↓aP, aQ, ↓reduceIte, Nat.reduceEqDiff, Nat.reduceAdd, Nat.reduceSub, Nat.reduceMul, Nat.reduceLT, Nat.reduceLeDiff, reduceCtorEq, Nat.reduceBEq, forall_const, implies_true, exists_const, ne_eq, Int.reduceAdd, Int.reduceSub, Int.reduceMul, Int.reduceBEq, Int.reduceEq, Int.reduceLT, Int.reduceLE, Int.reduceToNat, Int.reduceNeg, Int.reduceBNe]
  exact any_fst
theorem cbehind_spec (c : Clk) (k : Nat) (hk : k < c.fr.length) (hl : c.fr.length ≤ 1000000) : Spec Try.prog 97 [.agg (encClk c), rI k] (.val (rI ((k + 1) % c.fr.length : Nat))) := by
  refine spec_val mixed fn97 (by simp) ?_
  unfold ac97
  have w1 : IntKind.i64.wrap ((k : Int) + 1) = ((k + 1 : Nat) : Int) := by rw [wrapI (by omega)]; omega
  simp -implicitDefEqProofs only [↓aP, aQ, ↓reduceIte, Nat.reduceEqDiff, Nat.reduceAdd, Nat.reduceSub, Nat.reduceMul, Nat.reduceLT, Nat.reduceLeDiff, reduceCtorEq, Nat.reduceBEq, forall_const, implies_true, exists_const, ne_eq, Int.reduceAdd, Int.reduceSub, Int.reduceMul, Int.reduceBEq, Int.reduceEq, Int.reduceLT, Int.reduceLE, Int.reduceToNat, Int.reduceNeg, Int.reduceBNe, encClk, List.length_map, w1]
  refine ⟨by omega, ?_⟩
  rw [Int.tmod_eq_emod_of_nonneg (by omega)]
  exact (Int.natCast_emod _ _).symm

theorem cRight_spec (c : Clk) (hl : c.fr.length < 4611686018427387904) : Spec Try.prog 46 [.agg (encClk c)] (.val (rB (Ck.right c.fr c.hand))) := by
  refine spec_val mixed fn46 (by simp) ?_
  unfold ac46
  simp -implicitDefEqProofs only [↓aP, aQ, ↓reduceIte, Nat.reduceEqDiff, Nat.reduceAdd, Nat.reduceSub, Nat.reduceMul, Nat.reduceLT, Nat.reduceLeDiff, reduceCtorEq, Nat.reduceBEq, forall_const, implies_true, exists_const, ne_eq, Int.reduceAdd, Int.reduceSub, Int.reduceMul, Int.reduceBEq, Int.reduceEq, Int.reduceLT, Int.reduceLE, Int.reduceToNat, Int.reduceNeg, Int.reduceBNe, encClk]
  by_cases h8 : 8 < c.fr.length
  · have e : Ck.right c.fr c.hand = false := by unfold Ck.right; rw [decide_eq_false (by omega), Bool.false_and]
    simp -implicitDefEqProofs only [↓aP, aQ, ↓reduceIte, Nat.reduceEqDiff, Nat.reduceAdd, Nat.reduceSub, Nat.reduceMul, Nat.reduceLT, Nat.reduceLeDiff, reduceCtorEq, Nat.reduceBEq, forall_const, implies_true, exists_const, ne_eq, Int.reduceAdd, Int.reduceSub, Int.reduceMul, Int.reduceBEq, Int.reduceEq, Int.reduceLT, Int.reduceLE, Int.reduceToNat, Int.reduceNeg, Int.reduceBNe, List.length_map, show decide ((8 : Int) < (c.fr.length : Int)) = true by simp; omega, e]
  simp -implicitDefEqProofs only [↓aP, aQ, ↓reduceIte, Nat.reduceEqDiff, Nat.reduceAdd, Nat.reduceSub, Nat.reduceMul, Nat.reduceLT, Nat.reduceLeDiff, reduceCtorEq, Nat.reduceBEq, forall_const, implies_true, exists_const, ne_eq, Int.reduceAdd, Int.reduceSub, Int.reduceMul, Int.reduceBEq, Int.reduceEq, Int.reduceLT, Int.reduceLE, Int.reduceToNat, Int.reduceNeg, Int.reduceBNe, List.length_map, show decide ((8 : Int) < (c.fr.length : Int)) = false by simp; omega]
  refine ask (by have := chas_spec c c.hand; rw [encClk] at this; exact this) ?_
  by_cases hh : 0 ≤ c.hand ∧ c.hand < c.fr.length
  case neg =>
    have e : Ck.right c.fr c.hand = false := by unfold Ck.right; rw [decide_eq_false (by omega), Bool.false_and]
    simp -implicitDefEqProofs only [↓aP, aQ, ↓reduceIte, Nat.reduceEqDiff, Nat.reduceAdd, Nat.reduceSub, Nat.reduceMul, Nat.reduceLT, Nat.reduceLeDiff, reduceCtorEq, Nat.reduceBEq, forall_const, implies_true, exists_const, ne_eq, Int.reduceAdd, Int.reduceSub, Int.reduceMul, Int.reduceBEq, Int.reduceEq, Int.reduceLT, Int.reduceLE, Int.reduceToNat, Int.reduceNeg, Int.reduceBNe, decide_eq_false hh, e]
  have e0 : Ck.right c.fr c.hand = c.fr.all Ck.good := by unfold Ck.right; rw [decide_eq_true (by omega), Bool.true_and]
  simp -implicitDefEqProofs only [↓aP, aQ, ↓reduceIte, Nat.reduceEqDiff, Nat.reduceAdd, Nat.reduceSub, Nat.reduceMul, Nat.reduceLT, Nat.reduceLeDiff, reduceCtorEq, Nat.reduceBEq, forall_const, implies_true, exists_const, ne_eq, Int.reduceAdd, Int.reduceSub, Int.reduceMul, Int.reduceBEq, Int.reduceEq, Int.reduceLT, Int.reduceLE, Int.reduceToNat, Int.reduceNeg, Int.reduceBNe, decide_eq_true hh, encClk, List.length_map]
  refine rangeB c.fr.length (fun i σ => (∀ x ∈ c.fr.take i, Ck.good x = true) ∧ σ.slot 17 = vL 3 (c.fr.map encFr) ∧ σ.slot 18 = vI c.fr.length ∧ σ.slot 19 = vI i) ?_ ?_ ?_
  · simp -implicitDefEqProofs only [↓aP, aQ, ↓reduceIte, Nat.reduceEqDiff, Nat.reduceAdd, Nat.reduceSub, Nat.reduceMul, Nat.reduceLT, Nat.reduceLeDiff, reduceCtorEq, Nat.reduceBEq, forall_const, implies_true, exists_const, ne_eq, Int.reduceAdd, Int.reduceSub, Int.reduceMul, Int.reduceBEq, Int.reduceEq, Int.reduceLT, Int.reduceLE, Int.reduceToNat, Int.reduceNeg, Int.reduceBNe]
    simp
  · rintro i m σ him hi hlt ⟨hg, s17, s18, s19⟩
    have bad : Ck.good c.fr[i] = false → Ck.right c.fr c.hand = false := fun h => by
      rw [e0, List.all_eq_false]; exact ⟨_, List.getElem_mem hi, by simp [h]⟩
    simp -implicitDefEqProofs only [↓aP, aQ, ↓reduceIte, Nat.reduceEqDiff, Nat.reduceAdd, Nat.reduceSub, Nat.reduceMul, Nat.reduceLT, Nat.reduceLeDiff, reduceCtorEq, Nat.reduceBEq, forall_const, implies_true, exists_const, ne_eq, Int.reduceAdd, Int.reduceSub, Int.reduceMul, Int.reduceBEq, Int.reduceEq, Int.reduceLT, Int.reduceLE, Int.reduceToNat, Int.reduceNeg, Int.reduceBNe, hlt, s17, s18, s19, askIdx_map, hi, encFr]
    repeat' ((first | ((first | with_reducible refine fork ?_ ?_ | with_reducible refine gcase ?_ ?_ | with_reducible refine gcaseD ?_ ?_) <;> intro hc <;> (have hp := hc) <;> (try simp only [aB] at hp)) | (have hc := True.intro; first | with_reducible refine askM (by omega) ?_ | with_reducible refine And.intro (by first | omega | decide +kernel) ?_ | fail)) <;> (try simp -implicitDefEqProofs only [↓aP, aQ, ↓reduceIte, Nat.reduceEqDiff, Nat.reduceAdd, Nat.reduceSub, Nat.reduceMul, Nat.reduceLT, Nat.reduceLeDiff, reduceCtorEq, Nat.reduceBEq, forall_const, implies_true, exists_const, ne_eq, Int.reduceAdd, Int.reduceSub, Int.reduceMul, Int.reduceBEq, Int.reduceEq, Int.reduceLT, Int.reduceLE, Int.reduceToNat, Int.reduceNeg, Int.reduceBNe, hc, s17, s18, s19, encFr, wrapS (show i < 4611686018427387904 by omega)]))
    all_goals first
      | (rw [bad (by unfold Ck.good; rw [decide_eq_false_iff_not]; omega)]; done)
      | (have hgi : Ck.good c.fr[i] = true := by unfold Ck.good; rw [decide_eq_true_iff]; omega
         refine nextR hi him ?_
         simp -implicitDefEqProofs only [↓aP, aQ, ↓reduceIte, Nat.reduceEqDiff, Nat.reduceAdd, Nat.reduceSub, Nat.reduceMul, Nat.reduceLT, Nat.reduceLeDiff, reduceCtorEq, Nat.reduceBEq, forall_const, implies_true, exists_const, ne_eq, Int.reduceAdd, Int.reduceSub, Int.reduceMul, Int.reduceBEq, Int.reduceEq, Int.reduceLT, Int.reduceLE, Int.reduceToNat, Int.reduceNeg, Int.reduceBNe, s17, s18, s19]
         rw [take_snoc hi]
         intro x hx
         rcases List.mem_append.1 hx with h | h
         · exact hg x h
         · rw [List.mem_singleton.1 h]; exact hgi)
  · rintro m σ hlt ⟨hg, s17, s18, s19⟩
    rw [List.take_length] at hg
    simp -implicitDefEqProofs only [↓aP, aQ, ↓reduceIte, Nat.reduceEqDiff, Nat.reduceAdd, Nat.reduceSub, Nat.reduceMul, Nat.reduceLT, Nat.reduceLeDiff, reduceCtorEq, Nat.reduceBEq, forall_const, implies_true, exists_const, ne_eq, Int.reduceAdd, Int.reduceSub, Int.reduceMul, Int.reduceBEq, Int.reduceEq, Int.reduceLT, Int.reduceLE, Int.reduceToNat, Int.reduceNeg, Int.reduceBNe, hlt, s17, s18, s19, e0, List.all_eq_true.2 hg]
/-- Sweep: the clock behind it, the frame, and whether there is one -/
def sweepC (c : Clk) : Clk × Int × Bool := if Ck.right c.fr c.hand = true then
    match Ck.stop c.fr c.hand.toNat with
    | some N => (⟨Ck.after c.fr c.hand.toNat N, (((c.hand.toNat + N) % c.fr.length + 1) % c.fr.length : Nat)⟩, ((c.hand.toNat + N) % c.fr.length : Nat), true)
    | none => (c, 0, false)
  else (c, 0, false)
theorem right_fr {l : List Fr} {h : Int} (hr : Ck.right l h = true) : l.length ≤ 8 ∧ 0 ≤ h ∧ h < l.length ∧ ∀ f ∈ l, Ck.good f = true := by
  unfold Ck.right at hr
  rw [Bool.and_eq_true, decide_eq_true_iff, List.all_eq_true] at hr
  exact ⟨hr.1.1, hr.1.2.1, hr.1.2.2, hr.2⟩
theorem stop_any {l : List Fr} {h : Int} (hr : Ck.right l h = true) : (l.any fun y => !decide (0 < y.pins)) = false → Ck.stop l h.toNat = none := fun ha => by
  obtain ⟨_, h0, h1, hg⟩ := right_fr hr
  rw [List.any_eq_false] at ha
  have hp : ∀ f ∈ l, f.pins ≠ 0 := fun f hf he => by
    have := ha f hf
    simp [he] at this
  have f1 : Ck.first Ck.fresh l h.toNat = none := (Ck.first_none_all (by omega)).2 fun f hf => by
    unfold Ck.fresh; rw [show (f.pins == 0) = false from beq_eq_false_iff_ne.2 (hp f hf)]; rfl
  have f2 : Ck.first Ck.free l h.toNat = none := (Ck.first_none_all (by omega)).2 fun f hf => by
    unfold Ck.free; exact beq_eq_false_iff_ne.2 (hp f hf)
  unfold Ck.stop
  rw [f1, f2]; rfl
theorem any_free {l : List Fr} {h : Int} (hr : Ck.right l h = true) (ha : (l.any fun y => !decide (0 < y.pins)) = true) : ∃ f ∈ l, f.pins = 0 := by
  obtain ⟨_, h0, h1, hg⟩ := right_fr hr
  rw [List.any_eq_true] at ha
  obtain ⟨f, hf, hp⟩ := ha
  have := hg f hf
  unfold Ck.good at this
  simp at hp this
  exact ⟨f, hf, by omega⟩
theorem modify_set {α : Type} {l : List α} {i : Nat} {f : α → α} (h : i < l.length) : l.modify i f = l.set i (f l[i]) := by
  refine List.ext_getElem (by simp) fun j h1 h2 => ?_
  rw [List.getElem_modify, List.getElem_set]
  by_cases e : i = j
  · subst e; simp
  · simp [e]

set_option maxRecDepth 100000 in
theorem csweep_spec (c : Clk) (hl : c.fr.length < 4611686018427387904) : Spec Try.prog 58 [.agg (encClk c)] (.val (.tup [(true, encClk (sweepC c).1), (false, [.pv (.int .i64 (sweepC c).2.1)]), (false, [.pv (.bool (sweepC c).2.2)])])) := by
  refine spec_val mixed fn58 (by simp) ?_
  unfold ac58
  simp -implicitDefEqProofs only [↓aP, aQ, ↓reduceIte, Nat.reduceEqDiff, Nat.reduceAdd, Nat.reduceSub, Nat.reduceMul, Nat.reduceLT, Nat.reduceLeDiff, reduceCtorEq, Nat.reduceBEq, forall_const, implies_true, exists_const, ne_eq, Int.reduceAdd, Int.reduceSub, Int.reduceMul, Int.reduceBEq, Int.reduceEq, Int.reduceLT, Int.reduceLE, Int.reduceToNat, Int.reduceNeg, Int.reduceBNe, encClk]
  refine ask (by have := cRight_spec c hl; rw [encClk] at this; exact this) ?_
  cases hr : Ck.right c.fr c.hand
  · have e : sweepC c = (c, 0, false) := by unfold sweepC; rw [if_neg (by simp [hr])]
    simp -implicitDefEqProofs only [↓aP, aQ, ↓reduceIte, Nat.reduceEqDiff, Nat.reduceAdd, Nat.reduceSub, Nat.reduceMul, Nat.reduceLT, Nat.reduceLeDiff, reduceCtorEq, Nat.reduceBEq, forall_const, implies_true, exists_const, ne_eq, Int.reduceAdd, Int.reduceSub, Int.reduceMul, Int.reduceBEq, Int.reduceEq, Int.reduceLT, Int.reduceLE, Int.reduceToNat, Int.reduceNeg, Int.reduceBNe, e, encClk]
  obtain ⟨h8, h0, h1, hg⟩ := right_fr hr
  simp -implicitDefEqProofs only [↓aP, aQ, ↓reduceIte, Nat.reduceEqDiff, Nat.reduceAdd, Nat.reduceSub, Nat.reduceMul, Nat.reduceLT, Nat.reduceLeDiff, reduceCtorEq, Nat.reduceBEq, forall_const, implies_true, exists_const, ne_eq, Int.reduceAdd, Int.reduceSub, Int.reduceMul, Int.reduceBEq, Int.reduceEq, Int.reduceLT, Int.reduceLE, Int.reduceToNat, Int.reduceNeg, Int.reduceBNe, encClk]
  refine ask (cany_spec c.fr hl) ?_
  cases ha : c.fr.any fun y => !decide (0 < y.pins)
  · have e : sweepC c = (c, 0, false) := by unfold sweepC; rw [if_pos hr, stop_any hr ha]
    simp -implicitDefEqProofs only [↓aP, aQ, ↓reduceIte, Nat.reduceEqDiff, Nat.reduceAdd, Nat.reduceSub, Nat.reduceMul, Nat.reduceLT, Nat.reduceLeDiff, reduceCtorEq, Nat.reduceBEq, forall_const, implies_true, exists_const, ne_eq, Int.reduceAdd, Int.reduceSub, Int.reduceMul, Int.reduceBEq, Int.reduceEq, Int.reduceLT, Int.reduceLE, Int.reduceToNat, Int.reduceNeg, Int.reduceBNe, e, encClk]
  have hf := any_free hr ha
  simp -implicitDefEqProofs only [↓aP, aQ, ↓reduceIte, Nat.reduceEqDiff, Nat.reduceAdd, Nat.reduceSub, Nat.reduceMul, Nat.reduceLT, Nat.reduceLeDiff, reduceCtorEq, Nat.reduceBEq, forall_const, implies_true, exists_const, ne_eq, Int.reduceAdd, Int.reduceSub, Int.reduceMul, Int.reduceBEq, Int.reduceEq, Int.reduceLT, Int.reduceLE, Int.reduceToNat, Int.reduceNeg, Int.reduceBNe, encClk]
  refine ask (cloneFr _ (by simp; omega)) ?_
  simp -implicitDefEqProofs only [↓aP, aQ, ↓reduceIte, Nat.reduceEqDiff, Nat.reduceAdd, Nat.reduceSub, Nat.reduceMul, Nat.reduceLT, Nat.reduceLeDiff, reduceCtorEq, Nat.reduceBEq, forall_const, implies_true, exists_const, ne_eq, Int.reduceAdd, Int.reduceSub, Int.reduceMul, Int.reduceBEq, Int.reduceEq, Int.reduceLT, Int.reduceLE, Int.reduceToNat, Int.reduceNeg, Int.reduceBNe]
  have hh : c.hand.toNat < c.fr.length := by omega
  refine loopA (fun m σ => ∃ N : Nat, N + m = 2 * c.fr.length - 1 ∧ (∀ j, j < N → Ck.ends c.fr c.hand.toNat j = false) ∧ σ.slot 1 = .c (.ptr 1 1 0 0) ∧ σ.h.gen 1 = 1 ∧ σ.h.blk 1 = .box 25 2 [(encClk c).map AC.s] ∧ σ.slot 2 = .c (.ptr 2 1 0 0) ∧ σ.h.gen 2 = 1 ∧ σ.h.blk 2 = .box 25 2 [[.zc, .s (.pv (.int .i64 0))]] ∧ σ.slot 5 = .c (.own 19 1) ∧ σ.h.gen 19 = 1 ∧ σ.h.blk 19 = .row 46 3 ((Ck.after c.fr c.hand.toNat N).map encFr) ∧ σ.slot 6 = vI ((c.hand.toNat + N) % c.fr.length : Nat)) (2 * c.fr.length - 1) ⟨0, by omega, fun j hj => absurd hj (by omega), ?_⟩ ?_
  · simp -implicitDefEqProofs only [↓aP, aQ, ↓reduceIte, Nat.reduceEqDiff, Nat.reduceAdd, Nat.reduceSub, Nat.reduceMul, Nat.reduceLT, Nat.reduceLeDiff, reduceCtorEq, Nat.reduceBEq, forall_const, implies_true, exists_const, ne_eq, Int.reduceAdd, Int.reduceSub, Int.reduceMul, Int.reduceBEq, Int.reduceEq, Int.reduceLT, Int.reduceLE, Int.reduceToNat, Int.reduceNeg, Int.reduceBNe, encClk, Ck.after_zero, Nat.add_zero, Nat.mod_eq_of_lt hh, show ((c.hand.toNat : Nat) : Int) = c.hand by omega]
  rintro m σ ⟨N, hN, hno, s1, g1, b1, s2, g2, b2, s5, g19, b19, s6⟩
  have hat := Ck.after_at (N := N) hh (by omega)
  have hx : (c.hand.toNat + N) % c.fr.length < (Ck.after c.fr c.hand.toNat N).length := by rw [Ck.after_length]; exact Nat.mod_lt _ (by omega)
  obtain ⟨x, ex⟩ : ∃ x, (Ck.after c.fr c.hand.toNat N)[(c.hand.toNat + N) % c.fr.length] = x := ⟨_, rfl⟩
  have hk : (c.hand.toNat + N) % c.fr.length < c.fr.length := Nat.mod_lt _ (by omega)
  rw [ex] at hat
  have hpos : 0 ≤ x.pins := by
    have hgf := hg _ (List.getElem_mem hk)
    unfold Ck.good at hgf
    rw [decide_eq_true_iff] at hgf
    rw [hat]
    dsimp only
    split
    · exact hgf.2.2.1
    · exact hgf.2.2.1
  have he : Ck.ends c.fr c.hand.toNat N = (x.pins == 0 && !x.used) := by
    unfold Ck.ends Ck.free
    rw [Ck.getD_eq hk, hat]
    dsimp only
    cases b1 : (c.fr[(c.hand.toNat + N) % c.fr.length].pins == 0)
    · simp [b1]
    · cases b2 : decide (c.fr.length ≤ N)
      · simp [b1]
      · simp [b1]
  have hsucc := Ck.after_succ (N := N) hh
  rw [modify_set hx, ex] at hsucc
  have hix : ((c.hand.toNat + N) % c.fr.length + 1) % c.fr.length = (c.hand.toNat + (N + 1)) % c.fr.length := Nat.mod_add_mod _ _ _
  have hm : Ck.ends c.fr c.hand.toNat N = false → 0 < m := fun hf2 => by
    refine Nat.pos_of_ne_zero fun hm0 => ?_
    have hN2 : N = 2 * c.fr.length - 1 := by omega
    have := Ck.ends_some hh hf (fun j hj => hno j (by omega))
    rw [← hN2, hf2] at this
    exact Bool.noConfusion this
  have hno2 : Ck.ends c.fr c.hand.toNat N = false → ∀ j, j < N + 1 → Ck.ends c.fr c.hand.toNat j = false := fun hf2 j hj => by
    by_cases e : j = N
    · rw [e]; exact hf2
    · exact hno j (by omega)
  have cp := cpinned_spec x
  rw [encFr] at cp
  have cb := cbehind_spec c _ hk (by omega)
  rw [hix, encClk] at cb
  simp -implicitDefEqProofs only [↓aP, aQ, ↓reduceIte, Nat.reduceEqDiff, Nat.reduceAdd, Nat.reduceSub, Nat.reduceMul, Nat.reduceLT, Nat.reduceLeDiff, reduceCtorEq, Nat.reduceBEq, forall_const, implies_true, exists_const, ne_eq, Int.reduceAdd, Int.reduceSub, Int.reduceMul, Int.reduceBEq, Int.reduceEq, Int.reduceLT, Int.reduceLE, Int.reduceToNat, Int.reduceNeg, Int.reduceBNe, s1, g1, b1, s2, g2, b2, s5, g19, b19, s6, askIdx_map, hx, ex, encFr]
  refine ask cp ?_
  by_cases hp : 0 < x.pins
  · have hef : Ck.ends c.fr c.hand.toNat N = false := by rw [he, show (x.pins == 0) = false from beq_eq_false_iff_ne.2 (by omega)]; rfl
    have hm1 := hm hef
    rw [if_neg (by simp; omega), ← ex, List.set_getElem_self] at hsucc
    simp -implicitDefEqProofs only [↓aP, aQ, ↓reduceIte, Nat.reduceEqDiff, Nat.reduceAdd, Nat.reduceSub, Nat.reduceMul, Nat.reduceLT, Nat.reduceLeDiff, reduceCtorEq, Nat.reduceBEq, forall_const, implies_true, exists_const, ne_eq, Int.reduceAdd, Int.reduceSub, Int.reduceMul, Int.reduceBEq, Int.reduceEq, Int.reduceLT, Int.reduceLE, Int.reduceToNat, Int.reduceNeg, Int.reduceBNe, decide_eq_true hp, s1, g1, b1, s2, g2, b2, s5, g19, b19, s6, askIdx_map, hx, ex, encFr]
    refine ask cp ?_
    simp -implicitDefEqProofs only [↓aP, aQ, ↓reduceIte, Nat.reduceEqDiff, Nat.reduceAdd, Nat.reduceSub, Nat.reduceMul, Nat.reduceLT, Nat.reduceLeDiff, reduceCtorEq, Nat.reduceBEq, forall_const, implies_true, exists_const, ne_eq, Int.reduceAdd, Int.reduceSub, Int.reduceMul, Int.reduceBEq, Int.reduceEq, Int.reduceLT, Int.reduceLE, Int.reduceToNat, Int.reduceNeg, Int.reduceBNe, decide_eq_true hp, s1, g1, b1, s2, g2, b2, s5, g19, b19, s6, encClk]
    refine ask cb ?_
    simp -implicitDefEqProofs only [↓aP, aQ, ↓reduceIte, Nat.reduceEqDiff, Nat.reduceAdd, Nat.reduceSub, Nat.reduceMul, Nat.reduceLT, Nat.reduceLeDiff, reduceCtorEq, Nat.reduceBEq, forall_const, implies_true, exists_const, ne_eq, Int.reduceAdd, Int.reduceSub, Int.reduceMul, Int.reduceBEq, Int.reduceEq, Int.reduceLT, Int.reduceLE, Int.reduceToNat, Int.reduceNeg, Int.reduceBNe]
    refine ⟨m - 1, by omega, N + 1, by omega, hno2 hef, ?_⟩
    simp -implicitDefEqProofs only [↓aP, aQ, ↓reduceIte, Nat.reduceEqDiff, Nat.reduceAdd, Nat.reduceSub, Nat.reduceMul, Nat.reduceLT, Nat.reduceLeDiff, reduceCtorEq, Nat.reduceBEq, forall_const, implies_true, exists_const, ne_eq, Int.reduceAdd, Int.reduceSub, Int.reduceMul, Int.reduceBEq, Int.reduceEq, Int.reduceLT, Int.reduceLE, Int.reduceToNat, Int.reduceNeg, Int.reduceBNe, s1, g1, b1, s2, g2, b2, s5, g19, b19, s6, hsucc, encClk]
    all_goals (trace_state; sorry)
  · have hp0 : x.pins = 0 := by omega
    cases hu : x.used
    · have hef : Ck.ends c.fr c.hand.toNat N = true := by rw [he, hu, hp0]; rfl
      have hst := Ck.stop_of_ends hh (by omega) hef hno
      have e : sweepC c = (Clk.mk (Ck.after c.fr c.hand.toNat N) ((((c.hand.toNat + N) % c.fr.length + 1) % c.fr.length : Nat) : Int), (((c.hand.toNat + N) % c.fr.length : Nat) : Int), true) := by unfold sweepC; rw [if_pos hr, hst]
      simp -implicitDefEqProofs only [↓aP, aQ, ↓reduceIte, Nat.reduceEqDiff, Nat.reduceAdd, Nat.reduceSub, Nat.reduceMul, Nat.reduceLT, Nat.reduceLeDiff, reduceCtorEq, Nat.reduceBEq, forall_const, implies_true, exists_const, ne_eq, Int.reduceAdd, Int.reduceSub, Int.reduceMul, Int.reduceBEq, Int.reduceEq, Int.reduceLT, Int.reduceLE, Int.reduceToNat, Int.reduceNeg, Int.reduceBNe, decide_eq_false hp, s1, g1, b1, s2, g2, b2, s5, g19, b19, s6, askIdx_map, hx, ex, encFr, hu, encClk]
      refine ask cb ?_
      simp -implicitDefEqProofs only [↓aP, aQ, ↓reduceIte, Nat.reduceEqDiff, Nat.reduceAdd, Nat.reduceSub, Nat.reduceMul, Nat.reduceLT, Nat.reduceLeDiff, reduceCtorEq, Nat.reduceBEq, forall_const, implies_true, exists_const, ne_eq, Int.reduceAdd, Int.reduceSub, Int.reduceMul, Int.reduceBEq, Int.reduceEq, Int.reduceLT, Int.reduceLE, Int.reduceToNat, Int.reduceNeg, Int.reduceBNe, e, encClk, hix, s1, g1, b1, s2, g2, b2, s5, g19, b19, s6]
      all_goals (trace_state; sorry)
    · have hef : Ck.ends c.fr c.hand.toNat N = false := by rw [he, hu, Bool.not_true, Bool.and_false]
      have hm1 := hm hef
      rw [if_pos (by simp [hp0])] at hsucc
      simp -implicitDefEqProofs only [↓aP, aQ, ↓reduceIte, Nat.reduceEqDiff, Nat.reduceAdd, Nat.reduceSub, Nat.reduceMul, Nat.reduceLT, Nat.reduceLeDiff, reduceCtorEq, Nat.reduceBEq, forall_const, implies_true, exists_const, ne_eq, Int.reduceAdd, Int.reduceSub, Int.reduceMul, Int.reduceBEq, Int.reduceEq, Int.reduceLT, Int.reduceLE, Int.reduceToNat, Int.reduceNeg, Int.reduceBNe, decide_eq_false hp, s1, g1, b1, s2, g2, b2, s5, g19, b19, s6, askIdx_map, hx, ex, encFr, hu]
      refine ask (by have := cp; rw [hu] at this; exact this) ?_
      simp -implicitDefEqProofs only [↓aP, aQ, ↓reduceIte, Nat.reduceEqDiff, Nat.reduceAdd, Nat.reduceSub, Nat.reduceMul, Nat.reduceLT, Nat.reduceLeDiff, reduceCtorEq, Nat.reduceBEq, forall_const, implies_true, exists_const, ne_eq, Int.reduceAdd, Int.reduceSub, Int.reduceMul, Int.reduceBEq, Int.reduceEq, Int.reduceLT, Int.reduceLE, Int.reduceToNat, Int.reduceNeg, Int.reduceBNe, decide_eq_false hp, s1, g1, b1, s2, g2, b2, s5, g19, b19, s6, askIdx_map, hx, ex, encFr, hu, encClk]
      refine ask cb ?_
      simp -implicitDefEqProofs only [↓aP, aQ, ↓reduceIte, Nat.reduceEqDiff, Nat.reduceAdd, Nat.reduceSub, Nat.reduceMul, Nat.reduceLT, Nat.reduceLeDiff, reduceCtorEq, Nat.reduceBEq, forall_const, implies_true, exists_const, ne_eq, Int.reduceAdd, Int.reduceSub, Int.reduceMul, Int.reduceBEq, Int.reduceEq, Int.reduceLT, Int.reduceLE, Int.reduceToNat, Int.reduceNeg, Int.reduceBNe]
      have ms : ((Ck.after c.fr c.hand.toNat N).map encFr).set ((c.hand.toNat + N) % c.fr.length) [.pv (.int .i64 x.page), .pv (.int .i64 x.pins), .pv (.bool false)] = ((Ck.after c.fr c.hand.toNat N).set ((c.hand.toNat + N) % c.fr.length) ⟨x.page, x.pins, false⟩).map encFr := by rw [List.map_set]; rfl
      refine ⟨m - 1, by omega, N + 1, by omega, hno2 hef, ?_⟩
      simp -implicitDefEqProofs only [↓aP, aQ, ↓reduceIte, Nat.reduceEqDiff, Nat.reduceAdd, Nat.reduceSub, Nat.reduceMul, Nat.reduceLT, Nat.reduceLeDiff, reduceCtorEq, Nat.reduceBEq, forall_const, implies_true, exists_const, ne_eq, Int.reduceAdd, Int.reduceSub, Int.reduceMul, Int.reduceBEq, Int.reduceEq, Int.reduceLT, Int.reduceLE, Int.reduceToNat, Int.reduceNeg, Int.reduceBNe, s1, g1, b1, s2, g2, b2, s5, g19, b19, s6, hsucc, encClk, ms]
      all_goals (trace_state; sorry)
end Go.Proofs.Ytcindpblgbpcoaa
