/- disk.New's contract. -/
import Derived.Test.YteghmlafodkfpaaQRep
namespace Go.Proofs.Yteghmlafodkfpaa
open Go.RowKit
set_option linter.unusedVariables false
set_option linter.unusedSimpArgs false
theorem noughts_spec : Spec Try.prog 92 [rS ⟨#[0]⟩, rI 16] (.val (rS noughts)) := by
  intro w O us hO hus
  obtain ⟨a, b, rfl, ha, hb⟩ := hus.two
  have e1 : a = .string ⟨#[0]⟩ := RepS.flat ha
  have e2 : b = .int .i64 16 := RepS.flat hb
  subst e1 e2
  refine (Try.strings_Repeat ⟨#[0]⟩ 16 w (by omega) (by decide)).mono ?_
  rintro e w' ⟨rfl, hB⟩
  exact ⟨_, rfl, .pv rfl, hB⟩
theorem repeat_spec (s : ByteArray) (n : Nat) (h1 : 1 ≤ n) (h2 : n ≤ 64) : Spec Try.prog 93 [rL 1 [encS s], rI n] (.val (rL 1 (List.replicate n (encS s)))) := by
  intro w O us hO hus
  obtain ⟨a, b, rfl, ha, hb⟩ := hus.two
  have e2 : b = .int .i64 n := RepS.flat hb
  subst e2
  obtain ⟨g, off, cap, e3, hg, hcs⟩ := strsAt_of (zs := [s]) ha (by simp)
  have hcap : 1 ≤ cap := by
    have ha' : RepS w O (.sl 1 [encS s]) a := ha
    rw [e3] at ha'
    cases ha' with
    | sl h0 hcap => exact hcap
  subst e3
  have hc := hcs 0 (by simp)
  simp only [Nat.add_zero, List.getElem?_cons_zero, Option.getD_some] at hc
  refine (rep_sl g off cap n s w h1 h2 hc hg hcap).mono ?_
  rintro e w' ⟨g2, rfl, hg2, hk, hB⟩
  refine ⟨_, rfl, ?_, hB⟩
  have hfl : (List.replicate n (encS s)).flatten = List.replicate n (.pv (.string s)) := by
    clear h1 h2 hk hB hus hb
    induction n with
    | zero => rfl
    | succ n ih => simp [List.replicate_succ, encS, ih]
  have hlen : (List.replicate n (encS s)).length = n := by simp
  show RepS w' O (.sl 1 (List.replicate n (encS s))) _
  have := RepS.sl (w := w') (O := O) (e := 1) (els := List.replicate n (encS s)) (b := g2) (off := 0) (cap := n) (us := List.replicate n (.string s)) (by omega) (by simp) (by unfold maxLen; omega) ((Array.getElem?_eq_some_iff.1 hk).1) (fun h => by have := hO _ h; omega)
    (by intro x hx; rw [List.mem_replicate] at hx; rw [hx.2]; rfl) (by rw [hfl]; simp) (by intro i h h'; simp only [hfl, List.getElem_replicate]; exact .pv rfl) (by
      intro i h'
      have h3 : i < n := by simpa using h'
      rw [Nat.zero_add, List.getElem_replicate]
      exact heapCell hk (by simp [h3]))
  rw [hlen] at this
  exact this
theorem new_spec (n : Int) : Spec Try.prog 51 [rI n] (.val (.tup [(true, encDk (newD n).1), (false, [.pv (.int .i64 (newD n).2)])])) := by
  refine spec_val mixed fn51 (by simp) ?_
  unfold ac51
  simp -implicitDefEqProofs only [↓aP, aQ, ↓reduceIte, Nat.reduceEqDiff, Nat.reduceAdd, Nat.reduceSub, Nat.reduceMul, Nat.reduceLT, Nat.reduceLeDiff, reduceCtorEq, Nat.reduceBEq, forall_const, implies_true, exists_const, ne_eq, Int.reduceAdd, Int.reduceSub, Int.reduceMul, Int.reduceBEq, Int.reduceEq, Int.reduceLT, Int.reduceLE, Int.reduceToNat, Int.reduceNeg, Int.reduceBNe]
  cases h1 : decide (n < 1)
  · simp -implicitDefEqProofs only [↓aP, aQ, ↓reduceIte, Nat.reduceEqDiff, Nat.reduceAdd, Nat.reduceSub, Nat.reduceMul, Nat.reduceLT, Nat.reduceLeDiff, reduceCtorEq, Nat.reduceBEq, forall_const, implies_true, exists_const, ne_eq, Int.reduceAdd, Int.reduceSub, Int.reduceMul, Int.reduceBEq, Int.reduceEq, Int.reduceLT, Int.reduceLE, Int.reduceToNat, Int.reduceNeg, Int.reduceBNe]
    cases h2 : decide (64 < n)
    · simp -implicitDefEqProofs only [↓aP, aQ, ↓reduceIte, Nat.reduceEqDiff, Nat.reduceAdd, Nat.reduceSub, Nat.reduceMul, Nat.reduceLT, Nat.reduceLeDiff, reduceCtorEq, Nat.reduceBEq, forall_const, implies_true, exists_const, ne_eq, Int.reduceAdd, Int.reduceSub, Int.reduceMul, Int.reduceBEq, Int.reduceEq, Int.reduceLT, Int.reduceLE, Int.reduceToNat, Int.reduceNeg, Int.reduceBNe]
      refine ask noughts_spec ?_
      simp -implicitDefEqProofs only [↓aP, aQ, ↓reduceIte, Nat.reduceEqDiff, Nat.reduceAdd, Nat.reduceSub, Nat.reduceMul, Nat.reduceLT, Nat.reduceLeDiff, reduceCtorEq, Nat.reduceBEq, forall_const, implies_true, exists_const, ne_eq, Int.reduceAdd, Int.reduceSub, Int.reduceMul, Int.reduceBEq, Int.reduceEq, Int.reduceLT, Int.reduceLE, Int.reduceToNat, Int.reduceNeg, Int.reduceBNe]
      simp only [decide_eq_false_iff_not] at h1 h2
      obtain ⟨k, rfl⟩ : ∃ k : Nat, n = k := ⟨n.toNat, by omega⟩
      refine ask (repeat_spec noughts k (by omega) (by omega)) ?_
      have e : newD k = (⟨List.replicate k noughts, []⟩, 0) := by rw [newD, if_neg (by omega)]; simp
      simp -implicitDefEqProofs only [↓aP, aQ, ↓reduceIte, Nat.reduceEqDiff, Nat.reduceAdd, Nat.reduceSub, Nat.reduceMul, Nat.reduceLT, Nat.reduceLeDiff, reduceCtorEq, Nat.reduceBEq, forall_const, implies_true, exists_const, ne_eq, Int.reduceAdd, Int.reduceSub, Int.reduceMul, Int.reduceBEq, Int.reduceEq, Int.reduceLT, Int.reduceLE, Int.reduceToNat, Int.reduceNeg, Int.reduceBNe, e, encDk]
      simp
    · simp -implicitDefEqProofs only [↓aP, aQ, ↓reduceIte, Nat.reduceEqDiff, Nat.reduceAdd, Nat.reduceSub, Nat.reduceMul, Nat.reduceLT, Nat.reduceLeDiff, reduceCtorEq, Nat.reduceBEq, forall_const, implies_true, exists_const, ne_eq, Int.reduceAdd, Int.reduceSub, Int.reduceMul, Int.reduceBEq, Int.reduceEq, Int.reduceLT, Int.reduceLE, Int.reduceToNat, Int.reduceNeg, Int.reduceBNe]
      simp only [decide_eq_true_eq, decide_eq_false_iff_not] at h1 h2
      have e : newD n = (⟨[], []⟩, 1) := by rw [newD, if_pos (by omega)]
      simp -implicitDefEqProofs only [↓aP, aQ, ↓reduceIte, Nat.reduceEqDiff, Nat.reduceAdd, Nat.reduceSub, Nat.reduceMul, Nat.reduceLT, Nat.reduceLeDiff, reduceCtorEq, Nat.reduceBEq, forall_const, implies_true, exists_const, ne_eq, Int.reduceAdd, Int.reduceSub, Int.reduceMul, Int.reduceBEq, Int.reduceEq, Int.reduceLT, Int.reduceLE, Int.reduceToNat, Int.reduceNeg, Int.reduceBNe, e, encDk]
  · simp -implicitDefEqProofs only [↓aP, aQ, ↓reduceIte, Nat.reduceEqDiff, Nat.reduceAdd, Nat.reduceSub, Nat.reduceMul, Nat.reduceLT, Nat.reduceLeDiff, reduceCtorEq, Nat.reduceBEq, forall_const, implies_true, exists_const, ne_eq, Int.reduceAdd, Int.reduceSub, Int.reduceMul, Int.reduceBEq, Int.reduceEq, Int.reduceLT, Int.reduceLE, Int.reduceToNat, Int.reduceNeg, Int.reduceBNe]
    simp only [decide_eq_true_eq] at h1
    have e : newD n = (⟨[], []⟩, 1) := by rw [newD, if_pos (by omega)]
    simp -implicitDefEqProofs only [↓aP, aQ, ↓reduceIte, Nat.reduceEqDiff, Nat.reduceAdd, Nat.reduceSub, Nat.reduceMul, Nat.reduceLT, Nat.reduceLeDiff, reduceCtorEq, Nat.reduceBEq, forall_const, implies_true, exists_const, ne_eq, Int.reduceAdd, Int.reduceSub, Int.reduceMul, Int.reduceBEq, Int.reduceEq, Int.reduceLT, Int.reduceLE, Int.reduceToNat, Int.reduceNeg, Int.reduceBNe, e, encDk]
end Go.Proofs.Yteghmlafodkfpaa
