/- layer 4: the law DeviceOnce. -/
import Derived.Test.YtmknfchmnangbaaV10
namespace Go.Proofs.Ytmknfchmnangbaa
open Go.RowKit Go.ChangeShapes Go.WideShapes
set_option linter.unusedVariables false
set_option linter.unusedSimpArgs false
def encAc (a : Int × Int) : List SC := [.pv (.int .u8 a.1), .pv (.int .u8 a.2)]
def encTo (b : Bool) : List AC := [.s (.pv (.bool b))]
def encLa (s : ByteArray) : List AC := [.s (.pv (.string s))]

set_option maxRecDepth 100000 in
set_option maxHeartbeats 4000000 in
theorem deviceOnce_spec (acts : List (Int × Int)) (ha : ∀ a ∈ acts, (0 ≤ a.1 ∧ a.1 ≤ 255) ∧ 0 ≤ a.2 ∧ a.2 ≤ 255) : Spec Try.prog 12 [rL 2 (acts.map encAc)] (.val (rB true)) := by
  refine spec_val mixed fn12 (by simp) ?_
  unfold ac12
  simp -implicitDefEqProofs only [↓aP, aQ, ↓reduceIte, Nat.reduceEqDiff, Nat.reduceAdd, Nat.reduceSub, Nat.reduceMul, Nat.reduceLT, Nat.reduceLeDiff, reduceCtorEq, Nat.reduceBEq, forall_const, implies_true, exists_const, ne_eq, Int.reduceAdd, Int.reduceSub, Int.reduceMul, Int.reduceBEq, Int.reduceEq, Int.reduceLT, Int.reduceLE, Int.reduceToNat, Int.reduceNeg, Int.reduceBNe]
  refine ask newV_spec ?_
  simp -implicitDefEqProofs only [↓aP, aQ, ↓reduceIte, Nat.reduceEqDiff, Nat.reduceAdd, Nat.reduceSub, Nat.reduceMul, Nat.reduceLT, Nat.reduceLeDiff, reduceCtorEq, Nat.reduceBEq, forall_const, implies_true, exists_const, ne_eq, Int.reduceAdd, Int.reduceSub, Int.reduceMul, Int.reduceBEq, Int.reduceEq, Int.reduceLT, Int.reduceLE, Int.reduceToNat, Int.reduceNeg, Int.reduceBNe, encDv]
  refine rangeA (min acts.length 60) (fun i σ => ∃ (D : Dv) (told : List Bool) (last : List ByteArray), Once i D told last ∧ σ.slot 0 = vL 2 (acts.map encAc) ∧ σ.slot 3 = .c (.ptr 3 1 0 0) ∧ σ.h.gen 3 = 1 ∧ σ.h.blk 3 = .box 50 4 [(encDv D).map AC.s] ∧ σ.slot 4 = .c (.ptr 4 1 0 0) ∧ σ.h.gen 4 = 1 ∧ σ.h.blk 4 = .box 75 1 (told.map encTo) ∧ σ.slot 5 = .c (.ptr 5 1 0 0) ∧ σ.h.gen 5 = 1 ∧ σ.h.blk 5 = .box 76 1 (last.map encLa) ∧ σ.slot 6 = vI D.next ∧ σ.slot 7 = vI i) ?_ ?_
  · simp -implicitDefEqProofs only [↓aP, aQ, ↓reduceIte, Nat.reduceEqDiff, Nat.reduceAdd, Nat.reduceSub, Nat.reduceMul, Nat.reduceLT, Nat.reduceLeDiff, reduceCtorEq, Nat.reduceBEq, forall_const, implies_true, exists_const, ne_eq, Int.reduceAdd, Int.reduceSub, Int.reduceMul, Int.reduceBEq, Int.reduceEq, Int.reduceLT, Int.reduceLE, Int.reduceToNat, Int.reduceNeg, Int.reduceBNe]
    refine ⟨⟨⟨List.replicate 35 noughts, []⟩, 0, []⟩, List.replicate 61 false, List.replicate 5 ⟨#[]⟩, ⟨by decide +kernel, by decide, by decide, by decide, by decide, by simp, fun t ht ht2 => by rw [List.getElem?_replicate, if_pos ht2], by simp, fun p s hp hs hne => ?_⟩, rfl, rfl, rfl, rfl⟩
    rw [List.getElem?_replicate] at hs
    split at hs
    · simp only [Option.some.injEq] at hs
      rw [← hs] at hne
      exact (hne nilL).elim
    · simp at hs
  · rintro i m σ him ⟨D, told, last, O, s0, s3, g3, b3, s4, g4, b4, s5, g5, b5, s6, s7⟩
    simp only [encDv] at b3
    have hn := O.nx
    have hr := rightV_len O.right
    by_cases hi : i < min acts.length 60
    case neg =>
      by_cases hi1 : i < acts.length
      · have e1 : decide ((i : Int) < (acts.length : Int)) = true := by simpa using hi1
        have e2 : decide ((i : Int) < 60) = false := by rw [decide_eq_false_iff_not]; omega
        simp -implicitDefEqProofs only [↓aP, aQ, ↓reduceIte, Nat.reduceEqDiff, Nat.reduceAdd, Nat.reduceSub, Nat.reduceMul, Nat.reduceLT, Nat.reduceLeDiff, reduceCtorEq, Nat.reduceBEq, forall_const, implies_true, exists_const, ne_eq, Int.reduceAdd, Int.reduceSub, Int.reduceMul, Int.reduceBEq, Int.reduceEq, Int.reduceLT, Int.reduceLE, Int.reduceToNat, Int.reduceNeg, Int.reduceBNe, e1, e2, s0, s3, g3, b3, s4, g4, b4, s5, g5, b5, s6, s7]
        refine ask awakeV_spec ?_
        simp -implicitDefEqProofs only [↓aP, aQ, ↓reduceIte, Nat.reduceEqDiff, Nat.reduceAdd, Nat.reduceSub, Nat.reduceMul, Nat.reduceLT, Nat.reduceLeDiff, reduceCtorEq, Nat.reduceBEq, forall_const, implies_true, exists_const, ne_eq, Int.reduceAdd, Int.reduceSub, Int.reduceMul, Int.reduceBEq, Int.reduceEq, Int.reduceLT, Int.reduceLE, Int.reduceToNat, Int.reduceNeg, Int.reduceBNe]
      · have e1 : decide ((i : Int) < (acts.length : Int)) = false := by simpa using hi1
        simp -implicitDefEqProofs only [↓aP, aQ, ↓reduceIte, Nat.reduceEqDiff, Nat.reduceAdd, Nat.reduceSub, Nat.reduceMul, Nat.reduceLT, Nat.reduceLeDiff, reduceCtorEq, Nat.reduceBEq, forall_const, implies_true, exists_const, ne_eq, Int.reduceAdd, Int.reduceSub, Int.reduceMul, Int.reduceBEq, Int.reduceEq, Int.reduceLT, Int.reduceLE, Int.reduceToNat, Int.reduceNeg, Int.reduceBNe, e1, s0, s3, g3, b3, s4, g4, b4, s5, g5, b5, s6, s7]
        refine ask awakeV_spec ?_
        simp -implicitDefEqProofs only [↓aP, aQ, ↓reduceIte, Nat.reduceEqDiff, Nat.reduceAdd, Nat.reduceSub, Nat.reduceMul, Nat.reduceLT, Nat.reduceLeDiff, reduceCtorEq, Nat.reduceBEq, forall_const, implies_true, exists_const, ne_eq, Int.reduceAdd, Int.reduceSub, Int.reduceMul, Int.reduceBEq, Int.reduceEq, Int.reduceLT, Int.reduceLE, Int.reduceToNat, Int.reduceNeg, Int.reduceBNe]
    have hi1 : i < acts.length := by omega
    have nextA : ∀ {m : Nat} {I : Nat → St → Prop} {σ' : St}, i + m = min acts.length 60 → I (i + 1) σ' → ∃ m', m' < m ∧ RInv (min acts.length 60) I m' σ' := fun hm h => nextR hi hm h
    have e1 : decide ((i : Int) < (acts.length : Int)) = true := by simpa using hi1
    have e2 : decide ((i : Int) < 60) = true := by rw [decide_eq_true_iff]; omega
    obtain ⟨⟨h1, h2⟩, h3, h4⟩ := ha _ (List.getElem_mem hi1)
    have eN : IntKind.i64.wrap acts[i].snd = acts[i].snd := wrapI (by omega)
    have eP : IntKind.i64.wrap (1 + acts[i].snd.tmod 4) = 1 + acts[i].snd.tmod 4 ∧ 1 ≤ 1 + acts[i].snd.tmod 4 ∧ 1 + acts[i].snd.tmod 4 ≤ 4 := by
      rw [Int.tmod_eq_emod_of_nonneg h3]
      exact ⟨wrapI (by omega), by omega, by omega⟩
    obtain ⟨eP1, eP2, eP3⟩ := eP
    have eK : 0 ≤ IntKind.i64.wrap (acts[i].fst.tmod 5) ∧ IntKind.i64.wrap (acts[i].fst.tmod 5) ≤ 4 := by
      rw [Int.tmod_eq_emod_of_nonneg h1, wrapI (by omega)]
      omega
    simp -implicitDefEqProofs only [↓aP, aQ, ↓reduceIte, Nat.reduceEqDiff, Nat.reduceAdd, Nat.reduceSub, Nat.reduceMul, Nat.reduceLT, Nat.reduceLeDiff, reduceCtorEq, Nat.reduceBEq, forall_const, implies_true, exists_const, ne_eq, Int.reduceAdd, Int.reduceSub, Int.reduceMul, Int.reduceBEq, Int.reduceEq, Int.reduceLT, Int.reduceLE, Int.reduceToNat, Int.reduceNeg, Int.reduceBNe, e1, e2, s0, s3, g3, b3, s4, g4, b4, s5, g5, b5, s6, s7, askIdx_map, hi1, encAc, Nat.zero_mul, Nat.one_mul, eN]
    generalize IntKind.i64.wrap (acts[i].fst.tmod 5) = K at *
    generalize acts[i].snd = N at *
    have w1 : IntKind.i64.wrap 1 = 1 := rfl
    have w2 : IntKind.i64.wrap 2 = 2 := rfl
    have w3 : IntKind.i64.wrap 3 = 3 := rfl
    refine ⟨by decide +kernel, ?_⟩
    rcases (show K = 0 ∨ K = 1 ∨ K = 2 ∨ K = 3 ∨ K = 4 by omega) with rfl | rfl | rfl | rfl | rfl
    · simp -implicitDefEqProofs only [↓aP, aQ, ↓reduceIte, Nat.reduceEqDiff, Nat.reduceAdd, Nat.reduceSub, Nat.reduceMul, Nat.reduceLT, Nat.reduceLeDiff, reduceCtorEq, Nat.reduceBEq, forall_const, implies_true, exists_const, ne_eq, Int.reduceAdd, Int.reduceSub, Int.reduceMul, Int.reduceBEq, Int.reduceEq, Int.reduceLT, Int.reduceLE, Int.reduceToNat, Int.reduceNeg, Int.reduceBNe, eP1, encDv, s0, s3, g3, b3, s4, g4, b4, s5, g5, b5, s6, s7, w1, w2, w3]
      rcases O.submit (by omega) (k := 1) (p := (1 + N.tmod 4)) (s := ⟨#[]⟩) (by simp [isB, nilL]; omega) (by omega) with ⟨h44, hsub⟩ | ⟨h44, D', hsub, hnx, O'⟩
      · have t1 := submit_spec D 1 (1 + N.tmod 4) ⟨#[]⟩
        rw [hsub] at t1
        have c1 : decide ((D.flight.length : Int) < 4) = false := by rw [decide_eq_false_iff_not]; omega
        refine ask t1 ?_
        simp -implicitDefEqProofs only [↓aP, aQ, ↓reduceIte, Nat.reduceEqDiff, Nat.reduceAdd, Nat.reduceSub, Nat.reduceMul, Nat.reduceLT, Nat.reduceLeDiff, reduceCtorEq, Nat.reduceBEq, forall_const, implies_true, exists_const, ne_eq, Int.reduceAdd, Int.reduceSub, Int.reduceMul, Int.reduceBEq, Int.reduceEq, Int.reduceLT, Int.reduceLE, Int.reduceToNat, Int.reduceNeg, Int.reduceBNe, encSub, encDv, c1, s0, s3, g3, b3, s4, g4, b4, s5, g5, b5, s6, s7, wrapS (show i < 4611686018427387904 by omega)]
        refine nextA him ?_
        simp -implicitDefEqProofs only [↓aP, aQ, ↓reduceIte, Nat.reduceEqDiff, Nat.reduceAdd, Nat.reduceSub, Nat.reduceMul, Nat.reduceLT, Nat.reduceLeDiff, reduceCtorEq, Nat.reduceBEq, forall_const, implies_true, exists_const, ne_eq, Int.reduceAdd, Int.reduceSub, Int.reduceMul, Int.reduceBEq, Int.reduceEq, Int.reduceLT, Int.reduceLE, Int.reduceToNat, Int.reduceNeg, Int.reduceBNe, s0, s3, g3, b3, s4, g4, b4, s5, g5, b5, s6, s7]
        exact ⟨D, told, last, O.idle, rfl, rfl, rfl, rfl⟩
      · have t1 := submit_spec D 1 (1 + N.tmod 4) ⟨#[]⟩
        rw [hsub] at t1
        have c1 : decide ((D.flight.length : Int) < 4) = true := by rw [decide_eq_true_iff]; omega
        refine ask t1 ?_
        simp -implicitDefEqProofs only [↓aP, aQ, ↓reduceIte, Nat.reduceEqDiff, Nat.reduceAdd, Nat.reduceSub, Nat.reduceMul, Nat.reduceLT, Nat.reduceLeDiff, reduceCtorEq, Nat.reduceBEq, forall_const, implies_true, exists_const, ne_eq, Int.reduceAdd, Int.reduceSub, Int.reduceMul, Int.reduceBEq, Int.reduceEq, Int.reduceLT, Int.reduceLE, Int.reduceToNat, Int.reduceNeg, Int.reduceBNe, encSub, encDv, c1, s0, s3, g3, b3, s4, g4, b4, s5, g5, b5, s6, s7, wrapS (show i < 4611686018427387904 by omega), wrapI (show -9223372036854775808 ≤ D.next + 1 ∧ D.next + 1 ≤ 9223372036854775807 by omega)]
        refine nextA him ?_
        simp -implicitDefEqProofs only [↓aP, aQ, ↓reduceIte, Nat.reduceEqDiff, Nat.reduceAdd, Nat.reduceSub, Nat.reduceMul, Nat.reduceLT, Nat.reduceLeDiff, reduceCtorEq, Nat.reduceBEq, forall_const, implies_true, exists_const, ne_eq, Int.reduceAdd, Int.reduceSub, Int.reduceMul, Int.reduceBEq, Int.reduceEq, Int.reduceLT, Int.reduceLE, Int.reduceToNat, Int.reduceNeg, Int.reduceBNe, s0, s3, g3, b3, s4, g4, b4, s5, g5, b5, s6, s7]
        exact ⟨D', told, last, O', by simp [encDv], rfl, rfl, by rw [hnx]⟩
    · simp -implicitDefEqProofs only [↓aP, aQ, ↓reduceIte, Nat.reduceEqDiff, Nat.reduceAdd, Nat.reduceSub, Nat.reduceMul, Nat.reduceLT, Nat.reduceLeDiff, reduceCtorEq, Nat.reduceBEq, forall_const, implies_true, exists_const, ne_eq, Int.reduceAdd, Int.reduceSub, Int.reduceMul, Int.reduceBEq, Int.reduceEq, Int.reduceLT, Int.reduceLE, Int.reduceToNat, Int.reduceNeg, Int.reduceBNe, eP1, encDv, s0, s3, g3, b3, s4, g4, b4, s5, g5, b5, s6, s7, w1, w2, w3]
      generalize hQ : strOfNums _ = q
      have hq : q.size = 2 := by rw [← hQ]; simp [strOfNums, ByteArray.size]
      simp -implicitDefEqProofs only [↓aP, aQ, ↓reduceIte, Nat.reduceEqDiff, Nat.reduceAdd, Nat.reduceSub, Nat.reduceMul, Nat.reduceLT, Nat.reduceLeDiff, reduceCtorEq, Nat.reduceBEq, forall_const, implies_true, exists_const, ne_eq, Int.reduceAdd, Int.reduceSub, Int.reduceMul, Int.reduceBEq, Int.reduceEq, Int.reduceLT, Int.reduceLE, Int.reduceToNat, Int.reduceNeg, Int.reduceBNe, ByteArray.size_append, hq, eP1, encDv, s0, s3, g3, b3, s4, g4, b4, s5, g5, b5, s6, s7, w2]
      rcases O.submit (by omega) (k := 2) (p := (1 + N.tmod 4)) (s := q ++ q ++ q ++ q ++ q ++ q ++ q ++ q ++ q ++ q ++ q ++ q ++ q ++ q ++ q ++ q) (by simp [isB, hq]; omega) (by omega) with ⟨h44, hsub⟩ | ⟨h44, D', hsub, hnx, O'⟩
      · have t1 := submit_spec D 2 (1 + N.tmod 4) (q ++ q ++ q ++ q ++ q ++ q ++ q ++ q ++ q ++ q ++ q ++ q ++ q ++ q ++ q ++ q)
        rw [hsub] at t1
        have c1 : decide ((D.flight.length : Int) < 4) = false := by rw [decide_eq_false_iff_not]; omega
        refine ask t1 ?_
        simp -implicitDefEqProofs only [↓aP, aQ, ↓reduceIte, Nat.reduceEqDiff, Nat.reduceAdd, Nat.reduceSub, Nat.reduceMul, Nat.reduceLT, Nat.reduceLeDiff, reduceCtorEq, Nat.reduceBEq, forall_const, implies_true, exists_const, ne_eq, Int.reduceAdd, Int.reduceSub, Int.reduceMul, Int.reduceBEq, Int.reduceEq, Int.reduceLT, Int.reduceLE, Int.reduceToNat, Int.reduceNeg, Int.reduceBNe, encSub, encDv, c1, s0, s3, g3, b3, s4, g4, b4, s5, g5, b5, s6, s7, wrapS (show i < 4611686018427387904 by omega)]
        refine nextA him ?_
        simp -implicitDefEqProofs only [↓aP, aQ, ↓reduceIte, Nat.reduceEqDiff, Nat.reduceAdd, Nat.reduceSub, Nat.reduceMul, Nat.reduceLT, Nat.reduceLeDiff, reduceCtorEq, Nat.reduceBEq, forall_const, implies_true, exists_const, ne_eq, Int.reduceAdd, Int.reduceSub, Int.reduceMul, Int.reduceBEq, Int.reduceEq, Int.reduceLT, Int.reduceLE, Int.reduceToNat, Int.reduceNeg, Int.reduceBNe, s0, s3, g3, b3, s4, g4, b4, s5, g5, b5, s6, s7]
        exact ⟨D, told, last, O.idle, rfl, rfl, rfl, rfl⟩
      · have t1 := submit_spec D 2 (1 + N.tmod 4) (q ++ q ++ q ++ q ++ q ++ q ++ q ++ q ++ q ++ q ++ q ++ q ++ q ++ q ++ q ++ q)
        rw [hsub] at t1
        have c1 : decide ((D.flight.length : Int) < 4) = true := by rw [decide_eq_true_iff]; omega
        refine ask t1 ?_
        simp -implicitDefEqProofs only [↓aP, aQ, ↓reduceIte, Nat.reduceEqDiff, Nat.reduceAdd, Nat.reduceSub, Nat.reduceMul, Nat.reduceLT, Nat.reduceLeDiff, reduceCtorEq, Nat.reduceBEq, forall_const, implies_true, exists_const, ne_eq, Int.reduceAdd, Int.reduceSub, Int.reduceMul, Int.reduceBEq, Int.reduceEq, Int.reduceLT, Int.reduceLE, Int.reduceToNat, Int.reduceNeg, Int.reduceBNe, encSub, encDv, c1, s0, s3, g3, b3, s4, g4, b4, s5, g5, b5, s6, s7, wrapS (show i < 4611686018427387904 by omega), wrapI (show -9223372036854775808 ≤ D.next + 1 ∧ D.next + 1 ≤ 9223372036854775807 by omega)]
        refine nextA him ?_
        simp -implicitDefEqProofs only [↓aP, aQ, ↓reduceIte, Nat.reduceEqDiff, Nat.reduceAdd, Nat.reduceSub, Nat.reduceMul, Nat.reduceLT, Nat.reduceLeDiff, reduceCtorEq, Nat.reduceBEq, forall_const, implies_true, exists_const, ne_eq, Int.reduceAdd, Int.reduceSub, Int.reduceMul, Int.reduceBEq, Int.reduceEq, Int.reduceLT, Int.reduceLE, Int.reduceToNat, Int.reduceNeg, Int.reduceBNe, s0, s3, g3, b3, s4, g4, b4, s5, g5, b5, s6, s7]
        exact ⟨D', told, last, O', by simp [encDv], rfl, rfl, by rw [hnx]⟩
    · simp -implicitDefEqProofs only [↓aP, aQ, ↓reduceIte, Nat.reduceEqDiff, Nat.reduceAdd, Nat.reduceSub, Nat.reduceMul, Nat.reduceLT, Nat.reduceLeDiff, reduceCtorEq, Nat.reduceBEq, forall_const, implies_true, exists_const, ne_eq, Int.reduceAdd, Int.reduceSub, Int.reduceMul, Int.reduceBEq, Int.reduceEq, Int.reduceLT, Int.reduceLE, Int.reduceToNat, Int.reduceNeg, Int.reduceBNe, eP1, encDv, s0, s3, g3, b3, s4, g4, b4, s5, g5, b5, s6, s7, w1, w2, w3]
      rcases O.submit (by omega) (k := 3) (p := 0) (s := ⟨#[]⟩) (by simp [isB, nilL]) (by omega) with ⟨h44, hsub⟩ | ⟨h44, D', hsub, hnx, O'⟩
      · have t1 := submit_spec D 3 0 ⟨#[]⟩
        rw [hsub] at t1
        have c1 : decide ((D.flight.length : Int) < 4) = false := by rw [decide_eq_false_iff_not]; omega
        refine ask t1 ?_
        simp -implicitDefEqProofs only [↓aP, aQ, ↓reduceIte, Nat.reduceEqDiff, Nat.reduceAdd, Nat.reduceSub, Nat.reduceMul, Nat.reduceLT, Nat.reduceLeDiff, reduceCtorEq, Nat.reduceBEq, forall_const, implies_true, exists_const, ne_eq, Int.reduceAdd, Int.reduceSub, Int.reduceMul, Int.reduceBEq, Int.reduceEq, Int.reduceLT, Int.reduceLE, Int.reduceToNat, Int.reduceNeg, Int.reduceBNe, encSub, encDv, c1, s0, s3, g3, b3, s4, g4, b4, s5, g5, b5, s6, s7, wrapS (show i < 4611686018427387904 by omega)]
        refine nextA him ?_
        simp -implicitDefEqProofs only [↓aP, aQ, ↓reduceIte, Nat.reduceEqDiff, Nat.reduceAdd, Nat.reduceSub, Nat.reduceMul, Nat.reduceLT, Nat.reduceLeDiff, reduceCtorEq, Nat.reduceBEq, forall_const, implies_true, exists_const, ne_eq, Int.reduceAdd, Int.reduceSub, Int.reduceMul, Int.reduceBEq, Int.reduceEq, Int.reduceLT, Int.reduceLE, Int.reduceToNat, Int.reduceNeg, Int.reduceBNe, s0, s3, g3, b3, s4, g4, b4, s5, g5, b5, s6, s7]
        exact ⟨D, told, last, O.idle, rfl, rfl, rfl, rfl⟩
      · have t1 := submit_spec D 3 0 ⟨#[]⟩
        rw [hsub] at t1
        have c1 : decide ((D.flight.length : Int) < 4) = true := by rw [decide_eq_true_iff]; omega
        refine ask t1 ?_
        simp -implicitDefEqProofs only [↓aP, aQ, ↓reduceIte, Nat.reduceEqDiff, Nat.reduceAdd, Nat.reduceSub, Nat.reduceMul, Nat.reduceLT, Nat.reduceLeDiff, reduceCtorEq, Nat.reduceBEq, forall_const, implies_true, exists_const, ne_eq, Int.reduceAdd, Int.reduceSub, Int.reduceMul, Int.reduceBEq, Int.reduceEq, Int.reduceLT, Int.reduceLE, Int.reduceToNat, Int.reduceNeg, Int.reduceBNe, encSub, encDv, c1, s0, s3, g3, b3, s4, g4, b4, s5, g5, b5, s6, s7, wrapS (show i < 4611686018427387904 by omega), wrapI (show -9223372036854775808 ≤ D.next + 1 ∧ D.next + 1 ≤ 9223372036854775807 by omega)]
        refine nextA him ?_
        simp -implicitDefEqProofs only [↓aP, aQ, ↓reduceIte, Nat.reduceEqDiff, Nat.reduceAdd, Nat.reduceSub, Nat.reduceMul, Nat.reduceLT, Nat.reduceLeDiff, reduceCtorEq, Nat.reduceBEq, forall_const, implies_true, exists_const, ne_eq, Int.reduceAdd, Int.reduceSub, Int.reduceMul, Int.reduceBEq, Int.reduceEq, Int.reduceLT, Int.reduceLE, Int.reduceToNat, Int.reduceNeg, Int.reduceBNe, s0, s3, g3, b3, s4, g4, b4, s5, g5, b5, s6, s7]
        exact ⟨D', told, last, O', by simp [encDv], rfl, rfl, by rw [hnx]⟩
    · simp -implicitDefEqProofs only [↓aP, aQ, ↓reduceIte, Nat.reduceEqDiff, Nat.reduceAdd, Nat.reduceSub, Nat.reduceMul, Nat.reduceLT, Nat.reduceLeDiff, reduceCtorEq, Nat.reduceBEq, forall_const, implies_true, exists_const, ne_eq, Int.reduceAdd, Int.reduceSub, Int.reduceMul, Int.reduceBEq, Int.reduceEq, Int.reduceLT, Int.reduceLE, Int.reduceToNat, Int.reduceNeg, Int.reduceBNe, eP1, encDv, s0, s3, g3, b3, s4, g4, b4, s5, g5, b5, s6, s7, w1, w2, w3]
      by_cases h0 : D.flight.length = 0
      · have c0 : ((D.flight.length : Int) == 0) = true := by rw [beq_iff_eq]; omega
        simp -implicitDefEqProofs only [↓aP, aQ, ↓reduceIte, Nat.reduceEqDiff, Nat.reduceAdd, Nat.reduceSub, Nat.reduceMul, Nat.reduceLT, Nat.reduceLeDiff, reduceCtorEq, Nat.reduceBEq, forall_const, implies_true, exists_const, ne_eq, Int.reduceAdd, Int.reduceSub, Int.reduceMul, Int.reduceBEq, Int.reduceEq, Int.reduceLT, Int.reduceLE, Int.reduceToNat, Int.reduceNeg, Int.reduceBNe, c0, wrapS (show i < 4611686018427387904 by omega), s0, s3, g3, b3, s4, g4, b4, s5, g5, b5, s6, s7]
        refine nextA him ?_
        simp -implicitDefEqProofs only [↓aP, aQ, ↓reduceIte, Nat.reduceEqDiff, Nat.reduceAdd, Nat.reduceSub, Nat.reduceMul, Nat.reduceLT, Nat.reduceLeDiff, reduceCtorEq, Nat.reduceBEq, forall_const, implies_true, exists_const, ne_eq, Int.reduceAdd, Int.reduceSub, Int.reduceMul, Int.reduceBEq, Int.reduceEq, Int.reduceLT, Int.reduceLE, Int.reduceToNat, Int.reduceNeg, Int.reduceBNe, s0, s3, g3, b3, s4, g4, b4, s5, g5, b5, s6, s7]
        exact ⟨D, told, last, O.idle, rfl, rfl, rfl, rfl⟩
      have c0 : ((D.flight.length : Int) == 0) = false := by rw [beq_eq_false_iff_ne]; omega
      obtain ⟨j, hj, hjl⟩ : ∃ j : Nat, N.tmod (D.flight.length : Int) = j ∧ j < D.flight.length := by
        rw [Int.tmod_eq_emod_of_nonneg h3]
        have b1 := Int.emod_nonneg N (show (D.flight.length : Int) ≠ 0 by omega)
        have b2 := Int.emod_lt_of_pos N (show (0 : Int) < (D.flight.length : Int) by omega)
        exact ⟨(N % (D.flight.length : Int)).toNat, by omega, by omega⟩
      obtain ⟨D', ⟨tk, kd, pg, dat⟩, hfin, _, _, _, q4, q5, hnx, hto, O', hrd⟩ := O.finish (by omega) hjl false
      dsimp only at q4 q5 hto O' hrd
      obtain ⟨t, rfl⟩ : ∃ t : Nat, tk = t := ⟨tk.toNat, by omega⟩
      obtain ⟨p, rfl⟩ : ∃ p : Nat, pg = p := ⟨pg.toNat, by omega⟩
      simp only [Int.toNat_natCast] at hto O' hrd
      obtain ⟨htl, hto⟩ := List.getElem?_eq_some_iff.1 hto
      have hll : p < last.length := by rw [O.ll]; omega
      have c1 : decide ((t : Int) < 0) = false := by rw [decide_eq_false_iff_not]; omega
      have c2 : decide (D.next ≤ (t : Int)) = false := by rw [decide_eq_false_iff_not]; omega
      have c3 : decide ((p : Int) < 0) = false := by rw [decide_eq_false_iff_not]; omega
      have c4 : decide ((4 : Int) < (p : Int)) = false := by rw [decide_eq_false_iff_not]; omega
      have b61 : (t : Int) < 61 := by have := O.tl; omega
      have b55 : (p : Int) < 5 := by omega
      have hset : (told.map encTo).set t [.s (.pv (.bool true))] = (told.set t true).map encTo := by rw [List.map_set]; rfl
      have t1 := finish_spec D j false
      rw [hfin] at t1
      simp -implicitDefEqProofs only [↓aP, aQ, ↓reduceIte, Nat.reduceEqDiff, Nat.reduceAdd, Nat.reduceSub, Nat.reduceMul, Nat.reduceLT, Nat.reduceLeDiff, reduceCtorEq, Nat.reduceBEq, forall_const, implies_true, exists_const, ne_eq, Int.reduceAdd, Int.reduceSub, Int.reduceMul, Int.reduceBEq, Int.reduceEq, Int.reduceLT, Int.reduceLE, Int.reduceToNat, Int.reduceNeg, Int.reduceBNe, c0, encDv, s0, s3, g3, b3, s4, g4, b4, s5, g5, b5, s6, s7, hj]
      refine ⟨by omega, ask t1 ?_⟩
      simp -implicitDefEqProofs only [↓aP, aQ, ↓reduceIte, Nat.reduceEqDiff, Nat.reduceAdd, Nat.reduceSub, Nat.reduceMul, Nat.reduceLT, Nat.reduceLeDiff, reduceCtorEq, Nat.reduceBEq, forall_const, implies_true, exists_const, ne_eq, Int.reduceAdd, Int.reduceSub, Int.reduceMul, Int.reduceBEq, Int.reduceEq, Int.reduceLT, Int.reduceLE, Int.reduceToNat, Int.reduceNeg, Int.reduceBNe, encFin, encDv, encRq, c1, c2, hto, askIdx_map, htl, encTo, b61]
      refine ⟨by decide +kernel, ?_⟩
      simp -implicitDefEqProofs only [↓aP, aQ, ↓reduceIte, Nat.reduceEqDiff, Nat.reduceAdd, Nat.reduceSub, Nat.reduceMul, Nat.reduceLT, Nat.reduceLeDiff, reduceCtorEq, Nat.reduceBEq, forall_const, implies_true, exists_const, ne_eq, Int.reduceAdd, Int.reduceSub, Int.reduceMul, Int.reduceBEq, Int.reduceEq, Int.reduceLT, Int.reduceLE, Int.reduceToNat, Int.reduceNeg, Int.reduceBNe, encFin, encDv, encRq, c1, c2, c3, c4, hto, askIdx_map, htl, encTo, b61, b55, hset, s0, s3, g3, b3, s4, g4, b4, s5, g5, b5, s6, s7, wrapS (show i < 4611686018427387904 by omega)]
      have hset2 : (last.map encLa).set p [.s (.pv (.string dat))] = (last.set p dat).map encLa := by rw [List.map_set]; rfl
      refine fork ?_ ?_ <;> intro hk2
      · have hk2' := t_et hk2
        have hk1 : (kd == 1) = false := by rw [beq_eq_false_iff_ne]; omega
        rw [if_pos ⟨trivial, hk2'⟩] at O'
        simp -implicitDefEqProofs only [↓aP, aQ, ↓reduceIte, Nat.reduceEqDiff, Nat.reduceAdd, Nat.reduceSub, Nat.reduceMul, Nat.reduceLT, Nat.reduceLeDiff, reduceCtorEq, Nat.reduceBEq, forall_const, implies_true, exists_const, ne_eq, Int.reduceAdd, Int.reduceSub, Int.reduceMul, Int.reduceBEq, Int.reduceEq, Int.reduceLT, Int.reduceLE, Int.reduceToNat, Int.reduceNeg, Int.reduceBNe, hk1, nilL, encFin, encDv, encRq, c1, c2, c3, c4, hto, askIdx_map, htl, hll, encTo, encLa, b61, b55, hset, hset2, s0, s3, g3, b3, s4, g4, b4, s5, g5, b5, s6, s7, wrapS (show i < 4611686018427387904 by omega)]
        refine ⟨by decide +kernel, ?_⟩
        refine nextA him ?_
        simp -implicitDefEqProofs only [↓aP, aQ, ↓reduceIte, Nat.reduceEqDiff, Nat.reduceAdd, Nat.reduceSub, Nat.reduceMul, Nat.reduceLT, Nat.reduceLeDiff, reduceCtorEq, Nat.reduceBEq, forall_const, implies_true, exists_const, ne_eq, Int.reduceAdd, Int.reduceSub, Int.reduceMul, Int.reduceBEq, Int.reduceEq, Int.reduceLT, Int.reduceLE, Int.reduceToNat, Int.reduceNeg, Int.reduceBNe, s0, s3, g3, b3, s4, g4, b4, s5, g5, b5, s6, s7]
        refine ⟨D', told.set t true, last.set p dat, O', by simp [encDv], rfl, rfl, by rw [hnx]⟩
      have hk2' := t_ef hk2
      rw [if_neg (by simp [hk2'])] at O'
      by_cases hk1' : kd = 1
      · have hk1 : (kd == 1) = true := by rw [beq_iff_eq]; exact hk1'
        by_cases hemp : last[p].toList = []
        · have em : (last[p].toList == []) = true := by rw [beq_iff_eq]; exact hemp
          simp -implicitDefEqProofs only [↓aP, aQ, ↓reduceIte, Nat.reduceEqDiff, Nat.reduceAdd, Nat.reduceSub, Nat.reduceMul, Nat.reduceLT, Nat.reduceLeDiff, reduceCtorEq, Nat.reduceBEq, forall_const, implies_true, exists_const, ne_eq, Int.reduceAdd, Int.reduceSub, Int.reduceMul, Int.reduceBEq, Int.reduceEq, Int.reduceLT, Int.reduceLE, Int.reduceToNat, Int.reduceNeg, Int.reduceBNe, hk1, em, nilL, encFin, encDv, encRq, c1, c2, c3, c4, hto, askIdx_map, htl, hll, encTo, encLa, b61, b55, hset, hset2, s0, s3, g3, b3, s4, g4, b4, s5, g5, b5, s6, s7, wrapS (show i < 4611686018427387904 by omega)]
          refine ⟨by decide +kernel, ?_⟩
          refine nextA him ?_
          simp -implicitDefEqProofs only [↓aP, aQ, ↓reduceIte, Nat.reduceEqDiff, Nat.reduceAdd, Nat.reduceSub, Nat.reduceMul, Nat.reduceLT, Nat.reduceLeDiff, reduceCtorEq, Nat.reduceBEq, forall_const, implies_true, exists_const, ne_eq, Int.reduceAdd, Int.reduceSub, Int.reduceMul, Int.reduceBEq, Int.reduceEq, Int.reduceLT, Int.reduceLE, Int.reduceToNat, Int.reduceNeg, Int.reduceBNe, s0, s3, g3, b3, s4, g4, b4, s5, g5, b5, s6, s7]
          refine ⟨D', told.set t true, last, O', by simp [encDv], rfl, rfl, by rw [hnx]⟩
        · have em : (last[p].toList == []) = false := by rw [beq_eq_false_iff_ne]; exact hemp
          have hd := hrd trivial hk1' _ (List.getElem?_eq_getElem hll) hemp
          simp -implicitDefEqProofs only [↓aP, aQ, ↓reduceIte, Nat.reduceEqDiff, Nat.reduceAdd, Nat.reduceSub, Nat.reduceMul, Nat.reduceLT, Nat.reduceLeDiff, reduceCtorEq, Nat.reduceBEq, forall_const, implies_true, exists_const, ne_eq, Int.reduceAdd, Int.reduceSub, Int.reduceMul, Int.reduceBEq, Int.reduceEq, Int.reduceLT, Int.reduceLE, Int.reduceToNat, Int.reduceNeg, Int.reduceBNe, hk1, em, hd, nilL, encFin, encDv, encRq, c1, c2, c3, c4, hto, askIdx_map, htl, hll, encTo, encLa, b61, b55, hset, hset2, s0, s3, g3, b3, s4, g4, b4, s5, g5, b5, s6, s7, wrapS (show i < 4611686018427387904 by omega)]
          refine ⟨by decide +kernel, ?_⟩
          refine nextA him ?_
          simp -implicitDefEqProofs only [↓aP, aQ, ↓reduceIte, Nat.reduceEqDiff, Nat.reduceAdd, Nat.reduceSub, Nat.reduceMul, Nat.reduceLT, Nat.reduceLeDiff, reduceCtorEq, Nat.reduceBEq, forall_const, implies_true, exists_const, ne_eq, Int.reduceAdd, Int.reduceSub, Int.reduceMul, Int.reduceBEq, Int.reduceEq, Int.reduceLT, Int.reduceLE, Int.reduceToNat, Int.reduceNeg, Int.reduceBNe, s0, s3, g3, b3, s4, g4, b4, s5, g5, b5, s6, s7]
          refine ⟨D', told.set t true, last, O', by simp [encDv], rfl, rfl, by rw [hnx]⟩
      · have hk1 : (kd == 1) = false := by rw [beq_eq_false_iff_ne]; exact hk1'
        simp -implicitDefEqProofs only [↓aP, aQ, ↓reduceIte, Nat.reduceEqDiff, Nat.reduceAdd, Nat.reduceSub, Nat.reduceMul, Nat.reduceLT, Nat.reduceLeDiff, reduceCtorEq, Nat.reduceBEq, forall_const, implies_true, exists_const, ne_eq, Int.reduceAdd, Int.reduceSub, Int.reduceMul, Int.reduceBEq, Int.reduceEq, Int.reduceLT, Int.reduceLE, Int.reduceToNat, Int.reduceNeg, Int.reduceBNe, hk1, nilL, encFin, encDv, encRq, c1, c2, c3, c4, hto, askIdx_map, htl, hll, encTo, encLa, b61, b55, hset, hset2, s0, s3, g3, b3, s4, g4, b4, s5, g5, b5, s6, s7, wrapS (show i < 4611686018427387904 by omega)]
        refine ⟨by decide +kernel, ?_⟩
        refine nextA him ?_
        simp -implicitDefEqProofs only [↓aP, aQ, ↓reduceIte, Nat.reduceEqDiff, Nat.reduceAdd, Nat.reduceSub, Nat.reduceMul, Nat.reduceLT, Nat.reduceLeDiff, reduceCtorEq, Nat.reduceBEq, forall_const, implies_true, exists_const, ne_eq, Int.reduceAdd, Int.reduceSub, Int.reduceMul, Int.reduceBEq, Int.reduceEq, Int.reduceLT, Int.reduceLE, Int.reduceToNat, Int.reduceNeg, Int.reduceBNe, s0, s3, g3, b3, s4, g4, b4, s5, g5, b5, s6, s7]
        refine ⟨D', told.set t true, last, O', by simp [encDv], rfl, rfl, by rw [hnx]⟩
    · simp -implicitDefEqProofs only [↓aP, aQ, ↓reduceIte, Nat.reduceEqDiff, Nat.reduceAdd, Nat.reduceSub, Nat.reduceMul, Nat.reduceLT, Nat.reduceLeDiff, reduceCtorEq, Nat.reduceBEq, forall_const, implies_true, exists_const, ne_eq, Int.reduceAdd, Int.reduceSub, Int.reduceMul, Int.reduceBEq, Int.reduceEq, Int.reduceLT, Int.reduceLE, Int.reduceToNat, Int.reduceNeg, Int.reduceBNe, eP1, encDv, s0, s3, g3, b3, s4, g4, b4, s5, g5, b5, s6, s7, w1, w2, w3]
      by_cases h0 : D.flight.length = 0
      · have c0 : ((D.flight.length : Int) == 0) = true := by rw [beq_iff_eq]; omega
        simp -implicitDefEqProofs only [↓aP, aQ, ↓reduceIte, Nat.reduceEqDiff, Nat.reduceAdd, Nat.reduceSub, Nat.reduceMul, Nat.reduceLT, Nat.reduceLeDiff, reduceCtorEq, Nat.reduceBEq, forall_const, implies_true, exists_const, ne_eq, Int.reduceAdd, Int.reduceSub, Int.reduceMul, Int.reduceBEq, Int.reduceEq, Int.reduceLT, Int.reduceLE, Int.reduceToNat, Int.reduceNeg, Int.reduceBNe, c0, wrapS (show i < 4611686018427387904 by omega), s0, s3, g3, b3, s4, g4, b4, s5, g5, b5, s6, s7]
        refine nextA him ?_
        simp -implicitDefEqProofs only [↓aP, aQ, ↓reduceIte, Nat.reduceEqDiff, Nat.reduceAdd, Nat.reduceSub, Nat.reduceMul, Nat.reduceLT, Nat.reduceLeDiff, reduceCtorEq, Nat.reduceBEq, forall_const, implies_true, exists_const, ne_eq, Int.reduceAdd, Int.reduceSub, Int.reduceMul, Int.reduceBEq, Int.reduceEq, Int.reduceLT, Int.reduceLE, Int.reduceToNat, Int.reduceNeg, Int.reduceBNe, s0, s3, g3, b3, s4, g4, b4, s5, g5, b5, s6, s7]
        exact ⟨D, told, last, O.idle, rfl, rfl, rfl, rfl⟩
      have c0 : ((D.flight.length : Int) == 0) = false := by rw [beq_eq_false_iff_ne]; omega
      obtain ⟨j, hj, hjl⟩ : ∃ j : Nat, N.tmod (D.flight.length : Int) = j ∧ j < D.flight.length := by
        rw [Int.tmod_eq_emod_of_nonneg h3]
        have b1 := Int.emod_nonneg N (show (D.flight.length : Int) ≠ 0 by omega)
        have b2 := Int.emod_lt_of_pos N (show (0 : Int) < (D.flight.length : Int) by omega)
        exact ⟨(N % (D.flight.length : Int)).toNat, by omega, by omega⟩
      obtain ⟨D', ⟨tk, kd, pg, dat⟩, hfin, _, _, _, q4, q5, hnx, hto, O', hrd⟩ := O.finish (by omega) hjl true
      dsimp only at q4 q5 hto O' hrd
      obtain ⟨t, rfl⟩ : ∃ t : Nat, tk = t := ⟨tk.toNat, by omega⟩
      obtain ⟨p, rfl⟩ : ∃ p : Nat, pg = p := ⟨pg.toNat, by omega⟩
      simp only [Int.toNat_natCast] at hto O' hrd
      obtain ⟨htl, hto⟩ := List.getElem?_eq_some_iff.1 hto
      have hll : p < last.length := by rw [O.ll]; omega
      have c1 : decide ((t : Int) < 0) = false := by rw [decide_eq_false_iff_not]; omega
      have c2 : decide (D.next ≤ (t : Int)) = false := by rw [decide_eq_false_iff_not]; omega
      have c3 : decide ((p : Int) < 0) = false := by rw [decide_eq_false_iff_not]; omega
      have c4 : decide ((4 : Int) < (p : Int)) = false := by rw [decide_eq_false_iff_not]; omega
      have b61 : (t : Int) < 61 := by have := O.tl; omega
      have b55 : (p : Int) < 5 := by omega
      have hset : (told.map encTo).set t [.s (.pv (.bool true))] = (told.set t true).map encTo := by rw [List.map_set]; rfl
      have t1 := finish_spec D j true
      rw [hfin] at t1
      simp -implicitDefEqProofs only [↓aP, aQ, ↓reduceIte, Nat.reduceEqDiff, Nat.reduceAdd, Nat.reduceSub, Nat.reduceMul, Nat.reduceLT, Nat.reduceLeDiff, reduceCtorEq, Nat.reduceBEq, forall_const, implies_true, exists_const, ne_eq, Int.reduceAdd, Int.reduceSub, Int.reduceMul, Int.reduceBEq, Int.reduceEq, Int.reduceLT, Int.reduceLE, Int.reduceToNat, Int.reduceNeg, Int.reduceBNe, c0, encDv, s0, s3, g3, b3, s4, g4, b4, s5, g5, b5, s6, s7, hj]
      refine ⟨by omega, ask t1 ?_⟩
      simp -implicitDefEqProofs only [↓aP, aQ, ↓reduceIte, Nat.reduceEqDiff, Nat.reduceAdd, Nat.reduceSub, Nat.reduceMul, Nat.reduceLT, Nat.reduceLeDiff, reduceCtorEq, Nat.reduceBEq, forall_const, implies_true, exists_const, ne_eq, Int.reduceAdd, Int.reduceSub, Int.reduceMul, Int.reduceBEq, Int.reduceEq, Int.reduceLT, Int.reduceLE, Int.reduceToNat, Int.reduceNeg, Int.reduceBNe, encFin, encDv, encRq, c1, c2, hto, askIdx_map, htl, encTo, b61]
      refine ⟨by decide +kernel, ?_⟩
      simp -implicitDefEqProofs only [↓aP, aQ, ↓reduceIte, Nat.reduceEqDiff, Nat.reduceAdd, Nat.reduceSub, Nat.reduceMul, Nat.reduceLT, Nat.reduceLeDiff, reduceCtorEq, Nat.reduceBEq, forall_const, implies_true, exists_const, ne_eq, Int.reduceAdd, Int.reduceSub, Int.reduceMul, Int.reduceBEq, Int.reduceEq, Int.reduceLT, Int.reduceLE, Int.reduceToNat, Int.reduceNeg, Int.reduceBNe, encFin, encDv, encRq, c1, c2, c3, c4, hto, askIdx_map, htl, encTo, b61, b55, hset, s0, s3, g3, b3, s4, g4, b4, s5, g5, b5, s6, s7, wrapS (show i < 4611686018427387904 by omega)]
      refine nextA him ?_
      simp -implicitDefEqProofs only [↓aP, aQ, ↓reduceIte, Nat.reduceEqDiff, Nat.reduceAdd, Nat.reduceSub, Nat.reduceMul, Nat.reduceLT, Nat.reduceLeDiff, reduceCtorEq, Nat.reduceBEq, forall_const, implies_true, exists_const, ne_eq, Int.reduceAdd, Int.reduceSub, Int.reduceMul, Int.reduceBEq, Int.reduceEq, Int.reduceLT, Int.reduceLE, Int.reduceToNat, Int.reduceNeg, Int.reduceBNe, s0, s3, g3, b3, s4, g4, b4, s5, g5, b5, s6, s7]
      refine ⟨D', told.set t true, last, by simpa using O', by simp [encDv], rfl, rfl, by rw [hnx]⟩
theorem u8_of {k : Int} (h : (Lit.int .u8 k).wf = true) : 0 ≤ k ∧ k ≤ 255 := by
  simpa [Lit.wf, IntKind.min, IntKind.max, IntKind.signed, IntKind.bits] using h
theorem opens_ac {H : Type} {enc : TypeId × Value → H} {w : World} {spare : Nat → Bool} {held : Bool} : Opens Try.prog enc w spare held 77 2 (fun ys => ∃ x : Int × Int, ys = encAc x ∧ (0 ≤ x.1 ∧ x.1 ≤ 255) ∧ 0 ≤ x.2 ∧ x.2 ≤ 255) := by
  have h := opens_arr2 (enc := enc) (w := w) (spare := spare) (held := held) Try.underlying77 (by kernel_rfl) (opens_int Try.underlying5 (by kernel_rfl))
  refine ⟨h.1, fun fuel cs x hx => ?_⟩
  obtain ⟨ys, ⟨a, b, rfl, ⟨n1, e1, w1⟩, n2, e2, w2⟩, h2, h3⟩ := h.2 _ _ _ hx
  simp only [List.cons.injEq, and_true] at e1 e2
  subst e1 e2
  exact ⟨_, ⟨(n1, n2), rfl, u8_of w1, u8_of w2⟩, h2, h3⟩
set_option maxRecDepth 100000 in
theorem open_acts {H : Type} {enc : TypeId × Value → H} {w : World} {spare : Nat → Bool} {held : Bool} {r : Reach} {b0 : Nat} {v : Value} {d : DataW H} {p : List MemPlace} 
    (hv : Value.okWide Try.prog w r b0 73 v) (h : DataW.Trod enc Try.prog w 0 spare held 73 v d p) : ∃ l : List (Int × Int), RepT (RepS w fun _ => False) (rL 2 (l.map encAc)) v ∧ ∀ a ∈ l, (0 ≤ a.1 ∧ a.1 ≤ 255) ∧ 0 ≤ a.2 ∧ a.2 ≤ 255 := by
  obtain ⟨y, ⟨els, e1, e2, e3⟩, h2⟩ := open_one (opens_slice Try.underlying73 (by kernel_rfl) (by decide) opens_ac) (slice_cells Try.underlying73 hv) h
  simp only [List.cons.injEq, and_true] at e1
  subst e1
  have key : ∃ l : List (Int × Int), els = l.map encAc ∧ ∀ a ∈ l, (0 ≤ a.1 ∧ a.1 ≤ 255) ∧ 0 ≤ a.2 ∧ a.2 ≤ 255 := by
    clear h2 e3
    induction els with
    | nil => exact ⟨[], rfl, by intro a ha; simp at ha⟩
    | cons x xs ih =>
      obtain ⟨n, rfl, hn⟩ := e2 x (by simp)
      obtain ⟨l, rfl, hl⟩ := ih (fun y hy => e2 y (by simp [hy]))
      refine ⟨n :: l, rfl, ?_⟩
      intro a ha
      rcases List.mem_cons.1 ha with rfl | ha
      · exact hn
      · exact hl a ha
  obtain ⟨l, rfl, hl⟩ := key
  exact ⟨l, h2, hl⟩
theorem deviceOnce_walk {w : World} (v0 : Value) (a0 : ∃ l : List (Int × Int), RepT (RepS w fun _ => False) (rL 2 (l.map encAc)) v0 ∧ ∀ a ∈ l, (0 ≤ a.1 ∧ a.1 ≤ 255) ∧ 0 ≤ a.2 ∧ a.2 ≤ 255) :
    Calls Try.prog 12 #[v0] w fun e w' => e = .returned (.bool true) ∧ Below w.heap.size w w' := by
  obtain ⟨l, h0, hl⟩ := a0
  exact (deviceOnce_spec l hl).plain (us := [v0]) (.cons h0 .nil)
end Go.Proofs.Ytmknfchmnangbaa
