/- layer 5: the contracts: New, Push. -/
import Derived.Test.YtfmbfgoofiojcaaL2
namespace Go.Proofs.Ytfmbfgoofiojcaa
open Go.RowKit Lk
set_option linter.unusedVariables false
set_option linter.unusedSimpArgs false
def fresh (w : Int) : Ln := ⟨w, 0, []⟩
def okNew (ws : List Int) : Bool := decide (1 ≤ ws.length ∧ ws.length ≤ 6) && ws.all okW
def newI (ws : List Int) : Ls × Int := if okNew ws = true then (⟨ws.map fresh, 0, false⟩, 0) else (⟨[], 0, false⟩, 1)
def encR (x : Ls × Int) : TV SC := .tup [(true, encLs x.1), (false, [.pv (.int .i64 x.2)])]
theorem okNew_no {ws : List Int} (h : ¬ (1 ≤ ws.length ∧ ws.length ≤ 6 ∧ ∀ w ∈ ws, okW w = true)) : newI ws = (⟨[], 0, false⟩, 1) := by
  unfold newI
  rw [if_neg]
  intro h2
  unfold okNew at h2
  simp only [Bool.and_eq_true, decide_eq_true_eq, List.all_eq_true] at h2
  exact h ⟨h2.1.1, h2.1.2, h2.2⟩
theorem okNew_yes {ws : List Int} (h : 1 ≤ ws.length ∧ ws.length ≤ 6 ∧ ∀ w ∈ ws, okW w = true) : newI ws = (⟨ws.map fresh, 0, false⟩, 0) := by
  unfold newI
  rw [if_pos]
  unfold okNew
  simp only [Bool.and_eq_true, decide_eq_true_eq, List.all_eq_true]
  exact ⟨⟨h.1, h.2.1⟩, h.2.2⟩

theorem lNew_spec (ws : List Int) (hl : ws.length < 4611686018427387904) : Spec Try.prog 17 [rL 1 (ws.map encI)] (.val (encR (newI ws))) := by
  refine spec_val mixed fn17 (by simp) ?_
  unfold ac17
  simp -implicitDefEqProofs only [↓aP, aQ, ↓reduceIte, Nat.reduceEqDiff, Nat.reduceAdd, Nat.reduceSub, Nat.reduceMul, Nat.reduceLT, Nat.reduceLeDiff, reduceCtorEq, Nat.reduceBEq, forall_const, implies_true, exists_const, ne_eq, Int.reduceAdd, Int.reduceSub, Int.reduceMul, Int.reduceBEq, Int.reduceEq, Int.reduceLT, Int.reduceLE, Int.reduceToNat, Int.reduceNeg, Int.reduceBNe, encR]
  refine rangeB ws.length (fun i σ => (∀ w ∈ ws.take i, okW w = true) ∧ i ≤ 6 ∧ (∃ g, σ.slot 4 = .c (.own 7 g) ∧ σ.h.gen 7 = g ∧ σ.h.blk 7 = .row 56 3 (((ws.take i).map fresh).map encLn)) ∧ σ.slot 2 = .c (.ptr 2 1 0 0) ∧ σ.h.gen 2 = 1 ∧ σ.h.blk 2 = .box 25 3 [[.zc, .s (.pv (.int .i64 0)), .s (.pv (.bool false))]] ∧ σ.slot 8 = vL 1 (ws.map encI) ∧ σ.slot 9 = vI ws.length ∧ σ.slot 10 = vI i) ?_ ?_ ?_
  · simp -implicitDefEqProofs only [↓aP, aQ, ↓reduceIte, Nat.reduceEqDiff, Nat.reduceAdd, Nat.reduceSub, Nat.reduceMul, Nat.reduceLT, Nat.reduceLeDiff, reduceCtorEq, Nat.reduceBEq, forall_const, implies_true, exists_const, ne_eq, Int.reduceAdd, Int.reduceSub, Int.reduceMul, Int.reduceBEq, Int.reduceEq, Int.reduceLT, Int.reduceLE, Int.reduceToNat, Int.reduceNeg, Int.reduceBNe]
    simp
  · rintro i m σ him hi hlt ⟨hw, h6, ⟨g, s4, g7, b7⟩, s2, g2, b2, s8, s9, s10⟩
    have hlen : ((ws.take i).map fresh).length = i := by simp; omega
    have hne : i ≠ 6 → ((i : Int) == 6) = false := fun h => by simp; omega
    have hin : ws[i] ∈ ws := List.getElem_mem hi
    simp -implicitDefEqProofs only [↓aP, aQ, ↓reduceIte, Nat.reduceEqDiff, Nat.reduceAdd, Nat.reduceSub, Nat.reduceMul, Nat.reduceLT, Nat.reduceLeDiff, reduceCtorEq, Nat.reduceBEq, forall_const, implies_true, exists_const, ne_eq, Int.reduceAdd, Int.reduceSub, Int.reduceMul, Int.reduceBEq, Int.reduceEq, Int.reduceLT, Int.reduceLE, Int.reduceToNat, Int.reduceNeg, Int.reduceBNe, hlt, s2, g2, b2, s8, s9, s10, askIdx_map, hi, encI, s4, g7, b7, hlen, List.length_take]
    by_cases h66 : i = 6
    case pos =>
      have e : newI ws = (⟨[], 0, false⟩, 1) := okNew_no (fun h => by omega)
      rw [e]
      have d : ((i : Int) == 6) = true := by simp; omega
      simp -implicitDefEqProofs only [↓aP, aQ, ↓reduceIte, Nat.reduceEqDiff, Nat.reduceAdd, Nat.reduceSub, Nat.reduceMul, Nat.reduceLT, Nat.reduceLeDiff, reduceCtorEq, Nat.reduceBEq, forall_const, implies_true, exists_const, ne_eq, Int.reduceAdd, Int.reduceSub, Int.reduceMul, Int.reduceBEq, Int.reduceEq, Int.reduceLT, Int.reduceLE, Int.reduceToNat, Int.reduceNeg, Int.reduceBNe, d, encLs, s2, g2, b2, s8, s9, s10]
    simp -implicitDefEqProofs only [↓aP, aQ, ↓reduceIte, Nat.reduceEqDiff, Nat.reduceAdd, Nat.reduceSub, Nat.reduceMul, Nat.reduceLT, Nat.reduceLeDiff, reduceCtorEq, Nat.reduceBEq, forall_const, implies_true, exists_const, ne_eq, Int.reduceAdd, Int.reduceSub, Int.reduceMul, Int.reduceBEq, Int.reduceEq, Int.reduceLT, Int.reduceLE, Int.reduceToNat, Int.reduceNeg, Int.reduceBNe, hne h66, s2, g2, b2, s8, s9, s10]
    refine ask (isWeight_spec ws[i]) ?_
    cases hok : okW ws[i]
    · have e : newI ws = (⟨[], 0, false⟩, 1) := okNew_no (fun h => by simp [h.2.2 _ hin] at hok)
      rw [e]
      simp -implicitDefEqProofs only [↓aP, aQ, ↓reduceIte, Nat.reduceEqDiff, Nat.reduceAdd, Nat.reduceSub, Nat.reduceMul, Nat.reduceLT, Nat.reduceLeDiff, reduceCtorEq, Nat.reduceBEq, forall_const, implies_true, exists_const, ne_eq, Int.reduceAdd, Int.reduceSub, Int.reduceMul, Int.reduceBEq, Int.reduceEq, Int.reduceLT, Int.reduceLE, Int.reduceToNat, Int.reduceNeg, Int.reduceBNe, encLs, s2, g2, b2, s8, s9, s10]
    simp -implicitDefEqProofs only [↓aP, aQ, ↓reduceIte, Nat.reduceEqDiff, Nat.reduceAdd, Nat.reduceSub, Nat.reduceMul, Nat.reduceLT, Nat.reduceLeDiff, reduceCtorEq, Nat.reduceBEq, forall_const, implies_true, exists_const, ne_eq, Int.reduceAdd, Int.reduceSub, Int.reduceMul, Int.reduceBEq, Int.reduceEq, Int.reduceLT, Int.reduceLE, Int.reduceToNat, Int.reduceNeg, Int.reduceBNe, s4, g7, b7, s2, g2, b2, s8, s9, s10, hlen, List.length_append, wrapS (show i < 4611686018427387904 by omega)]
    refine ⟨by omega, by omega, ?_⟩
    refine nextR hi him ?_
    rw [take_snoc hi]
    simp -implicitDefEqProofs only [↓aP, aQ, ↓reduceIte, Nat.reduceEqDiff, Nat.reduceAdd, Nat.reduceSub, Nat.reduceMul, Nat.reduceLT, Nat.reduceLeDiff, reduceCtorEq, Nat.reduceBEq, forall_const, implies_true, exists_const, ne_eq, Int.reduceAdd, Int.reduceSub, Int.reduceMul, Int.reduceBEq, Int.reduceEq, Int.reduceLT, Int.reduceLE, Int.reduceToNat, Int.reduceNeg, Int.reduceBNe, s4, g7, b7, s2, g2, b2, s8, s9, s10]
    refine ⟨?_, by omega, g + 1, rfl, rfl, by rw [List.map_append, List.map_append]; rfl⟩
    intro w hw2
    rcases List.mem_append.1 hw2 with h | h
    · exact hw w h
    · rw [List.mem_singleton.1 h]; exact hok
  · rintro m σ hlt ⟨hw, h6, ⟨g, s4, g7, b7⟩, s2, g2, b2, s8, s9, s10⟩
    rw [List.take_length] at hw b7
    simp -implicitDefEqProofs only [↓aP, aQ, ↓reduceIte, Nat.reduceEqDiff, Nat.reduceAdd, Nat.reduceSub, Nat.reduceMul, Nat.reduceLT, Nat.reduceLeDiff, reduceCtorEq, Nat.reduceBEq, forall_const, implies_true, exists_const, ne_eq, Int.reduceAdd, Int.reduceSub, Int.reduceMul, Int.reduceBEq, Int.reduceEq, Int.reduceLT, Int.reduceLE, Int.reduceToNat, Int.reduceNeg, Int.reduceBNe, hlt, s2, g2, b2, s8, s9, s10, s4, g7, b7, List.length_map]
    by_cases h0 : ws.length = 0
    case pos =>
      have e : newI ws = (⟨[], 0, false⟩, 1) := okNew_no (fun h => by omega)
      rw [e]
      have d : ((ws.length : Int) == 0) = true := by rw [h0]; rfl
      simp -implicitDefEqProofs only [↓aP, aQ, ↓reduceIte, Nat.reduceEqDiff, Nat.reduceAdd, Nat.reduceSub, Nat.reduceMul, Nat.reduceLT, Nat.reduceLeDiff, reduceCtorEq, Nat.reduceBEq, forall_const, implies_true, exists_const, ne_eq, Int.reduceAdd, Int.reduceSub, Int.reduceMul, Int.reduceBEq, Int.reduceEq, Int.reduceLT, Int.reduceLE, Int.reduceToNat, Int.reduceNeg, Int.reduceBNe, d, encLs, s2, g2, b2, s8, s9, s10]
    have e : newI ws = (⟨ws.map fresh, 0, false⟩, 0) := okNew_yes ⟨by omega, h6, hw⟩
    have d : ((ws.length : Int) == 0) = false := by rw [beq_eq_false_iff_ne]; omega
    rw [e]
    simp -implicitDefEqProofs only [↓aP, aQ, ↓reduceIte, Nat.reduceEqDiff, Nat.reduceAdd, Nat.reduceSub, Nat.reduceMul, Nat.reduceLT, Nat.reduceLeDiff, reduceCtorEq, Nat.reduceBEq, forall_const, implies_true, exists_const, ne_eq, Int.reduceAdd, Int.reduceSub, Int.reduceMul, Int.reduceBEq, Int.reduceEq, Int.reduceLT, Int.reduceLE, Int.reduceToNat, Int.reduceNeg, Int.reduceBNe, d, encLs, s2, g2, b2, s8, s9, s10, s4, g7, b7]
theorem right_len {x : Ls} (h : right x = true) : x.l.length ≤ 6 := by
  unfold right at h
  simp only [Bool.and_eq_true, decide_eq_true_eq] at h
  exact h.1.1
theorem right_get {x : Ls} (h : right x = true) {k : Nat} (hk : k < x.l.length) : okL (most x k) x.l[k] = true := by
  unfold right at h
  simp only [Bool.and_eq_true, decide_eq_true_eq, List.all_eq_true] at h
  rw [← okAt_get hk]
  exact h.2 k (by simpa using hk)
def pushI (x : Ls) (lane cost : Int) : Ls × Int :=
  if right x = false ∨ lane < 0 ∨ (x.l.length : Int) ≤ lane ∨ okC cost = false then (x, 1)
  else match x.l[lane.toNat]? with
    | some y => if y.cs.length = 200 then (x, 7) else (⟨x.l.set lane.toNat ⟨y.w, y.d, y.cs ++ [cost]⟩, x.at', x.g⟩, 0)
    | none => (x, 1)
theorem lPush_spec (x : Ls) (lane cost : Int) (hx : Small x) : Spec Try.prog 20 [.agg (encLs x), rI lane, rI cost] (.val (encR (pushI x lane cost))) := by
  refine spec_val mixed fn20 (by simp) ?_
  unfold ac20
  have hl := hx.1
  simp -implicitDefEqProofs only [↓aP, aQ, ↓reduceIte, Nat.reduceEqDiff, Nat.reduceAdd, Nat.reduceSub, Nat.reduceMul, Nat.reduceLT, Nat.reduceLeDiff, reduceCtorEq, Nat.reduceBEq, forall_const, implies_true, exists_const, ne_eq, Int.reduceAdd, Int.reduceSub, Int.reduceMul, Int.reduceBEq, Int.reduceEq, Int.reduceLT, Int.reduceLE, Int.reduceToNat, Int.reduceNeg, Int.reduceBNe, encR, encLs]
  refine ask (lRight_spec x hx) ?_
  simp -implicitDefEqProofs only [↓aP, aQ, ↓reduceIte, Nat.reduceEqDiff, Nat.reduceAdd, Nat.reduceSub, Nat.reduceMul, Nat.reduceLT, Nat.reduceLeDiff, reduceCtorEq, Nat.reduceBEq, forall_const, implies_true, exists_const, ne_eq, Int.reduceAdd, Int.reduceSub, Int.reduceMul, Int.reduceBEq, Int.reduceEq, Int.reduceLT, Int.reduceLE, Int.reduceToNat, Int.reduceNeg, Int.reduceBNe, encLs]
  have m1 : (right x = false ∨ lane < 0 ∨ (x.l.length : Int) ≤ lane ∨ okC cost = false) → pushI x lane cost = (x, 1) := fun h => if_pos h
  by_cases hb : right x = false ∨ lane < 0 ∨ (x.l.length : Int) ≤ lane ∨ okC cost = false
  · rw [m1 hb]
    repeat' ((first | ((first | with_reducible refine fork ?_ ?_ | with_reducible refine gcase ?_ ?_ | with_reducible refine gcaseD ?_ ?_) <;> intro hc <;> (have hp := hc) <;> (try simp only [aB] at hp)) | (have hc := True.intro; first | with_reducible refine askM (by omega) ?_ | with_reducible refine And.intro (by first | omega | decide +kernel) ?_ | refine ask (isCost_spec cost) ?_ | fail)) <;> (try simp -implicitDefEqProofs only [↓aP, aQ, ↓reduceIte, Nat.reduceEqDiff, Nat.reduceAdd, Nat.reduceSub, Nat.reduceMul, Nat.reduceLT, Nat.reduceLeDiff, reduceCtorEq, Nat.reduceBEq, forall_const, implies_true, exists_const, ne_eq, Int.reduceAdd, Int.reduceSub, Int.reduceMul, Int.reduceBEq, Int.reduceEq, Int.reduceLT, Int.reduceLE, Int.reduceToNat, Int.reduceNeg, Int.reduceBNe, hc, encR, encLs, encLn]))
    all_goals (exfalso; rcases hb with h | h | h | h <;> first | omega | (simp_all; done) | (simp_all; omega))
  have hr : right x = true := by
    cases h : right x
    · exact absurd (.inl h) hb
    · rfl
  have hok : okC cost = true := by
    cases h : okC cost
    · exact absurd (.inr (.inr (.inr h))) hb
    · rfl
  obtain ⟨k, rfl⟩ : ∃ k : Nat, lane = k := ⟨lane.toNat, by omega⟩
  have hk : k < x.l.length := by omega
  have d1 : decide ((k : Int) < 0) = false := by simp
  have d2 : decide ((x.l.length : Int) ≤ (k : Int)) = false := by simp; omega
  simp -implicitDefEqProofs only [↓aP, aQ, ↓reduceIte, Nat.reduceEqDiff, Nat.reduceAdd, Nat.reduceSub, Nat.reduceMul, Nat.reduceLT, Nat.reduceLeDiff, reduceCtorEq, Nat.reduceBEq, forall_const, implies_true, exists_const, ne_eq, Int.reduceAdd, Int.reduceSub, Int.reduceMul, Int.reduceBEq, Int.reduceEq, Int.reduceLT, Int.reduceLE, Int.reduceToNat, Int.reduceNeg, Int.reduceBNe, hr, d1, d2, encLs]
  refine ask (isCost_spec cost) ?_
  simp -implicitDefEqProofs only [↓aP, aQ, ↓reduceIte, Nat.reduceEqDiff, Nat.reduceAdd, Nat.reduceSub, Nat.reduceMul, Nat.reduceLT, Nat.reduceLeDiff, reduceCtorEq, Nat.reduceBEq, forall_const, implies_true, exists_const, ne_eq, Int.reduceAdd, Int.reduceSub, Int.reduceMul, Int.reduceBEq, Int.reduceEq, Int.reduceLT, Int.reduceLE, Int.reduceToNat, Int.reduceNeg, Int.reduceBNe, hok, askIdx_map, hk, encLn]
  obtain ⟨y, hy⟩ : ∃ y, x.l[k] = y := ⟨_, rfl⟩
  have hyl : y.cs.length < 4611686018427387904 := by rw [← hy]; exact hx.2 _ (List.getElem_mem hk)
  have hr6 := right_len hr
  have h200 : y.cs.length ≤ 200 := by have := (okL_iff.1 (right_get hr hk)).2.2.1; rwa [hy] at this
  have m2 : y.cs.length = 200 → pushI x k cost = (x, 7) := fun h => by
    unfold pushI
    rw [if_neg hb]
    simp only [Int.toNat_natCast, List.getElem?_eq_getElem hk, hy]
    rw [if_pos h]
  have m3 : y.cs.length ≠ 200 → pushI x k cost = (⟨x.l.set k ⟨y.w, y.d, y.cs ++ [cost]⟩, x.at', x.g⟩, 0) := fun h => by
    unfold pushI
    rw [if_neg hb]
    simp only [Int.toNat_natCast, List.getElem?_eq_getElem hk, hy]
    rw [if_neg h]
  have hmap : ∀ z, (x.l.set k z).map encLn = (x.l.map encLn).set k (encLn z) := fun z => List.map_set
  rw [hy]
  by_cases h2 : y.cs.length = 200
  case pos =>
    have d : ((y.cs.length : Int) == 200) = true := by rw [h2]; rfl
    simp -implicitDefEqProofs only [↓aP, aQ, ↓reduceIte, Nat.reduceEqDiff, Nat.reduceAdd, Nat.reduceSub, Nat.reduceMul, Nat.reduceLT, Nat.reduceLeDiff, reduceCtorEq, Nat.reduceBEq, forall_const, implies_true, exists_const, ne_eq, Int.reduceAdd, Int.reduceSub, Int.reduceMul, Int.reduceBEq, Int.reduceEq, Int.reduceLT, Int.reduceLE, Int.reduceToNat, Int.reduceNeg, Int.reduceBNe, d, m2 h2]
  have d : ((y.cs.length : Int) == 200) = false := by rw [beq_eq_false_iff_ne]; omega
  simp -implicitDefEqProofs only [↓aP, aQ, ↓reduceIte, Nat.reduceEqDiff, Nat.reduceAdd, Nat.reduceSub, Nat.reduceMul, Nat.reduceLT, Nat.reduceLeDiff, reduceCtorEq, Nat.reduceBEq, forall_const, implies_true, exists_const, ne_eq, Int.reduceAdd, Int.reduceSub, Int.reduceMul, Int.reduceBEq, Int.reduceEq, Int.reduceLT, Int.reduceLE, Int.reduceToNat, Int.reduceNeg, Int.reduceBNe, d, m3 h2, hmap]
  refine ask (cloneLn _ (by simp; omega)) ?_
  simp -implicitDefEqProofs only [↓aP, aQ, ↓reduceIte, Nat.reduceEqDiff, Nat.reduceAdd, Nat.reduceSub, Nat.reduceMul, Nat.reduceLT, Nat.reduceLeDiff, reduceCtorEq, Nat.reduceBEq, forall_const, implies_true, exists_const, ne_eq, Int.reduceAdd, Int.reduceSub, Int.reduceMul, Int.reduceBEq, Int.reduceEq, Int.reduceLT, Int.reduceLE, Int.reduceToNat, Int.reduceNeg, Int.reduceBNe, m3 h2]
  refine ask (cloneIn _ (by simp; omega)) ?_
  simp -implicitDefEqProofs only [↓aP, aQ, ↓reduceIte, Nat.reduceEqDiff, Nat.reduceAdd, Nat.reduceSub, Nat.reduceMul, Nat.reduceLT, Nat.reduceLeDiff, reduceCtorEq, Nat.reduceBEq, forall_const, implies_true, exists_const, ne_eq, Int.reduceAdd, Int.reduceSub, Int.reduceMul, Int.reduceBEq, Int.reduceEq, Int.reduceLT, Int.reduceLE, Int.reduceToNat, Int.reduceNeg, Int.reduceBNe, m3 h2, hk, askIdx_map, askIdx_set]
  refine ⟨by omega, by omega, by decide +kernel, ?_⟩
  rw [hy]
  simp only [encLn, encI, List.map_append, List.map_cons, List.map_nil, List.take_succ_cons, List.take_zero, List.drop_succ_cons, List.drop_zero, List.cons_append, List.nil_append]
  exact .refl _
end Go.Proofs.Ytfmbfgoofiojcaa
