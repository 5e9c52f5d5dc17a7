/- layer 5: the contract: Next. -/
import Derived.Test.YtfmbfgoofiojcaaL4
namespace Go.Proofs.Ytfmbfgoofiojcaa
open Go.RowKit Lk
set_option linter.unusedVariables false
set_option linter.unusedSimpArgs false
set_option maxRecDepth 4000
def encN (x : Ls × Int × Int × Bool) : TV SC := .tup [(true, encLs x.1), (false, [.pv (.int .i64 x.2.1)]), (false, [.pv (.int .i64 x.2.2.1)]), (false, [.pv (.bool x.2.2.2)])]

def NextI (x : Ls) (m : Nat) (σ : St) : Prop := ∃ (l : List Ln) (a : Nat) (g : Bool), right ⟨l, (a : Int), g⟩ = true ∧ Stops m ⟨l, (a : Int), g⟩ ∧ run m ⟨l, (a : Int), g⟩ = run 14 x ∧ σ.slot 1 = .c (.ptr 1 1 0 0) ∧ σ.h.gen 1 = 1 ∧ σ.h.blk 1 = .box 25 3 [[.own 19 1, .s (.pv (.int .i64 (a : Int))), .s (.pv (.bool g))]] ∧ σ.h.gen 19 = 1 ∧ σ.h.blk 19 = .row 56 3 (l.map encLn) ∧ σ.slot 2 = .c (.ptr 2 1 0 0) ∧ σ.h.gen 2 = 1 ∧ σ.h.blk 2 = .box 25 3 [[.zc, .s (.pv (.int .i64 0)), .s (.pv (.bool false))]]
theorem take_at (l : List Ln) (a : Nat) (hl : a < l.length) (w d c : Int) (cs : List Int) (hs : cs.length ≤ 199) (hd : -1000 ≤ d ∧ d ≤ 1000) (hcc : okC c = true) :
    SpecX Try.prog 45 ⟨true, 56, 3, (l.map encLn).set a [.pv (.int .i64 w), .pv (.int .i64 d), .sl 1 ([.pv (.int .i64 c)] :: cs.map encI)], some (a, 0), (l.map encLn).set a (encLn (takeL ⟨w, d, c :: cs⟩)), some (rI c)⟩ [] := by
  have h := take_spec (l.set a ⟨w, d, c :: cs⟩) a (by simpa using hl) (by simp) (by simp; omega) (by simpa using hd) (by simpa using hcc)
  simpa [List.map_set, encLn, encI] using h
theorem lNext_spec (x : Ls) (hx : Small x) : Spec Try.prog 23 [.agg (encLs x)] (.val (encN (nextI x))) := by
  refine spec_val mixed fn23 (by simp) ?_
  unfold ac23
  simp -implicitDefEqProofs only [↓aP, aQ, ↓reduceIte, Nat.reduceEqDiff, Nat.reduceAdd, Nat.reduceSub, Nat.reduceMul, Nat.reduceLT, Nat.reduceLeDiff, reduceCtorEq, Nat.reduceBEq, forall_const, implies_true, exists_const, ne_eq, Int.reduceAdd, Int.reduceSub, Int.reduceMul, Int.reduceBEq, Int.reduceEq, Int.reduceLT, Int.reduceLE, Int.reduceToNat, Int.reduceNeg, Int.reduceBNe, encLs]
  refine ask (lRight_spec x hx) ?_
  by_cases hb : right x = true ∧ waits x = true
  case neg =>
    have e : nextI x = (x, 0, 0, false) := if_neg hb
    rw [e]
    simp -implicitDefEqProofs only [↓aP, aQ, ↓reduceIte, Nat.reduceEqDiff, Nat.reduceAdd, Nat.reduceSub, Nat.reduceMul, Nat.reduceLT, Nat.reduceLeDiff, reduceCtorEq, Nat.reduceBEq, forall_const, implies_true, exists_const, ne_eq, Int.reduceAdd, Int.reduceSub, Int.reduceMul, Int.reduceBEq, Int.reduceEq, Int.reduceLT, Int.reduceLE, Int.reduceToNat, Int.reduceNeg, Int.reduceBNe, encLs]
    repeat' ((first | ((first | with_reducible refine fork ?_ ?_ | with_reducible refine gcase ?_ ?_ | with_reducible refine gcaseD ?_ ?_) <;> intro hc <;> (have hp := hc) <;> (try simp only [aB] at hp)) | (have hc := True.intro; first | with_reducible refine askM (by omega) ?_ | with_reducible refine And.intro (by first | omega | decide +kernel) ?_ | refine ask (waits_spec x hx.1) ?_ | fail)) <;> (try simp -implicitDefEqProofs only [↓aP, aQ, ↓reduceIte, Nat.reduceEqDiff, Nat.reduceAdd, Nat.reduceSub, Nat.reduceMul, Nat.reduceLT, Nat.reduceLeDiff, reduceCtorEq, Nat.reduceBEq, forall_const, implies_true, exists_const, ne_eq, Int.reduceAdd, Int.reduceSub, Int.reduceMul, Int.reduceBEq, Int.reduceEq, Int.reduceLT, Int.reduceLE, Int.reduceToNat, Int.reduceNeg, Int.reduceBNe, hc, encLs, encN]))
    all_goals (exfalso; simp_all)
  obtain ⟨hr, hw⟩ := hb
  have hst := stops14 hr hw
  have hn : nextI x = (⟨(run 14 x).l.set (run 14 x).at'.toNat (takeL (getL (run 14 x))), (run 14 x).at', (run 14 x).g⟩, (run 14 x).at', (getL (run 14 x)).cs.headD 0, true) := if_pos ⟨hr, hw⟩
  rw [hn]
  generalize hrun : run 14 x = R
  simp -implicitDefEqProofs only [↓aP, aQ, ↓reduceIte, Nat.reduceEqDiff, Nat.reduceAdd, Nat.reduceSub, Nat.reduceMul, Nat.reduceLT, Nat.reduceLeDiff, reduceCtorEq, Nat.reduceBEq, forall_const, implies_true, exists_const, ne_eq, Int.reduceAdd, Int.reduceSub, Int.reduceMul, Int.reduceBEq, Int.reduceEq, Int.reduceLT, Int.reduceLE, Int.reduceToNat, Int.reduceNeg, Int.reduceBNe, hr, encLs]
  refine ask (waits_spec x hx.1) ?_
  have hr6 := right_len hr
  simp -implicitDefEqProofs only [↓aP, aQ, ↓reduceIte, Nat.reduceEqDiff, Nat.reduceAdd, Nat.reduceSub, Nat.reduceMul, Nat.reduceLT, Nat.reduceLeDiff, reduceCtorEq, Nat.reduceBEq, forall_const, implies_true, exists_const, ne_eq, Int.reduceAdd, Int.reduceSub, Int.reduceMul, Int.reduceBEq, Int.reduceEq, Int.reduceLT, Int.reduceLE, Int.reduceToNat, Int.reduceNeg, Int.reduceBNe, hw, encLs]
  refine ask (cloneLn _ (by simp; omega)) ?_
  simp -implicitDefEqProofs only [↓aP, aQ, ↓reduceIte, Nat.reduceEqDiff, Nat.reduceAdd, Nat.reduceSub, Nat.reduceMul, Nat.reduceLT, Nat.reduceLeDiff, reduceCtorEq, Nat.reduceBEq, forall_const, implies_true, exists_const, ne_eq, Int.reduceAdd, Int.reduceSub, Int.reduceMul, Int.reduceBEq, Int.reduceEq, Int.reduceLT, Int.reduceLE, Int.reduceToNat, Int.reduceNeg, Int.reduceBNe, encLs]
  have hin := (right_iff.1 hr).1
  refine ⟨NextI x, 14, ⟨_, .refl _, x.l, x.at'.toNat, x.g, ?_⟩, fun m σ hI => ?_⟩
  · rw [show ((x.at'.toNat : Nat) : Int) = x.at' by omega]
    simp -implicitDefEqProofs only [↓aP, aQ, ↓reduceIte, Nat.reduceEqDiff, Nat.reduceAdd, Nat.reduceSub, Nat.reduceMul, Nat.reduceLT, Nat.reduceLeDiff, reduceCtorEq, Nat.reduceBEq, forall_const, implies_true, exists_const, ne_eq, Int.reduceAdd, Int.reduceSub, Int.reduceMul, Int.reduceBEq, Int.reduceEq, Int.reduceLT, Int.reduceLE, Int.reduceToNat, Int.reduceNeg, Int.reduceBNe]
    exact ⟨hr, hst⟩
  obtain ⟨l, a, g, hrl, hs, hru, s1, g1, b1, g19, b19, s2, g2, b2⟩ := hI
  obtain ⟨⟨hl6, _, hal⟩, _⟩ := right_iff.1 hrl
  have hl : a < l.length := by simpa using hal
  have hl7 : l.length ≤ 6 := hl6
  obtain ⟨y, hy⟩ : ∃ y, l[a] = y := ⟨_, rfl⟩
  have hgl : getL ⟨l, (a : Int), g⟩ = y := (getL_eq rfl hl).trans hy
  have hown := right_own hrl rfl hl
  simp only [hy] at hown
  obtain ⟨q1, ⟨q2, q3⟩, q4, q5⟩ := okL_iff.1 hown
  have qw := okW_iff.1 q1
  have q39 : y.d ≤ 39 := by
    cases g <;> simp at q3 <;> omega
  obtain ⟨m, rfl⟩ : ∃ k, m = k + 1 := by
    cases m with
    | zero => exact hs.elim
    | succ k => exact ⟨k, rfl⟩
  have hrt := turn_right hrl
  have e3 : Int.tmod ((a + 1 : Nat) : Int) (l.length : Int) = (((a + 1) % l.length : Nat) : Int) := by
    rw [Int.tmod_eq_emod_of_nonneg (by omega)]; rfl
  have hne : ¬ (l.length : Int) = 0 := by omega
  have hset : ∀ z, (l.set a z).map encLn = (l.map encLn).set a (encLn z) := fun z => List.map_set
  have d0 : decide ((a : Int) < 0) = false := by simp
  have hs2 : (turn ⟨l, (a : Int), g⟩).1 = true ∨ Stops m (turn ⟨l, (a : Int), g⟩).2 := hs
  have hru2 : (if (turn ⟨l, (a : Int), g⟩).1 = true then (turn ⟨l, (a : Int), g⟩).2 else run m (turn ⟨l, (a : Int), g⟩).2) = run 14 x := hru
  clear hs hru
  by_cases he : y.cs = []
  case pos =>
    have d1 : ((y.cs.length : Int) == 0) = true := by rw [he]; rfl
    have ht : turn ⟨l, (a : Int), g⟩ = (false, ⟨l.set a (zero y), (((a + 1) % l.length : Nat) : Int), false⟩) := by
      unfold turn
      rw [hgl, if_pos he]
      rfl
    rw [ht] at hs2 hru2 hrt
    simp only [Bool.false_eq_true, false_or, if_false] at hs2 hru2
    simp -implicitDefEqProofs only [↓aP, aQ, ↓reduceIte, Nat.reduceEqDiff, Nat.reduceAdd, Nat.reduceSub, Nat.reduceMul, Nat.reduceLT, Nat.reduceLeDiff, reduceCtorEq, Nat.reduceBEq, forall_const, implies_true, exists_const, ne_eq, Int.reduceAdd, Int.reduceSub, Int.reduceMul, Int.reduceBEq, Int.reduceEq, Int.reduceLT, Int.reduceLE, Int.reduceToNat, Int.reduceNeg, Int.reduceBNe, s1, g1, b1, g19, b19, s2, g2, b2, askIdx_map, hl, hy, encLn, List.length_map, List.length_set, d1]
    refine ⟨hne, m, Nat.lt_succ_self m, l.set a (zero y), (a + 1) % l.length, false, hrt, hs2, hru2, ?_⟩
    simp -implicitDefEqProofs only [↓aP, aQ, ↓reduceIte, Nat.reduceEqDiff, Nat.reduceAdd, Nat.reduceSub, Nat.reduceMul, Nat.reduceLT, Nat.reduceLeDiff, reduceCtorEq, Nat.reduceBEq, forall_const, implies_true, exists_const, ne_eq, Int.reduceAdd, Int.reduceSub, Int.reduceMul, Int.reduceBEq, Int.reduceEq, Int.reduceLT, Int.reduceLE, Int.reduceToNat, Int.reduceNeg, Int.reduceBNe, s1, g1, b1, g19, b19, s2, g2, b2, wrapS (show a < 4611686018427387904 by omega), e3, hset, encLn, zero]
  have d1 : ((y.cs.length : Int) == 0) = false := by rw [beq_eq_false_iff_ne]; intro h; exact he (List.eq_nil_of_length_eq_zero (by omega))
  obtain ⟨c, cs, hcs⟩ : ∃ c cs, y.cs = c :: cs := by
    cases h : y.cs with
    | nil => exact absurd h he
    | cons c cs => exact ⟨c, cs, rfl⟩
  have hw1 : IntKind.i64.wrap (y.w * 4) = y.w * 4 := wrapI (by omega)
  have hw2 : IntKind.i64.wrap (y.d + y.w * 4) = y.d + y.w * 4 := wrapI (by omega)
  have hlen : cs.length ≤ 199 := by rw [hcs] at q4; simp at q4; omega
  have hcc : okC c = true := by rw [hcs] at q5; simp only [List.all_cons, Bool.and_eq_true] at q5; exact q5.1
  have d2 : (((cs.length + 1 : Nat) : Int) == 0) = false := by rw [beq_eq_false_iff_ne]; omega
  cases g with
  | false =>
    have hsh : shared ⟨l, (a : Int), false⟩ = bump y := by unfold shared; rw [hgl]; rfl
    simp -implicitDefEqProofs only [↓aP, aQ, ↓reduceIte, Nat.reduceEqDiff, Nat.reduceAdd, Nat.reduceSub, Nat.reduceMul, Nat.reduceLT, Nat.reduceLeDiff, reduceCtorEq, Nat.reduceBEq, forall_const, implies_true, exists_const, ne_eq, Int.reduceAdd, Int.reduceSub, Int.reduceMul, Int.reduceBEq, Int.reduceEq, Int.reduceLT, Int.reduceLE, Int.reduceToNat, Int.reduceNeg, Int.reduceBNe, s1, g1, b1, g19, b19, s2, g2, b2, askIdx_map, hl, hy, encLn, List.length_map, d1, hw1, hw2]
    refine ⟨by decide +kernel, ?_⟩
    simp -implicitDefEqProofs only [↓aP, aQ, ↓reduceIte, Nat.reduceEqDiff, Nat.reduceAdd, Nat.reduceSub, Nat.reduceMul, Nat.reduceLT, Nat.reduceLeDiff, reduceCtorEq, Nat.reduceBEq, forall_const, implies_true, exists_const, ne_eq, Int.reduceAdd, Int.reduceSub, Int.reduceMul, Int.reduceBEq, Int.reduceEq, Int.reduceLT, Int.reduceLE, Int.reduceToNat, Int.reduceNeg, Int.reduceBNe, s1, g1, b1, g19, b19, s2, g2, b2, askIdx_map, askIdx_set, hl, hy, encLn, encI, List.length_map, d1, hw1, hw2, hcs]
    refine ⟨by decide +kernel, ?_⟩
    refine fork ?_ ?_ <;> intro hle
    · have ht : turn ⟨l, (a : Int), false⟩ = (true, ⟨l.set a (bump y), (a : Int), true⟩) := by
        unfold turn
        rw [hgl, if_neg he, hsh, hcs, if_pos (show (c :: cs).headD 0 ≤ (bump y).d from t_dt hle)]
        rfl
      rw [ht] at hru2
      simp only [if_true] at hru2
      obtain rfl : R = ⟨l.set a (bump y), (a : Int), true⟩ := by rw [← hrun, ← hru2]
      simp -implicitDefEqProofs only [↓aP, aQ, ↓reduceIte, Nat.reduceEqDiff, Nat.reduceAdd, Nat.reduceSub, Nat.reduceMul, Nat.reduceLT, Nat.reduceLeDiff, reduceCtorEq, Nat.reduceBEq, forall_const, implies_true, exists_const, ne_eq, Int.reduceAdd, Int.reduceSub, Int.reduceMul, Int.reduceBEq, Int.reduceEq, Int.reduceLT, Int.reduceLE, Int.reduceToNat, Int.reduceNeg, Int.reduceBNe, s1, g1, b1, g19, b19, s2, g2, b2]
      refine askX1 (take_at l a hl y.w (y.d + y.w * 4) c cs hlen (by omega) hcc) (by simp -implicitDefEqProofs only [↓aP, aQ, ↓reduceIte, Nat.reduceEqDiff, Nat.reduceAdd, Nat.reduceSub, Nat.reduceMul, Nat.reduceLT, Nat.reduceLeDiff, reduceCtorEq, Nat.reduceBEq, forall_const, implies_true, exists_const, ne_eq, Int.reduceAdd, Int.reduceSub, Int.reduceMul, Int.reduceBEq, Int.reduceEq, Int.reduceLT, Int.reduceLE, Int.reduceToNat, Int.reduceNeg, Int.reduceBNe]) ?_
      simp -implicitDefEqProofs only [↓aP, aQ, ↓reduceIte, Nat.reduceEqDiff, Nat.reduceAdd, Nat.reduceSub, Nat.reduceMul, Nat.reduceLT, Nat.reduceLeDiff, reduceCtorEq, Nat.reduceBEq, forall_const, implies_true, exists_const, ne_eq, Int.reduceAdd, Int.reduceSub, Int.reduceMul, Int.reduceBEq, Int.reduceEq, Int.reduceLT, Int.reduceLE, Int.reduceToNat, Int.reduceNeg, Int.reduceBNe, s1, g1, b1, g19, b19, s2, g2, b2, hset]
      refine ⟨by decide +kernel, ?_⟩
      have hgs : getL ⟨l.set a (bump y), (a : Int), true⟩ = bump y := by rw [getL_eq rfl (by simpa using hl)]; exact List.getElem_set_self _
      have hbu : bump y = ⟨y.w, y.d + y.w * 4, c :: cs⟩ := by unfold bump; rw [hcs]
      rw [hgs, List.set_set, hbu]
      simp -implicitDefEqProofs only [↓aP, aQ, ↓reduceIte, Nat.reduceEqDiff, Nat.reduceAdd, Nat.reduceSub, Nat.reduceMul, Nat.reduceLT, Nat.reduceLeDiff, reduceCtorEq, Nat.reduceBEq, forall_const, implies_true, exists_const, ne_eq, Int.reduceAdd, Int.reduceSub, Int.reduceMul, Int.reduceBEq, Int.reduceEq, Int.reduceLT, Int.reduceLE, Int.reduceToNat, Int.reduceNeg, Int.reduceBNe, encN, encLs, hset, List.headD_cons]
    · have ht : turn ⟨l, (a : Int), false⟩ = (false, ⟨l.set a (bump y), (((a + 1) % l.length : Nat) : Int), false⟩) := by
        unfold turn
        rw [hgl, if_neg he, hsh, hcs, if_neg (show ¬ (c :: cs).headD 0 ≤ (bump y).d from t_df hle)]
        rfl
      rw [ht] at hs2 hru2 hrt
      simp only [Bool.false_eq_true, false_or, if_false] at hs2 hru2
      simp -implicitDefEqProofs only [↓aP, aQ, ↓reduceIte, Nat.reduceEqDiff, Nat.reduceAdd, Nat.reduceSub, Nat.reduceMul, Nat.reduceLT, Nat.reduceLeDiff, reduceCtorEq, Nat.reduceBEq, forall_const, implies_true, exists_const, ne_eq, Int.reduceAdd, Int.reduceSub, Int.reduceMul, Int.reduceBEq, Int.reduceEq, Int.reduceLT, Int.reduceLE, Int.reduceToNat, Int.reduceNeg, Int.reduceBNe, s1, g1, b1, g19, b19, s2, g2, b2, List.length_map, List.length_set]
      refine ⟨hne, m, Nat.lt_succ_self m, l.set a (bump y), (a + 1) % l.length, false, hrt, hs2, hru2, ?_⟩
      simp -implicitDefEqProofs only [↓aP, aQ, ↓reduceIte, Nat.reduceEqDiff, Nat.reduceAdd, Nat.reduceSub, Nat.reduceMul, Nat.reduceLT, Nat.reduceLeDiff, reduceCtorEq, Nat.reduceBEq, forall_const, implies_true, exists_const, ne_eq, Int.reduceAdd, Int.reduceSub, Int.reduceMul, Int.reduceBEq, Int.reduceEq, Int.reduceLT, Int.reduceLE, Int.reduceToNat, Int.reduceNeg, Int.reduceBNe, s1, g1, b1, g19, b19, s2, g2, b2, wrapS (show a < 4611686018427387904 by omega), e3, hset, encLn, encI, bump, hcs]
  | true =>
    have hsh : shared ⟨l, (a : Int), true⟩ = y := by unfold shared; rw [hgl]; rfl
    have hself : l.set a y = l := by rw [← hy]; exact List.set_getElem_self hl
    simp -implicitDefEqProofs only [↓aP, aQ, ↓reduceIte, Nat.reduceEqDiff, Nat.reduceAdd, Nat.reduceSub, Nat.reduceMul, Nat.reduceLT, Nat.reduceLeDiff, reduceCtorEq, Nat.reduceBEq, forall_const, implies_true, exists_const, ne_eq, Int.reduceAdd, Int.reduceSub, Int.reduceMul, Int.reduceBEq, Int.reduceEq, Int.reduceLT, Int.reduceLE, Int.reduceToNat, Int.reduceNeg, Int.reduceBNe, s1, g1, b1, g19, b19, s2, g2, b2, askIdx_map, hl, hy, encLn, List.length_map, d2, hcs, encI]
    refine ⟨by decide +kernel, ?_⟩
    refine fork ?_ ?_ <;> intro hle
    · have ht : turn ⟨l, (a : Int), true⟩ = (true, ⟨l, (a : Int), true⟩) := by
        unfold turn
        rw [hgl, if_neg he, hsh, hcs, if_pos (show (c :: cs).headD 0 ≤ y.d from t_dt hle)]
        show (true, (⟨l.set a y, (a : Int), true⟩ : Ls)) = _
        rw [hself]
      rw [ht] at hru2
      simp only [if_true] at hru2
      obtain rfl : R = ⟨l, (a : Int), true⟩ := by rw [← hrun, ← hru2]
      simp -implicitDefEqProofs only [↓aP, aQ, ↓reduceIte, Nat.reduceEqDiff, Nat.reduceAdd, Nat.reduceSub, Nat.reduceMul, Nat.reduceLT, Nat.reduceLeDiff, reduceCtorEq, Nat.reduceBEq, forall_const, implies_true, exists_const, ne_eq, Int.reduceAdd, Int.reduceSub, Int.reduceMul, Int.reduceBEq, Int.reduceEq, Int.reduceLT, Int.reduceLE, Int.reduceToNat, Int.reduceNeg, Int.reduceBNe, s1, g1, b1, g19, b19, s2, g2, b2]
      refine askX1 (take_spec l a hl (by rw [hy, hcs]; simp) (by rw [hy]; exact q4) (by rw [hy]; omega) (by rw [hy, hcs]; exact hcc)) (by simp -implicitDefEqProofs only [↓aP, aQ, ↓reduceIte, Nat.reduceEqDiff, Nat.reduceAdd, Nat.reduceSub, Nat.reduceMul, Nat.reduceLT, Nat.reduceLeDiff, reduceCtorEq, Nat.reduceBEq, forall_const, implies_true, exists_const, ne_eq, Int.reduceAdd, Int.reduceSub, Int.reduceMul, Int.reduceBEq, Int.reduceEq, Int.reduceLT, Int.reduceLE, Int.reduceToNat, Int.reduceNeg, Int.reduceBNe]) ?_
      simp -implicitDefEqProofs only [↓aP, aQ, ↓reduceIte, Nat.reduceEqDiff, Nat.reduceAdd, Nat.reduceSub, Nat.reduceMul, Nat.reduceLT, Nat.reduceLeDiff, reduceCtorEq, Nat.reduceBEq, forall_const, implies_true, exists_const, ne_eq, Int.reduceAdd, Int.reduceSub, Int.reduceMul, Int.reduceBEq, Int.reduceEq, Int.reduceLT, Int.reduceLE, Int.reduceToNat, Int.reduceNeg, Int.reduceBNe, s1, g1, b1, g19, b19, s2, g2, b2, hy, hcs]
      refine ⟨by decide +kernel, ?_⟩
      simp -implicitDefEqProofs only [↓aP, aQ, ↓reduceIte, Nat.reduceEqDiff, Nat.reduceAdd, Nat.reduceSub, Nat.reduceMul, Nat.reduceLT, Nat.reduceLeDiff, reduceCtorEq, Nat.reduceBEq, forall_const, implies_true, exists_const, ne_eq, Int.reduceAdd, Int.reduceSub, Int.reduceMul, Int.reduceBEq, Int.reduceEq, Int.reduceLT, Int.reduceLE, Int.reduceToNat, Int.reduceNeg, Int.reduceBNe, encN, encLs, hset, hgl, hcs]
    · have ht : turn ⟨l, (a : Int), true⟩ = (false, ⟨l, (((a + 1) % l.length : Nat) : Int), false⟩) := by
        unfold turn
        rw [hgl, if_neg he, hsh, hcs, if_neg (show ¬ (c :: cs).headD 0 ≤ y.d from t_df hle)]
        show (false, (⟨l.set a y, (((a + 1) % l.length : Nat) : Int), false⟩ : Ls)) = _
        rw [hself]
      rw [ht] at hs2 hru2 hrt
      simp only [Bool.false_eq_true, false_or, if_false] at hs2 hru2
      simp -implicitDefEqProofs only [↓aP, aQ, ↓reduceIte, Nat.reduceEqDiff, Nat.reduceAdd, Nat.reduceSub, Nat.reduceMul, Nat.reduceLT, Nat.reduceLeDiff, reduceCtorEq, Nat.reduceBEq, forall_const, implies_true, exists_const, ne_eq, Int.reduceAdd, Int.reduceSub, Int.reduceMul, Int.reduceBEq, Int.reduceEq, Int.reduceLT, Int.reduceLE, Int.reduceToNat, Int.reduceNeg, Int.reduceBNe, s1, g1, b1, g19, b19, s2, g2, b2, List.length_map, List.length_set]
      refine ⟨hne, m, Nat.lt_succ_self m, l, (a + 1) % l.length, false, hrt, hs2, hru2, ?_⟩
      simp -implicitDefEqProofs only [↓aP, aQ, ↓reduceIte, Nat.reduceEqDiff, Nat.reduceAdd, Nat.reduceSub, Nat.reduceMul, Nat.reduceLT, Nat.reduceLeDiff, reduceCtorEq, Nat.reduceBEq, forall_const, implies_true, exists_const, ne_eq, Int.reduceAdd, Int.reduceSub, Int.reduceMul, Int.reduceBEq, Int.reduceEq, Int.reduceLT, Int.reduceLE, Int.reduceToNat, Int.reduceNeg, Int.reduceBNe, s1, g1, b1, g19, b19, s2, g2, b2, wrapS (show a < 4611686018427387904 by omega), e3, encLn, encI, hcs]
end Go.Proofs.Ytfmbfgoofiojcaa
