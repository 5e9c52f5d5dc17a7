/- layer 12: the contracts of the journal. -/
import Derived.Test.YtlloeinlfhnegaaYA
import Derived.Test.YtlloeinlfhnegaaYF
import Derived.Test.YtlloeinlfhnegaaSub
namespace Go.Proofs.Ytlloeinlfhnegaa
open Go.RowKit
set_option linter.unusedVariables false
set_option linter.unusedSimpArgs false
def encJo (o : Jo) : List SC := [.pv (.bool o.sync), .pv (.int .i64 o.w.at_), .pv (.string o.w.data)]
theorem usable_spec (d : Dk) : Spec Try.prog 48 [.agg (encDk d)] (.val (rB (Jn.usable d))) := by
  refine spec_val mixed fn48 (by simp) ?_
  unfold ac48
  simp -implicitDefEqProofs only [↓aP, aQ, ↓reduceIte, Nat.reduceEqDiff, Nat.reduceAdd, Nat.reduceSub, Nat.reduceMul, Nat.reduceLT, Nat.reduceLeDiff, reduceCtorEq, Nat.reduceBEq, forall_const, implies_true, exists_const, ne_eq, Int.reduceAdd, Int.reduceSub, Int.reduceMul, Int.reduceBEq, Int.reduceEq, Int.reduceLT, Int.reduceLE, Int.reduceToNat, Int.reduceNeg, Int.reduceBNe, encDk]
  refine ask (right_spec d) ?_
  cases hr : rightB d
  · simp -implicitDefEqProofs only [↓aP, aQ, ↓reduceIte, Nat.reduceEqDiff, Nat.reduceAdd, Nat.reduceSub, Nat.reduceMul, Nat.reduceLT, Nat.reduceLeDiff, reduceCtorEq, Nat.reduceBEq, forall_const, implies_true, exists_const, ne_eq, Int.reduceAdd, Int.reduceSub, Int.reduceMul, Int.reduceBEq, Int.reduceEq, Int.reduceLT, Int.reduceLE, Int.reduceToNat, Int.reduceNeg, Int.reduceBNe, Jn.usable, hr, Bool.false_and]
  · simp -implicitDefEqProofs only [↓aP, aQ, ↓reduceIte, Nat.reduceEqDiff, Nat.reduceAdd, Nat.reduceSub, Nat.reduceMul, Nat.reduceLT, Nat.reduceLeDiff, reduceCtorEq, Nat.reduceBEq, forall_const, implies_true, exists_const, ne_eq, Int.reduceAdd, Int.reduceSub, Int.reduceMul, Int.reduceBEq, Int.reduceEq, Int.reduceLT, Int.reduceLE, Int.reduceToNat, Int.reduceNeg, Int.reduceBNe, Jn.usable, hr, Bool.true_and, encDk, List.length_map]
    rw [decide_eq_decide]; omega
theorem isPage_spec (p : Int) : Spec Try.prog 49 [rI p] (.val (rB (Jn.isPage p))) := by
  refine spec_val mixed fn49 (by simp) ?_
  unfold ac49
  by_cases h0 : 1 ≤ p
  · by_cases h1 : p ≤ 16
    · simp -implicitDefEqProofs only [↓aP, aQ, ↓reduceIte, Nat.reduceEqDiff, Nat.reduceAdd, Nat.reduceSub, Nat.reduceMul, Nat.reduceLT, Nat.reduceLeDiff, reduceCtorEq, Nat.reduceBEq, forall_const, implies_true, exists_const, ne_eq, Int.reduceAdd, Int.reduceSub, Int.reduceMul, Int.reduceBEq, Int.reduceEq, Int.reduceLT, Int.reduceLE, Int.reduceToNat, Int.reduceNeg, Int.reduceBNe, decide_eq_true h0, decide_eq_true h1, Jn.isPage, h0, h1, and_self, decide_true]
    · simp -implicitDefEqProofs only [↓aP, aQ, ↓reduceIte, Nat.reduceEqDiff, Nat.reduceAdd, Nat.reduceSub, Nat.reduceMul, Nat.reduceLT, Nat.reduceLeDiff, reduceCtorEq, Nat.reduceBEq, forall_const, implies_true, exists_const, ne_eq, Int.reduceAdd, Int.reduceSub, Int.reduceMul, Int.reduceBEq, Int.reduceEq, Int.reduceLT, Int.reduceLE, Int.reduceToNat, Int.reduceNeg, Int.reduceBNe, decide_eq_true h0, decide_eq_false h1, Jn.isPage, h0, h1, and_false, decide_false]
  · simp -implicitDefEqProofs only [↓aP, aQ, ↓reduceIte, Nat.reduceEqDiff, Nat.reduceAdd, Nat.reduceSub, Nat.reduceMul, Nat.reduceLT, Nat.reduceLeDiff, reduceCtorEq, Nat.reduceBEq, forall_const, implies_true, exists_const, ne_eq, Int.reduceAdd, Int.reduceSub, Int.reduceMul, Int.reduceBEq, Int.reduceEq, Int.reduceLT, Int.reduceLE, Int.reduceToNat, Int.reduceNeg, Int.reduceBNe, decide_eq_false h0, Jn.isPage, h0, false_and, decide_false]
theorem write_spec (n : Int) (s : ByteArray) : Spec Try.prog 63 [rI n, rS s] (.val (.agg (encJo (Jn.wr n s)))) := by
  refine spec_val mixed fn63 (by simp) ?_
  unfold ac63
  simp -implicitDefEqProofs only [↓aP, aQ, ↓reduceIte, Nat.reduceEqDiff, Nat.reduceAdd, Nat.reduceSub, Nat.reduceMul, Nat.reduceLT, Nat.reduceLeDiff, reduceCtorEq, Nat.reduceBEq, forall_const, implies_true, exists_const, ne_eq, Int.reduceAdd, Int.reduceSub, Int.reduceMul, Int.reduceBEq, Int.reduceEq, Int.reduceLT, Int.reduceLE, Int.reduceToNat, Int.reduceNeg, Int.reduceBNe, encJo, Jn.wr]
theorem jsync_spec : Spec Try.prog 64 [] (.val (.agg (encJo Jn.sy))) := by
  refine spec_val mixed fn64 (by simp) ?_
  unfold ac64
  simp -implicitDefEqProofs only [↓aP, aQ, ↓reduceIte, Nat.reduceEqDiff, Nat.reduceAdd, Nat.reduceSub, Nat.reduceMul, Nat.reduceLT, Nat.reduceLeDiff, reduceCtorEq, Nat.reduceBEq, forall_const, implies_true, exists_const, ne_eq, Int.reduceAdd, Int.reduceSub, Int.reduceMul, Int.reduceBEq, Int.reduceEq, Int.reduceLT, Int.reduceLE, Int.reduceToNat, Int.reduceNeg, Int.reduceBNe, encJo, Jn.sy]
theorem home_spec (p : Int) (hp : Jn.isPage p = true) : Spec Try.prog 51 [rI p] (.val (rI (2 * p + 1))) := by
  refine spec_val mixed fn51 (by simp) ?_
  unfold ac51
  have h := Jn.page_iff.1 hp
  simp -implicitDefEqProofs only [↓aP, aQ, ↓reduceIte, Nat.reduceEqDiff, Nat.reduceAdd, Nat.reduceSub, Nat.reduceMul, Nat.reduceLT, Nat.reduceLeDiff, reduceCtorEq, Nat.reduceBEq, forall_const, implies_true, exists_const, ne_eq, Int.reduceAdd, Int.reduceSub, Int.reduceMul, Int.reduceBEq, Int.reduceEq, Int.reduceLT, Int.reduceLE, Int.reduceToNat, Int.reduceNeg, Int.reduceBNe, show IntKind.i64.wrap (2 * p) = 2 * p from wrapI (by omega), show IntKind.i64.wrap (2 * p + 1) = 2 * p + 1 from wrapI (by omega)]
theorem head_spec (p : Int) (hp : Jn.isPage p = true) : Spec Try.prog 65 [rI p] (.val (rS (Jn.headB p))) := by
  refine spec_val mixed fn65 (by simp) ?_
  unfold ac65
  have h := Jn.page_iff.1 hp
  obtain ⟨q, rfl⟩ : ∃ q : Nat, p = q := ⟨p.toNat, by omega⟩
  have key : ∀ q : Nat, q < 17 → strOfNums [74, IntKind.u8.wrap (q : Int)] ++ (⟨#[0, 0, 0, 0, 0, 0, 0, 0, 0, 0, 0, 0, 0, 0, 0, 0]⟩ : ByteArray).extract 2 (⟨#[0, 0, 0, 0, 0, 0, 0, 0, 0, 0, 0, 0, 0, 0, 0, 0]⟩ : ByteArray).size = Jn.headB (q : Int) := by
    intro q hq
    have hc : q = 0 ∨ q = 1 ∨ q = 2 ∨ q = 3 ∨ q = 4 ∨ q = 5 ∨ q = 6 ∨ q = 7 ∨ q = 8 ∨ q = 9 ∨ q = 10 ∨ q = 11 ∨ q = 12 ∨ q = 13 ∨ q = 14 ∨ q = 15 ∨ q = 16 := by omega
    rcases hc with rfl | rfl | rfl | rfl | rfl | rfl | rfl | rfl | rfl | rfl | rfl | rfl | rfl | rfl | rfl | rfl | rfl <;> rfl
  have k2 := key q (by omega)
  simp -implicitDefEqProofs only [↓aP, aQ, ↓reduceIte, Nat.reduceEqDiff, Nat.reduceAdd, Nat.reduceSub, Nat.reduceMul, Nat.reduceLT, Nat.reduceLeDiff, reduceCtorEq, Nat.reduceBEq, forall_const, implies_true, exists_const, ne_eq, Int.reduceAdd, Int.reduceSub, Int.reduceMul, Int.reduceBEq, Int.reduceEq, Int.reduceLT, Int.reduceLE, Int.reduceToNat, Int.reduceNeg, Int.reduceBNe]
  refine ⟨by decide, ?_, by decide +kernel, k2⟩
  rw [← ByteArray.size_append, k2, Jn.size_head]
  decide
theorem tl_beq (a b : ByteArray) : (a.toList == b.toList) = decide (a = b) := by
  rw [ByteArray.toList_eq, ByteArray.toList_eq, Bool.eq_iff_iff, beq_iff_eq, decide_eq_true_iff]
  constructor
  · intro h
    have h2 := Array.toList_inj.1 h
    cases a; cases b; simp only at h2; rw [h2]
  · intro h; rw [h]
theorem headed_spec (s : ByteArray) (hs : s.size = 16) : Spec Try.prog 72 [rS s] (.val (.tup [(false, [.pv (.int .i64 ((Jn.headed s).getD 0))]), (false, [.pv (.bool (Jn.headed s).isSome)])])) := by
  refine spec_val mixed fn72 (by simp) ?_
  unfold ac72
  simp -implicitDefEqProofs only [↓aP, aQ, ↓reduceIte, Nat.reduceEqDiff, Nat.reduceAdd, Nat.reduceSub, Nat.reduceMul, Nat.reduceLT, Nat.reduceLeDiff, reduceCtorEq, Nat.reduceBEq, forall_const, implies_true, exists_const, ne_eq, Int.reduceAdd, Int.reduceSub, Int.reduceMul, Int.reduceBEq, Int.reduceEq, Int.reduceLT, Int.reduceLE, Int.reduceToNat, Int.reduceNeg, Int.reduceBNe]
  refine ⟨by omega, ?_⟩
  have e : Jn.pageOf s = ((s[1]'(by omega)).toNat : Int) := by unfold Jn.pageOf; rw [getElem?_pos s 1 (by omega)]; rfl
  have hb : (s[1]'(by omega)).toNat < 256 := UInt8.toNat_lt _
  have w : IntKind.i64.wrap ((s[1]'(by omega)).toNat : Int) = Jn.pageOf s := by rw [wrapI (by omega), e]
  simp -implicitDefEqProofs only [↓aP, aQ, ↓reduceIte, Nat.reduceEqDiff, Nat.reduceAdd, Nat.reduceSub, Nat.reduceMul, Nat.reduceLT, Nat.reduceLeDiff, reduceCtorEq, Nat.reduceBEq, forall_const, implies_true, exists_const, ne_eq, Int.reduceAdd, Int.reduceSub, Int.reduceMul, Int.reduceBEq, Int.reduceEq, Int.reduceLT, Int.reduceLE, Int.reduceToNat, Int.reduceNeg, Int.reduceBNe, w]
  refine ask (isPage_spec (Jn.pageOf s)) ?_
  cases hp : Jn.isPage (Jn.pageOf s)
  · simp -implicitDefEqProofs only [↓aP, aQ, ↓reduceIte, Nat.reduceEqDiff, Nat.reduceAdd, Nat.reduceSub, Nat.reduceMul, Nat.reduceLT, Nat.reduceLeDiff, reduceCtorEq, Nat.reduceBEq, forall_const, implies_true, exists_const, ne_eq, Int.reduceAdd, Int.reduceSub, Int.reduceMul, Int.reduceBEq, Int.reduceEq, Int.reduceLT, Int.reduceLE, Int.reduceToNat, Int.reduceNeg, Int.reduceBNe, Jn.headed, hp, Bool.false_eq_true, false_and, if_false, Option.getD_none, Option.isSome_none]
  simp -implicitDefEqProofs only [↓aP, aQ, ↓reduceIte, Nat.reduceEqDiff, Nat.reduceAdd, Nat.reduceSub, Nat.reduceMul, Nat.reduceLT, Nat.reduceLeDiff, reduceCtorEq, Nat.reduceBEq, forall_const, implies_true, exists_const, ne_eq, Int.reduceAdd, Int.reduceSub, Int.reduceMul, Int.reduceBEq, Int.reduceEq, Int.reduceLT, Int.reduceLE, Int.reduceToNat, Int.reduceNeg, Int.reduceBNe]
  refine ask (head_spec (Jn.pageOf s) hp) ?_
  by_cases hh : s = Jn.headB (Jn.pageOf s)
  · have e2 : Jn.headed s = some (Jn.pageOf s) := by unfold Jn.headed; rw [if_pos ⟨hp, hh⟩]
    simp -implicitDefEqProofs only [↓aP, aQ, ↓reduceIte, Nat.reduceEqDiff, Nat.reduceAdd, Nat.reduceSub, Nat.reduceMul, Nat.reduceLT, Nat.reduceLeDiff, reduceCtorEq, Nat.reduceBEq, forall_const, implies_true, exists_const, ne_eq, Int.reduceAdd, Int.reduceSub, Int.reduceMul, Int.reduceBEq, Int.reduceEq, Int.reduceLT, Int.reduceLE, Int.reduceToNat, Int.reduceNeg, Int.reduceBNe, tl_beq, decide_eq_true hh, Bool.not_true, e2, Option.getD_some, Option.isSome_some]
  · have e2 : Jn.headed s = none := by unfold Jn.headed; rw [if_neg (fun h => hh h.2)]
    simp -implicitDefEqProofs only [↓aP, aQ, ↓reduceIte, Nat.reduceEqDiff, Nat.reduceAdd, Nat.reduceSub, Nat.reduceMul, Nat.reduceLT, Nat.reduceLeDiff, reduceCtorEq, Nat.reduceBEq, forall_const, implies_true, exists_const, ne_eq, Int.reduceAdd, Int.reduceSub, Int.reduceMul, Int.reduceBEq, Int.reduceEq, Int.reduceLT, Int.reduceLE, Int.reduceToNat, Int.reduceNeg, Int.reduceBNe, tl_beq, decide_eq_false hh, Bool.not_false, e2, Option.getD_none, Option.isSome_none]
theorem plan_spec (d : Dk) (p : Int) (s : ByteArray) : Spec Try.prog 37 [.agg (encDk d), rI p, rS s] (.val (.tup [(false, [.sl 3 ((Jn.planM d p s).1.map encJo)]), (false, [.pv (.int .i64 (Jn.planM d p s).2)])])) := by
  refine spec_val mixed fn37 (by simp) ?_
  unfold ac37
  simp -implicitDefEqProofs only [↓aP, aQ, ↓reduceIte, Nat.reduceEqDiff, Nat.reduceAdd, Nat.reduceSub, Nat.reduceMul, Nat.reduceLT, Nat.reduceLeDiff, reduceCtorEq, Nat.reduceBEq, forall_const, implies_true, exists_const, ne_eq, Int.reduceAdd, Int.reduceSub, Int.reduceMul, Int.reduceBEq, Int.reduceEq, Int.reduceLT, Int.reduceLE, Int.reduceToNat, Int.reduceNeg, Int.reduceBNe, encDk]
  refine ask (usable_spec d) ?_
  cases hu : Jn.usable d
  · simp -implicitDefEqProofs only [↓aP, aQ, ↓reduceIte, Nat.reduceEqDiff, Nat.reduceAdd, Nat.reduceSub, Nat.reduceMul, Nat.reduceLT, Nat.reduceLeDiff, reduceCtorEq, Nat.reduceBEq, forall_const, implies_true, exists_const, ne_eq, Int.reduceAdd, Int.reduceSub, Int.reduceMul, Int.reduceBEq, Int.reduceEq, Int.reduceLT, Int.reduceLE, Int.reduceToNat, Int.reduceNeg, Int.reduceBNe, Jn.planM, hu, Bool.false_eq_true, false_and, if_false, List.map_nil]
  simp -implicitDefEqProofs only [↓aP, aQ, ↓reduceIte, Nat.reduceEqDiff, Nat.reduceAdd, Nat.reduceSub, Nat.reduceMul, Nat.reduceLT, Nat.reduceLeDiff, reduceCtorEq, Nat.reduceBEq, forall_const, implies_true, exists_const, ne_eq, Int.reduceAdd, Int.reduceSub, Int.reduceMul, Int.reduceBEq, Int.reduceEq, Int.reduceLT, Int.reduceLE, Int.reduceToNat, Int.reduceNeg, Int.reduceBNe]
  refine ask (isPage_spec p) ?_
  cases hp : Jn.isPage p
  · simp -implicitDefEqProofs only [↓aP, aQ, ↓reduceIte, Nat.reduceEqDiff, Nat.reduceAdd, Nat.reduceSub, Nat.reduceMul, Nat.reduceLT, Nat.reduceLeDiff, reduceCtorEq, Nat.reduceBEq, forall_const, implies_true, exists_const, ne_eq, Int.reduceAdd, Int.reduceSub, Int.reduceMul, Int.reduceBEq, Int.reduceEq, Int.reduceLT, Int.reduceLE, Int.reduceToNat, Int.reduceNeg, Int.reduceBNe, Jn.planM, hu, hp, Bool.false_eq_true, false_and, and_false, if_false, List.map_nil]
  simp -implicitDefEqProofs only [↓aP, aQ, ↓reduceIte, Nat.reduceEqDiff, Nat.reduceAdd, Nat.reduceSub, Nat.reduceMul, Nat.reduceLT, Nat.reduceLeDiff, reduceCtorEq, Nat.reduceBEq, forall_const, implies_true, exists_const, ne_eq, Int.reduceAdd, Int.reduceSub, Int.reduceMul, Int.reduceBEq, Int.reduceEq, Int.reduceLT, Int.reduceLE, Int.reduceToNat, Int.reduceNeg, Int.reduceBNe]
  by_cases hs : s.size = 32
  case neg =>
    simp -implicitDefEqProofs only [↓aP, aQ, ↓reduceIte, Nat.reduceEqDiff, Nat.reduceAdd, Nat.reduceSub, Nat.reduceMul, Nat.reduceLT, Nat.reduceLeDiff, reduceCtorEq, Nat.reduceBEq, forall_const, implies_true, exists_const, ne_eq, Int.reduceAdd, Int.reduceSub, Int.reduceMul, Int.reduceBEq, Int.reduceEq, Int.reduceLT, Int.reduceLE, Int.reduceToNat, Int.reduceNeg, Int.reduceBNe, show ((s.size : Int) != 32) = true by simp; omega, Jn.planM, hs, and_false, if_false, List.map_nil]
  have h := Jn.page_iff.1 hp
  have w1 : IntKind.i64.wrap (2 * p + 1 + 1) = 2 * p + 2 := by rw [wrapI (by omega)]; omega
  simp -implicitDefEqProofs only [↓aP, aQ, ↓reduceIte, Nat.reduceEqDiff, Nat.reduceAdd, Nat.reduceSub, Nat.reduceMul, Nat.reduceLT, Nat.reduceLeDiff, reduceCtorEq, Nat.reduceBEq, forall_const, implies_true, exists_const, ne_eq, Int.reduceAdd, Int.reduceSub, Int.reduceMul, Int.reduceBEq, Int.reduceEq, Int.reduceLT, Int.reduceLE, Int.reduceToNat, Int.reduceNeg, Int.reduceBNe, hs]
  refine ⟨by decide +kernel, ?_⟩
  refine ask (write_spec 1 (Jn.lo s)) ?_
  simp -implicitDefEqProofs only [↓aP, aQ, ↓reduceIte, Nat.reduceEqDiff, Nat.reduceAdd, Nat.reduceSub, Nat.reduceMul, Nat.reduceLT, Nat.reduceLeDiff, reduceCtorEq, Nat.reduceBEq, forall_const, implies_true, exists_const, ne_eq, Int.reduceAdd, Int.reduceSub, Int.reduceMul, Int.reduceBEq, Int.reduceEq, Int.reduceLT, Int.reduceLE, Int.reduceToNat, Int.reduceNeg, Int.reduceBNe]
  refine ask (write_spec 2 (Jn.hi s)) ?_
  simp -implicitDefEqProofs only [↓aP, aQ, ↓reduceIte, Nat.reduceEqDiff, Nat.reduceAdd, Nat.reduceSub, Nat.reduceMul, Nat.reduceLT, Nat.reduceLeDiff, reduceCtorEq, Nat.reduceBEq, forall_const, implies_true, exists_const, ne_eq, Int.reduceAdd, Int.reduceSub, Int.reduceMul, Int.reduceBEq, Int.reduceEq, Int.reduceLT, Int.reduceLE, Int.reduceToNat, Int.reduceNeg, Int.reduceBNe]
  refine ask jsync_spec ?_
  simp -implicitDefEqProofs only [↓aP, aQ, ↓reduceIte, Nat.reduceEqDiff, Nat.reduceAdd, Nat.reduceSub, Nat.reduceMul, Nat.reduceLT, Nat.reduceLeDiff, reduceCtorEq, Nat.reduceBEq, forall_const, implies_true, exists_const, ne_eq, Int.reduceAdd, Int.reduceSub, Int.reduceMul, Int.reduceBEq, Int.reduceEq, Int.reduceLT, Int.reduceLE, Int.reduceToNat, Int.reduceNeg, Int.reduceBNe]
  refine ask (head_spec p hp) ?_
  simp -implicitDefEqProofs only [↓aP, aQ, ↓reduceIte, Nat.reduceEqDiff, Nat.reduceAdd, Nat.reduceSub, Nat.reduceMul, Nat.reduceLT, Nat.reduceLeDiff, reduceCtorEq, Nat.reduceBEq, forall_const, implies_true, exists_const, ne_eq, Int.reduceAdd, Int.reduceSub, Int.reduceMul, Int.reduceBEq, Int.reduceEq, Int.reduceLT, Int.reduceLE, Int.reduceToNat, Int.reduceNeg, Int.reduceBNe]
  refine ask (write_spec 0 (Jn.headB p)) ?_
  simp -implicitDefEqProofs only [↓aP, aQ, ↓reduceIte, Nat.reduceEqDiff, Nat.reduceAdd, Nat.reduceSub, Nat.reduceMul, Nat.reduceLT, Nat.reduceLeDiff, reduceCtorEq, Nat.reduceBEq, forall_const, implies_true, exists_const, ne_eq, Int.reduceAdd, Int.reduceSub, Int.reduceMul, Int.reduceBEq, Int.reduceEq, Int.reduceLT, Int.reduceLE, Int.reduceToNat, Int.reduceNeg, Int.reduceBNe]
  refine ask jsync_spec ?_
  simp -implicitDefEqProofs only [↓aP, aQ, ↓reduceIte, Nat.reduceEqDiff, Nat.reduceAdd, Nat.reduceSub, Nat.reduceMul, Nat.reduceLT, Nat.reduceLeDiff, reduceCtorEq, Nat.reduceBEq, forall_const, implies_true, exists_const, ne_eq, Int.reduceAdd, Int.reduceSub, Int.reduceMul, Int.reduceBEq, Int.reduceEq, Int.reduceLT, Int.reduceLE, Int.reduceToNat, Int.reduceNeg, Int.reduceBNe]
  refine ask (home_spec p hp) ?_
  simp -implicitDefEqProofs only [↓aP, aQ, ↓reduceIte, Nat.reduceEqDiff, Nat.reduceAdd, Nat.reduceSub, Nat.reduceMul, Nat.reduceLT, Nat.reduceLeDiff, reduceCtorEq, Nat.reduceBEq, forall_const, implies_true, exists_const, ne_eq, Int.reduceAdd, Int.reduceSub, Int.reduceMul, Int.reduceBEq, Int.reduceEq, Int.reduceLT, Int.reduceLE, Int.reduceToNat, Int.reduceNeg, Int.reduceBNe]
  refine ask (write_spec (2 * p + 1) (Jn.lo s)) ?_
  simp -implicitDefEqProofs only [↓aP, aQ, ↓reduceIte, Nat.reduceEqDiff, Nat.reduceAdd, Nat.reduceSub, Nat.reduceMul, Nat.reduceLT, Nat.reduceLeDiff, reduceCtorEq, Nat.reduceBEq, forall_const, implies_true, exists_const, ne_eq, Int.reduceAdd, Int.reduceSub, Int.reduceMul, Int.reduceBEq, Int.reduceEq, Int.reduceLT, Int.reduceLE, Int.reduceToNat, Int.reduceNeg, Int.reduceBNe]
  refine ask (home_spec p hp) ?_
  simp -implicitDefEqProofs only [↓aP, aQ, ↓reduceIte, Nat.reduceEqDiff, Nat.reduceAdd, Nat.reduceSub, Nat.reduceMul, Nat.reduceLT, Nat.reduceLeDiff, reduceCtorEq, Nat.reduceBEq, forall_const, implies_true, exists_const, ne_eq, Int.reduceAdd, Int.reduceSub, Int.reduceMul, Int.reduceBEq, Int.reduceEq, Int.reduceLT, Int.reduceLE, Int.reduceToNat, Int.reduceNeg, Int.reduceBNe, w1]
  refine ask (write_spec (2 * p + 2) (Jn.hi s)) ?_
  simp -implicitDefEqProofs only [↓aP, aQ, ↓reduceIte, Nat.reduceEqDiff, Nat.reduceAdd, Nat.reduceSub, Nat.reduceMul, Nat.reduceLT, Nat.reduceLeDiff, reduceCtorEq, Nat.reduceBEq, forall_const, implies_true, exists_const, ne_eq, Int.reduceAdd, Int.reduceSub, Int.reduceMul, Int.reduceBEq, Int.reduceEq, Int.reduceLT, Int.reduceLE, Int.reduceToNat, Int.reduceNeg, Int.reduceBNe]
  refine ask jsync_spec ?_
  simp -implicitDefEqProofs only [↓aP, aQ, ↓reduceIte, Nat.reduceEqDiff, Nat.reduceAdd, Nat.reduceSub, Nat.reduceMul, Nat.reduceLT, Nat.reduceLeDiff, reduceCtorEq, Nat.reduceBEq, forall_const, implies_true, exists_const, ne_eq, Int.reduceAdd, Int.reduceSub, Int.reduceMul, Int.reduceBEq, Int.reduceEq, Int.reduceLT, Int.reduceLE, Int.reduceToNat, Int.reduceNeg, Int.reduceBNe]
  refine ask (write_spec 0 noughts) ?_
  simp -implicitDefEqProofs only [↓aP, aQ, ↓reduceIte, Nat.reduceEqDiff, Nat.reduceAdd, Nat.reduceSub, Nat.reduceMul, Nat.reduceLT, Nat.reduceLeDiff, reduceCtorEq, Nat.reduceBEq, forall_const, implies_true, exists_const, ne_eq, Int.reduceAdd, Int.reduceSub, Int.reduceMul, Int.reduceBEq, Int.reduceEq, Int.reduceLT, Int.reduceLE, Int.reduceToNat, Int.reduceNeg, Int.reduceBNe]
  refine ask jsync_spec ?_
  simp -implicitDefEqProofs only [↓aP, aQ, ↓reduceIte, Nat.reduceEqDiff, Nat.reduceAdd, Nat.reduceSub, Nat.reduceMul, Nat.reduceLT, Nat.reduceLeDiff, reduceCtorEq, Nat.reduceBEq, forall_const, implies_true, exists_const, ne_eq, Int.reduceAdd, Int.reduceSub, Int.reduceMul, Int.reduceBEq, Int.reduceEq, Int.reduceLT, Int.reduceLE, Int.reduceToNat, Int.reduceNeg, Int.reduceBNe, encJo, Jn.planM, hu, hp, hs, and_self, if_true, Jn.plan, List.map_cons, List.map_nil]
theorem read_16 {d : Dk} {a : Int} (hr : rightB d = true) (hh : hasB d a = true) : (readD d a).1.size = 16 := by
  obtain ⟨i, rfl, hi⟩ := has_nat hh
  rw [read_ok hr hh]
  have h16 := right_16 hr
  rw [List.all_eq_true] at h16
  cases hl : lookB d.cache (i : Int) with
  | some w =>
    obtain ⟨hm, _⟩ := lookB_mem hl
    have := (fits_has (right_fits hr w hm)).2
    simp only; omega
  | none =>
    have h2 := h16 _ (List.getElem_mem hi)
    unfold len16 at h2
    rw [beq_iff_eq] at h2
    simp only [Int.toNat_natCast, List.getElem?_eq_getElem hi, Option.getD_some]
    omega
theorem usable_right {d : Dk} (h : Jn.usable d = true) : rightB d = true ∧ ∀ a : Int, 0 ≤ a → a < 35 → hasB d a = true := by
  unfold Jn.usable at h
  rw [Bool.and_eq_true, decide_eq_true_iff] at h
  refine ⟨h.1, fun a h0 h1 => ?_⟩
  unfold hasB
  rw [decide_eq_true h0, decide_eq_true (by omega)]; rfl
theorem headed_page {s : ByteArray} {p : Int} (h : Jn.headed s = some p) : Jn.isPage p = true := by
  unfold Jn.headed at h
  split at h
  · rename_i h1
    cases h
    exact h1.1
  · cases h
theorem noughts_eq : noughts = ⟨#[0, 0, 0, 0, 0, 0, 0, 0, 0, 0, 0, 0, 0, 0, 0, 0]⟩ := rfl
theorem repair_spec (d : Dk) : Spec Try.prog 43 [.agg (encDk d)] (.val (rL 3 ((Jn.repairM d).map encJo))) := by
  refine spec_val mixed fn43 (by simp) ?_
  unfold ac43
  simp -implicitDefEqProofs only [↓aP, aQ, ↓reduceIte, Nat.reduceEqDiff, Nat.reduceAdd, Nat.reduceSub, Nat.reduceMul, Nat.reduceLT, Nat.reduceLeDiff, reduceCtorEq, Nat.reduceBEq, forall_const, implies_true, exists_const, ne_eq, Int.reduceAdd, Int.reduceSub, Int.reduceMul, Int.reduceBEq, Int.reduceEq, Int.reduceLT, Int.reduceLE, Int.reduceToNat, Int.reduceNeg, Int.reduceBNe, encDk]
  refine ask (usable_spec d) ?_
  cases hu : Jn.usable d
  · simp -implicitDefEqProofs only [↓aP, aQ, ↓reduceIte, Nat.reduceEqDiff, Nat.reduceAdd, Nat.reduceSub, Nat.reduceMul, Nat.reduceLT, Nat.reduceLeDiff, reduceCtorEq, Nat.reduceBEq, forall_const, implies_true, exists_const, ne_eq, Int.reduceAdd, Int.reduceSub, Int.reduceMul, Int.reduceBEq, Int.reduceEq, Int.reduceLT, Int.reduceLE, Int.reduceToNat, Int.reduceNeg, Int.reduceBNe, Jn.repairM, hu, if_true, List.map_nil]
  obtain ⟨hr, hh⟩ := usable_right hu
  have hs := read_16 hr (hh 0 (by omega) (by omega))
  have eu : ¬ (Jn.usable d = false) := by simp [hu]
  simp -implicitDefEqProofs only [↓aP, aQ, ↓reduceIte, Nat.reduceEqDiff, Nat.reduceAdd, Nat.reduceSub, Nat.reduceMul, Nat.reduceLT, Nat.reduceLeDiff, reduceCtorEq, Nat.reduceBEq, forall_const, implies_true, exists_const, ne_eq, Int.reduceAdd, Int.reduceSub, Int.reduceMul, Int.reduceBEq, Int.reduceEq, Int.reduceLT, Int.reduceLE, Int.reduceToNat, Int.reduceNeg, Int.reduceBNe, encDk]
  refine ask (read_spec d 0) ?_
  by_cases hn : (readD d 0).1 = noughts
  · have e : Jn.repairM d = [] := by unfold Jn.repairM; rw [if_neg eu, if_pos hn]
    simp -implicitDefEqProofs only [↓aP, aQ, ↓reduceIte, Nat.reduceEqDiff, Nat.reduceAdd, Nat.reduceSub, Nat.reduceMul, Nat.reduceLT, Nat.reduceLeDiff, reduceCtorEq, Nat.reduceBEq, forall_const, implies_true, exists_const, ne_eq, Int.reduceAdd, Int.reduceSub, Int.reduceMul, Int.reduceBEq, Int.reduceEq, Int.reduceLT, Int.reduceLE, Int.reduceToNat, Int.reduceNeg, Int.reduceBNe, tl_beq, ← noughts_eq, decide_eq_true hn, e, List.map_nil]
  simp -implicitDefEqProofs only [↓aP, aQ, ↓reduceIte, Nat.reduceEqDiff, Nat.reduceAdd, Nat.reduceSub, Nat.reduceMul, Nat.reduceLT, Nat.reduceLeDiff, reduceCtorEq, Nat.reduceBEq, forall_const, implies_true, exists_const, ne_eq, Int.reduceAdd, Int.reduceSub, Int.reduceMul, Int.reduceBEq, Int.reduceEq, Int.reduceLT, Int.reduceLE, Int.reduceToNat, Int.reduceNeg, Int.reduceBNe, tl_beq, ← noughts_eq, decide_eq_false hn]
  refine ask (headed_spec _ hs) ?_
  cases hd : Jn.headed (readD d 0).1 with
  | none =>
    have e : Jn.repairM d = Jn.clear := by unfold Jn.repairM; rw [if_neg eu, if_neg hn, hd]
    simp -implicitDefEqProofs only [↓aP, aQ, ↓reduceIte, Nat.reduceEqDiff, Nat.reduceAdd, Nat.reduceSub, Nat.reduceMul, Nat.reduceLT, Nat.reduceLeDiff, reduceCtorEq, Nat.reduceBEq, forall_const, implies_true, exists_const, ne_eq, Int.reduceAdd, Int.reduceSub, Int.reduceMul, Int.reduceBEq, Int.reduceEq, Int.reduceLT, Int.reduceLE, Int.reduceToNat, Int.reduceNeg, Int.reduceBNe, Option.getD_none, Option.isSome_none]
    refine ask (write_spec 0 noughts) ?_
    simp -implicitDefEqProofs only [↓aP, aQ, ↓reduceIte, Nat.reduceEqDiff, Nat.reduceAdd, Nat.reduceSub, Nat.reduceMul, Nat.reduceLT, Nat.reduceLeDiff, reduceCtorEq, Nat.reduceBEq, forall_const, implies_true, exists_const, ne_eq, Int.reduceAdd, Int.reduceSub, Int.reduceMul, Int.reduceBEq, Int.reduceEq, Int.reduceLT, Int.reduceLE, Int.reduceToNat, Int.reduceNeg, Int.reduceBNe]
    refine ask jsync_spec ?_
    simp -implicitDefEqProofs only [↓aP, aQ, ↓reduceIte, Nat.reduceEqDiff, Nat.reduceAdd, Nat.reduceSub, Nat.reduceMul, Nat.reduceLT, Nat.reduceLeDiff, reduceCtorEq, Nat.reduceBEq, forall_const, implies_true, exists_const, ne_eq, Int.reduceAdd, Int.reduceSub, Int.reduceMul, Int.reduceBEq, Int.reduceEq, Int.reduceLT, Int.reduceLE, Int.reduceToNat, Int.reduceNeg, Int.reduceBNe, e, Jn.clear, List.map_cons, List.map_nil, encJo]
  | some p =>
    have hp := headed_page hd
    have h := Jn.page_iff.1 hp
    have w1 : IntKind.i64.wrap (2 * p + 1 + 1) = 2 * p + 2 := by rw [wrapI (by omega)]; omega
    have e : Jn.repairM d = Jn.mend d p ++ Jn.clear := by unfold Jn.repairM; rw [if_neg eu, if_neg hn, hd]
    simp -implicitDefEqProofs only [↓aP, aQ, ↓reduceIte, Nat.reduceEqDiff, Nat.reduceAdd, Nat.reduceSub, Nat.reduceMul, Nat.reduceLT, Nat.reduceLeDiff, reduceCtorEq, Nat.reduceBEq, forall_const, implies_true, exists_const, ne_eq, Int.reduceAdd, Int.reduceSub, Int.reduceMul, Int.reduceBEq, Int.reduceEq, Int.reduceLT, Int.reduceLE, Int.reduceToNat, Int.reduceNeg, Int.reduceBNe, Option.getD_some, Option.isSome_some, encDk]
    refine ask (read_spec d 1) ?_
    simp -implicitDefEqProofs only [↓aP, aQ, ↓reduceIte, Nat.reduceEqDiff, Nat.reduceAdd, Nat.reduceSub, Nat.reduceMul, Nat.reduceLT, Nat.reduceLeDiff, reduceCtorEq, Nat.reduceBEq, forall_const, implies_true, exists_const, ne_eq, Int.reduceAdd, Int.reduceSub, Int.reduceMul, Int.reduceBEq, Int.reduceEq, Int.reduceLT, Int.reduceLE, Int.reduceToNat, Int.reduceNeg, Int.reduceBNe, encDk]
    refine ask (read_spec d 2) ?_
    simp -implicitDefEqProofs only [↓aP, aQ, ↓reduceIte, Nat.reduceEqDiff, Nat.reduceAdd, Nat.reduceSub, Nat.reduceMul, Nat.reduceLT, Nat.reduceLeDiff, reduceCtorEq, Nat.reduceBEq, forall_const, implies_true, exists_const, ne_eq, Int.reduceAdd, Int.reduceSub, Int.reduceMul, Int.reduceBEq, Int.reduceEq, Int.reduceLT, Int.reduceLE, Int.reduceToNat, Int.reduceNeg, Int.reduceBNe]
    refine ask (home_spec p hp) ?_
    simp -implicitDefEqProofs only [↓aP, aQ, ↓reduceIte, Nat.reduceEqDiff, Nat.reduceAdd, Nat.reduceSub, Nat.reduceMul, Nat.reduceLT, Nat.reduceLeDiff, reduceCtorEq, Nat.reduceBEq, forall_const, implies_true, exists_const, ne_eq, Int.reduceAdd, Int.reduceSub, Int.reduceMul, Int.reduceBEq, Int.reduceEq, Int.reduceLT, Int.reduceLE, Int.reduceToNat, Int.reduceNeg, Int.reduceBNe]
    refine ask (write_spec (2 * p + 1) (readD d 1).1) ?_
    simp -implicitDefEqProofs only [↓aP, aQ, ↓reduceIte, Nat.reduceEqDiff, Nat.reduceAdd, Nat.reduceSub, Nat.reduceMul, Nat.reduceLT, Nat.reduceLeDiff, reduceCtorEq, Nat.reduceBEq, forall_const, implies_true, exists_const, ne_eq, Int.reduceAdd, Int.reduceSub, Int.reduceMul, Int.reduceBEq, Int.reduceEq, Int.reduceLT, Int.reduceLE, Int.reduceToNat, Int.reduceNeg, Int.reduceBNe]
    refine ask (home_spec p hp) ?_
    simp -implicitDefEqProofs only [↓aP, aQ, ↓reduceIte, Nat.reduceEqDiff, Nat.reduceAdd, Nat.reduceSub, Nat.reduceMul, Nat.reduceLT, Nat.reduceLeDiff, reduceCtorEq, Nat.reduceBEq, forall_const, implies_true, exists_const, ne_eq, Int.reduceAdd, Int.reduceSub, Int.reduceMul, Int.reduceBEq, Int.reduceEq, Int.reduceLT, Int.reduceLE, Int.reduceToNat, Int.reduceNeg, Int.reduceBNe, w1]
    refine ask (write_spec (2 * p + 2) (readD d 2).1) ?_
    simp -implicitDefEqProofs only [↓aP, aQ, ↓reduceIte, Nat.reduceEqDiff, Nat.reduceAdd, Nat.reduceSub, Nat.reduceMul, Nat.reduceLT, Nat.reduceLeDiff, reduceCtorEq, Nat.reduceBEq, forall_const, implies_true, exists_const, ne_eq, Int.reduceAdd, Int.reduceSub, Int.reduceMul, Int.reduceBEq, Int.reduceEq, Int.reduceLT, Int.reduceLE, Int.reduceToNat, Int.reduceNeg, Int.reduceBNe]
    refine ask jsync_spec ?_
    simp -implicitDefEqProofs only [↓aP, aQ, ↓reduceIte, Nat.reduceEqDiff, Nat.reduceAdd, Nat.reduceSub, Nat.reduceMul, Nat.reduceLT, Nat.reduceLeDiff, reduceCtorEq, Nat.reduceBEq, forall_const, implies_true, exists_const, ne_eq, Int.reduceAdd, Int.reduceSub, Int.reduceMul, Int.reduceBEq, Int.reduceEq, Int.reduceLT, Int.reduceLE, Int.reduceToNat, Int.reduceNeg, Int.reduceBNe, encJo, Jn.wr, Jn.sy]
    refine ask (write_spec 0 noughts) ?_
    simp -implicitDefEqProofs only [↓aP, aQ, ↓reduceIte, Nat.reduceEqDiff, Nat.reduceAdd, Nat.reduceSub, Nat.reduceMul, Nat.reduceLT, Nat.reduceLeDiff, reduceCtorEq, Nat.reduceBEq, forall_const, implies_true, exists_const, ne_eq, Int.reduceAdd, Int.reduceSub, Int.reduceMul, Int.reduceBEq, Int.reduceEq, Int.reduceLT, Int.reduceLE, Int.reduceToNat, Int.reduceNeg, Int.reduceBNe]
    refine ask jsync_spec ?_
    simp -implicitDefEqProofs only [↓aP, aQ, ↓reduceIte, Nat.reduceEqDiff, Nat.reduceAdd, Nat.reduceSub, Nat.reduceMul, Nat.reduceLT, Nat.reduceLeDiff, reduceCtorEq, Nat.reduceBEq, forall_const, implies_true, exists_const, ne_eq, Int.reduceAdd, Int.reduceSub, Int.reduceMul, Int.reduceBEq, Int.reduceEq, Int.reduceLT, Int.reduceLE, Int.reduceToNat, Int.reduceNeg, Int.reduceBNe, e, Jn.mend, Jn.clear, List.map_append, List.map_cons, List.map_nil, encJo, Jn.wr, Jn.sy]

theorem run_spec (d : Dk) (l : List Jo) (most : Int) (hl : l.length < 4611686018427387904) : Spec Try.prog 27 [.agg (encDk d), rL 3 (l.map encJo), rI most] (.val (.agg (encDk (Jn.runM d l most)))) := by
  refine spec_val mixed fn27 (by simp) ?_
  unfold ac27
  obtain ⟨k, hk, hkl, hkt⟩ : ∃ k : Nat, max 0 (min most (l.length : Int)) = (k : Int) ∧ k ≤ l.length ∧ l.take most.toNat = l.take k := by
    refine ⟨(max 0 (min most (l.length : Int))).toNat, by omega, by omega, ?_⟩
    by_cases h : most.toNat ≤ l.length
    · rw [show (max 0 (min most (l.length : Int))).toNat = most.toNat by omega]
    · rw [show (max 0 (min most (l.length : Int))).toNat = l.length by omega, List.take_length, List.take_of_length_le (by omega)]
  have hkt2 : (l.take k).length = k := by rw [List.length_take]; omega
  have hrs : ∀ i (hi : i < l.length), Jn.runJ d (l.take (i + 1)) = Jn.stepJ (Jn.runJ d (l.take i)) l[i] := fun i hi => by
    rw [take_snoc hi, Jn.runJ_app]; rfl
  simp -implicitDefEqProofs only [↓aP, aQ, ↓reduceIte, Nat.reduceEqDiff, Nat.reduceAdd, Nat.reduceSub, Nat.reduceMul, Nat.reduceLT, Nat.reduceLeDiff, reduceCtorEq, Nat.reduceBEq, forall_const, implies_true, exists_const, ne_eq, Int.reduceAdd, Int.reduceSub, Int.reduceMul, Int.reduceBEq, Int.reduceEq, Int.reduceLT, Int.reduceLE, Int.reduceToNat, Int.reduceNeg, Int.reduceBNe, encDk, List.length_map, hk]
  refine ⟨by omega, ?_⟩
  refine rangeB k (fun i σ => σ.slot 3 = .c (.ptr 3 1 0 0) ∧ σ.h.gen 3 = 1 ∧ σ.h.blk 3 = .box 25 2 [(encDk (Jn.runJ d (l.take i))).map AC.s] ∧ σ.slot 6 = .c (.ptr 6 1 0 0) ∧ σ.h.gen 6 = 1 ∧ σ.h.blk 6 = .box 25 2 [[.zc, .zc]] ∧ σ.slot 15 = vL 3 ((l.take k).map encJo) ∧ σ.slot 16 = vI k ∧ σ.slot 17 = vI i) ?_ ?_ ?_
  · simp -implicitDefEqProofs only [↓aP, aQ, ↓reduceIte, Nat.reduceEqDiff, Nat.reduceAdd, Nat.reduceSub, Nat.reduceMul, Nat.reduceLT, Nat.reduceLeDiff, reduceCtorEq, Nat.reduceBEq, forall_const, implies_true, exists_const, ne_eq, Int.reduceAdd, Int.reduceSub, Int.reduceMul, Int.reduceBEq, Int.reduceEq, Int.reduceLT, Int.reduceLE, Int.reduceToNat, Int.reduceNeg, Int.reduceBNe, encDk, List.take_zero, Jn.runJ_nil, ← List.map_take, List.length_map, hkt2, show min k l.length = k by omega]
  · rintro i m σ him hi hlt ⟨s3, g3, b3, s6, g6, b6, s15, s16, s17⟩
    have hil : i < l.length := by omega
    have hik : i < (l.take k).length := by omega
    have hgt : (l.take k)[i] = l[i] := List.getElem_take
    have hstep := hrs i hil
    generalize Jn.runJ d (l.take i) = x at b3 hstep
    cases hsy : l[i].sync
    · unfold Jn.stepJ at hstep
      rw [hsy] at hstep
      simp only [Bool.false_eq_true, if_false] at hstep
      simp -implicitDefEqProofs only [↓aP, aQ, ↓reduceIte, Nat.reduceEqDiff, Nat.reduceAdd, Nat.reduceSub, Nat.reduceMul, Nat.reduceLT, Nat.reduceLeDiff, reduceCtorEq, Nat.reduceBEq, forall_const, implies_true, exists_const, ne_eq, Int.reduceAdd, Int.reduceSub, Int.reduceMul, Int.reduceBEq, Int.reduceEq, Int.reduceLT, Int.reduceLE, Int.reduceToNat, Int.reduceNeg, Int.reduceBNe, hlt, s3, g3, b3, s6, g6, b6, s15, s16, s17, askIdx_map, hik, hgt, encJo, hsy, encDk]
      refine ask (by have := put_spec x l[i].w; rw [encWr] at this; exact this) ?_
      simp -implicitDefEqProofs only [↓aP, aQ, ↓reduceIte, Nat.reduceEqDiff, Nat.reduceAdd, Nat.reduceSub, Nat.reduceMul, Nat.reduceLT, Nat.reduceLeDiff, reduceCtorEq, Nat.reduceBEq, forall_const, implies_true, exists_const, ne_eq, Int.reduceAdd, Int.reduceSub, Int.reduceMul, Int.reduceBEq, Int.reduceEq, Int.reduceLT, Int.reduceLE, Int.reduceToNat, Int.reduceNeg, Int.reduceBNe, s3, g3, b3, s6, g6, b6, s15, s16, s17, encDk, wrapS (show i < 4611686018427387904 by omega)]
      refine nextR hi him ?_
      simp -implicitDefEqProofs only [↓aP, aQ, ↓reduceIte, Nat.reduceEqDiff, Nat.reduceAdd, Nat.reduceSub, Nat.reduceMul, Nat.reduceLT, Nat.reduceLeDiff, reduceCtorEq, Nat.reduceBEq, forall_const, implies_true, exists_const, ne_eq, Int.reduceAdd, Int.reduceSub, Int.reduceMul, Int.reduceBEq, Int.reduceEq, Int.reduceLT, Int.reduceLE, Int.reduceToNat, Int.reduceNeg, Int.reduceBNe, s3, g3, b3, s6, g6, b6, s15, s16, s17, hstep, encDk]
    · unfold Jn.stepJ at hstep
      rw [hsy] at hstep
      simp only [if_true] at hstep
      simp -implicitDefEqProofs only [↓aP, aQ, ↓reduceIte, Nat.reduceEqDiff, Nat.reduceAdd, Nat.reduceSub, Nat.reduceMul, Nat.reduceLT, Nat.reduceLeDiff, reduceCtorEq, Nat.reduceBEq, forall_const, implies_true, exists_const, ne_eq, Int.reduceAdd, Int.reduceSub, Int.reduceMul, Int.reduceBEq, Int.reduceEq, Int.reduceLT, Int.reduceLE, Int.reduceToNat, Int.reduceNeg, Int.reduceBNe, hlt, s3, g3, b3, s6, g6, b6, s15, s16, s17, askIdx_map, hik, hgt, encJo, hsy, encDk]
      refine ask (sync_spec x) ?_
      simp -implicitDefEqProofs only [↓aP, aQ, ↓reduceIte, Nat.reduceEqDiff, Nat.reduceAdd, Nat.reduceSub, Nat.reduceMul, Nat.reduceLT, Nat.reduceLeDiff, reduceCtorEq, Nat.reduceBEq, forall_const, implies_true, exists_const, ne_eq, Int.reduceAdd, Int.reduceSub, Int.reduceMul, Int.reduceBEq, Int.reduceEq, Int.reduceLT, Int.reduceLE, Int.reduceToNat, Int.reduceNeg, Int.reduceBNe, s3, g3, b3, s6, g6, b6, s15, s16, s17, encDk, wrapS (show i < 4611686018427387904 by omega)]
      refine nextR hi him ?_
      simp -implicitDefEqProofs only [↓aP, aQ, ↓reduceIte, Nat.reduceEqDiff, Nat.reduceAdd, Nat.reduceSub, Nat.reduceMul, Nat.reduceLT, Nat.reduceLeDiff, reduceCtorEq, Nat.reduceBEq, forall_const, implies_true, exists_const, ne_eq, Int.reduceAdd, Int.reduceSub, Int.reduceMul, Int.reduceBEq, Int.reduceEq, Int.reduceLT, Int.reduceLE, Int.reduceToNat, Int.reduceNeg, Int.reduceBNe, s3, g3, b3, s6, g6, b6, s15, s16, s17, hstep, encDk]
  · rintro m σ hlt ⟨s3, g3, b3, s6, g6, b6, s15, s16, s17⟩
    simp -implicitDefEqProofs only [↓aP, aQ, ↓reduceIte, Nat.reduceEqDiff, Nat.reduceAdd, Nat.reduceSub, Nat.reduceMul, Nat.reduceLT, Nat.reduceLeDiff, reduceCtorEq, Nat.reduceBEq, forall_const, implies_true, exists_const, ne_eq, Int.reduceAdd, Int.reduceSub, Int.reduceMul, Int.reduceBEq, Int.reduceEq, Int.reduceLT, Int.reduceLE, Int.reduceToNat, Int.reduceNeg, Int.reduceBNe, hlt, s3, g3, b3, s6, g6, b6, s15, s16, s17, Jn.runM, hkt, encDk]
theorem plan_le {d : Dk} {p : Int} {s : ByteArray} : (Jn.planM d p s).1.length ≤ 10 := by
  unfold Jn.planM
  split
  · simp [Jn.plan]
  · simp
theorem repair_le {d : Dk} : (Jn.repairM d).length ≤ 5 := by
  unfold Jn.repairM
  split
  · simp
  split
  · simp
  split <;> simp [Jn.mend, Jn.clear]
theorem runM_all {d : Dk} {l : List Jo} : Jn.runM d l l.length = Jn.runJ d l := by
  unfold Jn.runM
  rw [Int.toNat_natCast, List.take_length]
theorem commit_spec (d : Dk) (p : Int) (s : ByteArray) : Spec Try.prog 38 [.agg (encDk d), rI p, rS s] (.val (.tup [(true, encDk (Jn.commitM d p s).1), (false, [.pv (.int .i64 (Jn.commitM d p s).2)])])) := by
  refine spec_val mixed fn38 (by simp) ?_
  unfold ac38
  simp -implicitDefEqProofs only [↓aP, aQ, ↓reduceIte, Nat.reduceEqDiff, Nat.reduceAdd, Nat.reduceSub, Nat.reduceMul, Nat.reduceLT, Nat.reduceLeDiff, reduceCtorEq, Nat.reduceBEq, forall_const, implies_true, exists_const, ne_eq, Int.reduceAdd, Int.reduceSub, Int.reduceMul, Int.reduceBEq, Int.reduceEq, Int.reduceLT, Int.reduceLE, Int.reduceToNat, Int.reduceNeg, Int.reduceBNe, encDk]
  refine ask (plan_spec d p s) ?_
  simp -implicitDefEqProofs only [↓aP, aQ, ↓reduceIte, Nat.reduceEqDiff, Nat.reduceAdd, Nat.reduceSub, Nat.reduceMul, Nat.reduceLT, Nat.reduceLeDiff, reduceCtorEq, Nat.reduceBEq, forall_const, implies_true, exists_const, ne_eq, Int.reduceAdd, Int.reduceSub, Int.reduceMul, Int.reduceBEq, Int.reduceEq, Int.reduceLT, Int.reduceLE, Int.reduceToNat, Int.reduceNeg, Int.reduceBNe, encDk, List.length_map]
  refine ask (run_spec d (Jn.planM d p s).1 ((Jn.planM d p s).1.length : Int) (by have := plan_le (d := d) (p := p) (s := s); omega)) ?_
  simp -implicitDefEqProofs only [↓aP, aQ, ↓reduceIte, Nat.reduceEqDiff, Nat.reduceAdd, Nat.reduceSub, Nat.reduceMul, Nat.reduceLT, Nat.reduceLeDiff, reduceCtorEq, Nat.reduceBEq, forall_const, implies_true, exists_const, ne_eq, Int.reduceAdd, Int.reduceSub, Int.reduceMul, Int.reduceBEq, Int.reduceEq, Int.reduceLT, Int.reduceLE, Int.reduceToNat, Int.reduceNeg, Int.reduceBNe, encDk, runM_all, Jn.commitM]
theorem recover_spec (d : Dk) : Spec Try.prog 25 [.agg (encDk d)] (.val (.agg (encDk (Jn.recoverM d)))) := by
  refine spec_val mixed fn25 (by simp) ?_
  unfold ac25
  simp -implicitDefEqProofs only [↓aP, aQ, ↓reduceIte, Nat.reduceEqDiff, Nat.reduceAdd, Nat.reduceSub, Nat.reduceMul, Nat.reduceLT, Nat.reduceLeDiff, reduceCtorEq, Nat.reduceBEq, forall_const, implies_true, exists_const, ne_eq, Int.reduceAdd, Int.reduceSub, Int.reduceMul, Int.reduceBEq, Int.reduceEq, Int.reduceLT, Int.reduceLE, Int.reduceToNat, Int.reduceNeg, Int.reduceBNe, encDk]
  refine ask (repair_spec d) ?_
  simp -implicitDefEqProofs only [↓aP, aQ, ↓reduceIte, Nat.reduceEqDiff, Nat.reduceAdd, Nat.reduceSub, Nat.reduceMul, Nat.reduceLT, Nat.reduceLeDiff, reduceCtorEq, Nat.reduceBEq, forall_const, implies_true, exists_const, ne_eq, Int.reduceAdd, Int.reduceSub, Int.reduceMul, Int.reduceBEq, Int.reduceEq, Int.reduceLT, Int.reduceLE, Int.reduceToNat, Int.reduceNeg, Int.reduceBNe, encDk, List.length_map]
  refine ask (run_spec d (Jn.repairM d) ((Jn.repairM d).length : Int) (by have := repair_le (d := d); omega)) ?_
  simp -implicitDefEqProofs only [↓aP, aQ, ↓reduceIte, Nat.reduceEqDiff, Nat.reduceAdd, Nat.reduceSub, Nat.reduceMul, Nat.reduceLT, Nat.reduceLeDiff, reduceCtorEq, Nat.reduceBEq, forall_const, implies_true, exists_const, ne_eq, Int.reduceAdd, Int.reduceSub, Int.reduceMul, Int.reduceBEq, Int.reduceEq, Int.reduceLT, Int.reduceLE, Int.reduceToNat, Int.reduceNeg, Int.reduceBNe, encDk, runM_all, Jn.recoverM]
theorem jget_spec (d : Dk) (p : Int) : Spec Try.prog 28 [.agg (encDk d), rI p] (.val (.tup [(false, [.pv (.string (Jn.getM d p).1)]), (false, [.pv (.int .i64 (Jn.getM d p).2)])])) := by
  refine spec_val mixed fn28 (by simp) ?_
  unfold ac28
  simp -implicitDefEqProofs only [↓aP, aQ, ↓reduceIte, Nat.reduceEqDiff, Nat.reduceAdd, Nat.reduceSub, Nat.reduceMul, Nat.reduceLT, Nat.reduceLeDiff, reduceCtorEq, Nat.reduceBEq, forall_const, implies_true, exists_const, ne_eq, Int.reduceAdd, Int.reduceSub, Int.reduceMul, Int.reduceBEq, Int.reduceEq, Int.reduceLT, Int.reduceLE, Int.reduceToNat, Int.reduceNeg, Int.reduceBNe, encDk]
  refine ask (usable_spec d) ?_
  cases hu : Jn.usable d
  · simp -implicitDefEqProofs only [↓aP, aQ, ↓reduceIte, Nat.reduceEqDiff, Nat.reduceAdd, Nat.reduceSub, Nat.reduceMul, Nat.reduceLT, Nat.reduceLeDiff, reduceCtorEq, Nat.reduceBEq, forall_const, implies_true, exists_const, ne_eq, Int.reduceAdd, Int.reduceSub, Int.reduceMul, Int.reduceBEq, Int.reduceEq, Int.reduceLT, Int.reduceLE, Int.reduceToNat, Int.reduceNeg, Int.reduceBNe, Jn.getM, hu, Bool.false_eq_true, false_and, if_false]
  simp -implicitDefEqProofs only [↓aP, aQ, ↓reduceIte, Nat.reduceEqDiff, Nat.reduceAdd, Nat.reduceSub, Nat.reduceMul, Nat.reduceLT, Nat.reduceLeDiff, reduceCtorEq, Nat.reduceBEq, forall_const, implies_true, exists_const, ne_eq, Int.reduceAdd, Int.reduceSub, Int.reduceMul, Int.reduceBEq, Int.reduceEq, Int.reduceLT, Int.reduceLE, Int.reduceToNat, Int.reduceNeg, Int.reduceBNe]
  refine ask (isPage_spec p) ?_
  cases hp : Jn.isPage p
  · simp -implicitDefEqProofs only [↓aP, aQ, ↓reduceIte, Nat.reduceEqDiff, Nat.reduceAdd, Nat.reduceSub, Nat.reduceMul, Nat.reduceLT, Nat.reduceLeDiff, reduceCtorEq, Nat.reduceBEq, forall_const, implies_true, exists_const, ne_eq, Int.reduceAdd, Int.reduceSub, Int.reduceMul, Int.reduceBEq, Int.reduceEq, Int.reduceLT, Int.reduceLE, Int.reduceToNat, Int.reduceNeg, Int.reduceBNe, Jn.getM, hu, hp, Bool.false_eq_true, and_false, if_false]
  have h := Jn.page_iff.1 hp
  have w1 : IntKind.i64.wrap (2 * p + 1 + 1) = 2 * p + 2 := by rw [wrapI (by omega)]; omega
  obtain ⟨hr, hh⟩ := usable_right hu
  have z1 := read_16 hr (hh (2 * p + 1) (by omega) (by omega))
  have z2 := read_16 hr (hh (2 * p + 2) (by omega) (by omega))
  simp -implicitDefEqProofs only [↓aP, aQ, ↓reduceIte, Nat.reduceEqDiff, Nat.reduceAdd, Nat.reduceSub, Nat.reduceMul, Nat.reduceLT, Nat.reduceLeDiff, reduceCtorEq, Nat.reduceBEq, forall_const, implies_true, exists_const, ne_eq, Int.reduceAdd, Int.reduceSub, Int.reduceMul, Int.reduceBEq, Int.reduceEq, Int.reduceLT, Int.reduceLE, Int.reduceToNat, Int.reduceNeg, Int.reduceBNe, encDk]
  refine ask (home_spec p hp) ?_
  simp -implicitDefEqProofs only [↓aP, aQ, ↓reduceIte, Nat.reduceEqDiff, Nat.reduceAdd, Nat.reduceSub, Nat.reduceMul, Nat.reduceLT, Nat.reduceLeDiff, reduceCtorEq, Nat.reduceBEq, forall_const, implies_true, exists_const, ne_eq, Int.reduceAdd, Int.reduceSub, Int.reduceMul, Int.reduceBEq, Int.reduceEq, Int.reduceLT, Int.reduceLE, Int.reduceToNat, Int.reduceNeg, Int.reduceBNe, encDk]
  refine ask (read_spec d (2 * p + 1)) ?_
  simp -implicitDefEqProofs only [↓aP, aQ, ↓reduceIte, Nat.reduceEqDiff, Nat.reduceAdd, Nat.reduceSub, Nat.reduceMul, Nat.reduceLT, Nat.reduceLeDiff, reduceCtorEq, Nat.reduceBEq, forall_const, implies_true, exists_const, ne_eq, Int.reduceAdd, Int.reduceSub, Int.reduceMul, Int.reduceBEq, Int.reduceEq, Int.reduceLT, Int.reduceLE, Int.reduceToNat, Int.reduceNeg, Int.reduceBNe, encDk]
  refine ⟨by decide +kernel, ?_⟩
  refine ask (home_spec p hp) ?_
  simp -implicitDefEqProofs only [↓aP, aQ, ↓reduceIte, Nat.reduceEqDiff, Nat.reduceAdd, Nat.reduceSub, Nat.reduceMul, Nat.reduceLT, Nat.reduceLeDiff, reduceCtorEq, Nat.reduceBEq, forall_const, implies_true, exists_const, ne_eq, Int.reduceAdd, Int.reduceSub, Int.reduceMul, Int.reduceBEq, Int.reduceEq, Int.reduceLT, Int.reduceLE, Int.reduceToNat, Int.reduceNeg, Int.reduceBNe, encDk, w1]
  refine ask (read_spec d (2 * p + 2)) ?_
  simp -implicitDefEqProofs only [↓aP, aQ, ↓reduceIte, Nat.reduceEqDiff, Nat.reduceAdd, Nat.reduceSub, Nat.reduceMul, Nat.reduceLT, Nat.reduceLeDiff, reduceCtorEq, Nat.reduceBEq, forall_const, implies_true, exists_const, ne_eq, Int.reduceAdd, Int.reduceSub, Int.reduceMul, Int.reduceBEq, Int.reduceEq, Int.reduceLT, Int.reduceLE, Int.reduceToNat, Int.reduceNeg, Int.reduceBNe, Jn.getM, hu, hp, and_self, if_true]
  exact ⟨by decide +kernel, by omega⟩
end Go.Proofs.Ytlloeinlfhnegaa
namespace Go.Proofs.Ytlloeinlfhnegaa
set_option linter.unusedVariables false
set_option linter.unusedSimpArgs false
namespace Jn
theorem rd_16 {n : Nat} {s : List ByteArray} {c : List Wr} {i : Int} (hs : Ok n s) (hc : Cok n c) (h1 : 0 ≤ i ∧ i < n) : (rd s c i).size = 16 := by
  unfold rd
  cases hl : lookB c i with
  | some w =>
    obtain ⟨hm, _⟩ := lookB_mem hl
    exact (hc.2 w hm).2.2
  | none =>
    have hi : i.toNat < s.length := by rw [hs.1]; omega
    simp only [List.getElem?_eq_getElem hi, Option.getD_some]
    exact hs.2 _ (List.getElem_mem hi)
section
variable {n : Nat} {s : List ByteArray} {c : List Wr} (hn : 35 ≤ n ∧ n ≤ 64) (hs : Ok n s) (hc : Cok n c)
include hs hc hn in
theorem repair_idle (h0 : rd s c 0 = noughts) : repairM ⟨s, c⟩ = [] := by
  unfold repairM
  rw [if_neg (by simp [usable_ok hn hs hc]), read_rd ⟨by omega, hn.2⟩ hs hc (by omega), if_pos h0]
include hs hc hn in
theorem recover_idle (h0 : rd s c 0 = noughts) : recoverM ⟨s, c⟩ = ⟨s, c⟩ := by
  unfold recoverM
  rw [repair_idle hn hs hc h0]; rfl
include hs hc hn in
theorem repair_mend {p : Int} (h0 : headed (rd s c 0) = some p) (hne : rd s c 0 ≠ noughts) : repairM ⟨s, c⟩ = [wr (2 * p + 1) (rd s c 1), wr (2 * p + 2) (rd s c 2), sy, wr 0 noughts, sy] := by
  have hn1 : 1 ≤ n ∧ n ≤ 64 := ⟨by omega, hn.2⟩
  unfold repairM
  rw [if_neg (by simp [usable_ok hn hs hc]), read_rd hn1 hs hc (by omega), if_neg hne, h0]
  simp only [mend, clear]
  rw [read_rd hn1 hs hc (by omega), read_rd hn1 hs hc (by omega)]; rfl
include hs hc hn in
theorem repair_clear (h0 : headed (rd s c 0) = none) (hne : rd s c 0 ≠ noughts) : repairM ⟨s, c⟩ = [wr 0 noughts, sy] := by
  have hn1 : 1 ≤ n ∧ n ≤ 64 := ⟨by omega, hn.2⟩
  unfold repairM
  rw [if_neg (by simp [usable_ok hn hs hc]), read_rd hn1 hs hc (by omega), if_neg hne, h0]; rfl
include hs hc hn in
theorem recover_mend {p : Int} (hp : 1 ≤ p ∧ p ≤ 16) (hl : c.length ≤ 90) (h0 : headed (rd s c 0) = some p) (hne : rd s c 0 ≠ noughts) :
    recoverM ⟨s, c⟩ = ⟨doneS (doneS s (c ++ [⟨2 * p + 1, rd s c 1⟩] ++ [⟨2 * p + 2, rd s c 2⟩])) [⟨0, noughts⟩], []⟩ ∧ Cok n (c ++ [⟨2 * p + 1, rd s c 1⟩] ++ [⟨2 * p + 2, rd s c 2⟩]) := by
  have hn1 : 1 ≤ n ∧ n ≤ 64 := ⟨by omega, hn.2⟩
  have z1 := rd_16 (i := 1) hs hc (by omega)
  have z2 := rd_16 (i := 2) hs hc (by omega)
  have c1 := cok_snoc (i := 2 * p + 1) (x := rd s c 1) hc (by omega) (by omega) z1
  have c2 := cok_snoc (i := 2 * p + 2) (x := rd s c 2) c1 (by simp; omega) (by omega) z2
  refine ⟨?_, c2⟩
  unfold recoverM
  rw [repair_mend hn hs hc h0 hne]
  have e1 : stepJ ⟨s, c⟩ (wr (2 * p + 1) (rd s c 1)) = ⟨s, c ++ [⟨2 * p + 1, rd s c 1⟩]⟩ := step_w hn1 hs hc (by omega) z1
  have e2 : stepJ ⟨s, c ++ [⟨2 * p + 1, rd s c 1⟩]⟩ (wr (2 * p + 2) (rd s c 2)) = ⟨s, c ++ [⟨2 * p + 1, rd s c 1⟩] ++ [⟨2 * p + 2, rd s c 2⟩]⟩ := step_w hn1 hs c1 (by omega) z2
  have o3 := ok_done hs c2
  simp only [runJ_cons, runJ_nil, e1, e2, step_s hn1 hs c2, step_w hn1 o3 cok_nil (show (0 : Int) ≤ 0 ∧ (0 : Int) < n by omega) size_noughts, List.nil_append, step_s hn1 o3 (cok1 (i := 0) (by omega) size_noughts)]
include hs hc hn in
theorem recover_clear (hl : c.length ≤ 90) (h0 : headed (rd s c 0) = none) (hne : rd s c 0 ≠ noughts) :
    recoverM ⟨s, c⟩ = ⟨doneS s (c ++ [⟨0, noughts⟩]), []⟩ := by
  have hn1 : 1 ≤ n ∧ n ≤ 64 := ⟨by omega, hn.2⟩
  have c1 := cok_snoc (i := 0) hc (by omega) (by omega) size_noughts
  unfold recoverM
  rw [repair_clear hn hs hc h0 hne]
  simp only [runJ_cons, runJ_nil, step_w hn1 hs hc (show (0 : Int) ≤ 0 ∧ (0 : Int) < n by omega) size_noughts, step_s hn1 hs c1]
end
section
variable {n : Nat} {s : List ByteArray} {p : Int} {x : ByteArray} {t : List ByteArray} (hn : 35 ≤ n ∧ n ≤ 64) (hs : Ok n s) (hp : 1 ≤ p ∧ p ≤ 16) (hx : x.size = 32)
theorem headed_b (hp : 1 ≤ p ∧ p ≤ 16) : headed (headB p) = some p := headed_head (page_iff.2 hp)
include hn hp in
/-- Recover ends what was cut off -/
theorem mid_recover (hm : Mid n s p x t) : ∃ t', recoverM ⟨t, []⟩ = ⟨t', []⟩ ∧ Mid n s p x t' ∧ rd t' [] 0 = noughts ∧ (Fin n s p x t → Fin n s p x t') := by
  rcases hm.way with ⟨h0, hw⟩ | ⟨h0, h1, h2⟩
  · exact ⟨t, recover_idle hn hm.ok cok_nil h0, hm, h0, id⟩
  · obtain ⟨e, hc⟩ := recover_mend hn hm.ok cok_nil hp (by simp) (by rw [h0]; exact headed_b hp) (by rw [h0]; exact head_nought)
    rw [h1, h2] at e hc
    simp only [List.nil_append] at e hc
    have o1 := ok_done hm.ok hc
    have c0 : Cok n [⟨0, noughts⟩] := cok1 (by omega) size_noughts
    have r : ∀ i : Int, 0 ≤ i → i < n → rd (doneS (doneS t ([⟨2 * p + 1, lo x⟩] ++ [⟨2 * p + 2, hi x⟩])) [⟨0, noughts⟩]) [] i = if 0 = i then noughts else if 2 * p + 2 = i then hi x else if 2 * p + 1 = i then lo x else rd t [] i := fun i h0 h1 => by
      rw [rd_done o1 c0 ⟨h0, h1⟩, rd1, rd_done hm.ok hc ⟨h0, h1⟩, rd_snoc, rd1]
    have f : Fin n s p x (doneS (doneS t ([⟨2 * p + 1, lo x⟩] ++ [⟨2 * p + 2, hi x⟩])) [⟨0, noughts⟩]) := by
      refine ⟨ok_done o1 c0, fun i h3 h4 h5 h6 => ?_, ?_, ?_, ?_⟩
      · rw [r i (by omega) h4, if_neg (by omega), if_neg (by omega), if_neg (by omega)]; exact hm.rest i h3 h4 h5 h6
      · rw [r 0 (by omega) (by omega)]; rfl
      · rw [r _ (by omega) (by omega), if_neg (by omega), if_neg (by omega), if_pos rfl]
      · rw [r _ (by omega) (by omega), if_neg (by omega), if_pos rfl]
    exact ⟨_, e, f.mid, f.zero, fun _ => f⟩
include hx hn hp in
/-- a recovery that is cut off leaves it as it may be -/
theorem mid_again (hm : Mid n s p x t) (k : Nat) (keeps : List Int) : ∃ t', crashD (runJ ⟨t, []⟩ ((repairM ⟨t, []⟩).take k)) keeps = ⟨t', []⟩ ∧ Mid n s p x t' := by
  have hn1 : 1 ≤ n ∧ n ≤ 64 := ⟨by omega, hn.2⟩
  rcases hm.way with ⟨h0, hw⟩ | ⟨h0, h1, h2⟩
  · rw [repair_idle hn hm.ok cok_nil h0]
    exact ⟨t, by rw [List.take_nil, runJ_nil]; exact crash_nil hn1 hm.ok, hm⟩
  · rw [repair_mend hn hm.ok cok_nil (by rw [h0]; exact headed_b hp) (by rw [h0]; exact head_nought), h1, h2]
    have z1 := size_lo hx
    have z2 := size_hi hx
    have ot := hm.ok
    have c1 : Cok n [⟨2 * p + 1, lo x⟩] := cok1 (by omega) z1
    have c1' : Cok n [⟨2 * p + 2, hi x⟩] := cok1 (by omega) z2
    have c2 : Cok n [⟨2 * p + 1, lo x⟩, ⟨2 * p + 2, hi x⟩] := cok2 (by omega) z1 (by omega) z2
    have c0 : Cok n [⟨0, noughts⟩] := cok1 (by omega) size_noughts
    have o1 := ok_done ot c2
    have e1 : stepJ ⟨t, []⟩ (wr (2 * p + 1) (lo x)) = ⟨t, [⟨2 * p + 1, lo x⟩]⟩ := step_w hn1 ot cok_nil (by omega) z1
    have e2 : stepJ ⟨t, [⟨2 * p + 1, lo x⟩]⟩ (wr (2 * p + 2) (hi x)) = ⟨t, [⟨2 * p + 1, lo x⟩, ⟨2 * p + 2, hi x⟩]⟩ := step_w hn1 ot c1 (by omega) z2
    have e3 := step_s hn1 ot c2
    have e4 : stepJ ⟨doneS t [⟨2 * p + 1, lo x⟩, ⟨2 * p + 2, hi x⟩], []⟩ (wr 0 noughts) = ⟨doneS t [⟨2 * p + 1, lo x⟩, ⟨2 * p + 2, hi x⟩], [⟨0, noughts⟩]⟩ := step_w hn1 o1 cok_nil (by omega) size_noughts
    have e5 := step_s hn1 o1 c0
    have keyB : ∀ u c, Ok n u → Cok n c → (∀ i : Int, 3 ≤ i → i < n → i ≠ 2 * p + 1 → i ≠ 2 * p + 2 → rd u c i = rd s [] i) → rd u c 0 = headB p → rd u c 1 = lo x → rd u c 2 = hi x → Mid n s p x (doneS u c) := by
      intro u c ht hc hr r0 r1 r2
      refine ⟨ok_done ht hc, fun i h3 h4 h5 h6 => by rw [rd_done ht hc (by omega)]; exact hr i (by omega) h4 h5 h6, .inr ⟨?_, ?_, ?_⟩⟩
      · rw [rd_done ht hc (by omega), r0]
      · rw [rd_done ht hc (by omega), r1]
      · rw [rd_done ht hc (by omega), r2]
    have m1 : Mid n s p x (doneS t [⟨2 * p + 1, lo x⟩]) := keyB _ _ ot c1 (fun i h3 h4 h5 h6 => by rw [rd1, if_neg (by omega)]; exact hm.rest i h3 h4 h5 h6) (by rw [rd1, if_neg (by omega), h0]) (by rw [rd1, if_neg (by omega), h1]) (by rw [rd1, if_neg (by omega), h2])
    have m2 : Mid n s p x (doneS t [⟨2 * p + 2, hi x⟩]) := keyB _ _ ot c1' (fun i h3 h4 h5 h6 => by rw [rd1, if_neg (by omega)]; exact hm.rest i h3 h4 h5 h6) (by rw [rd1, if_neg (by omega), h0]) (by rw [rd1, if_neg (by omega), h1]) (by rw [rd1, if_neg (by omega), h2])
    have m3 : Mid n s p x (doneS t [⟨2 * p + 1, lo x⟩, ⟨2 * p + 2, hi x⟩]) := keyB _ _ ot c2 (fun i h3 h4 h5 h6 => by rw [rd2, if_neg (by omega), if_neg (by omega)]; exact hm.rest i h3 h4 h5 h6) (by rw [rd2, if_neg (by omega), if_neg (by omega), h0]) (by rw [rd2, if_neg (by omega), if_neg (by omega), h1]) (by rw [rd2, if_neg (by omega), if_neg (by omega), h2])
    have f4 : Fin n s p x (doneS (doneS t [⟨2 * p + 1, lo x⟩, ⟨2 * p + 2, hi x⟩]) [⟨0, noughts⟩]) := by
      have r : ∀ i : Int, 0 ≤ i → i < n → rd (doneS (doneS t [⟨2 * p + 1, lo x⟩, ⟨2 * p + 2, hi x⟩]) [⟨0, noughts⟩]) [] i = if 0 = i then noughts else if 2 * p + 2 = i then hi x else if 2 * p + 1 = i then lo x else rd t [] i := fun i h0 h1 => by
        rw [rd_done o1 c0 ⟨h0, h1⟩, rd1, rd_done ot c2 ⟨h0, h1⟩, rd2]
      refine ⟨ok_done o1 c0, fun i h3 h4 h5 h6 => ?_, ?_, ?_, ?_⟩
      · rw [r i (by omega) h4, if_neg (by omega), if_neg (by omega), if_neg (by omega)]; exact hm.rest i h3 h4 h5 h6
      · rw [r 0 (by omega) (by omega)]; rfl
      · rw [r _ (by omega) (by omega), if_neg (by omega), if_neg (by omega), if_pos rfl]
      · rw [r _ (by omega) (by omega), if_neg (by omega), if_pos rfl]
    match k with
    | 0 => exact ⟨t, by rw [List.take_zero, runJ_nil]; exact crash_nil hn1 ot, hm⟩
    | 1 =>
      simp only [List.take_succ_cons, List.take_zero, runJ_cons, runJ_nil, e1]
      obtain ⟨ms, hk⟩ := crash_ok (keep := keeps) hn1 ot c1
      refine ⟨_, hk, ?_⟩
      rcases kept1 (w := ⟨2 * p + 1, lo x⟩) (ms := ms) with h | h <;> rw [h]
      · exact hm
      · exact m1
    | 2 =>
      simp only [List.take_succ_cons, List.take_zero, runJ_cons, runJ_nil, e1, e2]
      obtain ⟨ms, hk⟩ := crash_ok (keep := keeps) hn1 ot c2
      refine ⟨_, hk, ?_⟩
      rcases kept2 (v := ⟨2 * p + 1, lo x⟩) (w := ⟨2 * p + 2, hi x⟩) (ms := ms) with h | h | h | h <;> rw [h]
      · exact hm
      · exact m1
      · exact m2
      · exact m3
    | 3 =>
      simp only [List.take_succ_cons, List.take_zero, runJ_cons, runJ_nil, e1, e2, e3]
      exact ⟨_, crash_nil hn1 o1, m3⟩
    | 4 =>
      simp only [List.take_succ_cons, List.take_zero, runJ_cons, runJ_nil, e1, e2, e3, e4]
      obtain ⟨ms, hk⟩ := crash_ok (keep := keeps) hn1 o1 c0
      refine ⟨_, hk, ?_⟩
      rcases kept1 (w := ⟨0, noughts⟩) (ms := ms) with h | h <;> rw [h]
      · exact m3
      · exact f4.mid
    | k + 5 =>
      simp only [List.take_succ_cons, List.take_nil, runJ_cons, runJ_nil, e1, e2, e3, e4, e5]
      exact ⟨_, crash_nil hn1 (ok_done o1 c0), f4.mid⟩
include hs hx hn hp in
theorem s4_fin : Fin n s p x (s4 s p x) := by
  refine ⟨ok4 hn hs hp hx, fun i h1 h2 h3 h4 => by rw [rdS4 hn hs hp hx (by omega), if_neg (by omega), if_neg (by omega), if_neg (by omega), if_neg (by omega), if_neg (by omega)], by rw [rdS4 hn hs hp hx (by omega)]; rfl, ?_, ?_⟩
  · rw [rdS4 hn hs hp hx (by omega), if_neg (by omega), if_neg (by omega), if_pos rfl]
  · rw [rdS4 hn hs hp hx (by omega), if_neg (by omega), if_pos rfl]
end
/-- what a page reads, of sectors on which nothing waits -/
theorem get_sec {n : Nat} {s : List ByteArray} {q : Int} (hn : 35 ≤ n ∧ n ≤ 64) (hs : Ok n s) (hq : 1 ≤ q ∧ q ≤ 16) : getM ⟨s, []⟩ q = (rd s [] (2 * q + 1) ++ rd s [] (2 * q + 2), 0) := get_rd hn hs cok_nil (page_iff.2 hq)
theorem fin_get {n : Nat} {s : List ByteArray} {p : Int} {x : ByteArray} {t : List ByteArray} (hn : 35 ≤ n ∧ n ≤ 64) (hs : Ok n s) (hp : 1 ≤ p ∧ p ≤ 16) (hx : x.size = 32) (hf : Fin n s p x t) (q : Int) (hq : 1 ≤ q ∧ q ≤ 16) : getM ⟨t, []⟩ q = (if q = p then x else (getM ⟨s, []⟩ q).1, 0) := by
  rw [get_sec hn hf.ok hq, get_sec hn hs hq]
  by_cases e : q = p
  · rw [if_pos e, e, hf.page.1, hf.page.2, lo_hi hx]
  · rw [if_neg e, hf.rest _ (by omega) (by omega) (by omega) (by omega), hf.rest _ (by omega) (by omega) (by omega) (by omega)]
theorem mid_get {n : Nat} {s : List ByteArray} {p : Int} {x : ByteArray} {t : List ByteArray} (hn : 35 ≤ n ∧ n ≤ 64) (hs : Ok n s) (hp : 1 ≤ p ∧ p ≤ 16) (hx : x.size = 32) (hm : Mid n s p x t) (h0 : rd t [] 0 = noughts) (q : Int) (hq : 1 ≤ q ∧ q ≤ 16) : ∃ b, getM ⟨t, []⟩ q = (b, 0) ∧ (b = (getM ⟨s, []⟩ q).1 ∨ q = p ∧ b = x) := by
  refine ⟨_, get_sec hn hm.ok hq, ?_⟩
  rw [get_sec hn hs hq]
  by_cases e : q = p
  · subst e
    rcases hm.way with ⟨_, h | h⟩ | ⟨h, _, _⟩
    · left; rw [h.1, h.2]
    · right; rw [h.1, h.2, lo_hi hx]; exact ⟨rfl, rfl⟩
    · rw [h0] at h; exact absurd h.symm head_nought
  · left
    rw [hm.rest _ (by omega) (by omega) (by omega) (by omega), hm.rest _ (by omega) (by omega) (by omega) (by omega)]
/-- a new disk -/
def new35 : List ByteArray := List.replicate 35 noughts
theorem ok_new : Ok 35 new35 := ⟨by simp [new35], fun x hx => by rw [List.eq_of_mem_replicate hx]; rfl⟩
theorem new_eq : newD 35 = (⟨new35, []⟩, 0) := rfl
theorem rd_new {i : Int} (h : 0 ≤ i ∧ i < 35) : rd new35 [] i = noughts := by
  rw [rd_nil]
  unfold new35
  rw [List.getElem?_replicate, if_pos (by omega)]; rfl
end Jn
end Go.Proofs.Ytlloeinlfhnegaa
namespace Go.Proofs.Ytlloeinlfhnegaa
open Go.RowKit
set_option linter.unusedVariables false
set_option linter.unusedSimpArgs false
namespace Jn
theorem h35 : (35 : Nat) ≤ 35 ∧ 35 ≤ 64 := by omega
theorem plan_new {s : List ByteArray} {p : Int} {x : ByteArray} (hs : Ok 35 s) (hp : 1 ≤ p ∧ p ≤ 16) (hx : x.size = 32) : planM ⟨s, []⟩ p x = (plan p x, 0) := by
  unfold planM
  rw [if_pos ⟨usable_ok h35 hs cok_nil, page_iff.2 hp, hx⟩]
theorem run_st {s : List ByteArray} {p : Int} {x : ByteArray} (hs : Ok 35 s) (hp : 1 ≤ p ∧ p ≤ 16) (hx : x.size = 32) (k : Nat) : runM ⟨s, []⟩ (plan p x) (k : Int) = stP s p x k := by
  unfold runM
  rw [Int.toNat_natCast]; exact run_plan h35 hs hp hx k
theorem sync_nil {s : List ByteArray} (hs : Ok 35 s) : syncD ⟨s, []⟩ = ⟨s, []⟩ := by
  unfold syncD
  rw [right_ok (by omega) hs cok_nil]; rfl
end Jn
end Go.Proofs.Ytlloeinlfhnegaa
