/- layer 12: the document's words; for layer 13. -/
import Derived.Test.YtlloeinlfhnegaaYJ
import Derived.Test.YtlloeinlfhnegaaAm19
namespace Go.Proofs.Ytlloeinlfhnegaa
open Go.RowKit
set_option linter.unusedVariables false
set_option linter.unusedSimpArgs false
theorem may12_spec (d : Dk) : Spec Try.prog 18 [.agg (encDk d)] (.val (rB (Jn.usable d))) := by
  refine spec_val mixed fn18 (by simp) ?_
  unfold ac18
  simp -implicitDefEqProofs only [↓aP, aQ, ↓reduceIte, Nat.reduceEqDiff, Nat.reduceAdd, Nat.reduceSub, Nat.reduceMul, Nat.reduceLT, Nat.reduceLeDiff, reduceCtorEq, Nat.reduceBEq, forall_const, implies_true, exists_const, ne_eq, Int.reduceAdd, Int.reduceSub, Int.reduceMul, Int.reduceBEq, Int.reduceEq, Int.reduceLT, Int.reduceLE, Int.reduceToNat, Int.reduceNeg, Int.reduceBNe, encDk]
  refine ask (refRight_spec d) ?_
  cases hr : rightB d
  · simp -implicitDefEqProofs only [↓aP, aQ, ↓reduceIte, Nat.reduceEqDiff, Nat.reduceAdd, Nat.reduceSub, Nat.reduceMul, Nat.reduceLT, Nat.reduceLeDiff, reduceCtorEq, Nat.reduceBEq, forall_const, implies_true, exists_const, ne_eq, Int.reduceAdd, Int.reduceSub, Int.reduceMul, Int.reduceBEq, Int.reduceEq, Int.reduceLT, Int.reduceLE, Int.reduceToNat, Int.reduceNeg, Int.reduceBNe, Jn.usable, hr, Bool.false_and]
  · simp -implicitDefEqProofs only [↓aP, aQ, ↓reduceIte, Nat.reduceEqDiff, Nat.reduceAdd, Nat.reduceSub, Nat.reduceMul, Nat.reduceLT, Nat.reduceLeDiff, reduceCtorEq, Nat.reduceBEq, forall_const, implies_true, exists_const, ne_eq, Int.reduceAdd, Int.reduceSub, Int.reduceMul, Int.reduceBEq, Int.reduceEq, Int.reduceLT, Int.reduceLE, Int.reduceToNat, Int.reduceNeg, Int.reduceBNe, Jn.usable, hr, Bool.true_and, encDk, List.length_map]
    rw [decide_eq_decide]; omega
theorem at_spec (n : Int) (s : ByteArray) : Spec Try.prog 55 [rI n, rS s] (.val (.agg (encJo (Jn.wr n s)))) := by
  refine spec_val mixed fn55 (by simp) ?_
  unfold ac55
  simp -implicitDefEqProofs only [↓aP, aQ, ↓reduceIte, Nat.reduceEqDiff, Nat.reduceAdd, Nat.reduceSub, Nat.reduceMul, Nat.reduceLT, Nat.reduceLeDiff, reduceCtorEq, Nat.reduceBEq, forall_const, implies_true, exists_const, ne_eq, Int.reduceAdd, Int.reduceSub, Int.reduceMul, Int.reduceBEq, Int.reduceEq, Int.reduceLT, Int.reduceLE, Int.reduceToNat, Int.reduceNeg, Int.reduceBNe, encJo, Jn.wr]
def pad (s : ByteArray) : Nat → ByteArray
  | 0 => s
  | k + 1 => pad s k ++ strOfNums [0]
theorem pad_size (s : ByteArray) : ∀ k, (pad s k).size = s.size + k
  | 0 => rfl
  | k + 1 => by rw [pad, ByteArray.size_append, pad_size s k]; rfl
theorem filled_spec (s : ByteArray) (hs : s.size ≤ 16) : Spec Try.prog 56 [rS s] (.val (rS (pad s (16 - s.size)))) := by
  refine spec_val mixed fn56 (by simp) ?_
  unfold ac56
  simp -implicitDefEqProofs only [↓aP, aQ, ↓reduceIte, Nat.reduceEqDiff, Nat.reduceAdd, Nat.reduceSub, Nat.reduceMul, Nat.reduceLT, Nat.reduceLeDiff, reduceCtorEq, Nat.reduceBEq, forall_const, implies_true, exists_const, ne_eq, Int.reduceAdd, Int.reduceSub, Int.reduceMul, Int.reduceBEq, Int.reduceEq, Int.reduceLT, Int.reduceLE, Int.reduceToNat, Int.reduceNeg, Int.reduceBNe]
  refine loopA (fun m σ => ∃ k, k + m = 16 - s.size ∧ σ.slot 0 = .c (.s (.pv (.string (pad s k))))) (16 - s.size) ⟨0, by omega, ?_⟩ ?_
  · simp -implicitDefEqProofs only [↓aP, aQ, ↓reduceIte, Nat.reduceEqDiff, Nat.reduceAdd, Nat.reduceSub, Nat.reduceMul, Nat.reduceLT, Nat.reduceLeDiff, reduceCtorEq, Nat.reduceBEq, forall_const, implies_true, exists_const, ne_eq, Int.reduceAdd, Int.reduceSub, Int.reduceMul, Int.reduceBEq, Int.reduceEq, Int.reduceLT, Int.reduceLE, Int.reduceToNat, Int.reduceNeg, Int.reduceBNe]
    rfl
  · rintro m σ ⟨k, hk, s0⟩
    have hz := pad_size s k
    by_cases hm : m = 0
    · subst hm
      simp -implicitDefEqProofs only [↓aP, aQ, ↓reduceIte, Nat.reduceEqDiff, Nat.reduceAdd, Nat.reduceSub, Nat.reduceMul, Nat.reduceLT, Nat.reduceLeDiff, reduceCtorEq, Nat.reduceBEq, forall_const, implies_true, exists_const, ne_eq, Int.reduceAdd, Int.reduceSub, Int.reduceMul, Int.reduceBEq, Int.reduceEq, Int.reduceLT, Int.reduceLE, Int.reduceToNat, Int.reduceNeg, Int.reduceBNe, s0, show decide (((pad s k).size : Int) < 16) = false by simp; omega, show 16 - s.size = k by omega]
    · simp -implicitDefEqProofs only [↓aP, aQ, ↓reduceIte, Nat.reduceEqDiff, Nat.reduceAdd, Nat.reduceSub, Nat.reduceMul, Nat.reduceLT, Nat.reduceLeDiff, reduceCtorEq, Nat.reduceBEq, forall_const, implies_true, exists_const, ne_eq, Int.reduceAdd, Int.reduceSub, Int.reduceMul, Int.reduceBEq, Int.reduceEq, Int.reduceLT, Int.reduceLE, Int.reduceToNat, Int.reduceNeg, Int.reduceBNe, s0, show decide (((pad s k).size : Int) < 16) = true by simp; omega]
      have hz1 : (strOfNums [0]).size = 1 := rfl
      exact ⟨by omega, m - 1, by omega, k + 1, by omega, rfl⟩
theorem pad_head (p : Int) (hp : Jn.isPage p = true) : pad (strOfNums [74, IntKind.u8.wrap p]) 14 = Jn.headB p := by
  have h := Jn.page_iff.1 hp
  obtain ⟨q, rfl⟩ : ∃ q : Nat, p = q := ⟨p.toNat, by omega⟩
  have hc : q = 1 ∨ q = 2 ∨ q = 3 ∨ q = 4 ∨ q = 5 ∨ q = 6 ∨ q = 7 ∨ q = 8 ∨ q = 9 ∨ q = 10 ∨ q = 11 ∨ q = 12 ∨ q = 13 ∨ q = 14 ∨ q = 15 ∨ q = 16 := by omega
  rcases hc with rfl | rfl | rfl | rfl | rfl | rfl | rfl | rfl | rfl | rfl | rfl | rfl | rfl | rfl | rfl | rfl <;> rfl
theorem pad_nought : pad ⟨#[]⟩ 16 = noughts := rfl
theorem filled_head (p : Int) (hp : Jn.isPage p = true) : Spec Try.prog 56 [rS (strOfNums [74, IntKind.u8.wrap p])] (.val (rS (Jn.headB p))) := by
  have := filled_spec (strOfNums [74, IntKind.u8.wrap p]) (by show 2 ≤ 16; omega)
  rwa [show 16 - (strOfNums [74, IntKind.u8.wrap p]).size = 14 from rfl, pad_head p hp] at this
theorem filled_nought : Spec Try.prog 56 [rS ⟨#[]⟩] (.val (rS noughts)) := by
  have := filled_spec ⟨#[]⟩ (by show 0 ≤ 16; omega)
  rwa [show 16 - (⟨#[]⟩ : ByteArray).size = 16 from rfl, pad_nought] at this
theorem rPlan_spec (p : Int) (s : ByteArray) (hp : Jn.isPage p = true) (hs : s.size = 32) : Spec Try.prog 32 [rI p, rS s] (.val (rL 3 ((Jn.plan p s).map encJo))) := by
  refine spec_val mixed fn32 (by simp) ?_
  unfold ac32
  have h := Jn.page_iff.1 hp
  simp -implicitDefEqProofs only [↓aP, aQ, ↓reduceIte, Nat.reduceEqDiff, Nat.reduceAdd, Nat.reduceSub, Nat.reduceMul, Nat.reduceLT, Nat.reduceLeDiff, reduceCtorEq, Nat.reduceBEq, forall_const, implies_true, exists_const, ne_eq, Int.reduceAdd, Int.reduceSub, Int.reduceMul, Int.reduceBEq, Int.reduceEq, Int.reduceLT, Int.reduceLE, Int.reduceToNat, Int.reduceNeg, Int.reduceBNe, hs, show IntKind.i64.wrap (2 * p) = 2 * p from wrapI (by omega), show IntKind.i64.wrap (2 * p + 1) = 2 * p + 1 from wrapI (by omega)]
  refine ⟨by decide +kernel, ?_⟩
  refine ask (at_spec 1 (Jn.lo s)) ?_
  simp -implicitDefEqProofs only [↓aP, aQ, ↓reduceIte, Nat.reduceEqDiff, Nat.reduceAdd, Nat.reduceSub, Nat.reduceMul, Nat.reduceLT, Nat.reduceLeDiff, reduceCtorEq, Nat.reduceBEq, forall_const, implies_true, exists_const, ne_eq, Int.reduceAdd, Int.reduceSub, Int.reduceMul, Int.reduceBEq, Int.reduceEq, Int.reduceLT, Int.reduceLE, Int.reduceToNat, Int.reduceNeg, Int.reduceBNe]
  refine ask (at_spec 2 (Jn.hi s)) ?_
  simp -implicitDefEqProofs only [↓aP, aQ, ↓reduceIte, Nat.reduceEqDiff, Nat.reduceAdd, Nat.reduceSub, Nat.reduceMul, Nat.reduceLT, Nat.reduceLeDiff, reduceCtorEq, Nat.reduceBEq, forall_const, implies_true, exists_const, ne_eq, Int.reduceAdd, Int.reduceSub, Int.reduceMul, Int.reduceBEq, Int.reduceEq, Int.reduceLT, Int.reduceLE, Int.reduceToNat, Int.reduceNeg, Int.reduceBNe]
  refine ask (filled_head p hp) ?_
  simp -implicitDefEqProofs only [↓aP, aQ, ↓reduceIte, Nat.reduceEqDiff, Nat.reduceAdd, Nat.reduceSub, Nat.reduceMul, Nat.reduceLT, Nat.reduceLeDiff, reduceCtorEq, Nat.reduceBEq, forall_const, implies_true, exists_const, ne_eq, Int.reduceAdd, Int.reduceSub, Int.reduceMul, Int.reduceBEq, Int.reduceEq, Int.reduceLT, Int.reduceLE, Int.reduceToNat, Int.reduceNeg, Int.reduceBNe]
  refine ask (at_spec 0 (Jn.headB p)) ?_
  simp -implicitDefEqProofs only [↓aP, aQ, ↓reduceIte, Nat.reduceEqDiff, Nat.reduceAdd, Nat.reduceSub, Nat.reduceMul, Nat.reduceLT, Nat.reduceLeDiff, reduceCtorEq, Nat.reduceBEq, forall_const, implies_true, exists_const, ne_eq, Int.reduceAdd, Int.reduceSub, Int.reduceMul, Int.reduceBEq, Int.reduceEq, Int.reduceLT, Int.reduceLE, Int.reduceToNat, Int.reduceNeg, Int.reduceBNe]
  refine ask (at_spec (2 * p + 1) (Jn.lo s)) ?_
  simp -implicitDefEqProofs only [↓aP, aQ, ↓reduceIte, Nat.reduceEqDiff, Nat.reduceAdd, Nat.reduceSub, Nat.reduceMul, Nat.reduceLT, Nat.reduceLeDiff, reduceCtorEq, Nat.reduceBEq, forall_const, implies_true, exists_const, ne_eq, Int.reduceAdd, Int.reduceSub, Int.reduceMul, Int.reduceBEq, Int.reduceEq, Int.reduceLT, Int.reduceLE, Int.reduceToNat, Int.reduceNeg, Int.reduceBNe, show IntKind.i64.wrap (2 * p + 1 + 1) = 2 * p + 2 by rw [wrapI (by omega)]; omega]
  refine ask (at_spec (2 * p + 2) (Jn.hi s)) ?_
  simp -implicitDefEqProofs only [↓aP, aQ, ↓reduceIte, Nat.reduceEqDiff, Nat.reduceAdd, Nat.reduceSub, Nat.reduceMul, Nat.reduceLT, Nat.reduceLeDiff, reduceCtorEq, Nat.reduceBEq, forall_const, implies_true, exists_const, ne_eq, Int.reduceAdd, Int.reduceSub, Int.reduceMul, Int.reduceBEq, Int.reduceEq, Int.reduceLT, Int.reduceLE, Int.reduceToNat, Int.reduceNeg, Int.reduceBNe]
  refine ask filled_nought ?_
  simp -implicitDefEqProofs only [↓aP, aQ, ↓reduceIte, Nat.reduceEqDiff, Nat.reduceAdd, Nat.reduceSub, Nat.reduceMul, Nat.reduceLT, Nat.reduceLeDiff, reduceCtorEq, Nat.reduceBEq, forall_const, implies_true, exists_const, ne_eq, Int.reduceAdd, Int.reduceSub, Int.reduceMul, Int.reduceBEq, Int.reduceEq, Int.reduceLT, Int.reduceLE, Int.reduceToNat, Int.reduceNeg, Int.reduceBNe]
  refine ask (at_spec 0 noughts) ?_
  simp -implicitDefEqProofs only [↓aP, aQ, ↓reduceIte, Nat.reduceEqDiff, Nat.reduceAdd, Nat.reduceSub, Nat.reduceMul, Nat.reduceLT, Nat.reduceLeDiff, reduceCtorEq, Nat.reduceBEq, forall_const, implies_true, exists_const, ne_eq, Int.reduceAdd, Int.reduceSub, Int.reduceMul, Int.reduceBEq, Int.reduceEq, Int.reduceLT, Int.reduceLE, Int.reduceToNat, Int.reduceNeg, Int.reduceBNe, encJo, Jn.plan, Jn.sy, List.map_cons, List.map_nil]
  decide +kernel
theorem rGet_spec (d : Dk) (p : Int) (hu : Jn.usable d = true) (hp : Jn.isPage p = true) : Spec Try.prog 31 [.agg (encDk d), rI p] (.val (rS (Jn.getM d p).1)) := by
  refine spec_val mixed fn31 (by simp) ?_
  unfold ac31
  have h := Jn.page_iff.1 hp
  obtain ⟨hr, hh⟩ := usable_right hu
  have z1 := read_16 hr (hh (2 * p + 1) (by omega) (by omega))
  have z2 := read_16 hr (hh (2 * p + 2) (by omega) (by omega))
  simp -implicitDefEqProofs only [↓aP, aQ, ↓reduceIte, Nat.reduceEqDiff, Nat.reduceAdd, Nat.reduceSub, Nat.reduceMul, Nat.reduceLT, Nat.reduceLeDiff, reduceCtorEq, Nat.reduceBEq, forall_const, implies_true, exists_const, ne_eq, Int.reduceAdd, Int.reduceSub, Int.reduceMul, Int.reduceBEq, Int.reduceEq, Int.reduceLT, Int.reduceLE, Int.reduceToNat, Int.reduceNeg, Int.reduceBNe, encDk, show IntKind.i64.wrap (2 * p) = 2 * p from wrapI (by omega), show IntKind.i64.wrap (2 * p + 1) = 2 * p + 1 from wrapI (by omega), show IntKind.i64.wrap (2 * p + 2) = 2 * p + 2 from wrapI (by omega)]
  refine ask (refRead_spec d (2 * p + 1) hr (hh _ (by omega) (by omega))) ?_
  simp -implicitDefEqProofs only [↓aP, aQ, ↓reduceIte, Nat.reduceEqDiff, Nat.reduceAdd, Nat.reduceSub, Nat.reduceMul, Nat.reduceLT, Nat.reduceLeDiff, reduceCtorEq, Nat.reduceBEq, forall_const, implies_true, exists_const, ne_eq, Int.reduceAdd, Int.reduceSub, Int.reduceMul, Int.reduceBEq, Int.reduceEq, Int.reduceLT, Int.reduceLE, Int.reduceToNat, Int.reduceNeg, Int.reduceBNe, encDk, show IntKind.i64.wrap (2 * p) = 2 * p from wrapI (by omega), show IntKind.i64.wrap (2 * p + 2) = 2 * p + 2 from wrapI (by omega)]
  refine ask (refRead_spec d (2 * p + 2) hr (hh _ (by omega) (by omega))) ?_
  simp -implicitDefEqProofs only [↓aP, aQ, ↓reduceIte, Nat.reduceEqDiff, Nat.reduceAdd, Nat.reduceSub, Nat.reduceMul, Nat.reduceLT, Nat.reduceLeDiff, reduceCtorEq, Nat.reduceBEq, forall_const, implies_true, exists_const, ne_eq, Int.reduceAdd, Int.reduceSub, Int.reduceMul, Int.reduceBEq, Int.reduceEq, Int.reduceLT, Int.reduceLE, Int.reduceToNat, Int.reduceNeg, Int.reduceBNe, Jn.getM, hu, hp, and_self, if_true]
  exact ⟨by omega, by decide +kernel⟩
theorem fields_jo : Try.prog.underlying 70 = some (.struct (Try.prog.fieldsOf 70)) := by kernel_rfl
theorem held_jo : Try.prog.stoodInHeld 70 = false := by kernel_rfl
theorem fieldsL_jo : ((Try.prog.fieldsOf 70).toList.map fun f => (f.type, f.offset)) = [(4, 0), (60, 1)] := by kernel_rfl
set_option maxRecDepth 100000 in
theorem eq_jo (x : Jo) : EqRun Try.prog 70 [.bool x.sync, .int .i64 x.w.at_, .string x.w.data] [.bool x.sync, .int .i64 x.w.at_, .string x.w.data] true := by
  intro w
  rw [run_eql_struct, run_equalIn_agg w 9999 _ _ _ fields_jo held_jo]
  go_simp
  all_goals (trace_state; sorry)
theorem rSame12_spec (l : List Jo) (hl : l.length < 4611686018427387904) : Spec Try.prog 14 [rL 3 (l.map encJo), rL 3 (l.map encJo)] (.val (rB true)) := by
  refine spec_val mixed fn14 (by simp) ?_
  unfold ac14
  simp -implicitDefEqProofs only [↓aP, aQ, ↓reduceIte, Nat.reduceEqDiff, Nat.reduceAdd, Nat.reduceSub, Nat.reduceMul, Nat.reduceLT, Nat.reduceLeDiff, reduceCtorEq, Nat.reduceBEq, forall_const, implies_true, exists_const, ne_eq, Int.reduceAdd, Int.reduceSub, Int.reduceMul, Int.reduceBEq, Int.reduceEq, Int.reduceLT, Int.reduceLE, Int.reduceToNat, Int.reduceNeg, Int.reduceBNe, bne_self_eq_false]
  refine rangeB l.length (fun i σ => σ.slot 0 = vL 3 (l.map encJo) ∧ σ.slot 1 = vL 3 (l.map encJo) ∧ σ.slot 5 = vI i) ?_ ?_ ?_
  · simp -implicitDefEqProofs only [↓aP, aQ, ↓reduceIte, Nat.reduceEqDiff, Nat.reduceAdd, Nat.reduceSub, Nat.reduceMul, Nat.reduceLT, Nat.reduceLeDiff, reduceCtorEq, Nat.reduceBEq, forall_const, implies_true, exists_const, ne_eq, Int.reduceAdd, Int.reduceSub, Int.reduceMul, Int.reduceBEq, Int.reduceEq, Int.reduceLT, Int.reduceLE, Int.reduceToNat, Int.reduceNeg, Int.reduceBNe]
  · rintro i m σ him hi hlt ⟨s0, s1, s5⟩
    simp -implicitDefEqProofs only [↓aP, aQ, ↓reduceIte, Nat.reduceEqDiff, Nat.reduceAdd, Nat.reduceSub, Nat.reduceMul, Nat.reduceLT, Nat.reduceLeDiff, reduceCtorEq, Nat.reduceBEq, forall_const, implies_true, exists_const, ne_eq, Int.reduceAdd, Int.reduceSub, Int.reduceMul, Int.reduceBEq, Int.reduceEq, Int.reduceLT, Int.reduceLE, Int.reduceToNat, Int.reduceNeg, Int.reduceBNe, hlt, s0, s1, s5, askIdx_map, hi, encJo, List.length_map]
    refine askEq (eq_jo l[i]) ?_
    simp -implicitDefEqProofs only [↓aP, aQ, ↓reduceIte, Nat.reduceEqDiff, Nat.reduceAdd, Nat.reduceSub, Nat.reduceMul, Nat.reduceLT, Nat.reduceLeDiff, reduceCtorEq, Nat.reduceBEq, forall_const, implies_true, exists_const, ne_eq, Int.reduceAdd, Int.reduceSub, Int.reduceMul, Int.reduceBEq, Int.reduceEq, Int.reduceLT, Int.reduceLE, Int.reduceToNat, Int.reduceNeg, Int.reduceBNe, s0, s1, s5, wrapS (show i < 4611686018427387904 by omega)]
    refine ⟨by decide +kernel, ?_⟩
    refine nextR hi him ?_
    simp -implicitDefEqProofs only [↓aP, aQ, ↓reduceIte, Nat.reduceEqDiff, Nat.reduceAdd, Nat.reduceSub, Nat.reduceMul, Nat.reduceLT, Nat.reduceLeDiff, reduceCtorEq, Nat.reduceBEq, forall_const, implies_true, exists_const, ne_eq, Int.reduceAdd, Int.reduceSub, Int.reduceMul, Int.reduceBEq, Int.reduceEq, Int.reduceLT, Int.reduceLE, Int.reduceToNat, Int.reduceNeg, Int.reduceBNe, s0, s1, s5]
  · rintro m σ hlt ⟨s0, s1, s5⟩
    simp -implicitDefEqProofs only [↓aP, aQ, ↓reduceIte, Nat.reduceEqDiff, Nat.reduceAdd, Nat.reduceSub, Nat.reduceMul, Nat.reduceLT, Nat.reduceLeDiff, reduceCtorEq, Nat.reduceBEq, forall_const, implies_true, exists_const, ne_eq, Int.reduceAdd, Int.reduceSub, Int.reduceMul, Int.reduceBEq, Int.reduceEq, Int.reduceLT, Int.reduceLE, Int.reduceToNat, Int.reduceNeg, Int.reduceBNe, hlt, s0, s1, s5, List.length_map]

theorem refs12_spec (l : List Jo) (hl : l.length ≤ 1000000) : Spec Try.prog 15 [rL 3 (l.map encJo)] (.val (rL 3 (l.map encJo))) := by
  refine spec_val mixed fn15 (by simp) ?_
  unfold ac15
  simp -implicitDefEqProofs only [↓aP, aQ, ↓reduceIte, Nat.reduceEqDiff, Nat.reduceAdd, Nat.reduceSub, Nat.reduceMul, Nat.reduceLT, Nat.reduceLeDiff, reduceCtorEq, Nat.reduceBEq, forall_const, implies_true, exists_const, ne_eq, Int.reduceAdd, Int.reduceSub, Int.reduceMul, Int.reduceBEq, Int.reduceEq, Int.reduceLT, Int.reduceLE, Int.reduceToNat, Int.reduceNeg, Int.reduceBNe]
  refine shift (sub_slot (s := 3) 15 70 3 rfl (by exact Nat.succ_pos _)) ?_
  refine rangeB l.length (fun i σ => ∃ g, σ.slot 3 = .c (.own 15 g) ∧ σ.h.gen 15 = g ∧ σ.h.blk 15 = .row 70 3 ((l.take i).map encJo) ∧ σ.slot 6 = vL 3 (l.map encJo) ∧ σ.slot 7 = vI l.length ∧ σ.slot 8 = vI i) ?_ ?_ ?_
  · simp -implicitDefEqProofs only [↓aP, aQ, ↓reduceIte, Nat.reduceEqDiff, Nat.reduceAdd, Nat.reduceSub, Nat.reduceMul, Nat.reduceLT, Nat.reduceLeDiff, reduceCtorEq, Nat.reduceBEq, forall_const, implies_true, exists_const, ne_eq, Int.reduceAdd, Int.reduceSub, Int.reduceMul, Int.reduceBEq, Int.reduceEq, Int.reduceLT, Int.reduceLE, Int.reduceToNat, Int.reduceNeg, Int.reduceBNe, List.take_zero, List.map_nil, List.length_map]
    simp
  · rintro i m σ him hi hlt ⟨g, s3, g15, b15, s6, s7, s8⟩
    simp -implicitDefEqProofs only [↓aP, aQ, ↓reduceIte, Nat.reduceEqDiff, Nat.reduceAdd, Nat.reduceSub, Nat.reduceMul, Nat.reduceLT, Nat.reduceLeDiff, reduceCtorEq, Nat.reduceBEq, forall_const, implies_true, exists_const, ne_eq, Int.reduceAdd, Int.reduceSub, Int.reduceMul, Int.reduceBEq, Int.reduceEq, Int.reduceLT, Int.reduceLE, Int.reduceToNat, Int.reduceNeg, Int.reduceBNe, hlt, s3, g15, b15, s6, s7, s8, askIdx_map, hi, encJo, List.length_map, List.length_take, wrapS (show i < 4611686018427387904 by omega)]
    refine ⟨by omega, by omega, ?_⟩
    refine nextR hi him ⟨g + 1, ?_⟩
    simp -implicitDefEqProofs only [↓aP, aQ, ↓reduceIte, Nat.reduceEqDiff, Nat.reduceAdd, Nat.reduceSub, Nat.reduceMul, Nat.reduceLT, Nat.reduceLeDiff, reduceCtorEq, Nat.reduceBEq, forall_const, implies_true, exists_const, ne_eq, Int.reduceAdd, Int.reduceSub, Int.reduceMul, Int.reduceBEq, Int.reduceEq, Int.reduceLT, Int.reduceLE, Int.reduceToNat, Int.reduceNeg, Int.reduceBNe, s3, g15, b15, s6, s7, s8, take_snoc hi, List.map_append, List.map_cons, List.map_nil, encJo]
  · rintro m σ hlt ⟨g, s3, g15, b15, s6, s7, s8⟩
    rw [List.take_length] at b15
    simp -implicitDefEqProofs only [↓aP, aQ, ↓reduceIte, Nat.reduceEqDiff, Nat.reduceAdd, Nat.reduceSub, Nat.reduceMul, Nat.reduceLT, Nat.reduceLeDiff, reduceCtorEq, Nat.reduceBEq, forall_const, implies_true, exists_const, ne_eq, Int.reduceAdd, Int.reduceSub, Int.reduceMul, Int.reduceBEq, Int.reduceEq, Int.reduceLT, Int.reduceLE, Int.reduceToNat, Int.reduceNeg, Int.reduceBNe, hlt, s3, g15, b15, s6, s7, s8]


set_option maxRecDepth 100000 in
set_option maxHeartbeats 4000000 in
theorem rRun_spec (d : Dk) (l : List Jo) (hl : l.length ≤ 99) : Spec Try.prog 21 [.agg (encDk d), rL 3 (l.map encJo), rI 99] (.val (.agg (encDk (Jn.runJ d l)))) := by
  refine spec_val mixed fn21 (by simp) ?_
  unfold ac21
  have hrs : ∀ i (hi : i < l.length), Jn.runJ d (l.take (i + 1)) = Jn.stepJ (Jn.runJ d (l.take i)) l[i] := fun i hi => by
    rw [take_snoc hi, Jn.runJ_app]; rfl
  simp -implicitDefEqProofs only [↓aP, aQ, ↓reduceIte, Nat.reduceEqDiff, Nat.reduceAdd, Nat.reduceSub, Nat.reduceMul, Nat.reduceLT, Nat.reduceLeDiff, reduceCtorEq, Nat.reduceBEq, forall_const, implies_true, exists_const, ne_eq, Int.reduceAdd, Int.reduceSub, Int.reduceMul, Int.reduceBEq, Int.reduceEq, Int.reduceLT, Int.reduceLE, Int.reduceToNat, Int.reduceNeg, Int.reduceBNe, encDk]
  refine loopA (fun m σ => ∃ i : Nat, i + m = l.length ∧ σ.slot 1 = vL 3 (l.map encJo) ∧ σ.slot 2 = vI 99 ∧ σ.slot 3 = .c (.ptr 3 1 0 0) ∧ σ.h.gen 3 = 1 ∧ σ.slot 6 = .c (.ptr 6 1 0 0) ∧ σ.h.gen 6 = 1 ∧ σ.h.blk 6 = .box 25 2 [[.zc, .zc]] ∧ σ.slot 7 = vI i ∧ ((σ.h.blk 3 = .box 25 2 [(encDk (Jn.runJ d (l.take i))).map AC.s]) ∨ ∃ g ss ws, Jn.runJ d (l.take i) = ⟨ss, ws⟩ ∧ σ.h.gen 65 = g ∧ σ.h.blk 65 = .row 60 2 (ws.map encWr) ∧ σ.h.blk 3 = .box 25 2 [[.s (.sl 1 (ss.map encS)), .own 65 g]])) l.length ⟨0, by omega, ?_⟩ ?_
  · simp -implicitDefEqProofs only [↓aP, aQ, ↓reduceIte, Nat.reduceEqDiff, Nat.reduceAdd, Nat.reduceSub, Nat.reduceMul, Nat.reduceLT, Nat.reduceLeDiff, reduceCtorEq, Nat.reduceBEq, forall_const, implies_true, exists_const, ne_eq, Int.reduceAdd, Int.reduceSub, Int.reduceMul, Int.reduceBEq, Int.reduceEq, Int.reduceLT, Int.reduceLE, Int.reduceToNat, Int.reduceNeg, Int.reduceBNe, encDk, List.take_zero, Jn.runJ_nil, true_or]
  rintro m σ ⟨i, him, s1, s2, s3, g3, s6, g6, b6, s7, hb3⟩
  have wi := wrapS (show i < 4611686018427387904 by omega)
  rcases hb3 with b3 | ⟨g, ss, ws, hd, g65, b65, b3⟩
  · by_cases hi : i < l.length
    case neg =>
      have hil : i = l.length := by omega
      rw [hil, List.take_length] at b3
      simp -implicitDefEqProofs only [↓aP, aQ, ↓reduceIte, Nat.reduceEqDiff, Nat.reduceAdd, Nat.reduceSub, Nat.reduceMul, Nat.reduceLT, Nat.reduceLeDiff, reduceCtorEq, Nat.reduceBEq, forall_const, implies_true, exists_const, ne_eq, Int.reduceAdd, Int.reduceSub, Int.reduceMul, Int.reduceBEq, Int.reduceEq, Int.reduceLT, Int.reduceLE, Int.reduceToNat, Int.reduceNeg, Int.reduceBNe, s1, s2, s3, g3, s6, g6, b6, s7, b3, List.length_map, show decide ((i : Int) < (l.length : Int)) = false by simp; omega, encDk]
    have d1 : decide ((i : Int) < (l.length : Int)) = true := by simp; omega
    have d2 : decide ((i : Int) < 99) = true := by simp; omega
    have hstep := hrs i hi
    generalize Jn.runJ d (l.take i) = x at b3 hstep
    unfold Jn.stepJ at hstep
    cases hsy : l[i].sync
    · rw [hsy] at hstep
      simp only [Bool.false_eq_true, if_false] at hstep
      simp -implicitDefEqProofs only [↓aP, aQ, ↓reduceIte, Nat.reduceEqDiff, Nat.reduceAdd, Nat.reduceSub, Nat.reduceMul, Nat.reduceLT, Nat.reduceLeDiff, reduceCtorEq, Nat.reduceBEq, forall_const, implies_true, exists_const, ne_eq, Int.reduceAdd, Int.reduceSub, Int.reduceMul, Int.reduceBEq, Int.reduceEq, Int.reduceLT, Int.reduceLE, Int.reduceToNat, Int.reduceNeg, Int.reduceBNe, s1, s2, s3, g3, s6, g6, b6, s7, b3, List.length_map, d1, d2, askIdx_map, hi, encJo, hsy, encDk]
      refine ask (refRight_spec x) ?_
      cases hr : rightB x
      · have e : Jn.runJ d (l.take (i + 1)) = x := hstep.trans (by unfold putD; rw [hr]; rfl)
        simp -implicitDefEqProofs only [↓aP, aQ, ↓reduceIte, Nat.reduceEqDiff, Nat.reduceAdd, Nat.reduceSub, Nat.reduceMul, Nat.reduceLT, Nat.reduceLeDiff, reduceCtorEq, Nat.reduceBEq, forall_const, implies_true, exists_const, ne_eq, Int.reduceAdd, Int.reduceSub, Int.reduceMul, Int.reduceBEq, Int.reduceEq, Int.reduceLT, Int.reduceLE, Int.reduceToNat, Int.reduceNeg, Int.reduceBNe, s1, s2, s3, g3, s6, g6, b6, s7, b3, wi]
        refine ⟨m - 1, by omega, i + 1, by omega, ?_⟩
        simp -implicitDefEqProofs only [↓aP, aQ, ↓reduceIte, Nat.reduceEqDiff, Nat.reduceAdd, Nat.reduceSub, Nat.reduceMul, Nat.reduceLT, Nat.reduceLeDiff, reduceCtorEq, Nat.reduceBEq, forall_const, implies_true, exists_const, ne_eq, Int.reduceAdd, Int.reduceSub, Int.reduceMul, Int.reduceBEq, Int.reduceEq, Int.reduceLT, Int.reduceLE, Int.reduceToNat, Int.reduceNeg, Int.reduceBNe, s1, s2, s3, g3, s6, g6, b6, s7, b3, e, encDk, true_or]
      · have hrl := right_len hr

        by_cases f1 : 0 ≤ l[i].w.at_
        case neg =>
          have e : Jn.runJ d (l.take (i + 1)) = x := hstep.trans (by unfold putD; rw [hr, show fitsB x l[i].w = false by unfold fitsB hasB; rw [decide_eq_false f1]; rfl]; rfl)
          simp -implicitDefEqProofs only [↓aP, aQ, ↓reduceIte, Nat.reduceEqDiff, Nat.reduceAdd, Nat.reduceSub, Nat.reduceMul, Nat.reduceLT, Nat.reduceLeDiff, reduceCtorEq, Nat.reduceBEq, forall_const, implies_true, exists_const, ne_eq, Int.reduceAdd, Int.reduceSub, Int.reduceMul, Int.reduceBEq, Int.reduceEq, Int.reduceLT, Int.reduceLE, Int.reduceToNat, Int.reduceNeg, Int.reduceBNe, s1, s2, s3, g3, s6, g6, b6, s7, b3, encDk, List.length_map, decide_eq_false f1, wi]
          refine ⟨m - 1, by omega, i + 1, by omega, ?_⟩
          simp -implicitDefEqProofs only [↓aP, aQ, ↓reduceIte, Nat.reduceEqDiff, Nat.reduceAdd, Nat.reduceSub, Nat.reduceMul, Nat.reduceLT, Nat.reduceLeDiff, reduceCtorEq, Nat.reduceBEq, forall_const, implies_true, exists_const, ne_eq, Int.reduceAdd, Int.reduceSub, Int.reduceMul, Int.reduceBEq, Int.reduceEq, Int.reduceLT, Int.reduceLE, Int.reduceToNat, Int.reduceNeg, Int.reduceBNe, s1, s2, s3, g3, s6, g6, b6, s7, b3, e, encDk, true_or]
        by_cases f2 : l[i].w.at_ < x.sectors.length
        case neg =>
          have e : Jn.runJ d (l.take (i + 1)) = x := hstep.trans (by unfold putD; rw [hr, show fitsB x l[i].w = false by unfold fitsB hasB; simp only [decide_eq_false f2]; simp]; rfl)
          simp -implicitDefEqProofs only [↓aP, aQ, ↓reduceIte, Nat.reduceEqDiff, Nat.reduceAdd, Nat.reduceSub, Nat.reduceMul, Nat.reduceLT, Nat.reduceLeDiff, reduceCtorEq, Nat.reduceBEq, forall_const, implies_true, exists_const, ne_eq, Int.reduceAdd, Int.reduceSub, Int.reduceMul, Int.reduceBEq, Int.reduceEq, Int.reduceLT, Int.reduceLE, Int.reduceToNat, Int.reduceNeg, Int.reduceBNe, s1, s2, s3, g3, s6, g6, b6, s7, b3, encDk, List.length_map, decide_eq_true f1, decide_eq_false f2, wi]
          refine ⟨m - 1, by omega, i + 1, by omega, ?_⟩
          simp -implicitDefEqProofs only [↓aP, aQ, ↓reduceIte, Nat.reduceEqDiff, Nat.reduceAdd, Nat.reduceSub, Nat.reduceMul, Nat.reduceLT, Nat.reduceLeDiff, reduceCtorEq, Nat.reduceBEq, forall_const, implies_true, exists_const, ne_eq, Int.reduceAdd, Int.reduceSub, Int.reduceMul, Int.reduceBEq, Int.reduceEq, Int.reduceLT, Int.reduceLE, Int.reduceToNat, Int.reduceNeg, Int.reduceBNe, s1, s2, s3, g3, s6, g6, b6, s7, b3, e, encDk, true_or]
        cases f3 : ((l[i].w.data.size : Int) == 16)
        · have e : Jn.runJ d (l.take (i + 1)) = x := hstep.trans (by unfold putD; rw [hr, show fitsB x l[i].w = false by unfold fitsB; rw [f3, Bool.and_false]]; rfl)
          simp -implicitDefEqProofs only [↓aP, aQ, ↓reduceIte, Nat.reduceEqDiff, Nat.reduceAdd, Nat.reduceSub, Nat.reduceMul, Nat.reduceLT, Nat.reduceLeDiff, reduceCtorEq, Nat.reduceBEq, forall_const, implies_true, exists_const, ne_eq, Int.reduceAdd, Int.reduceSub, Int.reduceMul, Int.reduceBEq, Int.reduceEq, Int.reduceLT, Int.reduceLE, Int.reduceToNat, Int.reduceNeg, Int.reduceBNe, s1, s2, s3, g3, s6, g6, b6, s7, b3, encDk, List.length_map, decide_eq_true f1, decide_eq_true f2, f3, wi]
          refine ⟨m - 1, by omega, i + 1, by omega, ?_⟩
          simp -implicitDefEqProofs only [↓aP, aQ, ↓reduceIte, Nat.reduceEqDiff, Nat.reduceAdd, Nat.reduceSub, Nat.reduceMul, Nat.reduceLT, Nat.reduceLeDiff, reduceCtorEq, Nat.reduceBEq, forall_const, implies_true, exists_const, ne_eq, Int.reduceAdd, Int.reduceSub, Int.reduceMul, Int.reduceBEq, Int.reduceEq, Int.reduceLT, Int.reduceLE, Int.reduceToNat, Int.reduceNeg, Int.reduceBNe, s1, s2, s3, g3, s6, g6, b6, s7, b3, e, encDk, true_or]
        have hft : fitsB x l[i].w = true := by unfold fitsB hasB; simp only [decide_eq_true f1, decide_eq_true f2, f3]; rfl
        by_cases f4 : x.cache.length = 200
        · have e : Jn.runJ d (l.take (i + 1)) = x := hstep.trans (by unfold putD; rw [hr, hft, if_neg (by simp), if_pos f4])
          simp -implicitDefEqProofs only [↓aP, aQ, ↓reduceIte, Nat.reduceEqDiff, Nat.reduceAdd, Nat.reduceSub, Nat.reduceMul, Nat.reduceLT, Nat.reduceLeDiff, reduceCtorEq, Nat.reduceBEq, forall_const, implies_true, exists_const, ne_eq, Int.reduceAdd, Int.reduceSub, Int.reduceMul, Int.reduceBEq, Int.reduceEq, Int.reduceLT, Int.reduceLE, Int.reduceToNat, Int.reduceNeg, Int.reduceBNe, s1, s2, s3, g3, s6, g6, b6, s7, b3, encDk, List.length_map, decide_eq_true f1, decide_eq_true f2, f3, show decide ((x.cache.length : Int) < 200) = false by simp; omega, wi]
          refine ⟨m - 1, by omega, i + 1, by omega, ?_⟩
          simp -implicitDefEqProofs only [↓aP, aQ, ↓reduceIte, Nat.reduceEqDiff, Nat.reduceAdd, Nat.reduceSub, Nat.reduceMul, Nat.reduceLT, Nat.reduceLeDiff, reduceCtorEq, Nat.reduceBEq, forall_const, implies_true, exists_const, ne_eq, Int.reduceAdd, Int.reduceSub, Int.reduceMul, Int.reduceBEq, Int.reduceEq, Int.reduceLT, Int.reduceLE, Int.reduceToNat, Int.reduceNeg, Int.reduceBNe, s1, s2, s3, g3, s6, g6, b6, s7, b3, e, encDk, true_or]
        have e : (putD x l[i].w).1 = ⟨x.sectors, x.cache ++ [l[i].w]⟩ := by rw [put_ok hr hft f4]
        rw [e] at hstep
        simp -implicitDefEqProofs only [↓aP, aQ, ↓reduceIte, Nat.reduceEqDiff, Nat.reduceAdd, Nat.reduceSub, Nat.reduceMul, Nat.reduceLT, Nat.reduceLeDiff, reduceCtorEq, Nat.reduceBEq, forall_const, implies_true, exists_const, ne_eq, Int.reduceAdd, Int.reduceSub, Int.reduceMul, Int.reduceBEq, Int.reduceEq, Int.reduceLT, Int.reduceLE, Int.reduceToNat, Int.reduceNeg, Int.reduceBNe, s1, s2, s3, g3, s6, g6, b6, s7, b3, encDk, List.length_map, decide_eq_true f1, decide_eq_true f2, f3, show decide ((x.cache.length : Int) < 200) = true by simp; omega]
        refine ⟨by omega, by omega, by omega, by omega, by decide +kernel, ?_⟩
        simp -implicitDefEqProofs only [↓aP, aQ, ↓reduceIte, Nat.reduceEqDiff, Nat.reduceAdd, Nat.reduceSub, Nat.reduceMul, Nat.reduceLT, Nat.reduceLeDiff, reduceCtorEq, Nat.reduceBEq, forall_const, implies_true, exists_const, ne_eq, Int.reduceAdd, Int.reduceSub, Int.reduceMul, Int.reduceBEq, Int.reduceEq, Int.reduceLT, Int.reduceLE, Int.reduceToNat, Int.reduceNeg, Int.reduceBNe, s1, s2, s3, g3, s6, g6, b6, s7, b3, wi]
        refine ⟨m - 1, by omega, i + 1, by omega, ?_⟩
        simp -implicitDefEqProofs only [↓aP, aQ, ↓reduceIte, Nat.reduceEqDiff, Nat.reduceAdd, Nat.reduceSub, Nat.reduceMul, Nat.reduceLT, Nat.reduceLeDiff, reduceCtorEq, Nat.reduceBEq, forall_const, implies_true, exists_const, ne_eq, Int.reduceAdd, Int.reduceSub, Int.reduceMul, Int.reduceBEq, Int.reduceEq, Int.reduceLT, Int.reduceLE, Int.reduceToNat, Int.reduceNeg, Int.reduceBNe, s1, s2, s3, g3, s6, g6, b6, s7, b3]
        refine .inr ⟨_, x.sectors, x.cache ++ [l[i].w], hstep, rfl, ?_, rfl⟩
        simp [encWr]
    · rw [hsy] at hstep
      simp only [if_true] at hstep
      simp -implicitDefEqProofs only [↓aP, aQ, ↓reduceIte, Nat.reduceEqDiff, Nat.reduceAdd, Nat.reduceSub, Nat.reduceMul, Nat.reduceLT, Nat.reduceLeDiff, reduceCtorEq, Nat.reduceBEq, forall_const, implies_true, exists_const, ne_eq, Int.reduceAdd, Int.reduceSub, Int.reduceMul, Int.reduceBEq, Int.reduceEq, Int.reduceLT, Int.reduceLE, Int.reduceToNat, Int.reduceNeg, Int.reduceBNe, s1, s2, s3, g3, s6, g6, b6, s7, b3, List.length_map, d1, d2, askIdx_map, hi, encJo, hsy, encDk]
      refine ask (refRight_spec x) ?_
      cases hr : rightB x
      · have e : Jn.runJ d (l.take (i + 1)) = x := hstep.trans (by unfold syncD; rw [hr]; rfl)
        simp -implicitDefEqProofs only [↓aP, aQ, ↓reduceIte, Nat.reduceEqDiff, Nat.reduceAdd, Nat.reduceSub, Nat.reduceMul, Nat.reduceLT, Nat.reduceLeDiff, reduceCtorEq, Nat.reduceBEq, forall_const, implies_true, exists_const, ne_eq, Int.reduceAdd, Int.reduceSub, Int.reduceMul, Int.reduceBEq, Int.reduceEq, Int.reduceLT, Int.reduceLE, Int.reduceToNat, Int.reduceNeg, Int.reduceBNe, s1, s2, s3, g3, s6, g6, b6, s7, b3, wi]
        refine ⟨m - 1, by omega, i + 1, by omega, ?_⟩
        simp -implicitDefEqProofs only [↓aP, aQ, ↓reduceIte, Nat.reduceEqDiff, Nat.reduceAdd, Nat.reduceSub, Nat.reduceMul, Nat.reduceLT, Nat.reduceLeDiff, reduceCtorEq, Nat.reduceBEq, forall_const, implies_true, exists_const, ne_eq, Int.reduceAdd, Int.reduceSub, Int.reduceMul, Int.reduceBEq, Int.reduceEq, Int.reduceLT, Int.reduceLE, Int.reduceToNat, Int.reduceNeg, Int.reduceBNe, s1, s2, s3, g3, s6, g6, b6, s7, b3, e, encDk, true_or]
      · simp -implicitDefEqProofs only [↓aP, aQ, ↓reduceIte, Nat.reduceEqDiff, Nat.reduceAdd, Nat.reduceSub, Nat.reduceMul, Nat.reduceLT, Nat.reduceLeDiff, reduceCtorEq, Nat.reduceBEq, forall_const, implies_true, exists_const, ne_eq, Int.reduceAdd, Int.reduceSub, Int.reduceMul, Int.reduceBEq, Int.reduceEq, Int.reduceLT, Int.reduceLE, Int.reduceToNat, Int.reduceNeg, Int.reduceBNe, s1, s2, s3, g3, s6, g6, b6, s7, b3, encDk]
        refine ask (refSync_spec x hr) ?_
        simp -implicitDefEqProofs only [↓aP, aQ, ↓reduceIte, Nat.reduceEqDiff, Nat.reduceAdd, Nat.reduceSub, Nat.reduceMul, Nat.reduceLT, Nat.reduceLeDiff, reduceCtorEq, Nat.reduceBEq, forall_const, implies_true, exists_const, ne_eq, Int.reduceAdd, Int.reduceSub, Int.reduceMul, Int.reduceBEq, Int.reduceEq, Int.reduceLT, Int.reduceLE, Int.reduceToNat, Int.reduceNeg, Int.reduceBNe, s1, s2, s3, g3, s6, g6, b6, s7, b3, wi, encDk]
        refine ⟨m - 1, by omega, i + 1, by omega, ?_⟩
        simp -implicitDefEqProofs only [↓aP, aQ, ↓reduceIte, Nat.reduceEqDiff, Nat.reduceAdd, Nat.reduceSub, Nat.reduceMul, Nat.reduceLT, Nat.reduceLeDiff, reduceCtorEq, Nat.reduceBEq, forall_const, implies_true, exists_const, ne_eq, Int.reduceAdd, Int.reduceSub, Int.reduceMul, Int.reduceBEq, Int.reduceEq, Int.reduceLT, Int.reduceLE, Int.reduceToNat, Int.reduceNeg, Int.reduceBNe, s1, s2, s3, g3, s6, g6, b6, s7, b3, hstep, encDk, true_or]
  · by_cases hi : i < l.length
    case neg =>
      have hil : i = l.length := by omega
      rw [hil, List.take_length] at hd
      simp -implicitDefEqProofs only [↓aP, aQ, ↓reduceIte, Nat.reduceEqDiff, Nat.reduceAdd, Nat.reduceSub, Nat.reduceMul, Nat.reduceLT, Nat.reduceLeDiff, reduceCtorEq, Nat.reduceBEq, forall_const, implies_true, exists_const, ne_eq, Int.reduceAdd, Int.reduceSub, Int.reduceMul, Int.reduceBEq, Int.reduceEq, Int.reduceLT, Int.reduceLE, Int.reduceToNat, Int.reduceNeg, Int.reduceBNe, s1, s2, s3, g3, s6, g6, b6, s7, b3, g65, b65, List.length_map, show decide ((i : Int) < (l.length : Int)) = false by simp; omega, hd, encDk]
    have d1 : decide ((i : Int) < (l.length : Int)) = true := by simp; omega
    have d2 : decide ((i : Int) < 99) = true := by simp; omega
    have hstep := hrs i hi
    rw [hd] at hstep
    unfold Jn.stepJ at hstep
    cases hsy : l[i].sync
    · rw [hsy] at hstep
      simp only [Bool.false_eq_true, if_false] at hstep
      simp -implicitDefEqProofs only [↓aP, aQ, ↓reduceIte, Nat.reduceEqDiff, Nat.reduceAdd, Nat.reduceSub, Nat.reduceMul, Nat.reduceLT, Nat.reduceLeDiff, reduceCtorEq, Nat.reduceBEq, forall_const, implies_true, exists_const, ne_eq, Int.reduceAdd, Int.reduceSub, Int.reduceMul, Int.reduceBEq, Int.reduceEq, Int.reduceLT, Int.reduceLE, Int.reduceToNat, Int.reduceNeg, Int.reduceBNe, s1, s2, s3, g3, s6, g6, b6, s7, b3, g65, b65, List.length_map, d1, d2, askIdx_map, hi, encJo, hsy, encDk]
      refine ask (refRight_spec ⟨ss, ws⟩) ?_
      cases hr : rightB ⟨ss, ws⟩
      · have e : Jn.runJ d (l.take (i + 1)) = ⟨ss, ws⟩ := hstep.trans (by unfold putD; rw [hr]; rfl)
        simp -implicitDefEqProofs only [↓aP, aQ, ↓reduceIte, Nat.reduceEqDiff, Nat.reduceAdd, Nat.reduceSub, Nat.reduceMul, Nat.reduceLT, Nat.reduceLeDiff, reduceCtorEq, Nat.reduceBEq, forall_const, implies_true, exists_const, ne_eq, Int.reduceAdd, Int.reduceSub, Int.reduceMul, Int.reduceBEq, Int.reduceEq, Int.reduceLT, Int.reduceLE, Int.reduceToNat, Int.reduceNeg, Int.reduceBNe, s1, s2, s3, g3, s6, g6, b6, s7, b3, g65, b65, wi]
        refine ⟨m - 1, by omega, i + 1, by omega, ?_⟩
        simp -implicitDefEqProofs only [↓aP, aQ, ↓reduceIte, Nat.reduceEqDiff, Nat.reduceAdd, Nat.reduceSub, Nat.reduceMul, Nat.reduceLT, Nat.reduceLeDiff, reduceCtorEq, Nat.reduceBEq, forall_const, implies_true, exists_const, ne_eq, Int.reduceAdd, Int.reduceSub, Int.reduceMul, Int.reduceBEq, Int.reduceEq, Int.reduceLT, Int.reduceLE, Int.reduceToNat, Int.reduceNeg, Int.reduceBNe, s1, s2, s3, g3, s6, g6, b6, s7, b3, g65, b65]
        exact .inr ⟨_, ss, ws, e, rfl, rfl, rfl⟩
      · have hrl := right_len hr
        simp only at hrl
        by_cases f1 : 0 ≤ l[i].w.at_
        case neg =>
          have e : Jn.runJ d (l.take (i + 1)) = ⟨ss, ws⟩ := hstep.trans (by unfold putD; rw [hr, show fitsB ⟨ss, ws⟩ l[i].w = false by unfold fitsB hasB; rw [decide_eq_false f1]; rfl]; rfl)
          simp -implicitDefEqProofs only [↓aP, aQ, ↓reduceIte, Nat.reduceEqDiff, Nat.reduceAdd, Nat.reduceSub, Nat.reduceMul, Nat.reduceLT, Nat.reduceLeDiff, reduceCtorEq, Nat.reduceBEq, forall_const, implies_true, exists_const, ne_eq, Int.reduceAdd, Int.reduceSub, Int.reduceMul, Int.reduceBEq, Int.reduceEq, Int.reduceLT, Int.reduceLE, Int.reduceToNat, Int.reduceNeg, Int.reduceBNe, s1, s2, s3, g3, s6, g6, b6, s7, b3, g65, b65, encDk, List.length_map, decide_eq_false f1, wi]
          refine ⟨m - 1, by omega, i + 1, by omega, ?_⟩
          simp -implicitDefEqProofs only [↓aP, aQ, ↓reduceIte, Nat.reduceEqDiff, Nat.reduceAdd, Nat.reduceSub, Nat.reduceMul, Nat.reduceLT, Nat.reduceLeDiff, reduceCtorEq, Nat.reduceBEq, forall_const, implies_true, exists_const, ne_eq, Int.reduceAdd, Int.reduceSub, Int.reduceMul, Int.reduceBEq, Int.reduceEq, Int.reduceLT, Int.reduceLE, Int.reduceToNat, Int.reduceNeg, Int.reduceBNe, s1, s2, s3, g3, s6, g6, b6, s7, b3, g65, b65]
          exact .inr ⟨_, ss, ws, e, rfl, rfl, rfl⟩
        by_cases f2 : l[i].w.at_ < ss.length
        case neg =>
          have e : Jn.runJ d (l.take (i + 1)) = ⟨ss, ws⟩ := hstep.trans (by unfold putD; rw [hr, show fitsB ⟨ss, ws⟩ l[i].w = false by unfold fitsB hasB; simp only [decide_eq_false f2]; simp]; rfl)
          simp -implicitDefEqProofs only [↓aP, aQ, ↓reduceIte, Nat.reduceEqDiff, Nat.reduceAdd, Nat.reduceSub, Nat.reduceMul, Nat.reduceLT, Nat.reduceLeDiff, reduceCtorEq, Nat.reduceBEq, forall_const, implies_true, exists_const, ne_eq, Int.reduceAdd, Int.reduceSub, Int.reduceMul, Int.reduceBEq, Int.reduceEq, Int.reduceLT, Int.reduceLE, Int.reduceToNat, Int.reduceNeg, Int.reduceBNe, s1, s2, s3, g3, s6, g6, b6, s7, b3, g65, b65, encDk, List.length_map, decide_eq_true f1, decide_eq_false f2, wi]
          refine ⟨m - 1, by omega, i + 1, by omega, ?_⟩
          simp -implicitDefEqProofs only [↓aP, aQ, ↓reduceIte, Nat.reduceEqDiff, Nat.reduceAdd, Nat.reduceSub, Nat.reduceMul, Nat.reduceLT, Nat.reduceLeDiff, reduceCtorEq, Nat.reduceBEq, forall_const, implies_true, exists_const, ne_eq, Int.reduceAdd, Int.reduceSub, Int.reduceMul, Int.reduceBEq, Int.reduceEq, Int.reduceLT, Int.reduceLE, Int.reduceToNat, Int.reduceNeg, Int.reduceBNe, s1, s2, s3, g3, s6, g6, b6, s7, b3, g65, b65]
          exact .inr ⟨_, ss, ws, e, rfl, rfl, rfl⟩
        cases f3 : ((l[i].w.data.size : Int) == 16)
        · have e : Jn.runJ d (l.take (i + 1)) = ⟨ss, ws⟩ := hstep.trans (by unfold putD; rw [hr, show fitsB ⟨ss, ws⟩ l[i].w = false by unfold fitsB; rw [f3, Bool.and_false]]; rfl)
          simp -implicitDefEqProofs only [↓aP, aQ, ↓reduceIte, Nat.reduceEqDiff, Nat.reduceAdd, Nat.reduceSub, Nat.reduceMul, Nat.reduceLT, Nat.reduceLeDiff, reduceCtorEq, Nat.reduceBEq, forall_const, implies_true, exists_const, ne_eq, Int.reduceAdd, Int.reduceSub, Int.reduceMul, Int.reduceBEq, Int.reduceEq, Int.reduceLT, Int.reduceLE, Int.reduceToNat, Int.reduceNeg, Int.reduceBNe, s1, s2, s3, g3, s6, g6, b6, s7, b3, g65, b65, encDk, List.length_map, decide_eq_true f1, decide_eq_true f2, f3, wi]
          refine ⟨m - 1, by omega, i + 1, by omega, ?_⟩
          simp -implicitDefEqProofs only [↓aP, aQ, ↓reduceIte, Nat.reduceEqDiff, Nat.reduceAdd, Nat.reduceSub, Nat.reduceMul, Nat.reduceLT, Nat.reduceLeDiff, reduceCtorEq, Nat.reduceBEq, forall_const, implies_true, exists_const, ne_eq, Int.reduceAdd, Int.reduceSub, Int.reduceMul, Int.reduceBEq, Int.reduceEq, Int.reduceLT, Int.reduceLE, Int.reduceToNat, Int.reduceNeg, Int.reduceBNe, s1, s2, s3, g3, s6, g6, b6, s7, b3, g65, b65]
          exact .inr ⟨_, ss, ws, e, rfl, rfl, rfl⟩
        have hft : fitsB ⟨ss, ws⟩ l[i].w = true := by unfold fitsB hasB; simp only [decide_eq_true f1, decide_eq_true f2, f3]; rfl
        by_cases f4 : ws.length = 200
        · have e : Jn.runJ d (l.take (i + 1)) = ⟨ss, ws⟩ := hstep.trans (by unfold putD; rw [hr, hft, if_neg (by simp), if_pos f4])
          simp -implicitDefEqProofs only [↓aP, aQ, ↓reduceIte, Nat.reduceEqDiff, Nat.reduceAdd, Nat.reduceSub, Nat.reduceMul, Nat.reduceLT, Nat.reduceLeDiff, reduceCtorEq, Nat.reduceBEq, forall_const, implies_true, exists_const, ne_eq, Int.reduceAdd, Int.reduceSub, Int.reduceMul, Int.reduceBEq, Int.reduceEq, Int.reduceLT, Int.reduceLE, Int.reduceToNat, Int.reduceNeg, Int.reduceBNe, s1, s2, s3, g3, s6, g6, b6, s7, b3, g65, b65, encDk, List.length_map, decide_eq_true f1, decide_eq_true f2, f3, show decide ((ws.length : Int) < 200) = false by simp; omega, wi]
          refine ⟨m - 1, by omega, i + 1, by omega, ?_⟩
          simp -implicitDefEqProofs only [↓aP, aQ, ↓reduceIte, Nat.reduceEqDiff, Nat.reduceAdd, Nat.reduceSub, Nat.reduceMul, Nat.reduceLT, Nat.reduceLeDiff, reduceCtorEq, Nat.reduceBEq, forall_const, implies_true, exists_const, ne_eq, Int.reduceAdd, Int.reduceSub, Int.reduceMul, Int.reduceBEq, Int.reduceEq, Int.reduceLT, Int.reduceLE, Int.reduceToNat, Int.reduceNeg, Int.reduceBNe, s1, s2, s3, g3, s6, g6, b6, s7, b3, g65, b65]
          exact .inr ⟨_, ss, ws, e, rfl, rfl, rfl⟩
        have e : (putD ⟨ss, ws⟩ l[i].w).1 = ⟨ss, ws ++ [l[i].w]⟩ := by rw [put_ok hr hft f4]
        rw [e] at hstep
        simp -implicitDefEqProofs only [↓aP, aQ, ↓reduceIte, Nat.reduceEqDiff, Nat.reduceAdd, Nat.reduceSub, Nat.reduceMul, Nat.reduceLT, Nat.reduceLeDiff, reduceCtorEq, Nat.reduceBEq, forall_const, implies_true, exists_const, ne_eq, Int.reduceAdd, Int.reduceSub, Int.reduceMul, Int.reduceBEq, Int.reduceEq, Int.reduceLT, Int.reduceLE, Int.reduceToNat, Int.reduceNeg, Int.reduceBNe, s1, s2, s3, g3, s6, g6, b6, s7, b3, g65, b65, encDk, List.length_map, decide_eq_true f1, decide_eq_true f2, f3, show decide ((ws.length : Int) < 200) = true by simp; omega]
        refine ⟨by omega, by omega, by omega, by omega, by decide +kernel, ?_⟩
        simp -implicitDefEqProofs only [↓aP, aQ, ↓reduceIte, Nat.reduceEqDiff, Nat.reduceAdd, Nat.reduceSub, Nat.reduceMul, Nat.reduceLT, Nat.reduceLeDiff, reduceCtorEq, Nat.reduceBEq, forall_const, implies_true, exists_const, ne_eq, Int.reduceAdd, Int.reduceSub, Int.reduceMul, Int.reduceBEq, Int.reduceEq, Int.reduceLT, Int.reduceLE, Int.reduceToNat, Int.reduceNeg, Int.reduceBNe, s1, s2, s3, g3, s6, g6, b6, s7, b3, g65, b65, wi]
        refine ⟨m - 1, by omega, i + 1, by omega, ?_⟩
        simp -implicitDefEqProofs only [↓aP, aQ, ↓reduceIte, Nat.reduceEqDiff, Nat.reduceAdd, Nat.reduceSub, Nat.reduceMul, Nat.reduceLT, Nat.reduceLeDiff, reduceCtorEq, Nat.reduceBEq, forall_const, implies_true, exists_const, ne_eq, Int.reduceAdd, Int.reduceSub, Int.reduceMul, Int.reduceBEq, Int.reduceEq, Int.reduceLT, Int.reduceLE, Int.reduceToNat, Int.reduceNeg, Int.reduceBNe, s1, s2, s3, g3, s6, g6, b6, s7, b3, g65, b65]
        refine .inr ⟨_, ss, ws ++ [l[i].w], hstep, rfl, ?_, rfl⟩
        simp [encWr]
    · rw [hsy] at hstep
      simp only [if_true] at hstep
      simp -implicitDefEqProofs only [↓aP, aQ, ↓reduceIte, Nat.reduceEqDiff, Nat.reduceAdd, Nat.reduceSub, Nat.reduceMul, Nat.reduceLT, Nat.reduceLeDiff, reduceCtorEq, Nat.reduceBEq, forall_const, implies_true, exists_const, ne_eq, Int.reduceAdd, Int.reduceSub, Int.reduceMul, Int.reduceBEq, Int.reduceEq, Int.reduceLT, Int.reduceLE, Int.reduceToNat, Int.reduceNeg, Int.reduceBNe, s1, s2, s3, g3, s6, g6, b6, s7, b3, g65, b65, List.length_map, d1, d2, askIdx_map, hi, encJo, hsy, encDk]
      refine ask (refRight_spec ⟨ss, ws⟩) ?_
      cases hr : rightB ⟨ss, ws⟩
      · have e : Jn.runJ d (l.take (i + 1)) = ⟨ss, ws⟩ := hstep.trans (by unfold syncD; rw [hr]; rfl)
        simp -implicitDefEqProofs only [↓aP, aQ, ↓reduceIte, Nat.reduceEqDiff, Nat.reduceAdd, Nat.reduceSub, Nat.reduceMul, Nat.reduceLT, Nat.reduceLeDiff, reduceCtorEq, Nat.reduceBEq, forall_const, implies_true, exists_const, ne_eq, Int.reduceAdd, Int.reduceSub, Int.reduceMul, Int.reduceBEq, Int.reduceEq, Int.reduceLT, Int.reduceLE, Int.reduceToNat, Int.reduceNeg, Int.reduceBNe, s1, s2, s3, g3, s6, g6, b6, s7, b3, g65, b65, wi]
        refine ⟨m - 1, by omega, i + 1, by omega, ?_⟩
        simp -implicitDefEqProofs only [↓aP, aQ, ↓reduceIte, Nat.reduceEqDiff, Nat.reduceAdd, Nat.reduceSub, Nat.reduceMul, Nat.reduceLT, Nat.reduceLeDiff, reduceCtorEq, Nat.reduceBEq, forall_const, implies_true, exists_const, ne_eq, Int.reduceAdd, Int.reduceSub, Int.reduceMul, Int.reduceBEq, Int.reduceEq, Int.reduceLT, Int.reduceLE, Int.reduceToNat, Int.reduceNeg, Int.reduceBNe, s1, s2, s3, g3, s6, g6, b6, s7, b3, g65, b65]
        exact .inr ⟨_, ss, ws, e, rfl, rfl, rfl⟩
      · simp -implicitDefEqProofs only [↓aP, aQ, ↓reduceIte, Nat.reduceEqDiff, Nat.reduceAdd, Nat.reduceSub, Nat.reduceMul, Nat.reduceLT, Nat.reduceLeDiff, reduceCtorEq, Nat.reduceBEq, forall_const, implies_true, exists_const, ne_eq, Int.reduceAdd, Int.reduceSub, Int.reduceMul, Int.reduceBEq, Int.reduceEq, Int.reduceLT, Int.reduceLE, Int.reduceToNat, Int.reduceNeg, Int.reduceBNe, s1, s2, s3, g3, s6, g6, b6, s7, b3, g65, b65, encDk]
        refine ask (refSync_spec ⟨ss, ws⟩ hr) ?_
        simp -implicitDefEqProofs only [↓aP, aQ, ↓reduceIte, Nat.reduceEqDiff, Nat.reduceAdd, Nat.reduceSub, Nat.reduceMul, Nat.reduceLT, Nat.reduceLeDiff, reduceCtorEq, Nat.reduceBEq, forall_const, implies_true, exists_const, ne_eq, Int.reduceAdd, Int.reduceSub, Int.reduceMul, Int.reduceBEq, Int.reduceEq, Int.reduceLT, Int.reduceLE, Int.reduceToNat, Int.reduceNeg, Int.reduceBNe, s1, s2, s3, g3, s6, g6, b6, s7, b3, g65, b65, wi, encDk]
        refine ⟨m - 1, by omega, i + 1, by omega, ?_⟩
        simp -implicitDefEqProofs only [↓aP, aQ, ↓reduceIte, Nat.reduceEqDiff, Nat.reduceAdd, Nat.reduceSub, Nat.reduceMul, Nat.reduceLT, Nat.reduceLeDiff, reduceCtorEq, Nat.reduceBEq, forall_const, implies_true, exists_const, ne_eq, Int.reduceAdd, Int.reduceSub, Int.reduceMul, Int.reduceBEq, Int.reduceEq, Int.reduceLT, Int.reduceLE, Int.reduceToNat, Int.reduceNeg, Int.reduceBNe, s1, s2, s3, g3, s6, g6, b6, s7, b3, g65, b65, hstep, encDk, true_or]
theorem step_len (d : Dk) (o : Jo) : (Jn.stepJ d o).sectors.length = d.sectors.length ∧ (Jn.stepJ d o).cache.length ≤ d.cache.length + 1 := by
  unfold Jn.stepJ
  split
  · unfold syncD
    split
    · exact ⟨doneS_len _ _, by simp [doneD]⟩
    · exact ⟨rfl, by omega⟩
  · unfold putD
    split
    · exact ⟨rfl, by simp⟩
    split
    · exact ⟨rfl, by simp⟩
    · exact ⟨rfl, by simp⟩
theorem run_len (l : List Jo) : ∀ d : Dk, (Jn.runJ d l).sectors.length = d.sectors.length ∧ (Jn.runJ d l).cache.length ≤ d.cache.length + l.length := by
  induction l with
  | nil => intro d; exact ⟨rfl, by simp [Jn.runJ_nil]⟩
  | cons o l ih =>
    intro d
    rw [Jn.runJ_cons]
    obtain ⟨h1, h2⟩ := ih (Jn.stepJ d o)
    obtain ⟨h3, h4⟩ := step_len d o
    exact ⟨by rw [h1, h3], by simp only [List.length_cons]; omega⟩
end Go.Proofs.Ytlloeinlfhnegaa
