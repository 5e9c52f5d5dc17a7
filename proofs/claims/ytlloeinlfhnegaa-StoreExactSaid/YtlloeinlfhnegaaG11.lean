/- layer 13: the law StoreOther. -/
import Derived.Test.YtlloeinlfhnegaaG10
namespace Go.Proofs.Ytlloeinlfhnegaa
open Go.RowKit
set_option linter.unusedVariables false
set_option linter.unusedSimpArgs false
theorem ok_usable {d : Dk} (h : Jn.usable d = true) : (35 ≤ d.sectors.length ∧ d.sectors.length ≤ 64) ∧ Jn.Ok d.sectors.length d.sectors := by
  unfold Jn.usable at h
  rw [Bool.and_eq_true, decide_eq_true_iff] at h
  have hl := right_len h.1
  have h16 := right_16 h.1
  rw [List.all_eq_true] at h16
  exact ⟨⟨h.2, hl.2.1⟩, rfl, fun x hx => by have := h16 x hx; unfold len16 at this; exact Int.ofNat_inj.1 (show (x.size : Int) = ((16 : Nat) : Int) by simpa using this)⟩
/-- what is set, or deleted, and what all pages are then -/
structure Oth (d : Dk) (p : Pg) (gone : Bool) (c : Dk) (e : Int) : Prop where
  rest : ∀ q : Int, 1 ≤ q ∧ q ≤ 16 → (q ≠ p.id ∨ e ≠ 0) → getS c q = getS d q
  this : ∀ q : Int, 1 ≤ q ∧ q ≤ 16 → q = p.id → e = 0 → getS c q = if gone = true then (zP, 3) else (p, 0)
theorem oth_set {s : List ByteArray} {p : Pg} (h : Jn.usable ⟨s, []⟩ = true) : Oth ⟨s, []⟩ p false (setS ⟨s, []⟩ p).1 (setS ⟨s, []⟩ p).2 := by
  obtain ⟨hn, hs⟩ := ok_usable h
  cases ho : okP p
  · rw [setS_no ho]
    exact ⟨fun q _ _ => rfl, fun q _ _ h => absurd (show (1 : Int) = 0 from h) (by decide)⟩
  · obtain ⟨a1, a2, a3⟩ := setS_ok hn hs ho
    rw [a1]
    refine ⟨fun q hq hr => ?_, fun q hq e _ => ?_⟩
    · rw [a3 q hq, if_neg]
      rcases hr with h | h
      · exact h
      · exact absurd rfl h
    · rw [a3 q hq, if_pos e]; rfl
theorem del_no {d : Dk} {q : Int} (h : ¬ (Jn.usable d = true ∧ Jn.isPage q = true)) : delS d q = (d, 1) := by
  unfold delS Jn.commitM Jn.planM
  rw [if_neg (fun a => h ⟨a.1, a.2.1⟩)]; rfl
theorem oth_del {s : List ByteArray} {p : Pg} (h : Jn.usable ⟨s, []⟩ = true) : Oth ⟨s, []⟩ p true (delS ⟨s, []⟩ p.id).1 (delS ⟨s, []⟩ p.id).2 := by
  obtain ⟨hn, hs⟩ := ok_usable h
  by_cases hp : 1 ≤ p.id ∧ p.id ≤ 16
  · obtain ⟨a1, a2, a3⟩ := delS_ok hn hs hp
    rw [a1]
    refine ⟨fun q hq hr => ?_, fun q hq e _ => ?_⟩
    · rw [a3 q hq, if_neg]
      rcases hr with h | h
      · exact h
      · exact absurd rfl h
    · rw [a3 q hq, if_pos e]; rfl
  · rw [del_no (fun a => hp (Jn.page_iff.1 a.2))]
    exact ⟨fun q _ _ => rfl, fun q _ _ h => absurd (show (1 : Int) = 0 from h) (by decide)⟩

set_option maxRecDepth 100000 in
set_option maxHeartbeats 4000000 in
theorem law_other (d : Dk) (p : Pg) (gone : Bool) : Spec Try.prog 7 [.agg (encDk d), .agg (encPg p), rB gone] (.val (rB true)) := by
  refine spec_val mixed fn7 (by simp) ?_
  unfold ac7
  simp -implicitDefEqProofs only [↓aP, aQ, ↓reduceIte, Nat.reduceEqDiff, Nat.reduceAdd, Nat.reduceSub, Nat.reduceMul, Nat.reduceLT, Nat.reduceLeDiff, reduceCtorEq, Nat.reduceBEq, forall_const, implies_true, exists_const, ne_eq, Int.reduceAdd, Int.reduceSub, Int.reduceMul, Int.reduceBEq, Int.reduceEq, Int.reduceLT, Int.reduceLE, Int.reduceToNat, Int.reduceNeg, Int.reduceBNe, encPg, encDk]
  refine ask (by have := small_spec d; rw [encDk] at this; exact this) ?_
  cases hs : smallB d
  · simp -implicitDefEqProofs only [↓aP, aQ, ↓reduceIte, Nat.reduceEqDiff, Nat.reduceAdd, Nat.reduceSub, Nat.reduceMul, Nat.reduceLT, Nat.reduceLeDiff, reduceCtorEq, Nat.reduceBEq, forall_const, implies_true, exists_const, ne_eq, Int.reduceAdd, Int.reduceSub, Int.reduceMul, Int.reduceBEq, Int.reduceEq, Int.reduceLT, Int.reduceLE, Int.reduceToNat, Int.reduceNeg, Int.reduceBNe]
    refine ask awake13_spec ?_
    simp -implicitDefEqProofs only [↓aP, aQ, ↓reduceIte, Nat.reduceEqDiff, Nat.reduceAdd, Nat.reduceSub, Nat.reduceMul, Nat.reduceLT, Nat.reduceLeDiff, reduceCtorEq, Nat.reduceBEq, forall_const, implies_true, exists_const, ne_eq, Int.reduceAdd, Int.reduceSub, Int.reduceMul, Int.reduceBEq, Int.reduceEq, Int.reduceLT, Int.reduceLE, Int.reduceToNat, Int.reduceNeg, Int.reduceBNe]
  by_cases hb : 100 < p.body.size
  · simp -implicitDefEqProofs only [↓aP, aQ, ↓reduceIte, Nat.reduceEqDiff, Nat.reduceAdd, Nat.reduceSub, Nat.reduceMul, Nat.reduceLT, Nat.reduceLeDiff, reduceCtorEq, Nat.reduceBEq, forall_const, implies_true, exists_const, ne_eq, Int.reduceAdd, Int.reduceSub, Int.reduceMul, Int.reduceBEq, Int.reduceEq, Int.reduceLT, Int.reduceLE, Int.reduceToNat, Int.reduceNeg, Int.reduceBNe, show decide ((100 : Int) < (p.body.size : Int)) = true by simp; omega]
    refine ask awake13_spec ?_
    simp -implicitDefEqProofs only [↓aP, aQ, ↓reduceIte, Nat.reduceEqDiff, Nat.reduceAdd, Nat.reduceSub, Nat.reduceMul, Nat.reduceLT, Nat.reduceLeDiff, reduceCtorEq, Nat.reduceBEq, forall_const, implies_true, exists_const, ne_eq, Int.reduceAdd, Int.reduceSub, Int.reduceMul, Int.reduceBEq, Int.reduceEq, Int.reduceLT, Int.reduceLE, Int.reduceToNat, Int.reduceNeg, Int.reduceBNe]
  simp -implicitDefEqProofs only [↓aP, aQ, ↓reduceIte, Nat.reduceEqDiff, Nat.reduceAdd, Nat.reduceSub, Nat.reduceMul, Nat.reduceLT, Nat.reduceLeDiff, reduceCtorEq, Nat.reduceBEq, forall_const, implies_true, exists_const, ne_eq, Int.reduceAdd, Int.reduceSub, Int.reduceMul, Int.reduceBEq, Int.reduceEq, Int.reduceLT, Int.reduceLE, Int.reduceToNat, Int.reduceNeg, Int.reduceBNe, show decide ((100 : Int) < (p.body.size : Int)) = false by simp; omega]
  refine ask (by have := may12_spec d; rw [encDk] at this; exact this) ?_
  cases hu : Jn.usable d
  · simp -implicitDefEqProofs only [↓aP, aQ, ↓reduceIte, Nat.reduceEqDiff, Nat.reduceAdd, Nat.reduceSub, Nat.reduceMul, Nat.reduceLT, Nat.reduceLeDiff, reduceCtorEq, Nat.reduceBEq, forall_const, implies_true, exists_const, ne_eq, Int.reduceAdd, Int.reduceSub, Int.reduceMul, Int.reduceBEq, Int.reduceEq, Int.reduceLT, Int.reduceLE, Int.reduceToNat, Int.reduceNeg, Int.reduceBNe]
    refine ask awake13_spec ?_
    simp -implicitDefEqProofs only [↓aP, aQ, ↓reduceIte, Nat.reduceEqDiff, Nat.reduceAdd, Nat.reduceSub, Nat.reduceMul, Nat.reduceLT, Nat.reduceLeDiff, reduceCtorEq, Nat.reduceBEq, forall_const, implies_true, exists_const, ne_eq, Int.reduceAdd, Int.reduceSub, Int.reduceMul, Int.reduceBEq, Int.reduceEq, Int.reduceLT, Int.reduceLE, Int.reduceToNat, Int.reduceNeg, Int.reduceBNe]
  obtain ⟨s, ws⟩ := d
  by_cases hw : ws = []
  case neg =>
    have hl : ws.length ≠ 0 := fun h => hw (List.eq_nil_of_length_eq_zero h)
    simp -implicitDefEqProofs only [↓aP, aQ, ↓reduceIte, Nat.reduceEqDiff, Nat.reduceAdd, Nat.reduceSub, Nat.reduceMul, Nat.reduceLT, Nat.reduceLeDiff, reduceCtorEq, Nat.reduceBEq, forall_const, implies_true, exists_const, ne_eq, Int.reduceAdd, Int.reduceSub, Int.reduceMul, Int.reduceBEq, Int.reduceEq, Int.reduceLT, Int.reduceLE, Int.reduceToNat, Int.reduceNeg, Int.reduceBNe, List.length_map, show ((ws.length : Int) != 0) = true by rw [bne_iff_ne]; omega]
    refine ask awake13_spec ?_
    simp -implicitDefEqProofs only [↓aP, aQ, ↓reduceIte, Nat.reduceEqDiff, Nat.reduceAdd, Nat.reduceSub, Nat.reduceMul, Nat.reduceLT, Nat.reduceLeDiff, reduceCtorEq, Nat.reduceBEq, forall_const, implies_true, exists_const, ne_eq, Int.reduceAdd, Int.reduceSub, Int.reduceMul, Int.reduceBEq, Int.reduceEq, Int.reduceLT, Int.reduceLE, Int.reduceToNat, Int.reduceNeg, Int.reduceBNe]
  subst hw
  simp -implicitDefEqProofs only [↓aP, aQ, ↓reduceIte, Nat.reduceEqDiff, Nat.reduceAdd, Nat.reduceSub, Nat.reduceMul, Nat.reduceLT, Nat.reduceLeDiff, reduceCtorEq, Nat.reduceBEq, forall_const, implies_true, exists_const, ne_eq, Int.reduceAdd, Int.reduceSub, Int.reduceMul, Int.reduceBEq, Int.reduceEq, Int.reduceLT, Int.reduceLE, Int.reduceToNat, Int.reduceNeg, Int.reduceBNe, List.map_nil, List.length_nil, bne_self_eq_false]
  refine ask (by have := sset_spec ⟨s, []⟩ p; rw [encPg] at this; exact this) ?_
  apply with_tail (F := fun σ => ∃ (d c : Dk) (e : Int) (j : Nat), d = ⟨s, []⟩ ∧ j = 1 ∧ Oth d p gone c e ∧ σ.slot 2 = .c (.s (.pv (.bool gone))) ∧ σ.slot 3 = .c (.ptr 3 1 0 0) ∧ σ.h.gen 3 = 1 ∧ σ.h.blk 3 = .box 25 2 [(encDk d).map AC.s] ∧ σ.slot 4 = .c (.ptr 4 1 0 0) ∧ σ.h.gen 4 = 1 ∧ σ.h.blk 4 = .box 27 3 [aPg p] ∧ σ.slot 7 = .c (.ptr 7 1 0 0) ∧ σ.h.gen 7 = 1 ∧ σ.h.blk 7 = .box 25 2 [(encDk c).map AC.s] ∧ σ.slot 8 = vI e ∧ σ.slot 9 = vI j)
  case h1 =>
    intro tail
    cases hg : gone
    · simp -implicitDefEqProofs only [↓aP, aQ, ↓reduceIte, Nat.reduceEqDiff, Nat.reduceAdd, Nat.reduceSub, Nat.reduceMul, Nat.reduceLT, Nat.reduceLeDiff, reduceCtorEq, Nat.reduceBEq, forall_const, implies_true, exists_const, ne_eq, Int.reduceAdd, Int.reduceSub, Int.reduceMul, Int.reduceBEq, Int.reduceEq, Int.reduceLT, Int.reduceLE, Int.reduceToNat, Int.reduceNeg, Int.reduceBNe, encSet, encDk]
      refine tail _ ⟨_, _, _, 1, rfl, rfl, hg ▸ oth_set hu, ?_⟩
      simp -implicitDefEqProofs only [↓aP, aQ, ↓reduceIte, Nat.reduceEqDiff, Nat.reduceAdd, Nat.reduceSub, Nat.reduceMul, Nat.reduceLT, Nat.reduceLeDiff, reduceCtorEq, Nat.reduceBEq, forall_const, implies_true, exists_const, ne_eq, Int.reduceAdd, Int.reduceSub, Int.reduceMul, Int.reduceBEq, Int.reduceEq, Int.reduceLT, Int.reduceLE, Int.reduceToNat, Int.reduceNeg, Int.reduceBNe, encDk, aPg, encPg, List.map_cons, List.map_nil, hg]
    · simp -implicitDefEqProofs only [↓aP, aQ, ↓reduceIte, Nat.reduceEqDiff, Nat.reduceAdd, Nat.reduceSub, Nat.reduceMul, Nat.reduceLT, Nat.reduceLeDiff, reduceCtorEq, Nat.reduceBEq, forall_const, implies_true, exists_const, ne_eq, Int.reduceAdd, Int.reduceSub, Int.reduceMul, Int.reduceBEq, Int.reduceEq, Int.reduceLT, Int.reduceLE, Int.reduceToNat, Int.reduceNeg, Int.reduceBNe, encSet, encDk]
      refine ask (sdel_spec ⟨s, []⟩ p.id) ?_
      simp -implicitDefEqProofs only [↓aP, aQ, ↓reduceIte, Nat.reduceEqDiff, Nat.reduceAdd, Nat.reduceSub, Nat.reduceMul, Nat.reduceLT, Nat.reduceLeDiff, reduceCtorEq, Nat.reduceBEq, forall_const, implies_true, exists_const, ne_eq, Int.reduceAdd, Int.reduceSub, Int.reduceMul, Int.reduceBEq, Int.reduceEq, Int.reduceLT, Int.reduceLE, Int.reduceToNat, Int.reduceNeg, Int.reduceBNe, encSet, encDk]
      refine tail _ ⟨_, _, _, 1, rfl, rfl, hg ▸ oth_del hu, ?_⟩
      simp -implicitDefEqProofs only [↓aP, aQ, ↓reduceIte, Nat.reduceEqDiff, Nat.reduceAdd, Nat.reduceSub, Nat.reduceMul, Nat.reduceLT, Nat.reduceLeDiff, reduceCtorEq, Nat.reduceBEq, forall_const, implies_true, exists_const, ne_eq, Int.reduceAdd, Int.reduceSub, Int.reduceMul, Int.reduceBEq, Int.reduceEq, Int.reduceLT, Int.reduceLE, Int.reduceToNat, Int.reduceNeg, Int.reduceBNe, encDk, aPg, encPg, List.map_cons, List.map_nil, hg]
  case h2 =>
    rintro σ ⟨d, c, e, j, hd, hj, ho, s2, s3, g3, b3, s4, g4, b4, s7, g7, b7, s8, s9⟩
    refine loopA (fun m σ => ∃ j : Nat, j + m = 17 ∧ 1 ≤ j ∧ σ.slot 2 = .c (.s (.pv (.bool gone))) ∧ σ.slot 3 = .c (.ptr 3 1 0 0) ∧ σ.h.gen 3 = 1 ∧ σ.h.blk 3 = .box 25 2 [(encDk d).map AC.s] ∧ σ.slot 4 = .c (.ptr 4 1 0 0) ∧ σ.h.gen 4 = 1 ∧ σ.h.blk 4 = .box 27 3 [aPg p] ∧ σ.slot 7 = .c (.ptr 7 1 0 0) ∧ σ.h.gen 7 = 1 ∧ σ.h.blk 7 = .box 25 2 [(encDk c).map AC.s] ∧ σ.slot 8 = vI e ∧ σ.slot 9 = vI j) 16 ⟨j, by omega, by omega, s2, s3, g3, b3, s4, g4, b4, s7, g7, b7, s8, s9⟩ ?_
    clear hj s2 s3 g3 b3 s4 g4 b4 s7 g7 b7 s8 s9
    rintro m σ ⟨j, hj, hj1, s2, s3, g3, b3, s4, g4, b4, s7, g7, b7, s8, s9⟩
    by_cases hm : m = 0
    · obtain rfl : j = 17 := by omega
      simp -implicitDefEqProofs only [↓aP, aQ, ↓reduceIte, Nat.reduceEqDiff, Nat.reduceAdd, Nat.reduceSub, Nat.reduceMul, Nat.reduceLT, Nat.reduceLeDiff, reduceCtorEq, Nat.reduceBEq, forall_const, implies_true, exists_const, ne_eq, Int.reduceAdd, Int.reduceSub, Int.reduceMul, Int.reduceBEq, Int.reduceEq, Int.reduceLT, Int.reduceLE, Int.reduceToNat, Int.reduceNeg, Int.reduceBNe, s2, s3, g3, b3, s4, g4, b4, s7, g7, b7, s8, s9, show decide (((17 : Nat) : Int) ≤ 16) = false by decide]
      refine ask awake13_spec ?_
      simp -implicitDefEqProofs only [↓aP, aQ, ↓reduceIte, Nat.reduceEqDiff, Nat.reduceAdd, Nat.reduceSub, Nat.reduceMul, Nat.reduceLT, Nat.reduceLeDiff, reduceCtorEq, Nat.reduceBEq, forall_const, implies_true, exists_const, ne_eq, Int.reduceAdd, Int.reduceSub, Int.reduceMul, Int.reduceBEq, Int.reduceEq, Int.reduceLT, Int.reduceLE, Int.reduceToNat, Int.reduceNeg, Int.reduceBNe]
    have w1 : IntKind.i64.wrap ((j : Int) + 1) = ((j + 1 : Nat) : Int) := by rw [wrapI (by omega)]; omega
    have hq : (1 : Int) ≤ (j : Int) ∧ (j : Int) ≤ 16 := by omega
    obtain ⟨a, f, ha⟩ : ∃ a f, getS d j = (a, f) := ⟨_, _, rfl⟩
    by_cases h : (j : Int) ≠ p.id ∨ e ≠ 0
    · have hc := ho.rest j hq h
      rw [ha] at hc
      simp -implicitDefEqProofs only [↓aP, aQ, ↓reduceIte, Nat.reduceEqDiff, Nat.reduceAdd, Nat.reduceSub, Nat.reduceMul, Nat.reduceLT, Nat.reduceLeDiff, reduceCtorEq, Nat.reduceBEq, forall_const, implies_true, exists_const, ne_eq, Int.reduceAdd, Int.reduceSub, Int.reduceMul, Int.reduceBEq, Int.reduceEq, Int.reduceLT, Int.reduceLE, Int.reduceToNat, Int.reduceNeg, Int.reduceBNe, s2, s3, g3, b3, s4, g4, b4, s7, g7, b7, s8, s9, show decide ((j : Int) ≤ 16) = true by simp; omega, encDk]
      refine ask (sget_sp ha) ?_
      simp -implicitDefEqProofs only [↓aP, aQ, ↓reduceIte, Nat.reduceEqDiff, Nat.reduceAdd, Nat.reduceSub, Nat.reduceMul, Nat.reduceLT, Nat.reduceLeDiff, reduceCtorEq, Nat.reduceBEq, forall_const, implies_true, exists_const, ne_eq, Int.reduceAdd, Int.reduceSub, Int.reduceMul, Int.reduceBEq, Int.reduceEq, Int.reduceLT, Int.reduceLE, Int.reduceToNat, Int.reduceNeg, Int.reduceBNe, encGet, encPg, s2, s3, g3, b3, s4, g4, b4, s7, g7, b7, s8, s9, encDk]
      refine ask (sget_sp hc) ?_
      by_cases h1 : (j : Int) = p.id
      · have h2 : e ≠ 0 := h.resolve_left (fun x => x h1)
        simp -implicitDefEqProofs only [↓aP, aQ, ↓reduceIte, Nat.reduceEqDiff, Nat.reduceAdd, Nat.reduceSub, Nat.reduceMul, Nat.reduceLT, Nat.reduceLeDiff, reduceCtorEq, Nat.reduceBEq, forall_const, implies_true, exists_const, ne_eq, Int.reduceAdd, Int.reduceSub, Int.reduceMul, Int.reduceBEq, Int.reduceEq, Int.reduceLT, Int.reduceLE, Int.reduceToNat, Int.reduceNeg, Int.reduceBNe, encGet, encPg, s2, s3, g3, b3, s4, g4, b4, s7, g7, b7, s8, s9, aPg, List.map_cons, List.map_nil, show ((j : Int) != p.id) = false by rw [bne_eq_false_iff_eq]; exact h1, show (e != 0) = true by rw [bne_iff_ne]; exact h2]
        refine askEq (eqP (x := a) (y := a) rfl) ?_
        simp -implicitDefEqProofs only [↓aP, aQ, ↓reduceIte, Nat.reduceEqDiff, Nat.reduceAdd, Nat.reduceSub, Nat.reduceMul, Nat.reduceLT, Nat.reduceLeDiff, reduceCtorEq, Nat.reduceBEq, forall_const, implies_true, exists_const, ne_eq, Int.reduceAdd, Int.reduceSub, Int.reduceMul, Int.reduceBEq, Int.reduceEq, Int.reduceLT, Int.reduceLE, Int.reduceToNat, Int.reduceNeg, Int.reduceBNe, s2, s3, g3, b3, s4, g4, b4, s7, g7, b7, s8, s9, bne_self_eq_false, aPg, encPg, List.map_cons, List.map_nil, show ((j : Int) == p.id) = true by rw [beq_iff_eq]; exact h1, show (e == 0) = false by rw [beq_eq_false_iff_ne]; exact h2, w1]
        refine ⟨m - 1, by omega, j + 1, by omega, by omega, ?_⟩
        simp -implicitDefEqProofs only [↓aP, aQ, ↓reduceIte, Nat.reduceEqDiff, Nat.reduceAdd, Nat.reduceSub, Nat.reduceMul, Nat.reduceLT, Nat.reduceLeDiff, reduceCtorEq, Nat.reduceBEq, forall_const, implies_true, exists_const, ne_eq, Int.reduceAdd, Int.reduceSub, Int.reduceMul, Int.reduceBEq, Int.reduceEq, Int.reduceLT, Int.reduceLE, Int.reduceToNat, Int.reduceNeg, Int.reduceBNe, s2, s3, g3, b3, s4, g4, b4, s7, g7, b7, s8, s9, aPg, encPg, List.map_cons, List.map_nil, encDk]
      · simp -implicitDefEqProofs only [↓aP, aQ, ↓reduceIte, Nat.reduceEqDiff, Nat.reduceAdd, Nat.reduceSub, Nat.reduceMul, Nat.reduceLT, Nat.reduceLeDiff, reduceCtorEq, Nat.reduceBEq, forall_const, implies_true, exists_const, ne_eq, Int.reduceAdd, Int.reduceSub, Int.reduceMul, Int.reduceBEq, Int.reduceEq, Int.reduceLT, Int.reduceLE, Int.reduceToNat, Int.reduceNeg, Int.reduceBNe, encGet, encPg, s2, s3, g3, b3, s4, g4, b4, s7, g7, b7, s8, s9, aPg, List.map_cons, List.map_nil, show ((j : Int) != p.id) = true by rw [bne_iff_ne]; exact h1]
        refine askEq (eqP (x := a) (y := a) rfl) ?_
        simp -implicitDefEqProofs only [↓aP, aQ, ↓reduceIte, Nat.reduceEqDiff, Nat.reduceAdd, Nat.reduceSub, Nat.reduceMul, Nat.reduceLT, Nat.reduceLeDiff, reduceCtorEq, Nat.reduceBEq, forall_const, implies_true, exists_const, ne_eq, Int.reduceAdd, Int.reduceSub, Int.reduceMul, Int.reduceBEq, Int.reduceEq, Int.reduceLT, Int.reduceLE, Int.reduceToNat, Int.reduceNeg, Int.reduceBNe, s2, s3, g3, b3, s4, g4, b4, s7, g7, b7, s8, s9, bne_self_eq_false, aPg, encPg, List.map_cons, List.map_nil, show ((j : Int) == p.id) = false by rw [beq_eq_false_iff_ne]; exact h1, w1]
        refine ⟨m - 1, by omega, j + 1, by omega, by omega, ?_⟩
        simp -implicitDefEqProofs only [↓aP, aQ, ↓reduceIte, Nat.reduceEqDiff, Nat.reduceAdd, Nat.reduceSub, Nat.reduceMul, Nat.reduceLT, Nat.reduceLeDiff, reduceCtorEq, Nat.reduceBEq, forall_const, implies_true, exists_const, ne_eq, Int.reduceAdd, Int.reduceSub, Int.reduceMul, Int.reduceBEq, Int.reduceEq, Int.reduceLT, Int.reduceLE, Int.reduceToNat, Int.reduceNeg, Int.reduceBNe, s2, s3, g3, b3, s4, g4, b4, s7, g7, b7, s8, s9, aPg, encPg, List.map_cons, List.map_nil, encDk]
    · have h1 : (j : Int) = p.id := Decidable.of_not_not (fun x => h (.inl x))
      have h2 : e = 0 := Decidable.of_not_not (fun x => h (.inr x))
      have hc := ho.this j hq h1 h2
      simp -implicitDefEqProofs only [↓aP, aQ, ↓reduceIte, Nat.reduceEqDiff, Nat.reduceAdd, Nat.reduceSub, Nat.reduceMul, Nat.reduceLT, Nat.reduceLeDiff, reduceCtorEq, Nat.reduceBEq, forall_const, implies_true, exists_const, ne_eq, Int.reduceAdd, Int.reduceSub, Int.reduceMul, Int.reduceBEq, Int.reduceEq, Int.reduceLT, Int.reduceLE, Int.reduceToNat, Int.reduceNeg, Int.reduceBNe, s2, s3, g3, b3, s4, g4, b4, s7, g7, b7, s8, s9, show decide ((j : Int) ≤ 16) = true by simp; omega, encDk]
      refine ask (sget_sp ha) ?_
      simp -implicitDefEqProofs only [↓aP, aQ, ↓reduceIte, Nat.reduceEqDiff, Nat.reduceAdd, Nat.reduceSub, Nat.reduceMul, Nat.reduceLT, Nat.reduceLeDiff, reduceCtorEq, Nat.reduceBEq, forall_const, implies_true, exists_const, ne_eq, Int.reduceAdd, Int.reduceSub, Int.reduceMul, Int.reduceBEq, Int.reduceEq, Int.reduceLT, Int.reduceLE, Int.reduceToNat, Int.reduceNeg, Int.reduceBNe, encGet, encPg, s2, s3, g3, b3, s4, g4, b4, s7, g7, b7, s8, s9, encDk]
      refine ask (sget_sp hc) ?_
      cases hg : gone
      · rw [hg] at hc
        simp -implicitDefEqProofs only [↓aP, aQ, ↓reduceIte, Nat.reduceEqDiff, Nat.reduceAdd, Nat.reduceSub, Nat.reduceMul, Nat.reduceLT, Nat.reduceLeDiff, reduceCtorEq, Nat.reduceBEq, forall_const, implies_true, exists_const, ne_eq, Int.reduceAdd, Int.reduceSub, Int.reduceMul, Int.reduceBEq, Int.reduceEq, Int.reduceLT, Int.reduceLE, Int.reduceToNat, Int.reduceNeg, Int.reduceBNe, encGet, encPg, s2, s3, g3, b3, s4, g4, b4, s7, g7, b7, s8, s9, aPg, List.map_cons, List.map_nil, show ((j : Int) != p.id) = false by rw [bne_eq_false_iff_eq]; exact h1, h2, bne_self_eq_false, show ((j : Int) == p.id) = true by rw [beq_iff_eq]; exact h1, beq_self_eq_true, hg, Bool.false_eq_true, if_false]
        refine askEq (eqP (x := p) (y := p) rfl) ?_
        simp -implicitDefEqProofs only [↓aP, aQ, ↓reduceIte, Nat.reduceEqDiff, Nat.reduceAdd, Nat.reduceSub, Nat.reduceMul, Nat.reduceLT, Nat.reduceLeDiff, reduceCtorEq, Nat.reduceBEq, forall_const, implies_true, exists_const, ne_eq, Int.reduceAdd, Int.reduceSub, Int.reduceMul, Int.reduceBEq, Int.reduceEq, Int.reduceLT, Int.reduceLE, Int.reduceToNat, Int.reduceNeg, Int.reduceBNe, s2, s3, g3, b3, s4, g4, b4, s7, g7, b7, s8, s9, w1, hg]
        refine ⟨m - 1, by omega, j + 1, by omega, by omega, ?_⟩
        simp -implicitDefEqProofs only [↓aP, aQ, ↓reduceIte, Nat.reduceEqDiff, Nat.reduceAdd, Nat.reduceSub, Nat.reduceMul, Nat.reduceLT, Nat.reduceLeDiff, reduceCtorEq, Nat.reduceBEq, forall_const, implies_true, exists_const, ne_eq, Int.reduceAdd, Int.reduceSub, Int.reduceMul, Int.reduceBEq, Int.reduceEq, Int.reduceLT, Int.reduceLE, Int.reduceToNat, Int.reduceNeg, Int.reduceBNe, s2, s3, g3, b3, s4, g4, b4, s7, g7, b7, s8, s9, aPg, encPg, List.map_cons, List.map_nil, encDk]
        all_goals rw [h2]
      · rw [hg] at hc
        simp -implicitDefEqProofs only [↓aP, aQ, ↓reduceIte, Nat.reduceEqDiff, Nat.reduceAdd, Nat.reduceSub, Nat.reduceMul, Nat.reduceLT, Nat.reduceLeDiff, reduceCtorEq, Nat.reduceBEq, forall_const, implies_true, exists_const, ne_eq, Int.reduceAdd, Int.reduceSub, Int.reduceMul, Int.reduceBEq, Int.reduceEq, Int.reduceLT, Int.reduceLE, Int.reduceToNat, Int.reduceNeg, Int.reduceBNe, encGet, encPg, s2, s3, g3, b3, s4, g4, b4, s7, g7, b7, s8, s9, aPg, List.map_cons, List.map_nil, show ((j : Int) != p.id) = false by rw [bne_eq_false_iff_eq]; exact h1, h2, bne_self_eq_false, show ((j : Int) == p.id) = true by rw [beq_iff_eq]; exact h1, beq_self_eq_true, hg, if_true, zP, w1]
        refine ⟨m - 1, by omega, j + 1, by omega, by omega, ?_⟩
        simp -implicitDefEqProofs only [↓aP, aQ, ↓reduceIte, Nat.reduceEqDiff, Nat.reduceAdd, Nat.reduceSub, Nat.reduceMul, Nat.reduceLT, Nat.reduceLeDiff, reduceCtorEq, Nat.reduceBEq, forall_const, implies_true, exists_const, ne_eq, Int.reduceAdd, Int.reduceSub, Int.reduceMul, Int.reduceBEq, Int.reduceEq, Int.reduceLT, Int.reduceLE, Int.reduceToNat, Int.reduceNeg, Int.reduceBNe, s2, s3, g3, b3, s4, g4, b4, s7, g7, b7, s8, s9, aPg, encPg, List.map_cons, List.map_nil, encDk]
        all_goals rw [h2]
end Go.Proofs.Ytlloeinlfhnegaa
