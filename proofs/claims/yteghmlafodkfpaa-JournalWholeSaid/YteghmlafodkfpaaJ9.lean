/- layer 12: the law JournalWhole: its walk. -/
import Derived.Test.YteghmlafodkfpaaJ8
import Derived.Test.YteghmlafodkfpaaJ5
namespace Go.Proofs.Yteghmlafodkfpaa
open Go.RowKit
set_option linter.unusedVariables false
set_option linter.unusedSimpArgs false
theorem rd_at {s : List ByteArray} {i : Nat} (h : i < s.length) : Jn.rd s [] (i : Int) = s[i] := by
  rw [Jn.rd_nil, Int.toNat_natCast, List.getElem?_eq_getElem h]; rfl

set_option maxRecDepth 100000 in
set_option maxHeartbeats 4000000 in
theorem old_spec (s t : List ByteArray) (p : Int) (x : ByteArray) (hs : Jn.Ok 35 s) (hs0 : Jn.rd s [] 0 = noughts) (hp : 1 ≤ p ∧ p ≤ 16) (hx : x.size = 32) (hm : Jn.Mid 35 s p x t) (ht0 : Jn.rd t [] 0 = noughts) :
    Spec Try.prog 49 [.agg (encDk ⟨t, []⟩), .agg (encDk ⟨s, []⟩), rI p, rS x] (.val (rB true)) := by
  refine spec_val mixed fn49 (by simp) ?_
  unfold ac49
  have lt := hm.ok.1
  have ls := hs.1
  have k0 : 0 < t.length := by omega
  have k1 : 0 < s.length := by omega
  have e0 : t[0] = noughts := by rw [← rd_at k0]; exact ht0
  have e1 : s[0] = noughts := by rw [← rd_at k1]; exact hs0
  simp -implicitDefEqProofs only [↓aP, aQ, ↓reduceIte, Nat.reduceEqDiff, Nat.reduceAdd, Nat.reduceSub, Nat.reduceMul, Nat.reduceLT, Nat.reduceLeDiff, reduceCtorEq, Nat.reduceBEq, forall_const, implies_true, exists_const, ne_eq, Int.reduceAdd, Int.reduceSub, Int.reduceMul, Int.reduceBEq, Int.reduceEq, Int.reduceLT, Int.reduceLE, Int.reduceToNat, Int.reduceNeg, Int.reduceBNe, encDk, List.length_map, lt, List.map_nil, List.length_nil, bne_self_eq_false, askIdx_map, k0, k1, encS, e0, e1, tl_beq, decide_true, Bool.not_true]
  refine ⟨by decide +kernel, ?_⟩
  refine loopA (fun m σ => ∃ j : Int, j = 17 - (m : Int) ∧ m ≤ 16 ∧ σ.slot 2 = vI p ∧ σ.slot 3 = .c (.s (.pv (.string x))) ∧ σ.slot 4 = .c (.ptr 4 1 0 0) ∧ σ.h.gen 4 = 1 ∧ σ.h.blk 4 = .box 68 2 [(encDk ⟨t, []⟩).map AC.s] ∧ σ.slot 5 = .c (.ptr 5 1 0 0) ∧ σ.h.gen 5 = 1 ∧ σ.h.blk 5 = .box 68 2 [(encDk ⟨s, []⟩).map AC.s] ∧ σ.slot 9 = vI j) 16 ⟨1, by omega, by omega, ?_⟩ ?_
  · simp -implicitDefEqProofs only [↓aP, aQ, ↓reduceIte, Nat.reduceEqDiff, Nat.reduceAdd, Nat.reduceSub, Nat.reduceMul, Nat.reduceLT, Nat.reduceLeDiff, reduceCtorEq, Nat.reduceBEq, forall_const, implies_true, exists_const, ne_eq, Int.reduceAdd, Int.reduceSub, Int.reduceMul, Int.reduceBEq, Int.reduceEq, Int.reduceLT, Int.reduceLE, Int.reduceToNat, Int.reduceNeg, Int.reduceBNe, encDk, List.map_nil]
  rintro m σ ⟨j, hj, hm16, s2, s3, s4, g4, b4, s5, g5, b5, s9⟩
  by_cases hm0 : m = 0
  · subst hm0
    simp -implicitDefEqProofs only [↓aP, aQ, ↓reduceIte, Nat.reduceEqDiff, Nat.reduceAdd, Nat.reduceSub, Nat.reduceMul, Nat.reduceLT, Nat.reduceLeDiff, reduceCtorEq, Nat.reduceBEq, forall_const, implies_true, exists_const, ne_eq, Int.reduceAdd, Int.reduceSub, Int.reduceMul, Int.reduceBEq, Int.reduceEq, Int.reduceLT, Int.reduceLE, Int.reduceToNat, Int.reduceNeg, Int.reduceBNe, s2, s3, s4, g4, b4, s5, g5, b5, s9, show decide (j ≤ 16) = false by simp; omega]
  obtain ⟨q, rfl, hq1, hq16⟩ : ∃ q : Nat, j = (q : Int) ∧ 1 ≤ q ∧ q ≤ 16 := ⟨j.toNat, by omega, by omega, by omega⟩
  obtain ⟨b, hg, hb⟩ := Jn.mid_get Jn.h35 hs hp hx hm ht0 q (by omega)
  have z1 : 2 * q + 1 < s.length := by omega
  have z2 : 2 * q + 2 < s.length := by omega
  have w0 : IntKind.i64.wrap (2 * (q : Int)) = 2 * (q : Int) := wrapI (by omega)
  have w1 : IntKind.i64.wrap (2 * (q : Int) + 1) = ((2 * q + 1 : Nat) : Int) := by rw [wrapI (by omega)]; omega
  have w2 : IntKind.i64.wrap (2 * (q : Int) + 2) = ((2 * q + 2 : Nat) : Int) := by rw [wrapI (by omega)]; omega
  have w3 : IntKind.i64.wrap ((q : Int) + 1) = (q : Int) + 1 := wrapI (by omega)
  have hsg : (Jn.getM ⟨s, []⟩ (q : Int)).1 = s[2 * q + 1] ++ s[2 * q + 2] := by
    rw [Jn.get_sec Jn.h35 hs (by omega), ← rd_at z1, ← rd_at z2]
    rfl
  rw [hsg] at hb
  have y1 := hs.2 _ (List.getElem_mem z1)
  have y2 := hs.2 _ (List.getElem_mem z2)
  simp -implicitDefEqProofs only [↓aP, aQ, ↓reduceIte, Nat.reduceEqDiff, Nat.reduceAdd, Nat.reduceSub, Nat.reduceMul, Nat.reduceLT, Nat.reduceLeDiff, reduceCtorEq, Nat.reduceBEq, forall_const, implies_true, exists_const, ne_eq, Int.reduceAdd, Int.reduceSub, Int.reduceMul, Int.reduceBEq, Int.reduceEq, Int.reduceLT, Int.reduceLE, Int.reduceToNat, Int.reduceNeg, Int.reduceBNe, s2, s3, s4, g4, b4, s5, g5, b5, s9, show decide ((q : Int) ≤ 16) = true by simp; omega, encDk]
  refine ask (by have := jget_spec ⟨t, []⟩ q; rw [hg] at this; exact this) ?_
  simp -implicitDefEqProofs only [↓aP, aQ, ↓reduceIte, Nat.reduceEqDiff, Nat.reduceAdd, Nat.reduceSub, Nat.reduceMul, Nat.reduceLT, Nat.reduceLeDiff, reduceCtorEq, Nat.reduceBEq, forall_const, implies_true, exists_const, ne_eq, Int.reduceAdd, Int.reduceSub, Int.reduceMul, Int.reduceBEq, Int.reduceEq, Int.reduceLT, Int.reduceLE, Int.reduceToNat, Int.reduceNeg, Int.reduceBNe, s2, s3, s4, g4, b4, s5, g5, b5, s9, encDk, w0, w1, w2, askIdx_map, z1, z2, encS, bne_self_eq_false, tl_beq]
  refine ⟨by omega, ?_⟩
  by_cases he : b = s[2 * q + 1] ++ s[2 * q + 2]
  · simp -implicitDefEqProofs only [↓aP, aQ, ↓reduceIte, Nat.reduceEqDiff, Nat.reduceAdd, Nat.reduceSub, Nat.reduceMul, Nat.reduceLT, Nat.reduceLeDiff, reduceCtorEq, Nat.reduceBEq, forall_const, implies_true, exists_const, ne_eq, Int.reduceAdd, Int.reduceSub, Int.reduceMul, Int.reduceBEq, Int.reduceEq, Int.reduceLT, Int.reduceLE, Int.reduceToNat, Int.reduceNeg, Int.reduceBNe, decide_eq_true he, Bool.not_true, s2, s3, s4, g4, b4, s5, g5, b5, s9, w3]
    repeat (refine And.intro (by decide +kernel) ?_)
    refine ⟨m - 1, by omega, (q : Int) + 1, by omega, by omega, ?_⟩
    simp -implicitDefEqProofs only [↓aP, aQ, ↓reduceIte, Nat.reduceEqDiff, Nat.reduceAdd, Nat.reduceSub, Nat.reduceMul, Nat.reduceLT, Nat.reduceLeDiff, reduceCtorEq, Nat.reduceBEq, forall_const, implies_true, exists_const, ne_eq, Int.reduceAdd, Int.reduceSub, Int.reduceMul, Int.reduceBEq, Int.reduceEq, Int.reduceLT, Int.reduceLE, Int.reduceToNat, Int.reduceNeg, Int.reduceBNe, s2, s3, s4, g4, b4, s5, g5, b5, s9, encDk, List.map_nil]
  · obtain ⟨hqp, hbx⟩ := hb.resolve_left he
    simp -implicitDefEqProofs only [↓aP, aQ, ↓reduceIte, Nat.reduceEqDiff, Nat.reduceAdd, Nat.reduceSub, Nat.reduceMul, Nat.reduceLT, Nat.reduceLeDiff, reduceCtorEq, Nat.reduceBEq, forall_const, implies_true, exists_const, ne_eq, Int.reduceAdd, Int.reduceSub, Int.reduceMul, Int.reduceBEq, Int.reduceEq, Int.reduceLT, Int.reduceLE, Int.reduceToNat, Int.reduceNeg, Int.reduceBNe, decide_eq_false he, Bool.not_false, s2, s3, s4, g4, b4, s5, g5, b5, s9, show ((q : Int) != p) = false by rw [bne_eq_false_iff_eq]; exact hqp, tl_beq, decide_eq_true hbx, Bool.not_true, w3]
    repeat (refine And.intro (by decide +kernel) ?_)
    refine ⟨m - 1, by omega, (q : Int) + 1, by omega, by omega, ?_⟩
    simp -implicitDefEqProofs only [↓aP, aQ, ↓reduceIte, Nat.reduceEqDiff, Nat.reduceAdd, Nat.reduceSub, Nat.reduceMul, Nat.reduceLT, Nat.reduceLeDiff, reduceCtorEq, Nat.reduceBEq, forall_const, implies_true, exists_const, ne_eq, Int.reduceAdd, Int.reduceSub, Int.reduceMul, Int.reduceBEq, Int.reduceEq, Int.reduceLT, Int.reduceLE, Int.reduceToNat, Int.reduceNeg, Int.reduceBNe, s2, s3, s4, g4, b4, s5, g5, b5, s9, encDk, List.map_nil]
set_option maxRecDepth 100000 in
set_option maxHeartbeats 4000000 in
theorem law_whole (l : List ByteArray) (hl : l.length ≤ 9223372036854775807) (a : Int) (ha : 0 ≤ a ∧ a ≤ 255) (x : ByteArray) (c : Int) (hc : 0 ≤ c ∧ c ≤ 255) (keep : List Int) (g : Int) (hg : 0 ≤ g ∧ g ≤ 255) (keeps : List Int) :
    Spec Try.prog 10 [rL 1 (l.map encS), .c (.pv (.int .u8 a)), rS x, .c (.pv (.int .u8 c)), rL 1 (keep.map encI), .c (.pv (.int .u8 g)), rL 1 (keeps.map encI)] (.val (rB true)) := by
  refine spec_val mixed fn10 (by simp) ?_
  unfold ac10
  by_cases hx : x.size = 32
  case neg =>
    simp -implicitDefEqProofs only [↓aP, aQ, ↓reduceIte, Nat.reduceEqDiff, Nat.reduceAdd, Nat.reduceSub, Nat.reduceMul, Nat.reduceLT, Nat.reduceLeDiff, reduceCtorEq, Nat.reduceBEq, forall_const, implies_true, exists_const, ne_eq, Int.reduceAdd, Int.reduceSub, Int.reduceMul, Int.reduceBEq, Int.reduceEq, Int.reduceLT, Int.reduceLE, Int.reduceToNat, Int.reduceNeg, Int.reduceBNe, show ((x.size : Int) != 32) = true by rw [bne_iff_ne]; omega]
    refine ask awake_spec ?_
    simp -implicitDefEqProofs only [↓aP, aQ, ↓reduceIte, Nat.reduceEqDiff, Nat.reduceAdd, Nat.reduceSub, Nat.reduceMul, Nat.reduceLT, Nat.reduceLeDiff, reduceCtorEq, Nat.reduceBEq, forall_const, implies_true, exists_const, ne_eq, Int.reduceAdd, Int.reduceSub, Int.reduceMul, Int.reduceBEq, Int.reduceEq, Int.reduceLT, Int.reduceLE, Int.reduceToNat, Int.reduceNeg, Int.reduceBNe]
  by_cases hk : 60 < keep.length
  · simp -implicitDefEqProofs only [↓aP, aQ, ↓reduceIte, Nat.reduceEqDiff, Nat.reduceAdd, Nat.reduceSub, Nat.reduceMul, Nat.reduceLT, Nat.reduceLeDiff, reduceCtorEq, Nat.reduceBEq, forall_const, implies_true, exists_const, ne_eq, Int.reduceAdd, Int.reduceSub, Int.reduceMul, Int.reduceBEq, Int.reduceEq, Int.reduceLT, Int.reduceLE, Int.reduceToNat, Int.reduceNeg, Int.reduceBNe, hx, List.length_map, show decide ((60 : Int) < (keep.length : Int)) = true by simp; omega]
    refine ask awake_spec ?_
    simp -implicitDefEqProofs only [↓aP, aQ, ↓reduceIte, Nat.reduceEqDiff, Nat.reduceAdd, Nat.reduceSub, Nat.reduceMul, Nat.reduceLT, Nat.reduceLeDiff, reduceCtorEq, Nat.reduceBEq, forall_const, implies_true, exists_const, ne_eq, Int.reduceAdd, Int.reduceSub, Int.reduceMul, Int.reduceBEq, Int.reduceEq, Int.reduceLT, Int.reduceLE, Int.reduceToNat, Int.reduceNeg, Int.reduceBNe]
  by_cases hk2 : 60 < keeps.length
  · simp -implicitDefEqProofs only [↓aP, aQ, ↓reduceIte, Nat.reduceEqDiff, Nat.reduceAdd, Nat.reduceSub, Nat.reduceMul, Nat.reduceLT, Nat.reduceLeDiff, reduceCtorEq, Nat.reduceBEq, forall_const, implies_true, exists_const, ne_eq, Int.reduceAdd, Int.reduceSub, Int.reduceMul, Int.reduceBEq, Int.reduceEq, Int.reduceLT, Int.reduceLE, Int.reduceToNat, Int.reduceNeg, Int.reduceBNe, hx, List.length_map, show decide ((60 : Int) < (keep.length : Int)) = false by simp; omega, show decide ((60 : Int) < (keeps.length : Int)) = true by simp; omega]
    refine ask awake_spec ?_
    simp -implicitDefEqProofs only [↓aP, aQ, ↓reduceIte, Nat.reduceEqDiff, Nat.reduceAdd, Nat.reduceSub, Nat.reduceMul, Nat.reduceLT, Nat.reduceLeDiff, reduceCtorEq, Nat.reduceBEq, forall_const, implies_true, exists_const, ne_eq, Int.reduceAdd, Int.reduceSub, Int.reduceMul, Int.reduceBEq, Int.reduceEq, Int.reduceLT, Int.reduceLE, Int.reduceToNat, Int.reduceNeg, Int.reduceBNe]
  obtain ⟨p, hp, hp1, hp16⟩ : ∃ p : Int, IntKind.i64.wrap (1 + IntKind.i64.wrap (a.tmod 16)) = p ∧ 1 ≤ p ∧ p ≤ 16 := by
    rw [Int.tmod_eq_emod_of_nonneg ha.1, wrapI (x := a % 16) (by omega), wrapI (by omega)]
    exact ⟨1 + a % 16, rfl, by omega, by omega⟩
  obtain ⟨n, hn⟩ : ∃ n : Nat, IntKind.i64.wrap (c.tmod 12) = (n : Int) := by
    rw [Int.tmod_eq_emod_of_nonneg hc.1, wrapI (x := c % 12) (by omega)]
    exact ⟨(c % 12).toNat, by omega⟩
  obtain ⟨k, hkk⟩ : ∃ k : Nat, IntKind.i64.wrap (g.tmod 6) = (k : Int) := by
    rw [Int.tmod_eq_emod_of_nonneg hg.1, wrapI (x := g % 6) (by omega)]
    exact ⟨(g % 6).toNat, by omega⟩
  have hpp : (1 : Int) ≤ p ∧ p ≤ 16 := ⟨hp1, hp16⟩
  obtain ⟨os, os0⟩ := calmS_ok l l.length
  have hcs := calm_spec l hl
  generalize calmS l l.length = s at os os0 hcs
  obtain ⟨t, ht, hmt, hft⟩ := Jn.crash_plan Jn.h35 os hpp hx os0 n keep
  obtain ⟨t1, e1, m1, z1, f1⟩ := Jn.mid_recover (n := 35) (s := s) (x := x) (t := t) Jn.h35 hpp hmt
  obtain ⟨t2, e2, m2⟩ := Jn.mid_again (n := 35) (s := s) Jn.h35 hpp hx hmt k keeps
  obtain ⟨t3, e3, m3, z3, _⟩ := Jn.mid_recover (n := 35) (s := s) (x := x) (t := t2) Jn.h35 hpp m2
  have hid := Jn.recover_idle Jn.h35 m1.ok Jn.cok_nil z1
  obtain ⟨b, hb, hbb⟩ := Jn.mid_get Jn.h35 os hpp hx m1 z1 p hpp
  simp -implicitDefEqProofs only [↓aP, aQ, ↓reduceIte, Nat.reduceEqDiff, Nat.reduceAdd, Nat.reduceSub, Nat.reduceMul, Nat.reduceLT, Nat.reduceLeDiff, reduceCtorEq, Nat.reduceBEq, forall_const, implies_true, exists_const, ne_eq, Int.reduceAdd, Int.reduceSub, Int.reduceMul, Int.reduceBEq, Int.reduceEq, Int.reduceLT, Int.reduceLE, Int.reduceToNat, Int.reduceNeg, Int.reduceBNe, hx, List.length_map, show decide ((60 : Int) < (keep.length : Int)) = false by simp; omega, show decide ((60 : Int) < (keeps.length : Int)) = false by simp; omega, hp, hn, hkk]
  refine ask hcs ?_
  simp -implicitDefEqProofs only [↓aP, aQ, ↓reduceIte, Nat.reduceEqDiff, Nat.reduceAdd, Nat.reduceSub, Nat.reduceMul, Nat.reduceLT, Nat.reduceLeDiff, reduceCtorEq, Nat.reduceBEq, forall_const, implies_true, exists_const, ne_eq, Int.reduceAdd, Int.reduceSub, Int.reduceMul, Int.reduceBEq, Int.reduceEq, Int.reduceLT, Int.reduceLE, Int.reduceToNat, Int.reduceNeg, Int.reduceBNe, encDk, List.length_map, os.1, bne_self_eq_false]
  refine ask (by have := plan_spec ⟨s, []⟩ p x; rw [Jn.plan_new os hpp hx] at this; exact this) ?_
  simp -implicitDefEqProofs only [↓aP, aQ, ↓reduceIte, Nat.reduceEqDiff, Nat.reduceAdd, Nat.reduceSub, Nat.reduceMul, Nat.reduceLT, Nat.reduceLeDiff, reduceCtorEq, Nat.reduceBEq, forall_const, implies_true, exists_const, ne_eq, Int.reduceAdd, Int.reduceSub, Int.reduceMul, Int.reduceBEq, Int.reduceEq, Int.reduceLT, Int.reduceLE, Int.reduceToNat, Int.reduceNeg, Int.reduceBNe, bne_self_eq_false, encDk, hn]
  refine ask (by have := run_spec ⟨s, []⟩ (Jn.plan p x) n (by simp [Jn.plan]); rw [Jn.run_st os hpp hx] at this; exact this) ?_
  simp -implicitDefEqProofs only [↓aP, aQ, ↓reduceIte, Nat.reduceEqDiff, Nat.reduceAdd, Nat.reduceSub, Nat.reduceMul, Nat.reduceLT, Nat.reduceLeDiff, reduceCtorEq, Nat.reduceBEq, forall_const, implies_true, exists_const, ne_eq, Int.reduceAdd, Int.reduceSub, Int.reduceMul, Int.reduceBEq, Int.reduceEq, Int.reduceLT, Int.reduceLE, Int.reduceToNat, Int.reduceNeg, Int.reduceBNe, encDk]
  refine ask (by have := crash_spec (Jn.stP s p x n) keep (by omega); rw [ht] at this; exact this) ?_
  simp -implicitDefEqProofs only [↓aP, aQ, ↓reduceIte, Nat.reduceEqDiff, Nat.reduceAdd, Nat.reduceSub, Nat.reduceMul, Nat.reduceLT, Nat.reduceLeDiff, reduceCtorEq, Nat.reduceBEq, forall_const, implies_true, exists_const, ne_eq, Int.reduceAdd, Int.reduceSub, Int.reduceMul, Int.reduceBEq, Int.reduceEq, Int.reduceLT, Int.reduceLE, Int.reduceToNat, Int.reduceNeg, Int.reduceBNe, encDk]
  refine ask (by have := recover_spec ⟨t, []⟩; rw [e1] at this; exact this) ?_
  simp -implicitDefEqProofs only [↓aP, aQ, ↓reduceIte, Nat.reduceEqDiff, Nat.reduceAdd, Nat.reduceSub, Nat.reduceMul, Nat.reduceLT, Nat.reduceLeDiff, reduceCtorEq, Nat.reduceBEq, forall_const, implies_true, exists_const, ne_eq, Int.reduceAdd, Int.reduceSub, Int.reduceMul, Int.reduceBEq, Int.reduceEq, Int.reduceLT, Int.reduceLE, Int.reduceToNat, Int.reduceNeg, Int.reduceBNe, encDk]
  refine ask (by have := old_spec s t1 p x os os0 hpp hx m1 z1; rw [encDk] at this; exact this) ?_
  simp -implicitDefEqProofs only [↓aP, aQ, ↓reduceIte, Nat.reduceEqDiff, Nat.reduceAdd, Nat.reduceSub, Nat.reduceMul, Nat.reduceLT, Nat.reduceLeDiff, reduceCtorEq, Nat.reduceBEq, forall_const, implies_true, exists_const, ne_eq, Int.reduceAdd, Int.reduceSub, Int.reduceMul, Int.reduceBEq, Int.reduceEq, Int.reduceLT, Int.reduceLE, Int.reduceToNat, Int.reduceNeg, Int.reduceBNe, encDk]
  refine ask (by have := recover_spec ⟨t1, []⟩; rw [hid] at this; exact this) ?_
  simp -implicitDefEqProofs only [↓aP, aQ, ↓reduceIte, Nat.reduceEqDiff, Nat.reduceAdd, Nat.reduceSub, Nat.reduceMul, Nat.reduceLT, Nat.reduceLeDiff, reduceCtorEq, Nat.reduceBEq, forall_const, implies_true, exists_const, ne_eq, Int.reduceAdd, Int.reduceSub, Int.reduceMul, Int.reduceBEq, Int.reduceEq, Int.reduceLT, Int.reduceLE, Int.reduceToNat, Int.reduceNeg, Int.reduceBNe, encDk]
  refine ask (by have := same_spec ⟨t1, []⟩ (by rw [m1.ok.1]; omega) (by simp); rw [encDk] at this; exact this) ?_
  simp -implicitDefEqProofs only [↓aP, aQ, ↓reduceIte, Nat.reduceEqDiff, Nat.reduceAdd, Nat.reduceSub, Nat.reduceMul, Nat.reduceLT, Nat.reduceLeDiff, reduceCtorEq, Nat.reduceBEq, forall_const, implies_true, exists_const, ne_eq, Int.reduceAdd, Int.reduceSub, Int.reduceMul, Int.reduceBEq, Int.reduceEq, Int.reduceLT, Int.reduceLE, Int.reduceToNat, Int.reduceNeg, Int.reduceBNe, encDk]
  refine ⟨by decide +kernel, ?_⟩
  refine ask (repair_spec ⟨t, []⟩) ?_
  simp -implicitDefEqProofs only [↓aP, aQ, ↓reduceIte, Nat.reduceEqDiff, Nat.reduceAdd, Nat.reduceSub, Nat.reduceMul, Nat.reduceLT, Nat.reduceLeDiff, reduceCtorEq, Nat.reduceBEq, forall_const, implies_true, exists_const, ne_eq, Int.reduceAdd, Int.reduceSub, Int.reduceMul, Int.reduceBEq, Int.reduceEq, Int.reduceLT, Int.reduceLE, Int.reduceToNat, Int.reduceNeg, Int.reduceBNe, encDk, hkk]
  have hrk : Jn.runM ⟨t, []⟩ (Jn.repairM ⟨t, []⟩) (k : Int) = Jn.runJ ⟨t, []⟩ ((Jn.repairM ⟨t, []⟩).take k) := by unfold Jn.runM; rw [Int.toNat_natCast]
  refine ask (by have := run_spec ⟨t, []⟩ (Jn.repairM ⟨t, []⟩) k (by have := repair_le (d := ⟨t, []⟩); omega); rw [hrk, encDk] at this; exact this) ?_
  simp -implicitDefEqProofs only [↓aP, aQ, ↓reduceIte, Nat.reduceEqDiff, Nat.reduceAdd, Nat.reduceSub, Nat.reduceMul, Nat.reduceLT, Nat.reduceLeDiff, reduceCtorEq, Nat.reduceBEq, forall_const, implies_true, exists_const, ne_eq, Int.reduceAdd, Int.reduceSub, Int.reduceMul, Int.reduceBEq, Int.reduceEq, Int.reduceLT, Int.reduceLE, Int.reduceToNat, Int.reduceNeg, Int.reduceBNe, encDk]
  refine ask (by have := crash_spec (Jn.runJ ⟨t, []⟩ ((Jn.repairM ⟨t, []⟩).take k)) keeps (by omega); rw [e2] at this; exact this) ?_
  simp -implicitDefEqProofs only [↓aP, aQ, ↓reduceIte, Nat.reduceEqDiff, Nat.reduceAdd, Nat.reduceSub, Nat.reduceMul, Nat.reduceLT, Nat.reduceLeDiff, reduceCtorEq, Nat.reduceBEq, forall_const, implies_true, exists_const, ne_eq, Int.reduceAdd, Int.reduceSub, Int.reduceMul, Int.reduceBEq, Int.reduceEq, Int.reduceLT, Int.reduceLE, Int.reduceToNat, Int.reduceNeg, Int.reduceBNe, encDk]
  refine ask (by have := recover_spec ⟨t2, []⟩; rw [e3] at this; exact this) ?_
  simp -implicitDefEqProofs only [↓aP, aQ, ↓reduceIte, Nat.reduceEqDiff, Nat.reduceAdd, Nat.reduceSub, Nat.reduceMul, Nat.reduceLT, Nat.reduceLeDiff, reduceCtorEq, Nat.reduceBEq, forall_const, implies_true, exists_const, ne_eq, Int.reduceAdd, Int.reduceSub, Int.reduceMul, Int.reduceBEq, Int.reduceEq, Int.reduceLT, Int.reduceLE, Int.reduceToNat, Int.reduceNeg, Int.reduceBNe, encDk]
  refine ⟨by decide +kernel, ?_⟩
  refine ask (by have := old_spec s t3 p x os os0 hpp hx m3 z3; rw [encDk] at this; exact this) ?_
  simp -implicitDefEqProofs only [↓aP, aQ, ↓reduceIte, Nat.reduceEqDiff, Nat.reduceAdd, Nat.reduceSub, Nat.reduceMul, Nat.reduceLT, Nat.reduceLeDiff, reduceCtorEq, Nat.reduceBEq, forall_const, implies_true, exists_const, ne_eq, Int.reduceAdd, Int.reduceSub, Int.reduceMul, Int.reduceBEq, Int.reduceEq, Int.reduceLT, Int.reduceLE, Int.reduceToNat, Int.reduceNeg, Int.reduceBNe, encDk]
  refine ask (by have := jget_spec ⟨t1, []⟩ p; rw [hb] at this; exact this) ?_
  by_cases hn10 : n < 10
  · simp -implicitDefEqProofs only [↓aP, aQ, ↓reduceIte, Nat.reduceEqDiff, Nat.reduceAdd, Nat.reduceSub, Nat.reduceMul, Nat.reduceLT, Nat.reduceLeDiff, reduceCtorEq, Nat.reduceBEq, forall_const, implies_true, exists_const, ne_eq, Int.reduceAdd, Int.reduceSub, Int.reduceMul, Int.reduceBEq, Int.reduceEq, Int.reduceLT, Int.reduceLE, Int.reduceToNat, Int.reduceNeg, Int.reduceBNe, show decide ((n : Int) < 10) = true by simp; omega]
    refine ask awake_spec ?_
    simp -implicitDefEqProofs only [↓aP, aQ, ↓reduceIte, Nat.reduceEqDiff, Nat.reduceAdd, Nat.reduceSub, Nat.reduceMul, Nat.reduceLT, Nat.reduceLeDiff, reduceCtorEq, Nat.reduceBEq, forall_const, implies_true, exists_const, ne_eq, Int.reduceAdd, Int.reduceSub, Int.reduceMul, Int.reduceBEq, Int.reduceEq, Int.reduceLT, Int.reduceLE, Int.reduceToNat, Int.reduceNeg, Int.reduceBNe]
  · have hbx : b = x := by
      have hf := Jn.fin_get Jn.h35 os hpp hx (f1 (hft (by omega))) p hpp
      rw [if_pos rfl, hb] at hf
      exact congrArg Prod.fst hf
    simp -implicitDefEqProofs only [↓aP, aQ, ↓reduceIte, Nat.reduceEqDiff, Nat.reduceAdd, Nat.reduceSub, Nat.reduceMul, Nat.reduceLT, Nat.reduceLeDiff, reduceCtorEq, Nat.reduceBEq, forall_const, implies_true, exists_const, ne_eq, Int.reduceAdd, Int.reduceSub, Int.reduceMul, Int.reduceBEq, Int.reduceEq, Int.reduceLT, Int.reduceLE, Int.reduceToNat, Int.reduceNeg, Int.reduceBNe, show decide ((n : Int) < 10) = false by simp; omega, tl_beq, decide_eq_true hbx]
    refine ask awake_spec ?_
    simp -implicitDefEqProofs only [↓aP, aQ, ↓reduceIte, Nat.reduceEqDiff, Nat.reduceAdd, Nat.reduceSub, Nat.reduceMul, Nat.reduceLT, Nat.reduceLeDiff, reduceCtorEq, Nat.reduceBEq, forall_const, implies_true, exists_const, ne_eq, Int.reduceAdd, Int.reduceSub, Int.reduceMul, Int.reduceBEq, Int.reduceEq, Int.reduceLT, Int.reduceLE, Int.reduceToNat, Int.reduceNeg, Int.reduceBNe]
open Go.ChangeShapes Go.WideShapes in
theorem journalWhole_walk {w : World} (v0 : Value) (a0 : ∃ A : List ByteArray, A.length ≤ maxLen ∧ RepT (RepS w fun _ => False) (rL 1 (A.map encS)) v0) (a : Int) (ha : (Lit.int .u8 a).wf = true) (x : ByteArray) (hx : x.size ≤ maxLen) (c : Int) (hc : (Lit.int .u8 c).wf = true)
    (v4 : Value) (a4 : ∃ l : List Int, RepT (RepS w fun _ => False) (rL 1 (l.map encI)) v4 ∧ ∀ a ∈ l, (Lit.int .i64 a).wf = true) (g : Int) (hg : (Lit.int .u8 g).wf = true) (v6 : Value) (a6 : ∃ l : List Int, RepT (RepS w fun _ => False) (rL 1 (l.map encI)) v6 ∧ ∀ a ∈ l, (Lit.int .i64 a).wf = true) :
    Calls Try.prog 10 #[v0, .int .u8 a, .string x, .int .u8 c, v4, .int .u8 g, v6] w fun e w' => e = .returned (.bool true) ∧ Below w.heap.size w w' := by
  obtain ⟨A, h3, h4⟩ := a0
  obtain ⟨k, hk, _⟩ := a4
  obtain ⟨k2, hk2, _⟩ := a6
  exact (law_whole A (by unfold maxLen at h3; omega) a (u8_of ha) x c (u8_of hc) k g (u8_of hg) k2).plain (us := [v0, .int .u8 a, .string x, .int .u8 c, v4, .int .u8 g, v6]) (.cons h4 (.cons (.pv rfl) (.cons (.pv rfl) (.cons (.pv rfl) (.cons hk (.cons (.pv rfl) (.cons hk2 .nil)))))))
end Go.Proofs.Yteghmlafodkfpaa
