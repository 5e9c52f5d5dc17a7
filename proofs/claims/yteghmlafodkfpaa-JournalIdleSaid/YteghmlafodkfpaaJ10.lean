/- layer 12: the laws JournalApart, JournalIdle: their walks. -/
import Derived.Test.YteghmlafodkfpaaJ8
import Derived.Test.YteghmlafodkfpaaJ5
namespace Go.Proofs.Yteghmlafodkfpaa
open Go.RowKit
set_option linter.unusedVariables false
set_option linter.unusedSimpArgs false
namespace Jn
theorem get_eq {s : List ByteArray} {q : Int} (hs : Ok 35 s) (hq : 1 ≤ q ∧ q ≤ 16) : (getM ⟨s, []⟩ q).2 = 0 := by rw [get_sec h35 hs hq]
/-- two pages, committed one behind the other -/
theorem two_get {s : List ByteArray} {i k : Int} {a b : ByteArray} (hs : Ok 35 s) (hi : 1 ≤ i ∧ i ≤ 16) (hk : 1 ≤ k ∧ k ≤ 16) (ha : a.size = 32) (hb : b.size = 32) (q : Int) (hq : 1 ≤ q ∧ q ≤ 16) :
    getM ⟨s4 (s4 s i a) k b, []⟩ q = (if q = k then b else if q = i then a else (getM ⟨s, []⟩ q).1, 0) := by
  have f1 := s4_fin h35 hs hi ha
  have f2 := s4_fin h35 f1.ok hk hb
  rw [fin_get h35 f1.ok hk hb f2 q hq, fin_get h35 hs hi ha f1 q hq]
theorem mend_get {u : List ByteArray} {c : List Wr} {p : Int} {x : ByteArray} (hu : Ok 35 u) (hc : Cok 35 c) (hp : 1 ≤ p ∧ p ≤ 16) (hx : x.size = 32) (hl : c.length ≤ 90) (h0 : rd u c 0 = headB p) (h1 : rd u c 1 = lo x) (h2 : rd u c 2 = hi x) :
    ∃ t, recoverM ⟨u, c⟩ = ⟨t, []⟩ ∧ ∀ q : Int, 1 ≤ q ∧ q ≤ 16 → getM ⟨t, []⟩ q = (if q = p then x else (getM ⟨u, c⟩ q).1, 0) := by
  obtain ⟨e, hc2⟩ := recover_mend h35 hu hc hp hl (by rw [h0]; exact headed_b hp) (by rw [h0]; exact head_nought)
  rw [h1, h2] at e hc2
  have o1 := ok_done hu hc2
  have c0 : Cok 35 [⟨0, noughts⟩] := cok1 (by omega) size_noughts
  refine ⟨_, e, fun q hq => ?_⟩
  have r : ∀ i : Int, 0 ≤ i → i < 35 → rd (doneS (doneS u (c ++ [⟨2 * p + 1, lo x⟩] ++ [⟨2 * p + 2, hi x⟩])) [⟨0, noughts⟩]) [] i = if 0 = i then noughts else if 2 * p + 2 = i then hi x else if 2 * p + 1 = i then lo x else rd u c i := fun i h0 h1 => by
    rw [rd_done o1 c0 ⟨h0, h1⟩, rd1, rd_done hu hc2 ⟨h0, h1⟩, rd_snoc, rd_snoc]
  rw [get_sec h35 (ok_done o1 c0) hq, r _ (by omega) (by omega), r _ (by omega) (by omega), get_rd h35 hu hc (page_iff.2 hq)]
  by_cases e1 : q = p
  · subst e1
    rw [if_neg (by omega), if_neg (by omega), if_pos rfl, if_neg (by omega), if_pos rfl, if_pos rfl, lo_hi hx]
  · rw [if_neg (by omega), if_neg (by omega), if_neg (by omega), if_neg (by omega), if_neg (by omega), if_neg (by omega), if_neg e1]
/-- behind most operations of a plan Recover changes nothing -/
theorem idle_get {s : List ByteArray} {p : Int} {x : ByteArray} (hs : Ok 35 s) (h0 : rd s [] 0 = noughts) (hp : 1 ≤ p ∧ p ≤ 16) (hx : x.size = 32) (n : Nat) (q : Int) (hq : 1 ≤ q ∧ q ≤ 16) :
    (getM (stP s p x n) q).2 = 0 ∧ (getM (recoverM (stP s p x n)) q).2 = 0 ∧ ((getM (stP s p x n) q).1 = (getM (recoverM (stP s p x n)) q).1 ∨ q = p ∧ 4 ≤ n ∧ n ≤ 6) := by
  have z1 := size_lo hx
  have z2 := size_hi hx
  have o1 := ok1 h35 hs hx
  have o2 := ok2 (p := p) h35 hs hx
  have o3 := ok3 h35 hs hp hx
  have o4 := ok4 h35 hs hp hx
  have c1 : Cok 35 [⟨1, lo x⟩] := cok1 (by omega) z1
  have c2 : Cok 35 [⟨1, lo x⟩, ⟨2, hi x⟩] := cok2 (by omega) z1 (by omega) z2
  have c3 : Cok 35 [⟨0, headB p⟩] := cok1 (by omega) size_head
  have c4 : Cok 35 [⟨2 * p + 1, lo x⟩] := cok1 (by omega) z1
  have c5 : Cok 35 [⟨2 * p + 1, lo x⟩, ⟨2 * p + 2, hi x⟩] := cok2 (by omega) z1 (by omega) z2
  have c6 : Cok 35 [⟨0, noughts⟩] := cok1 (by omega) size_noughts
  have idle : ∀ u c, Ok 35 u → Cok 35 c → rd u c 0 = noughts → (getM ⟨u, c⟩ q).2 = 0 ∧ (getM (recoverM ⟨u, c⟩) q).2 = 0 ∧ ((getM ⟨u, c⟩ q).1 = (getM (recoverM ⟨u, c⟩) q).1 ∨ q = p ∧ 4 ≤ n ∧ n ≤ 6) := fun u c hu hc hz => by
    rw [recover_idle h35 hu hc hz, get_rd h35 hu hc (page_iff.2 hq)]
    exact ⟨rfl, rfl, .inl rfl⟩
  have mend : ∀ u c, Ok 35 u → Cok 35 c → c.length ≤ 90 → rd u c 0 = headB p → rd u c 1 = lo x → rd u c 2 = hi x → ((4 ≤ n ∧ n ≤ 6) ∨ (getM ⟨u, c⟩ p).1 = x) → (getM ⟨u, c⟩ q).2 = 0 ∧ (getM (recoverM ⟨u, c⟩) q).2 = 0 ∧ ((getM ⟨u, c⟩ q).1 = (getM (recoverM ⟨u, c⟩) q).1 ∨ q = p ∧ 4 ≤ n ∧ n ≤ 6) := fun u c hu hc hl h0 h1 h2 hw => by
    obtain ⟨t, e, hg⟩ := mend_get hu hc hp hx hl h0 h1 h2
    rw [e, hg q hq]
    refine ⟨by rw [get_rd h35 hu hc (page_iff.2 hq)], rfl, ?_⟩
    by_cases e1 : q = p
    · rcases hw with hw | hw
      · exact .inr ⟨e1, hw⟩
      · left; simp only; rw [if_pos e1, e1]; exact hw
    · left; simp only; rw [if_neg e1]
  match n with
  | 0 => exact idle _ _ hs cok_nil h0
  | 1 => exact idle _ _ hs c1 (by rw [rd1, if_neg (by omega)]; exact h0)
  | 2 => exact idle _ _ hs c2 (by rw [rd2, if_neg (by omega), if_neg (by omega)]; exact h0)
  | 3 => exact idle _ _ o1 cok_nil (by rw [rdS1 h35 hs hx (by omega), if_neg (by omega), if_neg (by omega)]; exact h0)
  | 4 => exact mend _ _ o1 c3 (by simp) (by rw [rd1, if_pos rfl]) (by rw [rd1, if_neg (by omega), rdS1 h35 hs hx (by omega)]; rfl) (by rw [rd1, if_neg (by omega), rdS1 h35 hs hx (by omega)]; rfl) (.inl (by omega))
  | 5 => exact mend _ _ o2 cok_nil (by simp) (by rw [rdS2 h35 hs hx (by omega)]; rfl) (by rw [rdS2 h35 hs hx (by omega)]; rfl) (by rw [rdS2 h35 hs hx (by omega)]; rfl) (.inl (by omega))
  | 6 => exact mend _ _ o2 c4 (by simp) (by rw [rd1, if_neg (by omega), rdS2 h35 hs hx (by omega)]; rfl) (by rw [rd1, if_neg (by omega), rdS2 h35 hs hx (by omega)]; rfl) (by rw [rd1, if_neg (by omega), rdS2 h35 hs hx (by omega)]; rfl) (.inl (by omega))
  | 7 => exact mend _ _ o2 c5 (by simp) (by rw [rd2, if_neg (by omega), if_neg (by omega), rdS2 h35 hs hx (by omega)]; rfl) (by rw [rd2, if_neg (by omega), if_neg (by omega), rdS2 h35 hs hx (by omega)]; rfl) (by rw [rd2, if_neg (by omega), if_neg (by omega), rdS2 h35 hs hx (by omega)]; rfl) (.inr (by
      rw [get_rd h35 o2 c5 (page_iff.2 hp), rd2, rd2, if_neg (by omega), if_pos rfl, if_pos rfl]; exact lo_hi hx))
  | 8 => exact mend _ _ o3 cok_nil (by simp) (by rw [rdS3 h35 hs hp hx (by omega), if_neg (by omega), if_neg (by omega)]; rfl) (by rw [rdS3 h35 hs hp hx (by omega), if_neg (by omega), if_neg (by omega)]; rfl) (by rw [rdS3 h35 hs hp hx (by omega), if_neg (by omega), if_neg (by omega)]; rfl) (.inr (by
      rw [get_rd h35 o3 cok_nil (page_iff.2 hp), rdS3 h35 hs hp hx (by omega), rdS3 h35 hs hp hx (by omega), if_neg (by omega), if_pos rfl, if_pos rfl]; exact lo_hi hx))
  | 9 => exact idle _ _ o3 c6 (by rw [rd1, if_pos rfl])
  | k + 10 => exact idle _ _ o4 cok_nil (by rw [rdS4 h35 hs hp hx (by omega)]; rfl)
end Jn

set_option maxRecDepth 100000 in
set_option maxHeartbeats 4000000 in
theorem law_apart (l : List ByteArray) (hl : l.length ≤ 9223372036854775807) (a : Int) (ha : 0 ≤ a ∧ a ≤ 255) (c : Int) (hc : 0 ≤ c ∧ c ≤ 255) (x y : ByteArray) :
    Spec Try.prog 14 [rL 1 (l.map encS), .c (.pv (.int .u8 a)), .c (.pv (.int .u8 c)), rS x, rS y] (.val (rB true)) := by
  refine spec_val mixed fn14 (by simp) ?_
  unfold ac14
  obtain ⟨i, hi, hi1, hi16⟩ : ∃ p : Int, IntKind.i64.wrap (1 + IntKind.i64.wrap (a.tmod 16)) = p ∧ 1 ≤ p ∧ p ≤ 16 := by
    rw [Int.tmod_eq_emod_of_nonneg ha.1, wrapI (x := a % 16) (by omega), wrapI (by omega)]
    exact ⟨1 + a % 16, rfl, by omega, by omega⟩
  obtain ⟨k, hk, hk1, hk16⟩ : ∃ p : Int, IntKind.i64.wrap (1 + IntKind.i64.wrap (c.tmod 16)) = p ∧ 1 ≤ p ∧ p ≤ 16 := by
    rw [Int.tmod_eq_emod_of_nonneg hc.1, wrapI (x := c % 16) (by omega), wrapI (by omega)]
    exact ⟨1 + c % 16, rfl, by omega, by omega⟩
  obtain ⟨os, os0⟩ := calmS_ok l l.length
  have hcs := calm_spec l hl
  generalize calmS l l.length = s at os os0 hcs
  simp -implicitDefEqProofs only [↓aP, aQ, ↓reduceIte, Nat.reduceEqDiff, Nat.reduceAdd, Nat.reduceSub, Nat.reduceMul, Nat.reduceLT, Nat.reduceLeDiff, reduceCtorEq, Nat.reduceBEq, forall_const, implies_true, exists_const, ne_eq, Int.reduceAdd, Int.reduceSub, Int.reduceMul, Int.reduceBEq, Int.reduceEq, Int.reduceLT, Int.reduceLE, Int.reduceToNat, Int.reduceNeg, Int.reduceBNe]
  refine ask hcs ?_
  by_cases hx : x.size = 32
  case neg =>
    simp -implicitDefEqProofs only [↓aP, aQ, ↓reduceIte, Nat.reduceEqDiff, Nat.reduceAdd, Nat.reduceSub, Nat.reduceMul, Nat.reduceLT, Nat.reduceLeDiff, reduceCtorEq, Nat.reduceBEq, forall_const, implies_true, exists_const, ne_eq, Int.reduceAdd, Int.reduceSub, Int.reduceMul, Int.reduceBEq, Int.reduceEq, Int.reduceLT, Int.reduceLE, Int.reduceToNat, Int.reduceNeg, Int.reduceBNe, show ((x.size : Int) != 32) = true by rw [bne_iff_ne]; omega, encDk]
    refine ask awake_spec ?_
    simp -implicitDefEqProofs only [↓aP, aQ, ↓reduceIte, Nat.reduceEqDiff, Nat.reduceAdd, Nat.reduceSub, Nat.reduceMul, Nat.reduceLT, Nat.reduceLeDiff, reduceCtorEq, Nat.reduceBEq, forall_const, implies_true, exists_const, ne_eq, Int.reduceAdd, Int.reduceSub, Int.reduceMul, Int.reduceBEq, Int.reduceEq, Int.reduceLT, Int.reduceLE, Int.reduceToNat, Int.reduceNeg, Int.reduceBNe]
  by_cases hy : y.size = 32
  case neg =>
    simp -implicitDefEqProofs only [↓aP, aQ, ↓reduceIte, Nat.reduceEqDiff, Nat.reduceAdd, Nat.reduceSub, Nat.reduceMul, Nat.reduceLT, Nat.reduceLeDiff, reduceCtorEq, Nat.reduceBEq, forall_const, implies_true, exists_const, ne_eq, Int.reduceAdd, Int.reduceSub, Int.reduceMul, Int.reduceBEq, Int.reduceEq, Int.reduceLT, Int.reduceLE, Int.reduceToNat, Int.reduceNeg, Int.reduceBNe, hx, show ((y.size : Int) != 32) = true by rw [bne_iff_ne]; omega, encDk]
    refine ask awake_spec ?_
    simp -implicitDefEqProofs only [↓aP, aQ, ↓reduceIte, Nat.reduceEqDiff, Nat.reduceAdd, Nat.reduceSub, Nat.reduceMul, Nat.reduceLT, Nat.reduceLeDiff, reduceCtorEq, Nat.reduceBEq, forall_const, implies_true, exists_const, ne_eq, Int.reduceAdd, Int.reduceSub, Int.reduceMul, Int.reduceBEq, Int.reduceEq, Int.reduceLT, Int.reduceLE, Int.reduceToNat, Int.reduceNeg, Int.reduceBNe]
  have hii : (1 : Int) ≤ i ∧ i ≤ 16 := ⟨hi1, hi16⟩
  have hkk : (1 : Int) ≤ k ∧ k ≤ 16 := ⟨hk1, hk16⟩
  have o1 := (Jn.s4_fin Jn.h35 os hii hx).ok
  have o2 := (Jn.s4_fin Jn.h35 os hkk hy).ok
  simp -implicitDefEqProofs only [↓aP, aQ, ↓reduceIte, Nat.reduceEqDiff, Nat.reduceAdd, Nat.reduceSub, Nat.reduceMul, Nat.reduceLT, Nat.reduceLeDiff, reduceCtorEq, Nat.reduceBEq, forall_const, implies_true, exists_const, ne_eq, Int.reduceAdd, Int.reduceSub, Int.reduceMul, Int.reduceBEq, Int.reduceEq, Int.reduceLT, Int.reduceLE, Int.reduceToNat, Int.reduceNeg, Int.reduceBNe, hx, hy, encDk, List.length_map, os.1, bne_self_eq_false, hi, hk]
  refine ask (by have := commit_spec ⟨s, []⟩ i x; rw [Jn.commit_st Jn.h35 os hii hx] at this; exact this) ?_
  simp -implicitDefEqProofs only [↓aP, aQ, ↓reduceIte, Nat.reduceEqDiff, Nat.reduceAdd, Nat.reduceSub, Nat.reduceMul, Nat.reduceLT, Nat.reduceLeDiff, reduceCtorEq, Nat.reduceBEq, forall_const, implies_true, exists_const, ne_eq, Int.reduceAdd, Int.reduceSub, Int.reduceMul, Int.reduceBEq, Int.reduceEq, Int.reduceLT, Int.reduceLE, Int.reduceToNat, Int.reduceNeg, Int.reduceBNe, encDk]
  refine ask (by have := commit_spec ⟨Jn.s4 s i x, []⟩ k y; rw [Jn.commit_st Jn.h35 o1 hkk hy] at this; exact this) ?_
  simp -implicitDefEqProofs only [↓aP, aQ, ↓reduceIte, Nat.reduceEqDiff, Nat.reduceAdd, Nat.reduceSub, Nat.reduceMul, Nat.reduceLT, Nat.reduceLeDiff, reduceCtorEq, Nat.reduceBEq, forall_const, implies_true, exists_const, ne_eq, Int.reduceAdd, Int.reduceSub, Int.reduceMul, Int.reduceBEq, Int.reduceEq, Int.reduceLT, Int.reduceLE, Int.reduceToNat, Int.reduceNeg, Int.reduceBNe, encDk]
  refine ask (by have := commit_spec ⟨s, []⟩ k y; rw [Jn.commit_st Jn.h35 os hkk hy] at this; exact this) ?_
  simp -implicitDefEqProofs only [↓aP, aQ, ↓reduceIte, Nat.reduceEqDiff, Nat.reduceAdd, Nat.reduceSub, Nat.reduceMul, Nat.reduceLT, Nat.reduceLeDiff, reduceCtorEq, Nat.reduceBEq, forall_const, implies_true, exists_const, ne_eq, Int.reduceAdd, Int.reduceSub, Int.reduceMul, Int.reduceBEq, Int.reduceEq, Int.reduceLT, Int.reduceLE, Int.reduceToNat, Int.reduceNeg, Int.reduceBNe, encDk]
  refine ask (by have := commit_spec ⟨Jn.s4 s k y, []⟩ i x; rw [Jn.commit_st Jn.h35 o2 hii hx] at this; exact this) ?_
  simp -implicitDefEqProofs only [↓aP, aQ, ↓reduceIte, Nat.reduceEqDiff, Nat.reduceAdd, Nat.reduceSub, Nat.reduceMul, Nat.reduceLT, Nat.reduceLeDiff, reduceCtorEq, Nat.reduceBEq, forall_const, implies_true, exists_const, ne_eq, Int.reduceAdd, Int.reduceSub, Int.reduceMul, Int.reduceBEq, Int.reduceEq, Int.reduceLT, Int.reduceLE, Int.reduceToNat, Int.reduceNeg, Int.reduceBNe, encDk, bne_self_eq_false]
  refine loopA (fun m σ => ∃ j : Int, j = 17 - (m : Int) ∧ m ≤ 16 ∧ σ.slot 3 = .c (.s (.pv (.string x))) ∧ σ.slot 4 = .c (.s (.pv (.string y))) ∧ σ.slot 12 = vI i ∧ σ.slot 13 = vI k ∧ σ.slot 14 = .c (.ptr 14 1 0 0) ∧ σ.h.gen 14 = 1 ∧ σ.h.blk 14 = .box 68 2 [(encDk ⟨Jn.s4 (Jn.s4 s i x) k y, []⟩).map AC.s] ∧ σ.slot 17 = .c (.ptr 17 1 0 0) ∧ σ.h.gen 17 = 1 ∧ σ.h.blk 17 = .box 68 2 [(encDk ⟨Jn.s4 (Jn.s4 s k y) i x, []⟩).map AC.s] ∧ σ.slot 20 = vI j) 16 ⟨1, by omega, by omega, ?_⟩ ?_
  · simp -implicitDefEqProofs only [↓aP, aQ, ↓reduceIte, Nat.reduceEqDiff, Nat.reduceAdd, Nat.reduceSub, Nat.reduceMul, Nat.reduceLT, Nat.reduceLeDiff, reduceCtorEq, Nat.reduceBEq, forall_const, implies_true, exists_const, ne_eq, Int.reduceAdd, Int.reduceSub, Int.reduceMul, Int.reduceBEq, Int.reduceEq, Int.reduceLT, Int.reduceLE, Int.reduceToNat, Int.reduceNeg, Int.reduceBNe, encDk, List.map_nil]
  rintro m σ ⟨j, hj, hm16, s3, s4, s12, s13, s14, g14, b14, s17, g17, b17, s20⟩
  by_cases hm0 : m = 0
  · subst hm0
    simp -implicitDefEqProofs only [↓aP, aQ, ↓reduceIte, Nat.reduceEqDiff, Nat.reduceAdd, Nat.reduceSub, Nat.reduceMul, Nat.reduceLT, Nat.reduceLeDiff, reduceCtorEq, Nat.reduceBEq, forall_const, implies_true, exists_const, ne_eq, Int.reduceAdd, Int.reduceSub, Int.reduceMul, Int.reduceBEq, Int.reduceEq, Int.reduceLT, Int.reduceLE, Int.reduceToNat, Int.reduceNeg, Int.reduceBNe, s3, s4, s12, s13, s14, g14, b14, s17, g17, b17, s20, show decide (j ≤ 16) = false by simp; omega]
    refine ask awake_spec ?_
    simp -implicitDefEqProofs only [↓aP, aQ, ↓reduceIte, Nat.reduceEqDiff, Nat.reduceAdd, Nat.reduceSub, Nat.reduceMul, Nat.reduceLT, Nat.reduceLeDiff, reduceCtorEq, Nat.reduceBEq, forall_const, implies_true, exists_const, ne_eq, Int.reduceAdd, Int.reduceSub, Int.reduceMul, Int.reduceBEq, Int.reduceEq, Int.reduceLT, Int.reduceLE, Int.reduceToNat, Int.reduceNeg, Int.reduceBNe]
  have hjj : (1 : Int) ≤ j ∧ j ≤ 16 := by omega
  have g1 := Jn.two_get os hii hkk hx hy j hjj
  have g2 := Jn.two_get os hkk hii hy hx j hjj
  have w3 : IntKind.i64.wrap (j + 1) = j + 1 := wrapI (by omega)
  simp -implicitDefEqProofs only [↓aP, aQ, ↓reduceIte, Nat.reduceEqDiff, Nat.reduceAdd, Nat.reduceSub, Nat.reduceMul, Nat.reduceLT, Nat.reduceLeDiff, reduceCtorEq, Nat.reduceBEq, forall_const, implies_true, exists_const, ne_eq, Int.reduceAdd, Int.reduceSub, Int.reduceMul, Int.reduceBEq, Int.reduceEq, Int.reduceLT, Int.reduceLE, Int.reduceToNat, Int.reduceNeg, Int.reduceBNe, s3, s4, s12, s13, s14, g14, b14, s17, g17, b17, s20, show decide (j ≤ 16) = true by simp; omega, encDk]
  refine ask (by have := jget_spec ⟨Jn.s4 (Jn.s4 s i x) k y, []⟩ j; rw [g1] at this; exact this) ?_
  simp -implicitDefEqProofs only [↓aP, aQ, ↓reduceIte, Nat.reduceEqDiff, Nat.reduceAdd, Nat.reduceSub, Nat.reduceMul, Nat.reduceLT, Nat.reduceLeDiff, reduceCtorEq, Nat.reduceBEq, forall_const, implies_true, exists_const, ne_eq, Int.reduceAdd, Int.reduceSub, Int.reduceMul, Int.reduceBEq, Int.reduceEq, Int.reduceLT, Int.reduceLE, Int.reduceToNat, Int.reduceNeg, Int.reduceBNe, s3, s4, s12, s13, s14, g14, b14, s17, g17, b17, s20, encDk]
  refine ask (by have := jget_spec ⟨Jn.s4 (Jn.s4 s k y) i x, []⟩ j; rw [g2] at this; exact this) ?_
  by_cases hik : i = k
  · subst hik
    by_cases hji : j = i
    · simp -implicitDefEqProofs only [↓aP, aQ, ↓reduceIte, Nat.reduceEqDiff, Nat.reduceAdd, Nat.reduceSub, Nat.reduceMul, Nat.reduceLT, Nat.reduceLeDiff, reduceCtorEq, Nat.reduceBEq, forall_const, implies_true, exists_const, ne_eq, Int.reduceAdd, Int.reduceSub, Int.reduceMul, Int.reduceBEq, Int.reduceEq, Int.reduceLT, Int.reduceLE, Int.reduceToNat, Int.reduceNeg, Int.reduceBNe, s3, s4, s12, s13, s14, g14, b14, s17, g17, b17, s20, bne_self_eq_false, beq_self_eq_true, hji, if_true, tl_beq, decide_true, Bool.not_true, show IntKind.i64.wrap (i + 1) = i + 1 by rw [← hji]; exact w3]
      refine ⟨m - 1, by omega, i + 1, by omega, by omega, ?_⟩
      simp -implicitDefEqProofs only [↓aP, aQ, ↓reduceIte, Nat.reduceEqDiff, Nat.reduceAdd, Nat.reduceSub, Nat.reduceMul, Nat.reduceLT, Nat.reduceLeDiff, reduceCtorEq, Nat.reduceBEq, forall_const, implies_true, exists_const, ne_eq, Int.reduceAdd, Int.reduceSub, Int.reduceMul, Int.reduceBEq, Int.reduceEq, Int.reduceLT, Int.reduceLE, Int.reduceToNat, Int.reduceNeg, Int.reduceBNe, s3, s4, s12, s13, s14, g14, b14, s17, g17, b17, s20, encDk, List.map_nil]
    · simp -implicitDefEqProofs only [↓aP, aQ, ↓reduceIte, Nat.reduceEqDiff, Nat.reduceAdd, Nat.reduceSub, Nat.reduceMul, Nat.reduceLT, Nat.reduceLeDiff, reduceCtorEq, Nat.reduceBEq, forall_const, implies_true, exists_const, ne_eq, Int.reduceAdd, Int.reduceSub, Int.reduceMul, Int.reduceBEq, Int.reduceEq, Int.reduceLT, Int.reduceLE, Int.reduceToNat, Int.reduceNeg, Int.reduceBNe, s3, s4, s12, s13, s14, g14, b14, s17, g17, b17, s20, bne_self_eq_false, beq_self_eq_true, show (j == i) = false by simpa using hji, w3]
      refine ⟨m - 1, by omega, j + 1, by omega, by omega, ?_⟩
      simp -implicitDefEqProofs only [↓aP, aQ, ↓reduceIte, Nat.reduceEqDiff, Nat.reduceAdd, Nat.reduceSub, Nat.reduceMul, Nat.reduceLT, Nat.reduceLeDiff, reduceCtorEq, Nat.reduceBEq, forall_const, implies_true, exists_const, ne_eq, Int.reduceAdd, Int.reduceSub, Int.reduceMul, Int.reduceBEq, Int.reduceEq, Int.reduceLT, Int.reduceLE, Int.reduceToNat, Int.reduceNeg, Int.reduceBNe, s3, s4, s12, s13, s14, g14, b14, s17, g17, b17, s20, encDk, List.map_nil]
  · have heq : (if j = k then y else if j = i then x else (Jn.getM ⟨s, []⟩ j).1) = (if j = i then x else if j = k then y else (Jn.getM ⟨s, []⟩ j).1) := by
      by_cases h1 : j = k
      · rw [if_pos h1, if_neg (by omega), if_pos h1]
      · by_cases h2 : j = i
        · rw [if_neg h1, if_pos h2, if_pos h2]
        · rw [if_neg h1, if_neg h2, if_neg h2, if_neg h1]
    simp -implicitDefEqProofs only [↓aP, aQ, ↓reduceIte, Nat.reduceEqDiff, Nat.reduceAdd, Nat.reduceSub, Nat.reduceMul, Nat.reduceLT, Nat.reduceLeDiff, reduceCtorEq, Nat.reduceBEq, forall_const, implies_true, exists_const, ne_eq, Int.reduceAdd, Int.reduceSub, Int.reduceMul, Int.reduceBEq, Int.reduceEq, Int.reduceLT, Int.reduceLE, Int.reduceToNat, Int.reduceNeg, Int.reduceBNe, s3, s4, s12, s13, s14, g14, b14, s17, g17, b17, s20, bne_self_eq_false, show (i != k) = true by simpa using hik, show (i == k) = false by simpa using hik, heq, tl_beq, decide_true, Bool.not_true, w3]
    refine ⟨m - 1, by omega, j + 1, by omega, by omega, ?_⟩
    simp -implicitDefEqProofs only [↓aP, aQ, ↓reduceIte, Nat.reduceEqDiff, Nat.reduceAdd, Nat.reduceSub, Nat.reduceMul, Nat.reduceLT, Nat.reduceLeDiff, reduceCtorEq, Nat.reduceBEq, forall_const, implies_true, exists_const, ne_eq, Int.reduceAdd, Int.reduceSub, Int.reduceMul, Int.reduceBEq, Int.reduceEq, Int.reduceLT, Int.reduceLE, Int.reduceToNat, Int.reduceNeg, Int.reduceBNe, s3, s4, s12, s13, s14, g14, b14, s17, g17, b17, s20, encDk, List.map_nil]


set_option maxRecDepth 100000 in
set_option maxHeartbeats 4000000 in
theorem law_idle (l : List ByteArray) (hl : l.length ≤ 9223372036854775807) (a : Int) (ha : 0 ≤ a ∧ a ≤ 255) (x : ByteArray) :
    Spec Try.prog 12 [rL 1 (l.map encS), .c (.pv (.int .u8 a)), rS x] (.val (rB true)) := by
  refine spec_val mixed fn12 (by simp) ?_
  unfold ac12
  obtain ⟨p, hp, hp1, hp16⟩ : ∃ p : Int, IntKind.i64.wrap (1 + IntKind.i64.wrap (a.tmod 16)) = p ∧ 1 ≤ p ∧ p ≤ 16 := by
    rw [Int.tmod_eq_emod_of_nonneg ha.1, wrapI (x := a % 16) (by omega), wrapI (by omega)]
    exact ⟨1 + a % 16, rfl, by omega, by omega⟩
  obtain ⟨os, os0⟩ := calmS_ok l l.length
  have hcs := calm_spec l hl
  generalize calmS l l.length = s at os os0 hcs
  simp -implicitDefEqProofs only [↓aP, aQ, ↓reduceIte, Nat.reduceEqDiff, Nat.reduceAdd, Nat.reduceSub, Nat.reduceMul, Nat.reduceLT, Nat.reduceLeDiff, reduceCtorEq, Nat.reduceBEq, forall_const, implies_true, exists_const, ne_eq, Int.reduceAdd, Int.reduceSub, Int.reduceMul, Int.reduceBEq, Int.reduceEq, Int.reduceLT, Int.reduceLE, Int.reduceToNat, Int.reduceNeg, Int.reduceBNe]
  refine ask hcs ?_
  by_cases hx : x.size = 32
  case neg =>
    simp -implicitDefEqProofs only [↓aP, aQ, ↓reduceIte, Nat.reduceEqDiff, Nat.reduceAdd, Nat.reduceSub, Nat.reduceMul, Nat.reduceLT, Nat.reduceLeDiff, reduceCtorEq, Nat.reduceBEq, forall_const, implies_true, exists_const, ne_eq, Int.reduceAdd, Int.reduceSub, Int.reduceMul, Int.reduceBEq, Int.reduceEq, Int.reduceLT, Int.reduceLE, Int.reduceToNat, Int.reduceNeg, Int.reduceBNe, show ((x.size : Int) != 32) = true by rw [bne_iff_ne]; omega, encDk]
    refine ask awake_spec ?_
    simp -implicitDefEqProofs only [↓aP, aQ, ↓reduceIte, Nat.reduceEqDiff, Nat.reduceAdd, Nat.reduceSub, Nat.reduceMul, Nat.reduceLT, Nat.reduceLeDiff, reduceCtorEq, Nat.reduceBEq, forall_const, implies_true, exists_const, ne_eq, Int.reduceAdd, Int.reduceSub, Int.reduceMul, Int.reduceBEq, Int.reduceEq, Int.reduceLT, Int.reduceLE, Int.reduceToNat, Int.reduceNeg, Int.reduceBNe]
  have hpp : (1 : Int) ≤ p ∧ p ≤ 16 := ⟨hp1, hp16⟩
  simp -implicitDefEqProofs only [↓aP, aQ, ↓reduceIte, Nat.reduceEqDiff, Nat.reduceAdd, Nat.reduceSub, Nat.reduceMul, Nat.reduceLT, Nat.reduceLeDiff, reduceCtorEq, Nat.reduceBEq, forall_const, implies_true, exists_const, ne_eq, Int.reduceAdd, Int.reduceSub, Int.reduceMul, Int.reduceBEq, Int.reduceEq, Int.reduceLT, Int.reduceLE, Int.reduceToNat, Int.reduceNeg, Int.reduceBNe, hx, encDk, List.length_map, os.1, bne_self_eq_false, hp]
  refine ask (by have := plan_spec ⟨s, []⟩ p x; rw [Jn.plan_new os hpp hx] at this; exact this) ?_
  simp -implicitDefEqProofs only [↓aP, aQ, ↓reduceIte, Nat.reduceEqDiff, Nat.reduceAdd, Nat.reduceSub, Nat.reduceMul, Nat.reduceLT, Nat.reduceLeDiff, reduceCtorEq, Nat.reduceBEq, forall_const, implies_true, exists_const, ne_eq, Int.reduceAdd, Int.reduceSub, Int.reduceMul, Int.reduceBEq, Int.reduceEq, Int.reduceLT, Int.reduceLE, Int.reduceToNat, Int.reduceNeg, Int.reduceBNe, bne_self_eq_false, encDk, List.length_map, show (Jn.plan p x).length = 10 from rfl]
  refine ask (by have := repair_spec ⟨s, []⟩; rw [Jn.repair_idle Jn.h35 os Jn.cok_nil os0] at this; exact this) ?_
  simp -implicitDefEqProofs only [↓aP, aQ, ↓reduceIte, Nat.reduceEqDiff, Nat.reduceAdd, Nat.reduceSub, Nat.reduceMul, Nat.reduceLT, Nat.reduceLeDiff, reduceCtorEq, Nat.reduceBEq, forall_const, implies_true, exists_const, ne_eq, Int.reduceAdd, Int.reduceSub, Int.reduceMul, Int.reduceBEq, Int.reduceEq, Int.reduceLT, Int.reduceLE, Int.reduceToNat, Int.reduceNeg, Int.reduceBNe, List.map_nil, List.length_nil, bne_self_eq_false, encDk]
  refine ask (by have := recover_spec ⟨s, []⟩; rw [Jn.recover_idle Jn.h35 os Jn.cok_nil os0] at this; exact this) ?_
  simp -implicitDefEqProofs only [↓aP, aQ, ↓reduceIte, Nat.reduceEqDiff, Nat.reduceAdd, Nat.reduceSub, Nat.reduceMul, Nat.reduceLT, Nat.reduceLeDiff, reduceCtorEq, Nat.reduceBEq, forall_const, implies_true, exists_const, ne_eq, Int.reduceAdd, Int.reduceSub, Int.reduceMul, Int.reduceBEq, Int.reduceEq, Int.reduceLT, Int.reduceLE, Int.reduceToNat, Int.reduceNeg, Int.reduceBNe, encDk]
  refine ask (by have := same_spec ⟨s, []⟩ (by rw [os.1]; omega) (by simp); rw [encDk] at this; exact this) ?_
  simp -implicitDefEqProofs only [↓aP, aQ, ↓reduceIte, Nat.reduceEqDiff, Nat.reduceAdd, Nat.reduceSub, Nat.reduceMul, Nat.reduceLT, Nat.reduceLeDiff, reduceCtorEq, Nat.reduceBEq, forall_const, implies_true, exists_const, ne_eq, Int.reduceAdd, Int.reduceSub, Int.reduceMul, Int.reduceBEq, Int.reduceEq, Int.reduceLT, Int.reduceLE, Int.reduceToNat, Int.reduceNeg, Int.reduceBNe, encDk]
  try refine ⟨by decide +kernel, ?_⟩
  refine loopA (fun m σ => ∃ n : Nat, n + m = 11 ∧ σ.slot 7 = .c (.ptr 7 1 0 0) ∧ σ.h.gen 7 = 1 ∧ σ.h.blk 7 = .box 68 2 [(encDk ⟨s, []⟩).map AC.s] ∧ σ.slot 8 = vI p ∧ σ.slot 9 = vL 3 ((Jn.plan p x).map encJo) ∧ σ.slot 66 = vI n) 11 ⟨0, by omega, ?_⟩ ?_
  · simp -implicitDefEqProofs only [↓aP, aQ, ↓reduceIte, Nat.reduceEqDiff, Nat.reduceAdd, Nat.reduceSub, Nat.reduceMul, Nat.reduceLT, Nat.reduceLeDiff, reduceCtorEq, Nat.reduceBEq, forall_const, implies_true, exists_const, ne_eq, Int.reduceAdd, Int.reduceSub, Int.reduceMul, Int.reduceBEq, Int.reduceEq, Int.reduceLT, Int.reduceLE, Int.reduceToNat, Int.reduceNeg, Int.reduceBNe, encDk, List.map_nil]
    try rfl
  rintro m σ ⟨n, hn, s7, g7, b7, s8, s9, s66⟩
  by_cases hn11 : n = 11
  · subst hn11
    simp -implicitDefEqProofs only [↓aP, aQ, ↓reduceIte, Nat.reduceEqDiff, Nat.reduceAdd, Nat.reduceSub, Nat.reduceMul, Nat.reduceLT, Nat.reduceLeDiff, reduceCtorEq, Nat.reduceBEq, forall_const, implies_true, exists_const, ne_eq, Int.reduceAdd, Int.reduceSub, Int.reduceMul, Int.reduceBEq, Int.reduceEq, Int.reduceLT, Int.reduceLE, Int.reduceToNat, Int.reduceNeg, Int.reduceBNe, s7, g7, b7, s8, s9, s66]
    refine ask awake_spec ?_
    simp -implicitDefEqProofs only [↓aP, aQ, ↓reduceIte, Nat.reduceEqDiff, Nat.reduceAdd, Nat.reduceSub, Nat.reduceMul, Nat.reduceLT, Nat.reduceLeDiff, reduceCtorEq, Nat.reduceBEq, forall_const, implies_true, exists_const, ne_eq, Int.reduceAdd, Int.reduceSub, Int.reduceMul, Int.reduceBEq, Int.reduceEq, Int.reduceLT, Int.reduceLE, Int.reduceToNat, Int.reduceNeg, Int.reduceBNe]
  obtain ⟨GA, hGA⟩ : ∃ G, σ.h.gen 12 = G := ⟨_, rfl⟩
  simp -implicitDefEqProofs only [↓aP, aQ, ↓reduceIte, Nat.reduceEqDiff, Nat.reduceAdd, Nat.reduceSub, Nat.reduceMul, Nat.reduceLT, Nat.reduceLeDiff, reduceCtorEq, Nat.reduceBEq, forall_const, implies_true, exists_const, ne_eq, Int.reduceAdd, Int.reduceSub, Int.reduceMul, Int.reduceBEq, Int.reduceEq, Int.reduceLT, Int.reduceLE, Int.reduceToNat, Int.reduceNeg, Int.reduceBNe, s7, g7, b7, s8, s9, s66, show decide ((n : Int) < 11) = true by simp; omega, encDk]
  refine ask (by have := run_spec ⟨s, []⟩ (Jn.plan p x) n (by simp [Jn.plan]); rw [Jn.run_st os hpp hx] at this; exact this) ?_
  simp -implicitDefEqProofs only [↓aP, aQ, ↓reduceIte, Nat.reduceEqDiff, Nat.reduceAdd, Nat.reduceSub, Nat.reduceMul, Nat.reduceLT, Nat.reduceLeDiff, reduceCtorEq, Nat.reduceBEq, forall_const, implies_true, exists_const, ne_eq, Int.reduceAdd, Int.reduceSub, Int.reduceMul, Int.reduceBEq, Int.reduceEq, Int.reduceLT, Int.reduceLE, Int.reduceToNat, Int.reduceNeg, Int.reduceBNe, s7, g7, b7, s8, s9, s66, encDk, hGA]
  refine loopA (fun k σ => ∃ j : Int, j = 17 - (k : Int) ∧ k ≤ 16 ∧ σ.slot 7 = .c (.ptr 7 1 0 0) ∧ σ.h.gen 7 = 1 ∧ σ.h.blk 7 = .box 68 2 [(encDk ⟨s, []⟩).map AC.s] ∧ σ.slot 8 = vI p ∧ σ.slot 9 = vL 3 ((Jn.plan p x).map encJo) ∧ σ.slot 66 = vI n ∧ σ.slot 11 = vI n ∧ σ.slot 12 = .c (.ptr 12 (GA + 1) 0 0) ∧ σ.h.gen 12 = GA + 1 ∧ σ.h.blk 12 = .box 68 2 [(encDk (Jn.stP s p x n)).map AC.s] ∧ σ.slot 13 = vI j) 16 ⟨1, by omega, by omega, ?_⟩ ?_
  · simp -implicitDefEqProofs only [↓aP, aQ, ↓reduceIte, Nat.reduceEqDiff, Nat.reduceAdd, Nat.reduceSub, Nat.reduceMul, Nat.reduceLT, Nat.reduceLeDiff, reduceCtorEq, Nat.reduceBEq, forall_const, implies_true, exists_const, ne_eq, Int.reduceAdd, Int.reduceSub, Int.reduceMul, Int.reduceBEq, Int.reduceEq, Int.reduceLT, Int.reduceLE, Int.reduceToNat, Int.reduceNeg, Int.reduceBNe, s7, g7, b7, s8, s9, s66, encDk, hGA]
  clear s7 g7 b7 s8 s9 s66 hGA
  rintro k σ ⟨j, hj, hk16, s7, g7, b7, s8, s9, s66, s11, s12, g12, b12, s13⟩
  by_cases hk0 : k = 0
  · subst hk0
    simp -implicitDefEqProofs only [↓aP, aQ, ↓reduceIte, Nat.reduceEqDiff, Nat.reduceAdd, Nat.reduceSub, Nat.reduceMul, Nat.reduceLT, Nat.reduceLeDiff, reduceCtorEq, Nat.reduceBEq, forall_const, implies_true, exists_const, ne_eq, Int.reduceAdd, Int.reduceSub, Int.reduceMul, Int.reduceBEq, Int.reduceEq, Int.reduceLT, Int.reduceLE, Int.reduceToNat, Int.reduceNeg, Int.reduceBNe, s7, g7, b7, s8, s9, s66, s11, s12, g12, b12, s13, show decide (j ≤ 16) = false by simp; omega, wrapS (show n < 4611686018427387904 by omega)]
    refine ⟨m - 1, by omega, n + 1, by omega, ?_⟩
    simp -implicitDefEqProofs only [↓aP, aQ, ↓reduceIte, Nat.reduceEqDiff, Nat.reduceAdd, Nat.reduceSub, Nat.reduceMul, Nat.reduceLT, Nat.reduceLeDiff, reduceCtorEq, Nat.reduceBEq, forall_const, implies_true, exists_const, ne_eq, Int.reduceAdd, Int.reduceSub, Int.reduceMul, Int.reduceBEq, Int.reduceEq, Int.reduceLT, Int.reduceLE, Int.reduceToNat, Int.reduceNeg, Int.reduceBNe, s7, g7, b7, s8, s9, s66, s11, s12, g12, b12, s13, encDk]
  have hjj : (1 : Int) ≤ j ∧ j ≤ 16 := by omega
  obtain ⟨i1, i2, i3⟩ := Jn.idle_get os os0 hpp hx n j hjj
  have w3 : IntKind.i64.wrap (j + 1) = j + 1 := wrapI (by omega)
  simp -implicitDefEqProofs only [↓aP, aQ, ↓reduceIte, Nat.reduceEqDiff, Nat.reduceAdd, Nat.reduceSub, Nat.reduceMul, Nat.reduceLT, Nat.reduceLeDiff, reduceCtorEq, Nat.reduceBEq, forall_const, implies_true, exists_const, ne_eq, Int.reduceAdd, Int.reduceSub, Int.reduceMul, Int.reduceBEq, Int.reduceEq, Int.reduceLT, Int.reduceLE, Int.reduceToNat, Int.reduceNeg, Int.reduceBNe, s7, g7, b7, s8, s9, s66, s11, s12, g12, b12, s13, show decide (j ≤ 16) = true by simp; omega, encDk]
  refine ask (by have := jget_spec (Jn.stP s p x n) j; rw [encDk] at this; exact this) ?_
  simp -implicitDefEqProofs only [↓aP, aQ, ↓reduceIte, Nat.reduceEqDiff, Nat.reduceAdd, Nat.reduceSub, Nat.reduceMul, Nat.reduceLT, Nat.reduceLeDiff, reduceCtorEq, Nat.reduceBEq, forall_const, implies_true, exists_const, ne_eq, Int.reduceAdd, Int.reduceSub, Int.reduceMul, Int.reduceBEq, Int.reduceEq, Int.reduceLT, Int.reduceLE, Int.reduceToNat, Int.reduceNeg, Int.reduceBNe, s7, g7, b7, s8, s9, s66, s11, s12, g12, b12, s13, encDk]
  refine ask (by have := recover_spec (Jn.stP s p x n); rw [encDk] at this; exact this) ?_
  simp -implicitDefEqProofs only [↓aP, aQ, ↓reduceIte, Nat.reduceEqDiff, Nat.reduceAdd, Nat.reduceSub, Nat.reduceMul, Nat.reduceLT, Nat.reduceLeDiff, reduceCtorEq, Nat.reduceBEq, forall_const, implies_true, exists_const, ne_eq, Int.reduceAdd, Int.reduceSub, Int.reduceMul, Int.reduceBEq, Int.reduceEq, Int.reduceLT, Int.reduceLE, Int.reduceToNat, Int.reduceNeg, Int.reduceBNe, s7, g7, b7, s8, s9, s66, s11, s12, g12, b12, s13, encDk]
  refine ask (by have := jget_spec (Jn.recoverM (Jn.stP s p x n)) j; rw [encDk] at this; exact this) ?_
  by_cases he : (Jn.getM (Jn.stP s p x n) j).1 = (Jn.getM (Jn.recoverM (Jn.stP s p x n)) j).1
  · simp -implicitDefEqProofs only [↓aP, aQ, ↓reduceIte, Nat.reduceEqDiff, Nat.reduceAdd, Nat.reduceSub, Nat.reduceMul, Nat.reduceLT, Nat.reduceLeDiff, reduceCtorEq, Nat.reduceBEq, forall_const, implies_true, exists_const, ne_eq, Int.reduceAdd, Int.reduceSub, Int.reduceMul, Int.reduceBEq, Int.reduceEq, Int.reduceLT, Int.reduceLE, Int.reduceToNat, Int.reduceNeg, Int.reduceBNe, s7, g7, b7, s8, s9, s66, s11, s12, g12, b12, s13, i1, i2, bne_self_eq_false, tl_beq, decide_eq_true he, Bool.not_true, w3]
    refine ⟨k - 1, by omega, j + 1, by omega, by omega, ?_⟩
    simp -implicitDefEqProofs only [↓aP, aQ, ↓reduceIte, Nat.reduceEqDiff, Nat.reduceAdd, Nat.reduceSub, Nat.reduceMul, Nat.reduceLT, Nat.reduceLeDiff, reduceCtorEq, Nat.reduceBEq, forall_const, implies_true, exists_const, ne_eq, Int.reduceAdd, Int.reduceSub, Int.reduceMul, Int.reduceBEq, Int.reduceEq, Int.reduceLT, Int.reduceLE, Int.reduceToNat, Int.reduceNeg, Int.reduceBNe, s7, g7, b7, s8, s9, s66, s11, s12, g12, b12, s13, encDk]
  · obtain ⟨hjp, h4, h6⟩ := i3.resolve_left he
    simp -implicitDefEqProofs only [↓aP, aQ, ↓reduceIte, Nat.reduceEqDiff, Nat.reduceAdd, Nat.reduceSub, Nat.reduceMul, Nat.reduceLT, Nat.reduceLeDiff, reduceCtorEq, Nat.reduceBEq, forall_const, implies_true, exists_const, ne_eq, Int.reduceAdd, Int.reduceSub, Int.reduceMul, Int.reduceBEq, Int.reduceEq, Int.reduceLT, Int.reduceLE, Int.reduceToNat, Int.reduceNeg, Int.reduceBNe, s7, g7, b7, s8, s9, s66, s11, s12, g12, b12, s13, i1, i2, bne_self_eq_false, tl_beq, decide_eq_false he, Bool.not_false, show (j != p) = false by rw [bne_eq_false_iff_eq]; exact hjp, show decide ((n : Int) < 4) = false by simp; omega, show decide ((6 : Int) < (n : Int)) = false by simp; omega, w3]
    refine ⟨k - 1, by omega, j + 1, by omega, by omega, ?_⟩
    simp -implicitDefEqProofs only [↓aP, aQ, ↓reduceIte, Nat.reduceEqDiff, Nat.reduceAdd, Nat.reduceSub, Nat.reduceMul, Nat.reduceLT, Nat.reduceLeDiff, reduceCtorEq, Nat.reduceBEq, forall_const, implies_true, exists_const, ne_eq, Int.reduceAdd, Int.reduceSub, Int.reduceMul, Int.reduceBEq, Int.reduceEq, Int.reduceLT, Int.reduceLE, Int.reduceToNat, Int.reduceNeg, Int.reduceBNe, s7, g7, b7, s8, s9, s66, s11, s12, g12, b12, s13, encDk]
open Go.ChangeShapes Go.WideShapes in
theorem journalApart_walk {w : World} (v0 : Value) (a0 : ∃ A : List ByteArray, A.length ≤ maxLen ∧ RepT (RepS w fun _ => False) (rL 1 (A.map encS)) v0) (a : Int) (ha : (Lit.int .u8 a).wf = true) (c : Int) (hc : (Lit.int .u8 c).wf = true) (x : ByteArray) (hx : x.size ≤ maxLen) (y : ByteArray) (hy : y.size ≤ maxLen) :
    Calls Try.prog 14 #[v0, .int .u8 a, .int .u8 c, .string x, .string y] w fun e w' => e = .returned (.bool true) ∧ Below w.heap.size w w' := by
  obtain ⟨A, h3, h4⟩ := a0
  exact (law_apart A (by unfold maxLen at h3; omega) a (u8_of ha) c (u8_of hc) x y).plain (us := [v0, .int .u8 a, .int .u8 c, .string x, .string y]) (.cons h4 (.cons (.pv rfl) (.cons (.pv rfl) (.cons (.pv rfl) (.cons (.pv rfl) .nil)))))
open Go.ChangeShapes Go.WideShapes in
theorem journalIdle_walk {w : World} (v0 : Value) (a0 : ∃ A : List ByteArray, A.length ≤ maxLen ∧ RepT (RepS w fun _ => False) (rL 1 (A.map encS)) v0) (a : Int) (ha : (Lit.int .u8 a).wf = true) (x : ByteArray) (hx : x.size ≤ maxLen) :
    Calls Try.prog 12 #[v0, .int .u8 a, .string x] w fun e w' => e = .returned (.bool true) ∧ Below w.heap.size w w' := by
  obtain ⟨A, h3, h4⟩ := a0
  exact (law_idle A (by unfold maxLen at h3; omega) a (u8_of ha) x).plain (us := [v0, .int .u8 a, .string x]) (.cons h4 (.cons (.pv rfl) (.cons (.pv rfl) .nil)))
end Go.Proofs.Yteghmlafodkfpaa
