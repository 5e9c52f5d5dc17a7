/- THE LAWS of layer 10, walked: BankOne. Conditions: those of the arguments alone. -/
import Derived.Test.YtjdjdojmgoibbaaBankOpen
namespace Go.Proofs.Ytjdjdojmgoibbaa
open Go.RowKit
set_option linter.unusedVariables false

theorem Bk.right_one (a b : Int) : Bk.right [⟨3, a, b⟩] = decide (0 ≤ a ∧ a ≤ 100 ∧ 0 ≤ b ∧ b ≤ a) := by
  rw [Bool.eq_iff_iff, decide_eq_true_iff]
  simp [Bk.right, Bk.okAt, Bk.good, Bk.apart, List.range_succ]
theorem Bk.order_one (f a b : Int) : (Bk.order f [⟨3, a, b⟩]).length = if a - b ≤ f then 1 else 0 := by
  by_cases h : a - b ≤ f
  · rw [if_pos h]
    simp [Bk.order, Bk.go, Bk.next, Bk.can, List.range_succ, h]
  · rw [if_neg h]
    simp [Bk.order, Bk.go, Bk.next, Bk.can, List.range_succ, h]
theorem Bk.safe_one (f a b : Int) : Bk.safe f [⟨3, a, b⟩] = decide ((0 ≤ a ∧ a ≤ 100 ∧ 0 ≤ b ∧ b ≤ a) ∧ (0 ≤ f ∧ f ≤ 1000) ∧ a - b ≤ f) := by
  unfold Bk.safe Bk.inRange
  rw [Bk.right_one, Bk.order_one, Bool.eq_iff_iff, decide_eq_true_iff]
  simp only [Bool.and_eq_true, decide_eq_true_iff, List.length_cons, List.length_nil]
  split <;> omega
theorem Bk.safe_nil (f : Int) : Bk.safe f [] = decide (0 ≤ f ∧ f ≤ 1000) := by
  unfold Bk.safe Bk.inRange
  rw [show Bk.right [] = true from rfl, show (Bk.order f []).length = 0 from rfl, Bool.eq_iff_iff, decide_eq_true_iff]
  simp
set_option maxRecDepth 100000 in
set_option maxHeartbeats 4000000 in
theorem bankOne_walk (f : Int) (hf : (Lit.int .i64 f).wf = true) (a : Int) (ha : (Lit.int .i64 a).wf = true) (b : Int) (hb : (Lit.int .i64 b).wf = true) (w : World) :
    Calls Try.prog 12 #[.int .i64 f, .int .i64 a, .int .i64 b] w fun e w' => e = .returned (.bool true) ∧ Below w.heap.size w w' := by
  have S1 := Lib.hid (fun v W (h : Sl W v [⟨3, a, b⟩]) => safe_sl f v [⟨3, a, b⟩] W h)
  have S2 := Lib.hid (fun W => safe_sl f _ [] W (Sl.nil W))
  rw [Bk.safe_one] at S1
  rw [Bk.safe_nil] at S2
  clear hf ha hb
  have cs : ((0 ≤ a ∧ a ≤ 100 ∧ 0 ≤ b ∧ b ≤ a) ∧ (0 ≤ f ∧ f ≤ 1000) ∧ a - b ≤ f) ∨ ((0 ≤ a ∧ a ≤ 100 ∧ 0 ≤ b ∧ b ≤ a) ∧ (0 ≤ f ∧ f ≤ 1000) ∧ f < a - b) ∨ ((0 ≤ a ∧ a ≤ 100 ∧ 0 ≤ b ∧ b ≤ a) ∧ f < 0) ∨ ((0 ≤ a ∧ a ≤ 100 ∧ 0 ≤ b ∧ b ≤ a) ∧ 0 ≤ f ∧ 1000 < f) ∨
      ((a < 0 ∨ (0 ≤ a ∧ 100 < a) ∨ (0 ≤ a ∧ a ≤ 100 ∧ b < 0) ∨ (0 ≤ a ∧ a ≤ 100 ∧ 0 ≤ b ∧ a < b)) ∧ (f < 0 ∨ (0 ≤ f ∧ 1000 < f) ∨ (0 ≤ f ∧ f ≤ 1000))) := by omega
  have HCS := cs
  rcases cs with ⟨⟨p1, p2, p3, p4⟩, ⟨p5, p6⟩, p7⟩ | ⟨⟨p1, p2, p3, p4⟩, ⟨p5, p6⟩, p7⟩ | ⟨⟨p1, p2, p3, p4⟩, p5⟩ | ⟨⟨p1, p2, p3, p4⟩, p5, p6⟩ | ⟨p1 | ⟨p1, p2⟩ | ⟨p1, p2, p3⟩ | ⟨p1, p2, p3, p4⟩, q1 | ⟨q1, q2⟩ | ⟨q1, q2⟩⟩
  all_goals clear HCS
  all_goals first
    | (have e2 : decide (0 ≤ f ∧ f ≤ 1000) = true := decide_eq_true (by omega)
       rw [e2] at S2)
    | (have e2 : decide (0 ≤ f ∧ f ≤ 1000) = false := decide_eq_false (by omega)
       rw [e2] at S2)
  all_goals first
    | (have e1 : decide ((0 ≤ a ∧ a ≤ 100 ∧ 0 ≤ b ∧ b ≤ a) ∧ (0 ≤ f ∧ f ≤ 1000) ∧ a - b ≤ f) = true := decide_eq_true (by omega)
       rw [e1] at S1)
    | (have e1 : decide ((0 ≤ a ∧ a ≤ 100 ∧ 0 ≤ b ∧ b ≤ a) ∧ (0 ≤ f ∧ f ≤ 1000) ∧ a - b ≤ f) = false := decide_eq_false (by omega)
       rw [e1] at S1)
  all_goals clear e1 e2
  all_goals
    go_enter Try.func12, Try.ntmps12
    go_wp2_with fail
    have hw : Below w.heap.size w ((w.alloc (.cells #[.int .i64 3, .int .i64 a, .int .i64 b] 60)).alloc (.cells #[.int .i64 3, .int .i64 a, .int .i64 b] 60)) := ((Below.refl _ _).alloc (Nat.le_refl _) _).alloc (by simp) _
    have hblk := Blk.new (w.alloc (.cells #[.int .i64 3, .int .i64 a, .int .i64 b] 60)) 60 #[.int .i64 3, .int .i64 a, .int .i64 b]
    rw [show (w.alloc (.cells #[.int .i64 3, .int .i64 a, .int .i64 b] 60)).heap.size = w.heap.size + 1 by simp] at hblk
    generalize (w.alloc (.cells #[.int .i64 3, .int .i64 a, .int .i64 b] 60)).alloc (.cells #[.int .i64 3, .int .i64 a, .int .i64 b] 60) = W at hw hblk
    have hsl : Sl W (.slice (some ⟨w.heap.size + 1, 0, none⟩) 1 1) [⟨3, a, b⟩] := Sl.of_blk (l := [⟨3, a, b⟩]) hblk (by unfold maxLen; simp)
    clear hblk
    refine (S1.out _ _ hsl).mono ?_
    rintro e W1 ⟨rfl, hB⟩
    have hw1 := hw.trans (hB.mono hw.size)
    clear hB hw hsl
    go_wp2_with fail
    refine (S2.out _).mono ?_
    rintro e W2 ⟨rfl, hB⟩
    have hw2 := hw1.trans (hB.mono hw1.size)
    clear hB hw1
    go_wp2_with fail
    refine (awake10 _).mono ?_
    rintro e W3 ⟨rfl, hB⟩
    go_wp2_with fail
    go_ret
    refine ⟨?_, hw2.trans (hB.mono hw2.size)⟩
    first | rfl | (simp; done) | (simp; omega)
end Go.Proofs.Ytjdjdojmgoibbaa
