/- THE CONTRACTS of layer 10 over any slice of clients. Conditions: the slice leads to the clients. -/
import Derived.Test.YtjdjdojmgoibbaaBankWalks3
namespace Go.Proofs.Ytjdjdojmgoibbaa
open Go.RowKit
set_option linter.unusedVariables false

/-- this value is a slice of these clients -/
def Sl (w : World) (v : Value) (l : List Cl) : Prop :=
  ∃ A cap, v = .slice A l.length cap ∧ l.length ≤ cap ∧ cap ≤ maxLen ∧ (l = [] ∨ ∃ b off, A = some ⟨b, off, none⟩ ∧ b < w.heap.size ∧ ClsAt w b off l)
theorem Sl.below {w w' : World} {v : Value} {l : List Cl} (h : Sl w v l) (hb : Below w.heap.size w w') : Sl w' v l := by
  obtain ⟨A, cap, hv, h1, h2, h3⟩ := h
  refine ⟨A, cap, hv, h1, h2, ?_⟩
  rcases h3 with h3 | ⟨b, off, hA, hbl, hc⟩
  · exact .inl h3
  · exact .inr ⟨b, off, hA, Nat.lt_of_lt_of_le hbl hb.size, hc.below hb hbl⟩
def Bk.inRange (free : Int) : Bool := decide (0 ≤ free) && decide (free ≤ 1000)
def Bk.safe (free : Int) (l : List Cl) : Bool := Bk.right l && Bk.inRange free && decide ((Bk.order free l).length = l.length)

set_option maxRecDepth 100000 in
set_option maxHeartbeats 400000 in
theorem right_nil (A : Option Addr) (cap : Nat) (w : World) :
    Calls Try.prog 27 #[.slice A 0 cap] w fun e w' => e = .returned (.bool true) ∧ Below w.heap.size w w' := by
  go_enter Try.func27, Try.ntmps27
  go_wp2_with fail
  go_loop [3, 4, 6, 12] (fun _ _ _ i => i = .int .i64 0) (fun _ _ _ _ => 0)
  case atStart => rfl
  case round =>
    obtain rfl := hrel
    go_wp2_with fail
    go_ret
    exact ⟨rfl, Below.refl _ _⟩
theorem right_sl (v : Value) (l : List Cl) (w : World) (h : Sl w v l) :
    Calls Try.prog 27 #[v] w fun e w' => e = .returned (.bool (Bk.right l)) ∧ Below w.heap.size w w' := by
  obtain ⟨A, cap, rfl, h1, h2, h3⟩ := h
  rcases h3 with rfl | ⟨b, off, rfl, hbl, hc⟩
  · exact right_nil A cap w
  · exact right_any b off cap l w h1 h2 hbl hc

set_option maxRecDepth 100000 in
set_option maxHeartbeats 400000 in
theorem order_no (free : Int) (v : Value) (l : List Cl) (w : World) (h : Sl w v l) (hno : (Bk.right l && Bk.inRange free) = false) :
    Calls Try.prog 25 #[.int .i64 free, v] w fun e w' => e = .returned (.tuple #[.slice none 0 0, .bool false]) ∧ Below w.heap.size w w' := by
  have R := Lib.hid (right_sl v l w h)
  cases hr : Bk.right l with
  | false =>
    rw [hr] at R
    clear hno hr h
    go_enter Try.func25, Try.ntmps25
    go_wp2_with fail
    refine R.out.mono ?_
    rintro e W1 ⟨rfl, hB⟩
    go_wp2_with fail
    go_ret2
    exact ⟨rfl, hB⟩
  | true =>
    rw [hr] at R hno
    have hf : free < 0 ∨ 1000 < free := by
      unfold Bk.inRange at hno
      simp only [Bool.true_and, Bool.and_eq_false_iff, decide_eq_false_iff_not] at hno
      omega
    clear hno hr h
    rcases hf with hf | hf
    all_goals
      go_enter Try.func25, Try.ntmps25
      go_wp2_with fail
      refine R.out.mono ?_
      rintro e W1 ⟨rfl, hB⟩
      go_wp2_with fail
      go_ret2
      exact ⟨rfl, hB⟩

set_option maxRecDepth 100000 in
set_option maxHeartbeats 400000 in
theorem next_nil (f : Int) (A S : Option Addr) (cap sc : Nat) (w : World) :
    Calls Try.prog 39 #[.int .i64 f, .slice A 0 cap, .slice S 0 sc] w fun e w' => e = .returned (.tuple #[.int .i64 0, .bool false]) ∧ w = w' := by
  go_enter Try.func39, Try.ntmps39
  go_wp2_with fail
  go_loop [8, 9, 12] (fun _ _ i => i = .int .i64 0) (fun _ _ _ => 0)
  case atStart => rfl
  case round =>
    obtain rfl := hrel
    go_wp2_with fail
    go_ret2
    exact ⟨rfl, rfl⟩

set_option maxRecDepth 100000 in
set_option maxHeartbeats 400000 in
theorem order_nil (free : Int) (A : Option Addr) (cap : Nat) (w : World) (hf1 : 0 ≤ free) (hf2 : free ≤ 1000) :
    Calls Try.prog 25 #[.int .i64 free, .slice A 0 cap] w fun e w' => e = .returned (.tuple #[.slice none 0 0, .bool true]) ∧ Below w.heap.size w w' := by
  have hmk : ∀ w, (Instr.makeSlice 43 (.int .i64 0) (.int .i64 0)).run Try.prog w = .ok (.slice (some ⟨w.heap.size, 0, none⟩) 0 0) (w.alloc (.cells (boolCells (List.replicate 0 false)) 4)) := fun w => madeB 0 (by omega) w
  go_enter Try.func25, Try.ntmps25
  go_wp2_with fail
  refine (right_nil A cap w).mono ?_
  rintro e W1 ⟨rfl, hB⟩
  go_wp2_with fail
  clear hmk
  go_loop [0, 7, 8, 9] (fun f v _ _ => f = .int .i64 free ∧ v = .slice none 0 0) (fun _ _ _ _ => 0)
  case atStart => exact ⟨rfl, rfl⟩
  case round =>
    obtain ⟨rfl, rfl⟩ := hrel
    go_wp2_with fail
    refine (next_nil _ _ _ _ _ _).mono ?_
    rintro e W4 ⟨rfl, rfl⟩
    go_wp2_with fail
    go_ret2
    exact ⟨rfl, hB.alloc hB.size _⟩

theorem order_sl (free : Int) (v : Value) (l : List Cl) (w : World) (h : Sl w v l) (hr : Bk.right l = true) (hf1 : 0 ≤ free) (hf2 : free ≤ 1000) :
    Calls Try.prog 25 #[.int .i64 free, v] w fun e w' => OrderIs w.heap.size l (Bk.order free l) e w' ∧ Below w.heap.size w w' := by
  obtain ⟨A, cap, rfl, h1, h2, h3⟩ := h
  rcases h3 with rfl | ⟨b, off, rfl, hbl, hc⟩
  · refine (order_nil free A cap w hf1 hf2).mono fun e w' ⟨he, hB⟩ => ⟨⟨.slice none 0 0, he, rfl, .inl ⟨rfl, rfl⟩⟩, hB⟩
  · exact order_yes free b off cap l w ⟨hf1, hf2⟩ hr h1 h2 hbl hc

set_option maxRecDepth 100000 in
set_option maxHeartbeats 400000 in
theorem safe_sl (free : Int) (v : Value) (l : List Cl) (w : World) (h : Sl w v l) :
    Calls Try.prog 28 #[.int .i64 free, v] w fun e w' => e = .returned (.bool (Bk.safe free l)) ∧ Below w.heap.size w w' := by
  cases hno : (Bk.right l && Bk.inRange free) with
  | false =>
    have R := Lib.hid (order_no free v l w h hno)
    have hs : Bk.safe free l = false := by unfold Bk.safe; rw [hno]; rfl
    rw [hs]
    clear hno hs h
    go_enter Try.func28, Try.ntmps28
    go_wp2_with fail
    refine R.out.mono ?_
    rintro e W1 ⟨rfl, hB⟩
    go_wp2_with fail
    go_ret
    exact ⟨rfl, hB⟩
  | true =>
    have hs : Bk.safe free l = decide ((Bk.order free l).length = l.length) := by unfold Bk.safe; rw [hno]; rfl
    rw [Bool.and_eq_true] at hno
    obtain ⟨hr, hf⟩ := hno
    unfold Bk.inRange at hf
    rw [Bool.and_eq_true, decide_eq_true_iff, decide_eq_true_iff] at hf
    have R := Lib.hid (order_sl free v l w h hr hf.1 hf.2)
    rw [hs]
    clear hs h hr hf
    go_enter Try.func28, Try.ntmps28
    go_wp2_with fail
    refine R.out.mono ?_
    rintro e W1 ⟨⟨u, rfl, _⟩, hB⟩
    go_wp2_with fail
    go_ret
    refine ⟨?_, hB⟩
    have e1 : decide (((Bk.order free l).length : Int) = (l.length : Int)) = decide ((Bk.order free l).length = l.length) := by rw [decide_eq_decide]; omega
    rw [← e1]; rfl
end Go.Proofs.Ytjdjdojmgoibbaa
