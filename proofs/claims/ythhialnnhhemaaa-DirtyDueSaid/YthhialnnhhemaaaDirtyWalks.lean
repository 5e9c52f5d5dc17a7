/- LAYER 14, walked: pages, where one stands, who are right. Conditions: the slices lead to the items. -/
import Derived.Test.YthhialnnhhemaaaProg
import Derived.Test.YthhialnnhhemaaaDirtyPlain2
import Derived.WalkLawsBesides
import Derived.BigQuiet
import Derived.Deep.QuietTactic
namespace Go.Proofs.Ythhialnnhhemaaa
open Go.RowKit
set_option linter.unusedVariables false

set_option maxRecDepth 100000 in
theorem isPage_any (p : Int) (w : World) :
    Calls Try.prog 41 #[.int .i64 p] w fun e w' => e = .returned (.bool (decide (1 ≤ p ∧ p ≤ 16))) ∧ Below w.heap.size w w' := by
  by_cases h : 1 ≤ p ∧ p ≤ 16
  · rw [decide_eq_true h]
    obtain ⟨h1, h2⟩ := h
    go_enter Try.func41, Try.ntmps41
    go_wp2_with fail
    go_ret
    exact ⟨rfl, Below.refl _ _⟩
  · rw [decide_eq_false h]
    by_cases h1 : 1 ≤ p
    · have h2 : 16 < p := by omega
      have h3 : decide (p ≤ 16) = false := decide_eq_false (by omega)
      clear h
      go_enter Try.func41, Try.ntmps41
      go_wp2_with fail
      go_ret
      exact ⟨by first | rfl | (rw [h3]; rfl) | (simp only [h3]; rfl), Below.refl _ _⟩
    · have h2 : p < 1 := by omega
      clear h h1
      go_enter Try.func41, Try.ntmps41
      go_wp2_with fail
      go_ret
      exact ⟨rfl, Below.refl _ _⟩

set_option maxRecDepth 100000 in
theorem place1_any (a : It) (g : Nat) (p : Int) (w : World) (hb : Blk w g 3 #[.int .i64 p]) :
    Calls Try.prog 47 #[.agg #[.int .i64 a.page, .int .i64 a.since], .pointer (some ⟨g, 0, none⟩)] w fun e w' => e = .returned (.bool (a.page == p)) ∧ Below w.heap.size w w' := by
  have hc := (hb.alloc (.cells #[.int .i64 a.page, .int .i64 a.since] 61)).cell 0
  rw [show (#[Value.int .i64 p])[0]? = some (.int .i64 p) from rfl] at hc
  go_enter Try.func47, Try.ntmps47
  go_wp2_with fail
  go_ret
  exact ⟨rfl, (Below.refl _ _).alloc (Nat.le_refl _) _⟩

set_option maxRecDepth 100000 in
set_option maxHeartbeats 400000 in
theorem indexFunc_any (v : Value) (l : List It) (g : Nat) (p : Int) (w : World) (h : itE.Sl w v l) (hb : Blk w g 3 #[.int .i64 p]) :
    Calls Try.prog 46 #[v, .func (.func 47) #[] #[.pointer (some ⟨g, 0, none⟩)]] w fun e w' => e = .returned (.int .i64 (Dy.at' l p)) ∧ Below w.heap.size w w' := by
  obtain ⟨A, cap, rfl, h1, h2, h0, h3⟩ := h
  unfold maxLen at h2
  have H3 := Lib.hid h3
  have HB := Lib.hid hb
  clear h3 hb h0
  go_enter Try.func46, Try.ntmps46
  go_wp2_with fail
  go_loopw [5, 8] (fun _ i wr => ∃ k : Nat, k ≤ l.length ∧ i = .int .i64 k ∧ (∀ j (hj : j < l.length), j < k → l[j].page ≠ p) ∧ Below w.heap.size w wr) (fun _ i _ => l.length - (intOf i).toNat)
  case atStart => exact ⟨0, by omega, rfl, fun j _ hj => by omega, Below.refl _ _⟩
  case round =>
    obtain ⟨k, hk, rfl, hno, hB⟩ := hrel
    have HNO := Lib.hid hno
    clear hno
    by_cases hlt : k < l.length
    · obtain ⟨b, off, rfl, hbl, hc⟩ := H3.out (by omega)
      obtain ⟨c0, c1⟩ := it_at (hc.below hB hbl) k hlt
      have hblt : b < wr.heap.size := Nat.lt_of_lt_of_le hbl hB.size
      have hbk := HB.out.keep hB
      have hP := Lib.hid (place1_any l[k] g p wr hbk)
      clear hbk hc
      by_cases he : l[k].page = p
      · have hat := Dy.at_some hlt he (fun j hj => HNO.out j (by omega) hj)
        have he2 : (l[k].page == p) = true := by simpa using he
        rw [he2] at hP
        have HAT := Lib.hid hat
        clear hat he he2
        generalize l[k] = a at c0 c1 hP
        go_wp2_with fail
        refine hP.out.mono ?_
        rintro e W1 ⟨rfl, hB1⟩
        go_wp2_with fail
        go_ret
        exact ⟨by rw [HAT.out]; rfl, hB.trans (hB1.mono hB.size)⟩
      · have he2 : (l[k].page == p) = false := by simpa using he
        have hno2 : ∀ j (hj : j < l.length), j < k + 1 → l[j].page ≠ p := by
          intro j hj hjk
          by_cases e : j = k
          · subst e; exact he
          · exact HNO.out j hj (by omega)
        rw [he2] at hP
        have HNO2 := Lib.hid hno2
        clear hno2 he he2
        generalize l[k] = a at c0 c1 hP
        go_wp2_with fail
        refine hP.out.mono ?_
        rintro e W1 ⟨rfl, hB1⟩
        go_wp2_with fail
        go_roundw
        case rel => exact ⟨k + 1, by omega, by go_num, HNO2.out, hB.trans (hB1.mono hB.size)⟩
        case measure => simp [intOf]; omega
    · have hat := Dy.at_none (l := l) (p := p) (fun j hj => HNO.out j hj (by omega))
      have HAT := Lib.hid hat
      obtain rfl : k = l.length := by omega
      clear hat hlt
      go_wp2_with fail
      go_ret
      exact ⟨by rw [HAT.out]; rfl, hB⟩

set_option maxRecDepth 100000 in
theorem place_any (v : Value) (l : List It) (p : Int) (w : World) (h : itE.Sl w v l) :
    Calls Try.prog 42 #[v, .int .i64 p] w fun e w' => e = .returned (.int .i64 (Dy.at' l p)) ∧ Below w.heap.size w w' := by
  have hmf : ∀ (fn : Fn) (first cap : Array Value) (w : World), (Instr.makeFunc fn first cap).run Try.prog w = .ok (.func fn first cap) w := fun _ _ _ _ => rfl
  have hw : Below w.heap.size w (w.alloc (.cells #[.int .i64 p] 3)) := (Below.refl _ _).alloc (Nat.le_refl _) _
  have S := Lib.hid (indexFunc_any v l w.heap.size p (w.alloc (.cells #[.int .i64 p] 3)) (h.below hw) (Blk.new w _ _))
  clear h
  go_enter Try.func42, Try.ntmps42
  go_wp2_with fail
  refine S.out.mono ?_
  rintro e W1 ⟨rfl, hB1⟩
  go_wp2_with fail
  go_ret
  exact ⟨rfl, hw.trans (hB1.mono hw.size)⟩
end Go.Proofs.Ythhialnnhhemaaa
