/- THE LAWS of layer 14, walked: DirtyAll. Conditions: those of the arguments alone. -/
import Derived.Test.YthhialnnhhemaaaDirtyOpen
namespace Go.Proofs.Ythhialnnhhemaaa
open Go.RowKit
set_option linter.unusedVariables false
namespace Dy
/-- the first m pages, each since its own time -/
def steps (s : Int) (m : Nat) : List It := (List.range m).map fun i : Nat => ⟨(i : Int) + 1, s * ((i : Int) + 1)⟩
theorem steps_length (s : Int) (m : Nat) : (steps s m).length = m := by simp [steps]
theorem steps_succ (s : Int) (m : Nat) : steps s (m + 1) = steps s m ++ [⟨(m : Int) + 1, s * ((m : Int) + 1)⟩] := by
  unfold steps; rw [List.range_succ, List.map_append]; rfl
theorem steps_mem {s : Int} {m : Nat} {a : It} (h : a ∈ steps s m) : ∃ i, i < m ∧ a = ⟨(i : Int) + 1, s * ((i : Int) + 1)⟩ := by
  unfold steps at h
  obtain ⟨i, hi, rfl⟩ := List.mem_map.1 h
  exact ⟨i, by simpa using hi, rfl⟩
theorem step_le {s : Int} (h0 : 0 ≤ s) (h1 : s ≤ 255) {i : Nat} (hi : i < 16) : 0 ≤ s * ((i : Int) + 1) ∧ s * ((i : Int) + 1) ≤ 4080 := by
  refine ⟨Int.mul_nonneg h0 (by omega), ?_⟩
  have := Int.mul_le_mul h1 (show (i : Int) + 1 ≤ 16 by omega) (by omega) (by omega)
  omega
theorem step_mono {s : Int} (h0 : 0 ≤ s) {i j : Nat} (h : i ≤ j) : s * ((i : Int) + 1) ≤ s * ((j : Int) + 1) := Int.mul_le_mul_of_nonneg_left (by omega) h0
theorem steps_last {s : Int} (h0 : 0 ≤ s) (m : Nat) : last (steps s m) ≤ s * ((m : Int) + 1) := by
  cases m with
  | zero => simp [steps, last_nil]; omega
  | succ m => rw [steps_succ, last_snoc]; exact step_mono h0 (by omega)
theorem steps_right {s : Int} (h0 : 0 ≤ s) (h1 : s ≤ 255) : ∀ (m : Nat), m ≤ 16 → right (steps s m) = true := by
  intro m
  induction m with
  | zero => intro _; rfl
  | succ m ih =>
    intro hm
    rw [steps_succ, right_snoc, ih (by omega), good_eq2]
    simp only [Bool.true_and, decide_eq_true_eq]
    have := step_le h0 h1 (i := m) (by omega)
    refine ⟨by omega, ?_, steps_last h0 m, by omega⟩
    rw [hasPage_false]
    intro a ha
    obtain ⟨i, hi, rfl⟩ := steps_mem ha
    simp only
    omega
theorem steps_mark {s : Int} (h0 : 0 ≤ s) (h1 : s ≤ 255) {m : Nat} (hm : m < 16) : mark (steps s m) ((m : Int) + 1) (s * ((m : Int) + 1)) = (steps s (m + 1), 0) := by
  have h2 := step_le h0 h1 (i := m) (by omega)
  rw [mark_ok (steps_right h0 h1 m (by omega)) (by omega) (steps_last h0 m) (by omega)]
  have h5 : hasPage (steps s m) ((m : Int) + 1) = false := by
    rw [hasPage_false]
    intro a ha
    obtain ⟨i, hi, rfl⟩ := steps_mem ha
    simp only
    omega
  rw [h5, steps_succ]
  rfl
theorem steps_all {s : Int} (h0 : 0 ≤ s) (h1 : s ≤ 255) {a : Int} (ha : 0 ≤ a) : (due (steps s 16) (16 * s + a) a).length = 16 := by
  have hok := (right_iff _).1 (steps_right h0 h1 16 (by omega))
  rw [(due_take hok ha).1, dueN_all hok ha, List.take_length, List.length_map, steps_length]
  intro x hx
  obtain ⟨i, hi, rfl⟩ := steps_mem hx
  have := step_mono h0 (i := i) (j := 15) (by omega)
  simp only
  omega
theorem steps_none {s : Int} (h0 : 1 ≤ s) (h1 : s ≤ 255) {a : Int} (ha : 0 ≤ a) : (due (steps s 16) (s + a - 1) a).length = 0 := by
  have hok := (right_iff _).1 (steps_right (by omega) h1 16 (by omega))
  rw [(due_take hok ha).1, dueN_zero hok ha]
  · rfl
  · intro x hx
    obtain ⟨i, hi, rfl⟩ := steps_mem hx
    have := step_mono (s := s) (by omega) (i := 0) (j := i) (by omega)
    simp only
    simp at this
    omega
end Dy

set_option maxRecDepth 100000 in
set_option maxHeartbeats 800000 in
theorem dirtyAll_walk {w : World} (s : Int) (ws : (Lit.int .u8 s).wf = true) (a : Int) (wa : (Lit.int .u8 a).wf = true) :
    Calls Try.prog 12 #[.int .u8 s, .int .u8 a] w fun e w' => e = .returned (.bool true) ∧ Below w.heap.size w w' := by
  obtain ⟨s1, s2⟩ := u8_of ws
  obtain ⟨a1, a2⟩ := u8_of wa
  clear ws wa
  go_enter Try.func12, Try.ntmps12
  go_wp2_with fail
  go_loopw [5, 7, 8, 9] (fun v p _ _ wr => ∃ (k : Nat) (v0 : Value), k ≤ 16 ∧ p = .int .i64 ((k : Int) + 1) ∧ v0 = v ∧ itE.Sl wr v0 (Dy.steps s k) ∧ Below w.heap.size w wr) (fun _ p _ _ _ => 20 - (intOf p).toNat)
  case atStart => exact ⟨0, _, by omega, rfl, rfl, Enc.Sl.nil _, Below.refl _ _⟩
  case round =>
    obtain ⟨k, v, hk, rfl, rfl, hsl, hB⟩ := hrel
    by_cases hlt : k < 16
    · have SM := mark_any v (Dy.steps s k) ((k : Int) + 1) (s * ((k : Int) + 1)) wr hsl (by rw [Dy.steps_length]; omega)
      rw [Dy.steps_mark s1 s2 hlt] at SM
      have SM := Lib.hid SM
      obtain ⟨z1, z2⟩ := Dy.step_le s1 s2 (i := k) hlt
      have hw : IntKind.i64.wrap (s * ((k : Int) + 1)) = s * ((k : Int) + 1) := IntWalk.i64_in _ (by omega)
      have hki : (k : Int) + 1 ≤ 16 := by omega
      clear hsl
      go_wp2_with fail
      refine SM.out.mono ?_
      rintro e W1 ⟨⟨u, rfl, hu⟩, hB1⟩
      have hb := hB.trans (hB1.mono hB.size)
      have HU := Lib.hid hu
      clear hB hB1 SM hu hw z1 z2
      go_wp2_with fail
      go_roundw
      case rel => exact ⟨k + 1, _, by omega, by go_num, rfl, HU.out, hb⟩
      case measure => simp only [intOf]; omega
    · obtain rfl : k = 16 := by omega
      have HS := Lib.hid hsl
      have h16 := Dy.steps_all s1 s2 a1
      have S1 := due_any v (Dy.steps s 16) (16 * s + a) a wr hsl (by unfold Dy.fits; omega) (by unfold Dy.fits; omega)
      have HR := Lib.hid (Dy.steps_right s1 s2 16 (by omega))
      have S3 := fun W hw => over_any v (Dy.steps s 16) 16 W hw
      have S4 := fun W hw => dright_any v (Dy.steps s 16) W hw
      rw [HR.out] at S3 S4
      rw [Dy.steps_length, show (true && decide ((16 : Int) ≤ ((16 : Nat) : Int))) = true from rfl] at S3
      have S3 := Lib.hid S3
      have S4 := Lib.hid S4
      have h0 : 1 ≤ s → (Dy.due (Dy.steps s 16) (s + a - 1) a).length = 0 := fun h => Dy.steps_none h s2 a1
      have H0 := Lib.hid h0
      have S2 := Lib.hid (fun W hw => due_any v (Dy.steps s 16) (s + a - 1) a W hw (by unfold Dy.fits; omega) (by unfold Dy.fits; omega))
      generalize Dy.due (Dy.steps s 16) (16 * s + a) a = D1 at h16 S1
      generalize Dy.due (Dy.steps s 16) (s + a - 1) a = D2 at H0 S2
      have S1 := Lib.hid S1
      have H16 := Lib.hid h16
      clear h0 h16 hsl hlt
      by_cases hs0 : s = 0
      · have hse : (s == 0) = true := by rw [hs0]; rfl
        clear hs0
        go_wp2_with fail
        refine S1.out.mono ?_
        rintro e W1 ⟨⟨u, rfl, hu⟩, hB1⟩
        have hb := hB.trans (hB1.mono hB.size)
        have HS := Lib.hid (HS.out.below hB1)
        obtain ⟨A1, c1, rfl, _, _, _⟩ := hu.sl.form H16.out
        clear hB hB1 hu S1
        go_wp2_with fail
        refine (S3.out W1 HS.out).mono ?_
        rintro e W3 ⟨rfl, hB3⟩
        have hb := hb.trans (hB3.mono hb.size)
        have HS := Lib.hid (HS.out.below hB3)
        clear hB3
        go_wp2_with fail
        refine (S4.out W3 HS.out).mono ?_
        rintro e W4 ⟨rfl, hB4⟩
        have hb := hb.trans (hB4.mono hb.size)
        clear hB4
        go_wp2_with fail
        refine (awake14 _).mono ?_
        rintro e W5 ⟨rfl, hB5⟩
        have hb := hb.trans (hB5.mono hb.size)
        clear hB5
        go_wp2_with fail
        go_ret
        exact ⟨rfl, hb⟩
      · have hs1 : 1 ≤ s := by omega
        have hse : (s == 0) = false := by rw [beq_eq_false_iff_ne]; exact hs0
        have hl2 := Lib.hid (H0.out hs1)
        clear hs0
        go_wp2_with fail
        refine S1.out.mono ?_
        rintro e W1 ⟨⟨u, rfl, hu⟩, hB1⟩
        have hb := hB.trans (hB1.mono hB.size)
        have HS := Lib.hid (HS.out.below hB1)
        obtain ⟨A1, c1, rfl, _, _, _⟩ := hu.sl.form H16.out
        clear hB hB1 hu S1
        go_wp2_with fail
        refine (S2.out W1 HS.out).mono ?_
        rintro e W2 ⟨⟨u2, rfl, hu2⟩, hB2⟩
        have hb := hb.trans (hB2.mono hb.size)
        have HS := Lib.hid (HS.out.below hB2)
        obtain ⟨A2, c2, rfl, _, _, _⟩ := hu2.sl.form hl2.out
        clear hB2 hu2
        go_wp2_with fail
        refine (S3.out W2 HS.out).mono ?_
        rintro e W3 ⟨rfl, hB3⟩
        have hb := hb.trans (hB3.mono hb.size)
        have HS := Lib.hid (HS.out.below hB3)
        clear hB3
        go_wp2_with fail
        refine (S4.out W3 HS.out).mono ?_
        rintro e W4 ⟨rfl, hB4⟩
        have hb := hb.trans (hB4.mono hb.size)
        clear hB4
        go_wp2_with fail
        refine (awake14 _).mono ?_
        rintro e W5 ⟨rfl, hB5⟩
        have hb := hb.trans (hB5.mono hb.size)
        clear hB5
        go_wp2_with fail
        go_ret
        exact ⟨rfl, hb⟩
end Go.Proofs.Ythhialnnhhemaaa
