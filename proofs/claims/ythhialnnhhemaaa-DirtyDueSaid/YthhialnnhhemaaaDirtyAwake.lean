/- LAYER 14: the laws' fixed answer. No condition. -/
import Derived.Test.YthhialnnhhemaaaDirtyMark2
namespace Go.Proofs.Ythhialnnhhemaaa
open Go.RowKit
set_option linter.unusedVariables false

theorem mark_k1 : Dy.mark [] 3 5 = ([⟨3, 5⟩], 0) := by kernel_rfl
theorem mark_k2 : Dy.mark [⟨3, 5⟩] 4 9 = ([⟨3, 5⟩, ⟨4, 9⟩], 0) := by kernel_rfl
theorem mark_k3 : Dy.mark [⟨3, 5⟩, ⟨4, 9⟩] 3 10 = ([⟨3, 5⟩, ⟨4, 9⟩], 0) := by kernel_rfl
theorem right_k : Dy.right [⟨3, 5⟩, ⟨4, 9⟩] = true := by kernel_rfl
theorem since_k : Dy.sinceOf [⟨3, 5⟩, ⟨4, 9⟩] 3 = 5 := by kernel_rfl
theorem has_k : Dy.hasPage [⟨3, 5⟩, ⟨4, 9⟩] 3 = true := by kernel_rfl
theorem due_k : Dy.due [⟨3, 5⟩, ⟨4, 9⟩] 10 5 = [3] := by kernel_rfl

set_option maxRecDepth 100000 in
set_option maxHeartbeats 1600000 in
theorem awake14 (w : World) :
    Calls Try.prog 22 #[] w fun e w' => e = .returned (.bool true) ∧ Below w.heap.size w w' := by
  have S1 := mark_any (.slice none 0 0) [] 3 5 w (Enc.Sl.nil w) (by simp)
  rw [mark_k1] at S1
  have S1 := Lib.hid S1
  go_enter Try.func22, Try.ntmps22
  go_wp2_with fail
  refine S1.out.mono ?_
  rintro e W1 ⟨⟨u1, rfl, hs1⟩, hB1⟩
  have S2 := mark_any u1 _ 4 9 W1 hs1 (by simp)
  rw [mark_k2] at S2
  have S2 := Lib.hid S2
  clear hs1 S1
  go_wp2_with fail
  refine S2.out.mono ?_
  rintro e W2 ⟨⟨u2, rfl, hs2⟩, hB2⟩
  have hb2 := hB1.trans (hB2.mono hB1.size)
  have S3 := mark_any u2 _ 3 10 W2 hs2 (by simp)
  rw [mark_k3] at S3
  have S3 := Lib.hid S3
  clear hs2 hB1 hB2 S2
  go_wp2_with fail
  refine S3.out.mono ?_
  rintro e W3 ⟨⟨u3, rfl, hs3⟩, hB3⟩
  have hb3 := hb2.trans (hB3.mono hb2.size)
  have S4 := since_any u3 _ 3 W3 hs3
  rw [right_k, since_k, has_k] at S4
  have S4 := Lib.hid S4
  have HS3 := Lib.hid hs3
  clear hb2 hB3 S3 hs3
  go_wp2_with fail
  refine S4.out.mono ?_
  rintro e W4 ⟨rfl, hB4⟩
  have hb4 := hb3.trans (hB4.mono hb3.size)
  have hs4 := HS3.out.below hB4
  have S5 := due_any u3 _ 10 5 W4 hs4 (by unfold Dy.fits; omega) (by unfold Dy.fits; omega)
  rw [due_k] at S5
  have S5 := Lib.hid S5
  have HS4 := Lib.hid hs4
  clear hb3 hB4 S4 hs4 HS3
  go_wp2_with fail
  refine S5.out.mono ?_
  rintro e W5 ⟨⟨u5, rfl, hown5⟩, hB5⟩
  have hb5 := hb4.trans (hB5.mono hb4.size)
  have hs5 := HS4.out.below hB5
  have ha : Below W5.heap.size W5 (W5.alloc (.cells #[.int .i64 3] 3)) := (Below.refl _ _).alloc (Nat.le_refl _) _
  have nu := hown5.sl.below ha
  have nv : intE.Sl (W5.alloc (.cells #[.int .i64 3] 3)) (.slice (some ⟨W5.heap.size, 0, none⟩) 1 1) [3] := Enc.Sl.of_blk (l := [3]) (Blk.new W5 3 #[.int .i64 3]) (by unfold maxLen; simp)
  have S6 := equal_any _ _ _ _ _ nu nv
  rw [show decide (([3] : List Int) = [3]) = true from rfl] at S6
  have S6 := Lib.hid S6
  have hs5 := hs5.below ha
  have hb5 := hb5.trans (ha.mono hb5.size)
  have HS5 := Lib.hid hs5
  clear hb4 hB5 S5 hown5 ha nu nv HS4 hs5
  go_wp2_with fail
  generalize W5.alloc (.cells #[.int .i64 3] 3) = W5a at S6 hb5 HS5
  refine S6.out.mono ?_
  rintro e W6 ⟨rfl, hB6⟩
  have hb6 := hb5.trans (hB6.mono hb5.size)
  have hs6 := HS5.out.below hB6
  have S7 := over_any u3 _ 2 W6 hs6
  rw [right_k, show (true && decide ((2 : Int) ≤ (([⟨3, 5⟩, ⟨4, 9⟩] : List It).length : Int))) = true from rfl] at S7
  have S7 := Lib.hid S7
  have HS6 := Lib.hid hs6
  clear hb5 hB6 S6 HS5 hs6
  go_wp2_with fail
  refine S7.out.mono ?_
  rintro e W7 ⟨rfl, hB7⟩
  have hb7 := hb6.trans (hB7.mono hb6.size)
  have hs7 := HS6.out.below hB7
  have S8 := over_any u3 _ 3 W7 hs7
  rw [right_k, show (true && decide ((3 : Int) ≤ (([⟨3, 5⟩, ⟨4, 9⟩] : List It).length : Int))) = false from rfl] at S8
  have S8 := Lib.hid S8
  clear hb6 hB7 S7 HS6 hs7
  go_wp2_with fail
  refine S8.out.mono ?_
  rintro e W8 ⟨rfl, hB8⟩
  have hb8 := hb7.trans (hB8.mono hb7.size)
  clear hb7 hB8
  go_wp2_with fail
  go_ret
  exact ⟨rfl, hb8⟩
end Go.Proofs.Ythhialnnhhemaaa
