/- LAYER 9: the laws' fixed answer. No condition. -/
import Derived.Test.YthhialnnhhemaaaClockTouch
namespace Go.Proofs.Ythhialnnhhemaaa
open Go.RowKit
set_option linter.unusedVariables false

def ckL0 : List Fr := [⟨1, 0, true⟩, ⟨2, 0, false⟩, ⟨3, 0, false⟩]
def ckL1 : List Fr := [⟨1, 0, false⟩, ⟨2, 0, false⟩, ⟨3, 0, false⟩]
def ckL2 : List Fr := [⟨1, 0, false⟩, ⟨2, 0, false⟩, ⟨3, 0, true⟩]
def ckL3 : List Fr := [⟨0, 1, false⟩]
theorem ck_k1 : Ck.right ckL0 ((0 : Nat) : Int) = true := by kernel_rfl
theorem ck_k2 : Ck.stop ckL0 0 = some 1 := by kernel_rfl
theorem ck_k3 : Ck.after ckL0 0 1 = ckL1 := by kernel_rfl
theorem ck_k4 : Ck.anyFree ckL3 = false := by kernel_rfl
theorem ck_k5 : Ck.touch' ckL1 2 2 = ckL2 := by kernel_rfl

set_option maxRecDepth 100000 in
set_option maxHeartbeats 1600000 in
theorem awake09 (w : World) :
    Calls Try.prog 15 #[] w fun e w' => e = .returned (.bool true) ∧ Below w.heap.size w w' := by
  have hY : Below w.heap.size w (w.alloc (.cells #[.int .i64 1, .int .i64 0, .bool true, .int .i64 2, .int .i64 0, .bool false, .int .i64 3, .int .i64 0, .bool false] 42)) := (Below.refl _ _).alloc (Nat.le_refl _) _
  have h0 : frE.Sl (w.alloc (.cells #[.int .i64 1, .int .i64 0, .bool true, .int .i64 2, .int .i64 0, .bool false, .int .i64 3, .int .i64 0, .bool false] 42)) (.slice (some ⟨w.heap.size, 0, none⟩) 3 3) ckL0 := Enc.Sl.of_blk (l := ckL0) (Blk.new w 42 #[.int .i64 1, .int .i64 0, .bool true, .int .i64 2, .int .i64 0, .bool false, .int .i64 3, .int .i64 0, .bool false]) (by unfold maxLen ckL0; simp)
  have S1 : Calls Try.prog 16 #[.agg #[.slice (some ⟨w.heap.size, 0, none⟩) 3 3, .int .i64 0]] _ _ := sweep_is _ ckL0 0 1 1 2 ckL1 _ h0 ck_k1 ck_k2 ck_k3 rfl rfl
  have S1 := Lib.hid S1
  have HY := Lib.hid hY
  clear hY h0
  go_enter Try.func15, Try.ntmps15
  go_wp2_with fail
  refine S1.out.mono ?_
  rintro e W1 ⟨⟨u, rfl, hown⟩, hB1⟩
  have hb := HY.out.trans (hB1.mono HY.out.size)
  obtain ⟨A, c, rfl, _, _, h3⟩ := hown.sl.form (n := 3) rfl
  have HS1 := Lib.hid hown.sl
  have hbc : Blk ((W1.alloc (.cells #[.slice A 3 c, .int .i64 2] 24)).alloc (.cells #[.int .i64 0, .int .i64 1, .bool false] 42)) W1.heap.size 24 #[.slice A 3 c, .int .i64 2] := (Blk.new W1 _ _).alloc _
  have hY2 : Below w.heap.size w ((W1.alloc (.cells #[.slice A 3 c, .int .i64 2] 24)).alloc (.cells #[.int .i64 0, .int .i64 1, .bool false] 42)) := (hb.alloc hb.size _).alloc (by have := hb.size; simp; omega) _
  have hY2' : Below W1.heap.size W1 ((W1.alloc (.cells #[.slice A 3 c, .int .i64 2] 24)).alloc (.cells #[.int .i64 0, .int .i64 1, .bool false] 42)) := ((Below.refl _ _).alloc (Nat.le_refl _) _).alloc (by simp) _
  have h0 : frE.Sl ((W1.alloc (.cells #[.slice A 3 c, .int .i64 2] 24)).alloc (.cells #[.int .i64 0, .int .i64 1, .bool false] 42)) (.slice (some ⟨W1.heap.size + 1, 0, none⟩) 1 1) ckL3 := by
    have := Enc.Sl.of_blk (E := frE) (l := ckL3) (Blk.new (W1.alloc (.cells #[.slice A 3 c, .int .i64 2] 24)) 42 #[.int .i64 0, .int .i64 1, .bool false]) (by unfold maxLen ckL3; simp)
    simpa [show ckL3.length = 1 from rfl] using this
  have S2 := Lib.hid (sweep_no _ ckL3 0 _ h0 (.inr ck_k4))
  have HS1 := Lib.hid (HS1.out.below hY2')
  have HBC := Lib.hid hbc
  have HY2 := Lib.hid hY2
  clear hB1 hb hown S1 h3 hbc hY2 hY2' h0
  go_wp2_with fail
  refine S2.out.mono ?_
  rintro e W3 ⟨he, hB3⟩
  unfold SweepNo at he
  subst he
  have hb := HY2.out.trans (hB3.mono HY2.out.size)
  have hbc := HBC.out.keep hB3
  have hs1 := HS1.out.below hB3
  have ha : Below W3.heap.size W3 (W3.alloc (.cells #[.slice (some ⟨W1.heap.size + 1, 0, none⟩) 1 1, .int .i64 0] 24)) := (Below.refl _ _).alloc (Nat.le_refl _) _
  have hb := hb.trans (ha.mono hb.size)
  have hbc := hbc.keep ha
  have hs1 := hs1.below ha
  obtain ⟨f0, f1, y0, y1, l1⟩ := pair_cells hbc
  have S3 := touch_any _ ckL1 2 2 _ hs1
  rw [ck_k5] at S3
  have S3 := Lib.hid S3
  have HBC := Lib.hid hbc
  have HS1 := Lib.hid hs1
  have HB := Lib.hid hb
  clear hB3 ha hb hbc hs1 S2
  go_wp2_with fail
  generalize W3.alloc (.cells #[.slice (some ⟨W1.heap.size + 1, 0, none⟩) 1 1, .int .i64 0] 24) = W4 at *
  refine S3.out.mono ?_
  rintro e W5 ⟨⟨u2, rfl, hu2⟩, hB5⟩
  have hb := HB.out.trans (hB5.mono HB.out.size)
  have hbc := HBC.out.keep hB5
  have hs1 := HS1.out.below hB5
  obtain ⟨A2, c2, rfl, _, _, k3⟩ := hu2.form (n := 3) rfl
  have ha : Below W5.heap.size W5 (W5.alloc (.cells #[.slice A2 3 c2, .int .i64 2] 24)) := (Below.refl _ _).alloc (Nat.le_refl _) _
  have hb := hb.trans (ha.mono hb.size)
  have hbc := hbc.keep ha
  have hs1 := hs1.below ha
  have hu2 := hu2.below ha
  have hbd := Blk.new W5 24 #[.slice A2 3 c2, .int .i64 2]
  clear f0 f1 y0 y1 l1 k3
  obtain ⟨f0, f1, y0, y1, l1⟩ := pair_cells hbc
  obtain ⟨g0, g1, z0, z1, l2⟩ := pair_cells hbd
  obtain ⟨A', c', e1, _, _, m3⟩ := hs1.form (n := 3) rfl
  obtain ⟨A2', c2', e2, _, _, n3⟩ := hu2.form (n := 3) rfl
  simp only [Value.slice.injEq, true_and] at e1 e2
  obtain ⟨rfl, rfl⟩ := e1
  obtain ⟨rfl, rfl⟩ := e2
  obtain ⟨b, off, hA, hbl, hc⟩ := m3 (by omega)
  obtain ⟨b2, off2, hA2, hbl2, hc2⟩ := n3 (by omega)
  subst hA hA2
  have q0 := (fr_at hc 0 (by decide)).2.2
  have q2 := (fr_at hc2 2 (by decide)).2.2
  rw [show (ckL1[0]'(by decide)).used = false from rfl] at q0
  rw [show (ckL2[2]'(by decide)).used = true from rfl] at q2
  simp only [Nat.zero_mul, Nat.add_zero, Nat.reduceMul] at q0 q2
  have HB := Lib.hid hb
  clear hB5 ha hb hbc hs1 hu2 hbd S3 hc hc2 m3 n3
  go_wp2_with fail
  go_ret
  exact ⟨rfl, HB.out⟩
end Go.Proofs.Ythhialnnhhemaaa
