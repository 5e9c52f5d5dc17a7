/- THE LAWS of layer 9, walked: ClockHand. Conditions: those of the arguments alone. -/
import Derived.Test.YthhialnnhhemaaaClockOpen
import Derived.Deep.LoopGhost
namespace Go.Proofs.Ythhialnnhhemaaa
open Go.RowKit
set_option linter.unusedVariables false

set_option maxRecDepth 100000 in
set_option maxHeartbeats 3200000 in
theorem clockHand_walk {w : World} (v : Value) (ha : CkArg w v) :
    Calls Try.prog 7 #[v] w fun e w' => e = .returned (.bool true) ∧ Below w.heap.size w w' := by
  obtain ⟨u, l, h, rfl, hs, hf⟩ := ha
  have HS := Lib.hid hs
  obtain ⟨A, cap, rfl, h1, h2, h0, h3⟩ := hs
  unfold maxLen at h2
  have H3 := Lib.hid h3
  have hY : Below w.heap.size w (w.alloc (.cells #[.slice A l.length cap, .int .i64 h] 24)) := (Below.refl _ _).alloc (Nat.le_refl _) _
  have HY := Lib.hid hY
  have HBOX := Lib.hid (Blk.new w 24 #[.slice A l.length cap, .int .i64 h])
  clear h3 h0 hf
  by_cases h40 : 40 < l.length
  · have S := Lib.hid (ref_long _ l h _ (HS.out.below hY) h40)
    clear hY h40
    go_enter Try.func7, Try.ntmps7
    go_wp2_with fail
    refine S.out.mono ?_
    rintro e W1 ⟨rfl, hB1⟩
    have hb := HY.out.trans (hB1.mono HY.out.size)
    have hb := hb.alloc hb.size (.cells #[.slice none 0 0, .int .i64 h] 27)
    clear hB1 S
    go_wp2_with fail
    refine (awake09 _).mono ?_
    rintro e W2 ⟨rfl, hB2⟩
    have hb := hb.trans (hB2.mono hb.size)
    go_wp2_with fail
    go_ret
    exact ⟨rfl, hb⟩
  have SREF := Lib.hid (ref_any _ l h _ (HS.out.below hY) (by omega))
  have SRIGHT := fun x W hw => refCk_any x l h W hw
  clear hY h40
  cases hr : Ck.right l h with
  | false =>
    rw [hr] at SRIGHT
    have SRIGHT := Lib.hid SRIGHT
    clear hr
    go_enter Try.func7, Try.ntmps7
    go_wp2_with fail
    refine SREF.out.mono ?_
    rintro e W1 ⟨⟨x, rfl, hx⟩, hB1⟩
    have hb := HY.out.trans (hB1.mono HY.out.size)
    obtain ⟨Ax, cx, rfl, _, _, _⟩ := hx.sl.form (n := l.length) rfl
    have ha : Below W1.heap.size W1 (W1.alloc (.cells #[.slice Ax l.length cx, .int .i64 h] 27)) := (Below.refl _ _).alloc (Nat.le_refl _) _
    have hbx := (HBOX.out.keep hB1).keep ha
    have hb := hb.trans (ha.mono hb.size)
    have SR := Lib.hid (SRIGHT.out (.slice Ax l.length cx) _ (hx.sl.below ha))
    have HBOX := Lib.hid hbx
    have HB := Lib.hid hb
    clear hx hB1 hb hbx ha
    go_wp2_with fail
    generalize W1.alloc (.cells #[.slice Ax l.length cx, .int .i64 h] 27) = W1a at *
    refine SR.out.mono ?_
    rintro e W2 ⟨rfl, hB2⟩
    have hb := HB.out.trans (hB2.mono HB.out.size)
    have hbx := HBOX.out.keep hB2
    have HBOX := Lib.hid hbx
    clear hbx hB2 SR HB
    go_wp2_with fail
    refine (awake09 _).mono ?_
    rintro e W3 ⟨rfl, hB3⟩
    have hb := hb.trans (hB3.mono hb.size)
    go_wp2_with fail
    go_ret
    exact ⟨rfl, hb⟩
  | true =>
    rw [hr] at SRIGHT
    have SRIGHT := Lib.hid SRIGHT
    obtain ⟨hl8, ⟨H, rfl, hH⟩, hgd⟩ := Ck.right_parts hr
    cases hN : Ck.stop l H with
    | none =>
      have SW := Lib.hid (fun W hw => sweep_no (.slice A l.length cap) l (H : Int) W hw (.inr (Ck.anyFree_none hr hN)))
      clear hr hgd hN
      go_enter Try.func7, Try.ntmps7
      go_wp2_with fail
      refine SREF.out.mono ?_
      rintro e W1 ⟨⟨x, rfl, hx⟩, hB1⟩
      have hb := HY.out.trans (hB1.mono HY.out.size)
      obtain ⟨Ax, cx, rfl, _, _, _⟩ := hx.sl.form (n := l.length) rfl
      have ha : Below W1.heap.size W1 (W1.alloc (.cells #[.slice Ax l.length cx, .int .i64 (H : Int)] 27)) := (Below.refl _ _).alloc (Nat.le_refl _) _
      have hbx := (HBOX.out.keep hB1).keep ha
      have hb := hb.trans (ha.mono hb.size)
      have SR := Lib.hid (SRIGHT.out (.slice Ax l.length cx) _ (hx.sl.below ha))
      have HBOX := Lib.hid hbx
      have HB := Lib.hid hb
      clear hx hB1 hb hbx ha
      go_wp2_with fail
      generalize W1.alloc (.cells #[.slice Ax l.length cx, .int .i64 (H : Int)] 27) = W1a at *
      refine SR.out.mono ?_
      rintro e W2 ⟨rfl, hB2⟩
      have hb := HB.out.trans (hB2.mono HB.out.size)
      have hbx := HBOX.out.keep hB2
      have HBOX := Lib.hid hbx
      clear hbx hB2 SR HB
      obtain ⟨k0, k1, _, _, k4⟩ := pair_cells HBOX.out
      have SS := Lib.hid (SW.out W2 (HS.out.below hb))
      go_wp2_with fail
      refine SS.out.mono ?_
      rintro e W3 ⟨he, hB3⟩
      unfold SweepNo at he
      subst he
      have hb := hb.trans (hB3.mono hb.size)
      have hbx := HBOX.out.keep hB3
      clear k0 k1 k4 SS
      obtain ⟨k0, k1, _, _, k4⟩ := pair_cells hbx
      have hHH : ((H : Int) == (H : Int)) = true := by simp
      have hb := hb.alloc hb.size (.cells #[.slice A l.length cap, .int .i64 H] 24)
      clear hB3 hbx
      go_wp2_with fail
      refine (awake09 _).mono ?_
      rintro e W9 ⟨rfl, hB9⟩
      have hb := hb.trans (hB9.mono hb.size)
      clear hB9
      go_wp2_with fail
      go_ret
      exact ⟨rfl, hb⟩
    | some N =>
      have SW := Lib.hid (fun W hw => sweep_yes (.slice A l.length cap) l H N W hw hr hN)
      obtain ⟨D, hD, hDN, hno⟩ := Ck.stop_dist hH hN
      obtain ⟨at1, hat1⟩ : ∃ at1, (H + N) % l.length = at1 := ⟨_, rfl⟩
      obtain ⟨hn1, hhn1⟩ : ∃ hn1, (H + N + 1) % l.length = hn1 := ⟨_, rfl⟩
      have hatl : at1 < l.length := by rw [← hat1]; exact Nat.mod_lt _ (by omega)
      have hrel : (at1 + 1) % l.length = hn1 := by rw [← hat1, ← hhn1]; exact Ck.mod_step H N l.length
      unfold SweepYes at SW
      rw [hat1, hhn1] at SW
      rw [hat1] at hDN
      have rem1 : ((at1 : Int) + 1).tmod (l.length : Int) = (hn1 : Int) := by rw [show (at1 : Int) + 1 = ((at1 + 1 : Nat) : Int) by omega, rem_nat, hrel]
      have rem2 : ((at1 : Int) + 1) % (l.length : Int) = (hn1 : Int) := by rw [← hrel]; rfl
      have hlz : ((l.length : Int) == 0) = false := by rw [beq_eq_false_iff_ne]; omega
      have hlz2 : ¬ (l.length : Int) = 0 := by omega
      have q1 : decide ((at1 : Int) < 0) = false := decide_eq_false (by omega)
      have q2 : decide ((l.length : Int) ≤ (at1 : Int)) = false := decide_eq_false (by omega)
      have q3 : decide (l.length ≤ at1) = false := decide_eq_false (by omega)
      have q4 : ((hn1 : Int) != (hn1 : Int)) = false := by simp
      have q5 : (0 : Int) ≤ (at1 : Int) := by omega
      have q6 : (at1 : Int) < (l.length : Int) := by omega
      have HQ := Lib.hid (And.intro rem1 (And.intro rem2 (And.intro q1 (And.intro q2 (And.intro q3 (And.intro q4 (And.intro q5 q6)))))))
      have HNO := Lib.hid (And.intro hD (And.intro hDN hno))
      have hl8i : (l.length : Int) ≤ 8 := by omega
      clear hr hgd hN hat1 hhn1 hrel hD hDN hno rem1 rem2 q1 q2 q3 q4 q5 q6
      go_enter Try.func7, Try.ntmps7
      go_wp2_with fail
      refine SREF.out.mono ?_
      rintro e W1 ⟨⟨x, rfl, hx⟩, hB1⟩
      have hb := HY.out.trans (hB1.mono HY.out.size)
      obtain ⟨Ax, cx, rfl, _, _, _⟩ := hx.sl.form (n := l.length) rfl
      have ha : Below W1.heap.size W1 (W1.alloc (.cells #[.slice Ax l.length cx, .int .i64 (H : Int)] 27)) := (Below.refl _ _).alloc (Nat.le_refl _) _
      have hbx := (HBOX.out.keep hB1).keep ha
      have hb := hb.trans (ha.mono hb.size)
      have SR := Lib.hid (SRIGHT.out (.slice Ax l.length cx) _ (hx.sl.below ha))
      have HBOX := Lib.hid hbx
      have HB := Lib.hid hb
      clear hx hB1 hb hbx ha
      go_wp2_with fail
      generalize W1.alloc (.cells #[.slice Ax l.length cx, .int .i64 (H : Int)] 27) = W1a at *
      refine SR.out.mono ?_
      rintro e W2 ⟨rfl, hB2⟩
      have hb := HB.out.trans (hB2.mono HB.out.size)
      have hbx := HBOX.out.keep hB2
      have HBOX := Lib.hid hbx
      clear hbx hB2 SR HB
      obtain ⟨k0, k1, _, _, k4⟩ := pair_cells HBOX.out
      have SS := Lib.hid (SW.out W2 (HS.out.below hb))
      go_wp2_with fail
      refine SS.out.mono ?_
      rintro e W3 ⟨⟨u3, rfl, hu3⟩, hB3⟩
      have hb := hb.trans (hB3.mono hb.size)
      have hbx := HBOX.out.keep hB3
      obtain ⟨A3, c3, rfl, _, _, _⟩ := hu3.sl.form (n := l.length) (by rw [Ck.after_length])
      clear k0 k1 k4 SS
      obtain ⟨k0, k1, _, _, k4⟩ := pair_cells hbx
      have hb := hb.alloc hb.size (.cells #[.slice A3 l.length c3, .int .i64 hn1] 24)
      have hbx := hbx.alloc (.cells #[.slice A3 l.length c3, .int .i64 hn1] 24)
      have HB := Lib.hid hb
      have HBOX := Lib.hid hbx
      clear hB3 hbx hu3 hb
      obtain ⟨rem1, rem2, q1, q2, q3, q4, q5, q6⟩ := HQ.out
      go_wp2_with fail
      go_quiet (fail)
      go_wp2_with fail
      go_loopg [9] D (fun gk k wr => ∃ j k1 : Nat, gk + j = D ∧ k1 = (H + j) % l.length ∧ k = .int .i64 k1 ∧ Blk wr w.heap.size 24 #[.slice A l.length cap, .int .i64 H] ∧ Below w.heap.size w wr)
      case atStart => exact ⟨0, H, by omega, by rw [Nat.add_zero, Nat.mod_eq_of_lt hH], rfl, HBOX.out.drewN _, HB.out.trans (drewN_below _ _ _)⟩
      case round =>
        obtain ⟨j, k1', hgk, hk1, rfl, hbx, hb⟩ := hrel
        clear k0 k1 k4 rem1 rem2 q1 q2 q3 q4 q5 q6
        obtain ⟨k0, _, _, _, k4⟩ := pair_cells hbx
        have HBX := Lib.hid hbx
        have hkl : k1' < l.length := by rw [hk1]; exact Nat.mod_lt _ (by omega)
        have hgetd : l.getD ((H + j) % l.length) default = l[k1'] := by rw [← hk1]; exact Ck.getD_eq hkl
        have hnext : (k1' + 1) % l.length = (H + (j + 1)) % l.length := by rw [hk1]; exact Ck.mod_step H j l.length
        obtain ⟨k2, hk2⟩ : ∃ k2, (k1' + 1) % l.length = k2 := ⟨_, rfl⟩
        have r1 : ((k1' : Int) + 1).tmod (l.length : Int) = (k2 : Int) := by rw [show (k1' : Int) + 1 = ((k1' + 1 : Nat) : Int) by omega, rem_nat, hk2]
        have r2 : ((k1' : Int) + 1) % (l.length : Int) = (k2 : Int) := by rw [← hk2]; rfl
        have hk2' : k2 = (H + (j + 1)) % l.length := by rw [← hk2, hnext]
        have hki : (k1' : Int) < (l.length : Int) := by omega
        have hk0 : (0 : Int) ≤ (k1' : Int) := by omega
        by_cases hj : j < D
        · have hneq : k1' ≠ at1 := by rw [hk1, ← HNO.out.2.1]; exact Ck.dist_ne hH HNO.out.1 hj
          have hfr := HNO.out.2.2 j hj
          rw [hgetd] at hfr
          have hneb : ((k1' : Int) != (at1 : Int)) = true := by rw [bne_iff_ne]; omega
          obtain ⟨b, off, rfl, hbl, hc⟩ := H3.out (by omega)
          obtain ⟨c0, c1, c2⟩ := fr_at (hc.below hb hbl) k1' hkl
          have hblt : b < wr.heap.size := Nat.lt_of_lt_of_le hbl hb.size
          have HREL := Lib.hid (And.intro hgk (And.intro hk2' hb))
          clear hc hbx hgetd hnext hk2 hk1 hneq hgk hk2' hb
          generalize l[k1'] = d at c0 c1 c2 hfr
          unfold Ck.fresh at hfr
          cases hp : (d.pins == 0) with
          | true =>
            rw [hp, Bool.true_and] at hfr
            have hu : d.used = true := by simpa using hfr
            rw [hu] at c2
            clear hfr hu
            go_wp2_with fail
            go_roundg (gk - 1)
            case measure => have := HREL.out.1; omega
            case rel => exact ⟨j + 1, k2, by have := HREL.out.1; omega, HREL.out.2.1, rfl, HBX.out, HREL.out.2.2⟩
          | false =>
            clear hfr
            go_wp2_with fail
            go_roundg (gk - 1)
            case measure => have := HREL.out.1; omega
            case rel => exact ⟨j + 1, k2, by have := HREL.out.1; omega, HREL.out.2.1, rfl, HBX.out, HREL.out.2.2⟩
        · obtain rfl : j = D := by omega
          have hkat : k1' = at1 := by rw [hk1, HNO.out.2.1]
          subst hkat
          have hneb : ((k1' : Int) != (k1' : Int)) = false := by simp
          clear hbx hgetd hnext hk2 hk1 hgk hk2' hj r1 r2
          go_wp2_with fail
          refine (awake09 _).mono ?_
          rintro e W9 ⟨rfl, hB9⟩
          have hb := hb.trans (hB9.mono hb.size)
          clear hB9
          go_wp2_with fail
          go_ret
          exact ⟨rfl, hb⟩
end Go.Proofs.Ythhialnnhhemaaa
