/- THE LAWS of layer 14, walked: DirtyOld. Conditions: those of the arguments alone. -/
import Derived.Test.YthhialnnhhemaaaDirtyOpen
namespace Go.Proofs.Ythhialnnhhemaaa
open Go.RowKit
set_option linter.unusedVariables false

set_option maxRecDepth 100000 in
set_option maxHeartbeats 3200000 in
theorem dirtyOld_walk {w : World} (v : Value) (ha : ItArg w v) (age : Int) (wa : (Lit.int .u8 age).wf = true) :
    Calls Try.prog 13 #[v, .int .u8 age] w fun e w' => e = .returned (.bool true) ∧ Below w.heap.size w w' := by
  obtain ⟨l, hs, _⟩ := ha
  obtain ⟨a1, a2⟩ := u8_of wa
  have HS := Lib.hid hs
  obtain ⟨A, cap, rfl, h1, h2, h0, h3⟩ := hs
  have H3 := Lib.hid h3
  clear h3 h0 wa
  by_cases h16 : (16 : Int) < (l.length : Int)
  · go_enter Try.func13, Try.ntmps13
    go_wp2_with fail
    refine (awake14 _).mono ?_
    rintro e W1 ⟨rfl, hB⟩
    go_wp2_with fail
    go_ret
    exact ⟨rfl, hB⟩
  have h16' : (l.length : Int) ≤ 16 := by omega
  clear h16
  have hl40 : l.length ≤ 1000000 := by omega
  have SR := Lib.hid (fun W hw => refs_any (.slice A l.length cap) l W hw hl40)
  have SG := fun u W hw => refRight_any u l W hw
  cases hr : Dy.right l with
  | false =>
    rw [hr] at SG
    have SG := Lib.hid SG
    clear hr
    go_enter Try.func13, Try.ntmps13
    go_wp2_with fail
    refine (SR.out w HS.out).mono ?_
    rintro e W1 ⟨⟨x, rfl, hx⟩, hB1⟩
    have S := Lib.hid (SG.out x W1 hx.sl)
    clear hx
    go_wp2_with fail
    refine S.out.mono ?_
    rintro e W2 ⟨rfl, hB2⟩
    have hb := hB1.trans (hB2.mono hB1.size)
    clear hB1 hB2 S
    go_wp2_with fail
    refine (awake14 _).mono ?_
    rintro e W3 ⟨rfl, hB3⟩
    have hb := hb.trans (hB3.mono hb.size)
    clear hB3
    go_wp2_with fail
    go_ret
    exact ⟨rfl, hb⟩
  | true =>
    rw [hr] at SG
    have SG := Lib.hid SG
    have HOK := Lib.hid ((Dy.right_iff l).1 hr)
    have d1 := Dy.due_take HOK.out (now := 2147483647) (age := 0) (by omega)
    have d2 := Dy.due_take HOK.out (now := 2147483647) (age := 2147483647 - age) (by omega)
    have d3 := Dy.due_take HOK.out (now := 2147483647) (age := 2147483648) (by omega)
    have e1 : Dy.due l 2147483647 0 = l.map It.page := by
      rw [d1.1, Dy.dueN_all HOK.out (by omega) (fun a ha => by have := HOK.out.since a ha; omega), List.take_length]
    have e3 : Dy.due l 2147483647 2147483648 = [] := by
      rw [d3.1, Dy.dueN_zero HOK.out (by omega) (fun a ha => by have := HOK.out.since a ha; omega)]; rfl
    have hsl := Dy.dueN_le l 2147483647 (2147483647 - age)
    have e2 := d2.1
    have HI := Lib.hid d2.2
    generalize Dy.dueN l 2147483647 (2147483647 - age) = s at hsl e2 HI
    have S1 := fun W hw => due_any (.slice A l.length cap) l 2147483647 0 W hw (by unfold Dy.fits; omega) (by unfold Dy.fits; omega)
    have S2 := fun W hw => due_any (.slice A l.length cap) l 2147483647 (2147483647 - age) W hw (by unfold Dy.fits; omega) (by unfold Dy.fits; omega)
    have S3 := fun W hw => due_any (.slice A l.length cap) l 2147483647 2147483648 W hw (by unfold Dy.fits; omega) (by unfold Dy.fits; omega)
    rw [e1] at S1
    rw [e2] at S2
    rw [e3] at S3
    have S1 := Lib.hid S1
    have S2 := Lib.hid S2
    have S3 := Lib.hid S3
    have hsi : (s : Int) ≤ (l.length : Int) := by omega
    have hne : ((l.length : Int) != (l.length : Int)) = false := by simp
    clear d1 d2 d3 e1 e2 e3 hr
    go_enter Try.func13, Try.ntmps13
    go_wp2_with fail
    refine (SR.out w HS.out).mono ?_
    rintro e W1 ⟨⟨x, rfl, hx⟩, hB1⟩
    have S := Lib.hid (SG.out x W1 hx.sl)
    clear hx
    go_wp2_with fail
    refine S.out.mono ?_
    rintro e W2 ⟨rfl, hB2⟩
    have hb := hB1.trans (hB2.mono hB1.size)
    clear hB1 hB2 S
    go_wp2_with fail
    refine (S1.out W2 (HS.out.below hb)).mono ?_
    rintro e W3 ⟨⟨u1, rfl, hu1⟩, hB3⟩
    have hb := hb.trans (hB3.mono hb.size)
    have HU1 := Lib.hid hu1.sl
    clear hB3 hu1
    go_wp2_with fail
    refine (S2.out W3 (HS.out.below hb)).mono ?_
    rintro e W4 ⟨⟨u2, rfl, hu2⟩, hB4⟩
    have hb := hb.trans (hB4.mono hb.size)
    have HU1 := Lib.hid (HU1.out.below hB4)
    have HU2 := Lib.hid hu2.sl
    clear hB4 hu2
    go_wp2_with fail
    refine (S3.out W4 (HS.out.below hb)).mono ?_
    rintro e W5 ⟨⟨u3, rfl, hu3⟩, hB5⟩
    have hb := hb.trans (hB5.mono hb.size)
    obtain ⟨A1, c1, rfl, p1, p2, p3⟩ := (HU1.out.below hB5).form (n := l.length) (by simp)
    obtain ⟨A2, c2, rfl, q1, q2, q3⟩ := (HU2.out.below hB5).form (n := s) (by simp; omega)
    obtain ⟨A3, c3, rfl, r1, r2, _⟩ := hu3.sl.form (n := 0) (by simp)
    have HP := Lib.hid p3
    have HQ := Lib.hid q3
    have HBB := Lib.hid hb
    clear hB5 hu3 HU1 HU2 p3 q3 p1 p2 q1 q2 r1 r2 S1 S2 S3 SR SG hb
    go_wp2_with fail
    go_loopw [9, 10, 55] (fun _ _ i wr => ∃ k : Nat, k ≤ l.length ∧ i = .int .i64 k ∧ Below W5.heap.size W5 wr) (fun _ _ i _ => l.length - (intOf i).toNat)
    case atStart => exact ⟨0, by omega, rfl, Below.refl _ _⟩
    case round =>
      obtain ⟨k, hk, rfl, hB⟩ := hrel
      have hbw := HBB.out.trans (hB.mono HBB.out.size)
      by_cases hlt : k < l.length
      · obtain ⟨b, off, rfl, hbl, hc⟩ := H3.out (by omega)
        obtain ⟨b1, o1, rfl, hbl1, hc1⟩ := HP.out (by omega)
        obtain ⟨t0, t1⟩ := it_at (hc.below hbw hbl) k hlt
        have t2 := int_at (hc1.below hB hbl1) k (by simpa using hlt)
        rw [List.getElem_map] at t2
        have hblt : b < wr.heap.size := Nat.lt_of_lt_of_le hbl hbw.size
        have hblt1 : b1 < wr.heap.size := Nat.lt_of_lt_of_le hbl1 hB.size
        have hki : (k : Int) < (l.length : Int) := by omega
        have hk0 : (0 : Int) ≤ (k : Int) := by omega
        have hiff := HI.out k hlt
        have hpp : (l[k].page != l[k].page) = false := by simp
        clear hc hc1
        by_cases hks : k < s
        · have hsa : l[k].since ≤ age := by have := hiff.1 hks; omega
          obtain ⟨b2, o2, rfl, hbl2, hc2⟩ := HQ.out (by omega)
          have t3 := int_at (hc2.below hB hbl2) k (by simp; omega)
          rw [List.getElem_map, List.getElem_take] at t3
          have hblt2 : b2 < wr.heap.size := Nat.lt_of_lt_of_le hbl2 hB.size
          have hksi : (k : Int) < (s : Int) := by omega
          clear hc2 hiff
          generalize l[k] = d at *
          go_wp2_with fail
          go_roundw
          case rel => first | exact ⟨k + 1, by omega, by go_num, hB⟩ | (refine ⟨_, _, _, _, ⟨k + 1, by omega, ?_⟩, rfl, rfl, rfl, rfl⟩; go_num)
          case measure => simp only [intOf]; omega
        · have hsa : age < l[k].since := by
            have : ¬ l[k].since ≤ 2147483647 - (2147483647 - age) := fun h => hks (hiff.2 h)
            omega
          have hksi : (s : Int) ≤ (k : Int) := by omega
          clear hiff hks
          generalize l[k] = d at *
          go_wp2_with fail
          go_roundw
          case rel => first | exact ⟨k + 1, by omega, by go_num, hB⟩ | (refine ⟨_, _, _, _, ⟨k + 1, by omega, ?_⟩, rfl, rfl, rfl, rfl⟩; go_num)
          case measure => simp only [intOf]; omega
      · obtain rfl : k = l.length := by omega
        clear hlt
        go_wp2_with fail
        refine (awake14 _).mono ?_
        rintro e W6 ⟨rfl, hB6⟩
        have hb := hbw.trans (hB6.mono hbw.size)
        clear hB6
        go_wp2_with fail
        go_ret
        exact ⟨rfl, hb⟩
end Go.Proofs.Ythhialnnhhemaaa
