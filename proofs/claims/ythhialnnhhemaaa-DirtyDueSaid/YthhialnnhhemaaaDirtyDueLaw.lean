/- THE LAWS of layer 14, walked: DirtyDue. Conditions: those of the arguments alone. -/
import Derived.Test.YthhialnnhhemaaaDirtyOpen
namespace Go.Proofs.Ythhialnnhhemaaa
open Go.RowKit
set_option linter.unusedVariables false

set_option maxRecDepth 100000 in
set_option maxHeartbeats 3200000 in
theorem dirtyDue_walk {w : World} (v : Value) (ha : ItArg w v) (now : Int) (wn : (Lit.int .i64 now).wf = true) (age : Int) (wa : (Lit.int .i64 age).wf = true) (hard : Int) (wh : (Lit.int .i64 hard).wf = true) :
    Calls Try.prog 9 #[v, .int .i64 now, .int .i64 age, .int .i64 hard] w fun e w' => e = .returned (.bool true) ∧ Below w.heap.size w w' := by
  obtain ⟨l, hs, _⟩ := ha
  have HN := Lib.hid (fits_of wn)
  have HA := Lib.hid (fits_of wa)
  have HS := Lib.hid hs
  obtain ⟨A, cap, rfl, h1, h2, h0, h3⟩ := hs
  have H3 := Lib.hid h3
  clear h3 h0 wn wa wh
  by_cases e1 : (40 : Int) < (l.length : Int)
  · go_enter Try.func9, Try.ntmps9
    go_wp2_with fail
    refine (awake14 _).mono ?_
    rintro e W1 ⟨rfl, hB⟩
    go_wp2_with fail
    go_ret
    exact ⟨rfl, hB⟩
  have f1 : (l.length : Int) ≤ 40 := by omega
  clear e1
  by_cases e2 : 1152921504606846976 < now
  · go_enter Try.func9, Try.ntmps9
    go_wp2_with fail
    refine (awake14 _).mono ?_
    rintro e W1 ⟨rfl, hB⟩
    go_wp2_with fail
    go_ret
    exact ⟨rfl, hB⟩
  have f2 : now ≤ 1152921504606846976 := by omega
  clear e2
  by_cases e3 : now < -1152921504606846976
  · go_enter Try.func9, Try.ntmps9
    go_wp2_with fail
    refine (awake14 _).mono ?_
    rintro e W1 ⟨rfl, hB⟩
    go_wp2_with fail
    go_ret
    exact ⟨rfl, hB⟩
  have f3 : -1152921504606846976 ≤ now := by omega
  clear e3
  by_cases e4 : 1152921504606846976 < age
  · go_enter Try.func9, Try.ntmps9
    go_wp2_with fail
    refine (awake14 _).mono ?_
    rintro e W1 ⟨rfl, hB⟩
    go_wp2_with fail
    go_ret
    exact ⟨rfl, hB⟩
  have f4 : age ≤ 1152921504606846976 := by omega
  clear e4
  by_cases e5 : age < -1152921504606846976
  · go_enter Try.func9, Try.ntmps9
    go_wp2_with fail
    refine (awake14 _).mono ?_
    rintro e W1 ⟨rfl, hB⟩
    go_wp2_with fail
    go_ret
    exact ⟨rfl, hB⟩
  have f5 : -1152921504606846976 ≤ age := by omega
  clear e5
  have hl40 : l.length ≤ 1000000 := by omega
  have SR := Lib.hid (fun W hw => refs_any (.slice A l.length cap) l W hw hl40)
  have SD := fun W hw => due_any (.slice A l.length cap) l now age W hw HN.out HA.out
  have SO := fun W hw => over_any (.slice A l.length cap) l hard W hw
  have SG := fun u W hw => refRight_any u l W hw
  unfold Dy.due at SD
  cases hr : Dy.right l with
  | false =>
    rw [hr] at SD SO SG
    rw [Bool.false_and, if_neg (by decide)] at SD
    rw [Bool.false_and] at SO
    have SD := Lib.hid SD
    have SO := Lib.hid SO
    have SG := Lib.hid SG
    clear hr
    go_enter Try.func9, Try.ntmps9
    go_wp2_with fail
    refine (SR.out w HS.out).mono ?_
    rintro e W1 ⟨⟨x, rfl, hx⟩, hB1⟩
    have S := Lib.hid (SG.out x W1 hx.sl)
    clear hx
    go_wp2_with fail
    refine S.out.mono ?_
    rintro e W2 ⟨rfl, hB2⟩
    have hb := hB1.trans (hB2.mono hB1.size)
    clear hB1 hB2 S
    go_wp2_with fail
    go_loopw [9, 12, 38] (fun u _ i wr => ∃ m : Nat, m ≤ l.length ∧ i = .int .i64 m ∧ u = .slice none 0 0 ∧ Below w.heap.size w wr) (fun _ _ i _ => l.length - (intOf i).toNat)
    case atStart => exact ⟨0, by omega, rfl, rfl, hb⟩
    case round =>
      obtain ⟨m, hm, rfl, rfl, hB⟩ := hrel
      by_cases hlt : m < l.length
      · obtain ⟨b, off, rfl, hbl, hc⟩ := H3.out (by omega)
        obtain ⟨c0, c1⟩ := it_at (hc.below hB hbl) m hlt
        have hblt : b < wr.heap.size := Nat.lt_of_lt_of_le hbl hB.size
        clear hc hb
        generalize l[m] = d at c0 c1
        go_wp2_with fail
        go_roundw
        case rel => exact ⟨m + 1, by omega, by go_num, rfl, hB.alloc hB.size _⟩
        case measure => simp only [intOf]; omega
      · obtain rfl : m = l.length := by omega
        have HW := Lib.hid (Enc.Sl.nil (E := intE) wr)
        clear hb hlt
        go_wp2_with fail
        refine (SD.out wr (HS.out.below hB)).mono ?_
        rintro e W3 ⟨⟨u, rfl, hu⟩, hB3⟩
        have hw := HW.out.below hB3
        have hb := hB.trans (hB3.mono hB.size)
        have S := equal_any _ _ _ _ W3 hu.sl hw
        rw [show decide (([] : List Int) = ([] : List Int)) = true from decide_eq_true rfl] at S
        have S := Lib.hid S
        clear hB3 hu hw
        go_wp2_with fail
        refine S.out.mono ?_
        rintro e W4 ⟨rfl, hB4⟩
        have hb := hb.trans (hB4.mono hb.size)
        clear hB4 S
        have S := Lib.hid (SO.out W4 (HS.out.below hb))
        go_wp2_with fail
        refine S.out.mono ?_
        rintro e W5 ⟨rfl, hB5⟩
        have hb := hb.trans (hB5.mono hb.size)
        clear hB5 S
        go_wp2_with fail
        refine (awake14 _).mono ?_
        rintro e W6 ⟨rfl, hB6⟩
        have hb := hb.trans (hB6.mono hb.size)
        clear hB6
        go_wp2_with fail
        go_ret
        exact ⟨rfl, hb⟩
  | true =>
    rw [hr] at SD SO SG
    rw [Bool.true_and] at SD SO
    have SG := Lib.hid SG
    by_cases hage : 0 ≤ age
    · rw [decide_eq_true hage, if_pos rfl] at SD
      have SD := Lib.hid SD
      have HOK := Lib.hid ((Dy.right_iff l).1 hr)
      obtain ⟨i0, hi, hz0, hz1, hz2⟩ := info_parts infoInt
      have HI := Lib.hid (And.intro hi (And.intro hz0 (And.intro hz1 hz2)))
      have hl16 : l.length ≤ 16 := HOK.out.short
      clear hr hi hz0 hz1 hz2
      by_cases hh : hard ≤ (l.length : Int)
      · rw [decide_eq_true hh] at SO
        have SO := Lib.hid SO
        go_enter Try.func9, Try.ntmps9
        go_wp2_with fail
        refine (SR.out w HS.out).mono ?_
        rintro e W1 ⟨⟨x, rfl, hx⟩, hB1⟩
        have S := Lib.hid (SG.out x W1 hx.sl)
        clear hx
        go_wp2_with fail
        refine S.out.mono ?_
        rintro e W2 ⟨rfl, hB2⟩
        have hb := hB1.trans (hB2.mono hB1.size)
        clear hB1 hB2 S
        go_wp2_with fail
        go_loopw [9, 12, 38] (fun u _ i wr => ∃ (m : Nat) (A : Option Addr) (n c : Nat), m ≤ l.length ∧ i = .int .i64 m ∧ u = .slice A n c ∧ n = (Dy.dueOf (l.take m) now age).length ∧ wr.ownsRow w.heap.size 3 1 (.slice A n c) n (intE.flat (Dy.dueOf (l.take m) now age)) ∧ Below w.heap.size w wr) (fun _ _ i _ => l.length - (intOf i).toNat)
        case atStart => exact ⟨0, none, 0, 0, by omega, rfl, rfl, rfl, ⟨rfl, .inl ⟨rfl, rfl⟩⟩, hb⟩
        case round =>
          obtain ⟨m, A2, n, c, hm, rfl, rfl, hnl, hown, hB⟩ := hrel
          clear hb
          by_cases hlt : m < l.length
          · obtain ⟨b, off, rfl, hbl, hc⟩ := H3.out (by omega)
            obtain ⟨c0, c1⟩ := it_at (hc.below hB hbl) m hlt
            have hblt : b < wr.heap.size := Nat.lt_of_lt_of_le hbl hB.size
            have hsn := HOK.out.since l[m] (List.getElem_mem hlt)
            have hcl := Dy.dueOf_snoc (l.take m) l[m] now age
            rw [← List.take_succ_eq_append_getElem hlt] at hcl
            have hn16 : n ≤ 16 := by
              have := Dy.dueOf_le (l.take m) now age
              rw [List.length_take] at this
              omega
            clear hc
            generalize l[m] = d at c0 c1 hcl hsn
            obtain ⟨s1, s2⟩ := hsn
            by_cases hd : age ≤ now - d.since
            · have hdd : Dy.isDue now age d = true := by unfold Dy.isDue; rw [decide_eq_true_iff]; omega
              rw [if_pos hdd] at hcl
              have hfl : intE.flat (Dy.dueOf (l.take (m + 1)) now age) = intE.flat (Dy.dueOf (l.take m) now age) ++ intE.enc d.page := by rw [hcl, Enc.flat_append, Enc.flat_single]
              have hln : (Dy.dueOf (l.take (m + 1)) now age).length = n + 1 := by rw [hcl, List.length_append, hnl]; rfl
              have HCL := Lib.hid (And.intro hfl hln)
              clear hcl hfl hln hnl hdd
              obtain ⟨hi, hz0, hz1, hz2⟩ := HI.out
              have hm7 : n + 1 ≤ maxLen := by unfold maxLen; omega
              have hm8 : (n + 1) * 8 ≤ 140737488355328 := by omega
              have hcb := Blk.new wr 61 #[.int .i64 d.page, .int .i64 d.since]
              go_wp2_with (at_builtin; go_must (refine wpList_append_own _ rfl _ _ 64 rfl w.heap.size 3 i0 (.int .i64 0) 1 8 Try.underlying64 hi hz0 hz1 hz2 rfl (by decide) _ _ _ rfl ((hown.alloc _).alloc _) ⟨wr.heap.size + 1, 0, none⟩ 1 1 (intE.enc d.page) rfl rfl ?c8at ?c8bt hm7 hm8 ?c8ct ?_))
              case c8at => have := news1 (wr.alloc (.cells #[.int .i64 d.page, .int .i64 d.since] 61)) 3 (.int .i64 d.page); simpa [intE] using this
              case c8bt => exact intE.one d.page
              case c8ct => have := hB.size; simp; omega
              intro v' w1 hown1 hgrow _
              have hB1 : Below w.heap.size w w1 := ((hB.alloc hB.size _).alloc (by have := hB.size; simp; omega) _).grown hgrow (by have := hB.size; simp; omega) (own_base hown)
              obtain ⟨A', c', rfl⟩ := own_form hown1
              rw [← HCL.out.1] at hown1
              clear hi hz0 hz1 hz2 hown hgrow c0 c1 hB hcb
              go_wp2_with fail
              go_roundw
              case rel => exact ⟨m + 1, A', n + 1, c', by omega, by go_num, rfl, HCL.out.2.symm, hown1, hB1⟩
              case measure => simp only [intOf]; omega
            · have hdd : Dy.isDue now age d = false := by unfold Dy.isDue; rw [decide_eq_false_iff_not]; omega
              rw [if_neg (by rw [hdd]; decide)] at hcl
              rw [← hcl] at hnl hown
              have HNL := Lib.hid hnl
              have hd2 : now - d.since < age := by omega
              clear hcl hdd hnl hd
              go_wp2_with fail
              go_roundw
              case rel => exact ⟨m + 1, A2, n, c, by omega, by go_num, rfl, HNL.out, hown.alloc _, hB.alloc hB.size _⟩
              case measure => simp only [intOf]; omega
          · obtain rfl : m = l.length := by omega
            rw [List.take_length] at hown hnl
            subst hnl
            have HW := Lib.hid (show intE.Sl wr (.slice A2 (Dy.dueOf l now age).length c) (Dy.dueOf l now age) from Enc.Own.sl (E := intE) hown)
            clear hown hlt
            go_wp2_with fail
            refine (SD.out wr (HS.out.below hB)).mono ?_
            rintro e W3 ⟨⟨u, rfl, hu⟩, hB3⟩
            have hw := HW.out.below hB3
            have hb := hB.trans (hB3.mono hB.size)
            have S := equal_any _ _ _ _ W3 hu.sl hw
            rw [show decide (Dy.dueOf l now age = Dy.dueOf l now age) = true from decide_eq_true rfl] at S
            have S := Lib.hid S
            clear hB3 hu hw
            go_wp2_with fail
            refine S.out.mono ?_
            rintro e W4 ⟨rfl, hB4⟩
            have hb := hb.trans (hB4.mono hb.size)
            clear hB4 S
            have S := Lib.hid (SO.out W4 (HS.out.below hb))
            go_wp2_with fail
            refine S.out.mono ?_
            rintro e W5 ⟨rfl, hB5⟩
            have hb := hb.trans (hB5.mono hb.size)
            clear hB5 S
            go_wp2_with fail
            refine (awake14 _).mono ?_
            rintro e W6 ⟨rfl, hB6⟩
            have hb := hb.trans (hB6.mono hb.size)
            clear hB6
            go_wp2_with fail
            go_ret
            exact ⟨rfl, hb⟩
      · rw [decide_eq_false hh] at SO
        have SO := Lib.hid SO
        have hh2 : (l.length : Int) < hard := by omega
        have hh3 : decide (hard ≤ (l.length : Int)) = false := decide_eq_false hh
        clear hh
        go_enter Try.func9, Try.ntmps9
        go_wp2_with fail
        refine (SR.out w HS.out).mono ?_
        rintro e W1 ⟨⟨x, rfl, hx⟩, hB1⟩
        have S := Lib.hid (SG.out x W1 hx.sl)
        clear hx
        go_wp2_with fail
        refine S.out.mono ?_
        rintro e W2 ⟨rfl, hB2⟩
        have hb := hB1.trans (hB2.mono hB1.size)
        clear hB1 hB2 S
        go_wp2_with fail
        go_loopw [9, 12, 38] (fun u _ i wr => ∃ (m : Nat) (A : Option Addr) (n c : Nat), m ≤ l.length ∧ i = .int .i64 m ∧ u = .slice A n c ∧ n = (Dy.dueOf (l.take m) now age).length ∧ wr.ownsRow w.heap.size 3 1 (.slice A n c) n (intE.flat (Dy.dueOf (l.take m) now age)) ∧ Below w.heap.size w wr) (fun _ _ i _ => l.length - (intOf i).toNat)
        case atStart => exact ⟨0, none, 0, 0, by omega, rfl, rfl, rfl, ⟨rfl, .inl ⟨rfl, rfl⟩⟩, hb⟩
        case round =>
          obtain ⟨m, A2, n, c, hm, rfl, rfl, hnl, hown, hB⟩ := hrel
          clear hb
          by_cases hlt : m < l.length
          · obtain ⟨b, off, rfl, hbl, hc⟩ := H3.out (by omega)
            obtain ⟨c0, c1⟩ := it_at (hc.below hB hbl) m hlt
            have hblt : b < wr.heap.size := Nat.lt_of_lt_of_le hbl hB.size
            have hsn := HOK.out.since l[m] (List.getElem_mem hlt)
            have hcl := Dy.dueOf_snoc (l.take m) l[m] now age
            rw [← List.take_succ_eq_append_getElem hlt] at hcl
            have hn16 : n ≤ 16 := by
              have := Dy.dueOf_le (l.take m) now age
              rw [List.length_take] at this
              omega
            clear hc
            generalize l[m] = d at c0 c1 hcl hsn
            obtain ⟨s1, s2⟩ := hsn
            by_cases hd : age ≤ now - d.since
            · have hdd : Dy.isDue now age d = true := by unfold Dy.isDue; rw [decide_eq_true_iff]; omega
              rw [if_pos hdd] at hcl
              have hfl : intE.flat (Dy.dueOf (l.take (m + 1)) now age) = intE.flat (Dy.dueOf (l.take m) now age) ++ intE.enc d.page := by rw [hcl, Enc.flat_append, Enc.flat_single]
              have hln : (Dy.dueOf (l.take (m + 1)) now age).length = n + 1 := by rw [hcl, List.length_append, hnl]; rfl
              have HCL := Lib.hid (And.intro hfl hln)
              clear hcl hfl hln hnl hdd
              obtain ⟨hi, hz0, hz1, hz2⟩ := HI.out
              have hm7 : n + 1 ≤ maxLen := by unfold maxLen; omega
              have hm8 : (n + 1) * 8 ≤ 140737488355328 := by omega
              have hcb := Blk.new wr 61 #[.int .i64 d.page, .int .i64 d.since]
              go_wp2_with (at_builtin; go_must (refine wpList_append_own _ rfl _ _ 64 rfl w.heap.size 3 i0 (.int .i64 0) 1 8 Try.underlying64 hi hz0 hz1 hz2 rfl (by decide) _ _ _ rfl ((hown.alloc _).alloc _) ⟨wr.heap.size + 1, 0, none⟩ 1 1 (intE.enc d.page) rfl rfl ?c8au ?c8bu hm7 hm8 ?c8cu ?_))
              case c8au => have := news1 (wr.alloc (.cells #[.int .i64 d.page, .int .i64 d.since] 61)) 3 (.int .i64 d.page); simpa [intE] using this
              case c8bu => exact intE.one d.page
              case c8cu => have := hB.size; simp; omega
              intro v' w1 hown1 hgrow _
              have hB1 : Below w.heap.size w w1 := ((hB.alloc hB.size _).alloc (by have := hB.size; simp; omega) _).grown hgrow (by have := hB.size; simp; omega) (own_base hown)
              obtain ⟨A', c', rfl⟩ := own_form hown1
              rw [← HCL.out.1] at hown1
              clear hi hz0 hz1 hz2 hown hgrow c0 c1 hB hcb
              go_wp2_with fail
              go_roundw
              case rel => exact ⟨m + 1, A', n + 1, c', by omega, by go_num, rfl, HCL.out.2.symm, hown1, hB1⟩
              case measure => simp only [intOf]; omega
            · have hdd : Dy.isDue now age d = false := by unfold Dy.isDue; rw [decide_eq_false_iff_not]; omega
              rw [if_neg (by rw [hdd]; decide)] at hcl
              rw [← hcl] at hnl hown
              have HNL := Lib.hid hnl
              have hd2 : now - d.since < age := by omega
              clear hcl hdd hnl hd
              go_wp2_with fail
              go_roundw
              case rel => exact ⟨m + 1, A2, n, c, by omega, by go_num, rfl, HNL.out, hown.alloc _, hB.alloc hB.size _⟩
              case measure => simp only [intOf]; omega
          · obtain rfl : m = l.length := by omega
            rw [List.take_length] at hown hnl
            subst hnl
            have HW := Lib.hid (show intE.Sl wr (.slice A2 (Dy.dueOf l now age).length c) (Dy.dueOf l now age) from Enc.Own.sl (E := intE) hown)
            clear hown hlt
            go_wp2_with fail
            refine (SD.out wr (HS.out.below hB)).mono ?_
            rintro e W3 ⟨⟨u, rfl, hu⟩, hB3⟩
            have hw := HW.out.below hB3
            have hb := hB.trans (hB3.mono hB.size)
            have S := equal_any _ _ _ _ W3 hu.sl hw
            rw [show decide (Dy.dueOf l now age = Dy.dueOf l now age) = true from decide_eq_true rfl] at S
            have S := Lib.hid S
            clear hB3 hu hw
            go_wp2_with fail
            refine S.out.mono ?_
            rintro e W4 ⟨rfl, hB4⟩
            have hb := hb.trans (hB4.mono hb.size)
            clear hB4 S
            have S := Lib.hid (SO.out W4 (HS.out.below hb))
            go_wp2_with fail
            refine S.out.mono ?_
            rintro e W5 ⟨rfl, hB5⟩
            have hb := hb.trans (hB5.mono hb.size)
            clear hB5 S
            go_wp2_with fail
            refine (awake14 _).mono ?_
            rintro e W6 ⟨rfl, hB6⟩
            have hb := hb.trans (hB6.mono hb.size)
            clear hB6
            go_wp2_with fail
            go_ret
            exact ⟨rfl, hb⟩
    · rw [decide_eq_false hage, if_neg (by decide)] at SD
      have SD := Lib.hid SD
      have hage2 : age < 0 := by omega
      clear hage hr
      by_cases hh : hard ≤ (l.length : Int)
      · rw [decide_eq_true hh] at SO
        have SO := Lib.hid SO
        go_enter Try.func9, Try.ntmps9
        go_wp2_with fail
        refine (SR.out w HS.out).mono ?_
        rintro e W1 ⟨⟨x, rfl, hx⟩, hB1⟩
        have S := Lib.hid (SG.out x W1 hx.sl)
        clear hx
        go_wp2_with fail
        refine S.out.mono ?_
        rintro e W2 ⟨rfl, hB2⟩
        have hb := hB1.trans (hB2.mono hB1.size)
        clear hB1 hB2 S
        go_wp2_with fail
        go_loopw [9, 12, 38] (fun u _ i wr => ∃ m : Nat, m ≤ l.length ∧ i = .int .i64 m ∧ u = .slice none 0 0 ∧ Below w.heap.size w wr) (fun _ _ i _ => l.length - (intOf i).toNat)
        case atStart => exact ⟨0, by omega, rfl, rfl, hb⟩
        case round =>
          obtain ⟨m, hm, rfl, rfl, hB⟩ := hrel
          by_cases hlt : m < l.length
          · obtain ⟨b, off, rfl, hbl, hc⟩ := H3.out (by omega)
            obtain ⟨c0, c1⟩ := it_at (hc.below hB hbl) m hlt
            have hblt : b < wr.heap.size := Nat.lt_of_lt_of_le hbl hB.size
            clear hc hb
            generalize l[m] = d at c0 c1
            go_wp2_with fail
            go_roundw
            case rel => exact ⟨m + 1, by omega, by go_num, rfl, hB.alloc hB.size _⟩
            case measure => simp only [intOf]; omega
          · obtain rfl : m = l.length := by omega
            have HW := Lib.hid (Enc.Sl.nil (E := intE) wr)
            clear hb hlt
            go_wp2_with fail
            refine (SD.out wr (HS.out.below hB)).mono ?_
            rintro e W3 ⟨⟨u, rfl, hu⟩, hB3⟩
            have hw := HW.out.below hB3
            have hb := hB.trans (hB3.mono hB.size)
            have S := equal_any _ _ _ _ W3 hu.sl hw
            rw [show decide (([] : List Int) = ([] : List Int)) = true from decide_eq_true rfl] at S
            have S := Lib.hid S
            clear hB3 hu hw
            go_wp2_with fail
            refine S.out.mono ?_
            rintro e W4 ⟨rfl, hB4⟩
            have hb := hb.trans (hB4.mono hb.size)
            clear hB4 S
            have S := Lib.hid (SO.out W4 (HS.out.below hb))
            go_wp2_with fail
            refine S.out.mono ?_
            rintro e W5 ⟨rfl, hB5⟩
            have hb := hb.trans (hB5.mono hb.size)
            clear hB5 S
            go_wp2_with fail
            refine (awake14 _).mono ?_
            rintro e W6 ⟨rfl, hB6⟩
            have hb := hb.trans (hB6.mono hb.size)
            clear hB6
            go_wp2_with fail
            go_ret
            exact ⟨rfl, hb⟩
      · rw [decide_eq_false hh] at SO
        have SO := Lib.hid SO
        have hh2 : (l.length : Int) < hard := by omega
        have hh3 : decide (hard ≤ (l.length : Int)) = false := decide_eq_false hh
        clear hh
        go_enter Try.func9, Try.ntmps9
        go_wp2_with fail
        refine (SR.out w HS.out).mono ?_
        rintro e W1 ⟨⟨x, rfl, hx⟩, hB1⟩
        have S := Lib.hid (SG.out x W1 hx.sl)
        clear hx
        go_wp2_with fail
        refine S.out.mono ?_
        rintro e W2 ⟨rfl, hB2⟩
        have hb := hB1.trans (hB2.mono hB1.size)
        clear hB1 hB2 S
        go_wp2_with fail
        go_loopw [9, 12, 38] (fun u _ i wr => ∃ m : Nat, m ≤ l.length ∧ i = .int .i64 m ∧ u = .slice none 0 0 ∧ Below w.heap.size w wr) (fun _ _ i _ => l.length - (intOf i).toNat)
        case atStart => exact ⟨0, by omega, rfl, rfl, hb⟩
        case round =>
          obtain ⟨m, hm, rfl, rfl, hB⟩ := hrel
          by_cases hlt : m < l.length
          · obtain ⟨b, off, rfl, hbl, hc⟩ := H3.out (by omega)
            obtain ⟨c0, c1⟩ := it_at (hc.below hB hbl) m hlt
            have hblt : b < wr.heap.size := Nat.lt_of_lt_of_le hbl hB.size
            clear hc hb
            generalize l[m] = d at c0 c1
            go_wp2_with fail
            go_roundw
            case rel => exact ⟨m + 1, by omega, by go_num, rfl, hB.alloc hB.size _⟩
            case measure => simp only [intOf]; omega
          · obtain rfl : m = l.length := by omega
            have HW := Lib.hid (Enc.Sl.nil (E := intE) wr)
            clear hb hlt
            go_wp2_with fail
            refine (SD.out wr (HS.out.below hB)).mono ?_
            rintro e W3 ⟨⟨u, rfl, hu⟩, hB3⟩
            have hw := HW.out.below hB3
            have hb := hB.trans (hB3.mono hB.size)
            have S := equal_any _ _ _ _ W3 hu.sl hw
            rw [show decide (([] : List Int) = ([] : List Int)) = true from decide_eq_true rfl] at S
            have S := Lib.hid S
            clear hB3 hu hw
            go_wp2_with fail
            refine S.out.mono ?_
            rintro e W4 ⟨rfl, hB4⟩
            have hb := hb.trans (hB4.mono hb.size)
            clear hB4 S
            have S := Lib.hid (SO.out W4 (HS.out.below hb))
            go_wp2_with fail
            refine S.out.mono ?_
            rintro e W5 ⟨rfl, hB5⟩
            have hb := hb.trans (hB5.mono hb.size)
            clear hB5 S
            go_wp2_with fail
            refine (awake14 _).mono ?_
            rintro e W6 ⟨rfl, hB6⟩
            have hb := hb.trans (hB6.mono hb.size)
            clear hB6
            go_wp2_with fail
            go_ret
            exact ⟨rfl, hb⟩
end Go.Proofs.Ythhialnnhhemaaa
