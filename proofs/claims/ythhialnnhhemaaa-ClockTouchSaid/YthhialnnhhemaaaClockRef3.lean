/- LAYER 9, walked: the document's sweep. Conditions: the slice leads to the frames. -/
import Derived.Test.YthhialnnhhemaaaClockRef2
namespace Go.Proofs.Ythhialnnhhemaaa
open Go.RowKit
set_option linter.unusedVariables false
namespace Ck
/-- the number that the document's search ends with, and whether a whole round was gone -/
theorem stop_firstI {l : List Fr} {H N : Nat} (hH : H < l.length) (hN : stop l H = some N) :
    (N < l.length ∧ firstI false l H = (N : Int)) ∨ (l.length ≤ N ∧ firstI false l H = -1 ∧ firstI true l H = ((N - l.length : Nat) : Int)) := by
  unfold firstI
  rw [want_true, want_false]
  unfold stop at hN
  cases h1 : first fresh l H with
  | some d =>
    rw [h1] at hN
    obtain rfl : d = N := by simpa using hN
    exact .inl ⟨(first_iff.1 h1).1, rfl⟩
  | none =>
    rw [h1] at hN
    simp only [Option.map_eq_some_iff] at hN
    obtain ⟨d, hd, rfl⟩ := hN
    refine .inr ⟨by omega, rfl, ?_⟩
    rw [hd]
    simp
theorem stop_none_firstI {l : List Fr} {H : Nat} (hN : stop l H = none) : firstI false l H = -1 ∧ firstI true l H = -1 := by
  unfold firstI
  rw [want_true, want_false]
  unfold stop at hN
  cases h1 : first fresh l H with
  | some d => rw [h1] at hN; simp at hN
  | none =>
    rw [h1] at hN
    simp only [Option.map_eq_none_iff] at hN
    rw [hN]
    exact ⟨rfl, rfl⟩
theorem after_snoc (l : List Fr) (H N m : Nat) (hm : m < l.length) : (after l H N).take (m + 1) = (after l H N).take m ++ [clearAt l H N m l[m]] := by
  rw [List.take_succ_eq_append_getElem (by rw [after_length]; exact hm), after_get _ _ _ _ hm]
end Ck
def RSweepYes (B : Nat) (l : List Fr) (H N : Nat) (e : Ending) (w' : World) : Prop :=
  ∃ u, e = .returned (.tuple #[.agg #[u, .int .i64 (((H + N + 1) % l.length : Nat) : Int)], .int .i64 (((H + N) % l.length : Nat) : Int)]) ∧ frE.Own w' B 40 u (Ck.after l H N)

set_option maxRecDepth 100000 in
set_option maxHeartbeats 1600000 in
theorem refSweep_none (v : Value) (l : List Fr) (H : Nat) (w : World) (hs : frE.Sl w v l) (hH : H < l.length) (h8 : l.length ≤ 8) (hN : Ck.stop l H = none) :
    Calls Try.prog 21 #[.agg #[v, .int .i64 H]] w fun e w' => e = .returned (.tuple #[.agg #[v, .int .i64 H], .int .i64 (-1)]) ∧ Below w.heap.size w w' := by
  have HS := Lib.hid hs
  have F := fun any W hw => refFirst_any v l H any W hw hH h8
  obtain ⟨e1, e2⟩ := Ck.stop_none_firstI hN
  have F1 := fun W hw => F false W hw
  have F2 := fun W hw => F true W hw
  rw [e1] at F1
  rw [e2] at F2
  obtain ⟨A, cap, rfl, _⟩ := hs
  have hY : Below w.heap.size w ((w.alloc (.cells #[.slice A l.length cap, .int .i64 H] 27)).alloc (.cells #[.slice none 0 0, .int .i64 0] 27)) := ((Below.refl _ _).alloc (Nat.le_refl _) _).alloc (by simp) _
  have hb1 : Blk ((w.alloc (.cells #[.slice A l.length cap, .int .i64 H] 27)).alloc (.cells #[.slice none 0 0, .int .i64 0] 27)) w.heap.size 27 #[.slice A l.length cap, .int .i64 H] := (Blk.new w _ _).alloc _
  have hb2 : Blk ((w.alloc (.cells #[.slice A l.length cap, .int .i64 H] 27)).alloc (.cells #[.slice none 0 0, .int .i64 0] 27)) (w.heap.size + 1) 27 #[.slice none 0 0, .int .i64 0] := by
    have := Blk.new (w.alloc (.cells #[.slice A l.length cap, .int .i64 H] 27)) 27 #[.slice none 0 0, .int .i64 0]
    simpa using this
  have S1 := Lib.hid (F1 _ (HS.out.below hY))
  have F2 := Lib.hid F2
  have HY := Lib.hid hY
  have HB1 := Lib.hid hb1
  have HB2 := Lib.hid hb2
  clear hY hb1 hb2 F F1 e1 e2 hN
  go_enter Try.func21, Try.ntmps21
  go_wp2_with fail
  refine S1.out.mono ?_
  rintro e W1 ⟨rfl, hB1⟩
  have hb := HY.out.trans (hB1.mono HY.out.size)
  have HB1 := Lib.hid (HB1.out.keep hB1)
  have HB2 := Lib.hid (HB2.out.keep hB1)
  obtain ⟨f0, f1, _, _, l1⟩ := pair_cells HB1.out
  have S2 := Lib.hid (F2.out W1 (HS.out.below hb))
  clear hB1 S1
  go_wp2_with fail
  refine S2.out.mono ?_
  rintro e W2 ⟨rfl, hB2⟩
  have hb := hb.trans (hB2.mono hb.size)
  have hx2 := HB2.out.keep hB2
  clear f0 f1 l1
  obtain ⟨f0, f1, _, _, l1⟩ := pair_cells (HB1.out.keep hB2)
  obtain ⟨f20, f21, z20, z21, l2⟩ := pair_cells hx2
  obtain ⟨d0, d1, d2, _⟩ := pair_stored hx2 (.slice A l.length cap) (.int .i64 H)
  have hf : Below w.heap.size w ((W2.setCell ⟨w.heap.size + 1, 0, none⟩ (.slice A l.length cap)).setCell ⟨w.heap.size + 1, 1, none⟩ (.int .i64 H)) := (hb.setCell (by simp) _).setCell (by simp) _
  clear hB2 hx2 S2
  go_wp2_with fail
  exact bodyPost_ret (v := .tuple #[.agg #[.slice A l.length cap, .int .i64 H], .int .i64 (-1)]) (by simp [results, Try.results21, go_sem, d1, d2]) rfl ⟨rfl, hf⟩

set_option maxRecDepth 100000 in
set_option maxHeartbeats 3200000 in
theorem refSweep_yes (v : Value) (l : List Fr) (H N : Nat) (w : World) (hs : frE.Sl w v l) (hH : H < l.length) (h8 : l.length ≤ 8) (hN : Ck.stop l H = some N) :
    Calls Try.prog 21 #[.agg #[v, .int .i64 H]] w fun e w' => RSweepYes w.heap.size l H N e w' ∧ Below w.heap.size w w' := by
  have HS := Lib.hid hs
  have F := fun any W hw => refFirst_any v l H any W hw hH h8
  have hN2 := Ck.stop_lt hH hN
  have hcases := Ck.stop_firstI hH hN
  unfold RSweepYes
  obtain ⟨at1, hat1⟩ : ∃ at1, (H + N) % l.length = at1 := ⟨_, rfl⟩
  obtain ⟨hn1, hhn1⟩ : ∃ hn1, (H + N + 1) % l.length = hn1 := ⟨_, rfl⟩
  have hatl : at1 < l.length := by rw [← hat1]; exact Nat.mod_lt _ (by omega)
  have hrel : (at1 + 1) % l.length = hn1 := by rw [← hat1, ← hhn1]; exact Ck.mod_step H N l.length
  rw [hat1, hhn1]
  have rem1 : ((at1 : Int) + 1).tmod (l.length : Int) = (hn1 : Int) := by rw [show (at1 : Int) + 1 = ((at1 + 1 : Nat) : Int) by omega, rem_nat, hrel]
  have rem2 : ((at1 : Int) + 1) % (l.length : Int) = (hn1 : Int) := by rw [← hrel]; rfl
  have hlz : ((l.length : Int) == 0) = false := by rw [beq_eq_false_iff_ne]; omega
  have hlz2 : ¬ (l.length : Int) = 0 := by omega
  obtain ⟨A, cap, rfl, h1, h2, h0, h3⟩ := hs
  unfold maxLen at h2
  have H3 := Lib.hid h3
  obtain ⟨i0, hi, hi1, hi2, hi3⟩ := info_parts infoRf
  have HI := Lib.hid (And.intro hi (And.intro hi1 (And.intro hi2 hi3)))
  have hY : Below w.heap.size w ((w.alloc (.cells #[.slice A l.length cap, .int .i64 H] 27)).alloc (.cells #[.slice none 0 0, .int .i64 0] 27)) := ((Below.refl _ _).alloc (Nat.le_refl _) _).alloc (by simp) _
  have hb1 : Blk ((w.alloc (.cells #[.slice A l.length cap, .int .i64 H] 27)).alloc (.cells #[.slice none 0 0, .int .i64 0] 27)) w.heap.size 27 #[.slice A l.length cap, .int .i64 H] := (Blk.new w _ _).alloc _
  have hb2 : Blk ((w.alloc (.cells #[.slice A l.length cap, .int .i64 H] 27)).alloc (.cells #[.slice none 0 0, .int .i64 0] 27)) (w.heap.size + 1) 27 #[.slice none 0 0, .int .i64 0] := by
    have := Blk.new (w.alloc (.cells #[.slice A l.length cap, .int .i64 H] 27)) 27 #[.slice none 0 0, .int .i64 0]
    simpa using this
  have HY := Lib.hid hY
  have HB1 := Lib.hid hb1
  have HB2 := Lib.hid hb2
  have hl8 : (l.length : Int) ≤ 8 := by omega
  have hHi : (H : Int) < (l.length : Int) := by omega
  have S1 := F false _ (HS.out.below hY)
  rcases hcases with ⟨hlt, e1⟩ | ⟨hge, e1, e2⟩
  · rw [e1] at S1
    have S1 := Lib.hid S1
    have a1 : ((H : Int) + (N : Int)).tmod (l.length : Int) = (at1 : Int) := by rw [show (H : Int) + (N : Int) = ((H + N : Nat) : Int) by omega, rem_nat, hat1]
    have a2 : ((H : Int) + (N : Int)) % (l.length : Int) = (at1 : Int) := by rw [← hat1]; rfl
    have hNi : (N : Int) < (l.length : Int) := by omega
    have hN0 : (0 : Int) ≤ (N : Int) := by omega
    have hN0b : decide ((N : Int) < 0) = false := decide_eq_false (by omega)
    clear hY hb1 hb2 F h3 h0 hi hi1 hi2 hi3 hat1 hhn1 hrel e1 hN
    go_enter Try.func21, Try.ntmps21
    go_wp2_with fail
    refine S1.out.mono ?_
    rintro e W1 ⟨rfl, hB1⟩
    have hb := HY.out.trans (hB1.mono HY.out.size)
    have HB1 := Lib.hid (HB1.out.keep hB1)
    have HB2 := Lib.hid (HB2.out.keep hB1)
    obtain ⟨f0, f1, _, _, l1⟩ := pair_cells HB1.out
    clear hB1 S1
    go_wp2_with fail
    have hsz1 : w.heap.size + 1 < W1.heap.size := HB2.out.lt
    have HAS := Lib.hid (And.intro (HB1.out.alloc (.cells #[.slice none 0 0, .int .i64 hn1] 27)) (And.intro (HB2.out.alloc (.cells #[.slice none 0 0, .int .i64 hn1] 27)) (And.intro (Blk.new W1 27 #[.slice none 0 0, .int .i64 hn1]) (hb.alloc hb.size (.cells #[.slice none 0 0, .int .i64 hn1] 27)))))
    clear f0 f1 l1 hb
    go_loopw [9, 10, 11] (fun i _ _ wr => ∃ (m : Nat) (A2 : Option Addr) (c2 : Nat), m ≤ l.length ∧ i = .int .i64 m ∧ Blk wr w.heap.size 27 #[.slice A l.length cap, .int .i64 H] ∧ Blk wr (w.heap.size + 1) 27 #[.slice none 0 0, .int .i64 0] ∧ Blk wr W1.heap.size 27 #[.slice A2 m c2, .int .i64 hn1] ∧ wr.ownsRow w.heap.size 40 3 (.slice A2 m c2) m (frE.flat ((Ck.after l H N).take m)) ∧ Below w.heap.size w wr) (fun i _ _ _ => l.length - (intOf i).toNat)
    case atStart => exact ⟨0, none, 0, by omega, rfl, HAS.out.1, HAS.out.2.1, HAS.out.2.2.1, ⟨rfl, .inl ⟨rfl, rfl⟩⟩, HAS.out.2.2.2⟩
    case round =>
      obtain ⟨m, A2, c3, hm, rfl, hx1, hx2, hx3, hown, hBw⟩ := hrel
      obtain ⟨g0, g1, _, _, l2⟩ := pair_cells hx1
      by_cases hlt2 : m < l.length
      · obtain ⟨f0, f1, _, _, l1⟩ := pair_cells hx3
        obtain ⟨b, off, rfl, hbl, hc⟩ := H3.out (by omega)
        obtain ⟨c0, c1, c2⟩ := fr_at (hc.below hBw hbl) m hlt2
        have hblt : b < wr.heap.size := Nat.lt_of_lt_of_le hbl hBw.size
        have hcl : frE.flat ((Ck.after l H N).take (m + 1)) = frE.flat ((Ck.after l H N).take m) ++ frE.enc (Ck.clearAt l H N m l[m]) := by rw [Ck.after_snoc l H N m hlt2, Enc.flat_append, Enc.flat_single]
        obtain ⟨p1, hp1⟩ : ∃ p1, (m + l.length - H) % l.length = p1 := ⟨_, rfl⟩
        have hp1l : p1 < l.length := by rw [← hp1]; exact Nat.mod_lt _ (by omega)
        have r1 : ((m : Int) - (H : Int) + (l.length : Int)).tmod (l.length : Int) = (p1 : Int) := by rw [show (m : Int) - (H : Int) + (l.length : Int) = ((m + l.length - H : Nat) : Int) by omega, rem_nat, hp1]
        have r2 : ((m : Int) - (H : Int) + (l.length : Int)) % (l.length : Int) = (p1 : Int) := by rw [show (m : Int) - (H : Int) + (l.length : Int) = ((m + l.length - H : Nat) : Int) by omega, ← hp1]; rfl
        have hmi : (m : Int) < (l.length : Int) := by omega
        have hm0 : (0 : Int) ≤ (m : Int) := by omega
        have hm7 : m + 1 ≤ maxLen := by unfold maxLen; omega
        have hm8 : (m + 1) * 24 ≤ 140737488355328 := by omega
        have HCL := Lib.hid hcl
        have HX := Lib.hid (And.intro hx1 (And.intro hx2 hx3))
        have HOWN := Lib.hid hown
        have HBW := Lib.hid hBw
        have HP1 := Lib.hid hp1
        clear hc hcl hx1 hx2 hx3 hown hBw hp1
        generalize l[m] = d at c0 c1 c2 HCL
        cases hpz : (d.pins == 0) with
        | false =>
          have HD := Lib.hid (show Ck.clearAt l H N m d = (⟨d.page, d.pins, d.used⟩ : Fr) by unfold Ck.clearAt; rw [hpz]; first | rfl | (simp only [Bool.and_true, Bool.and_false, Bool.false_and, Bool.true_and, if_true, if_false, Bool.false_eq_true]; first | rfl | (cases d; rfl)))
          go_wp2_with (at_builtin; go_must (refine wpList_append_own _ rfl _ _ 25 rfl w.heap.size 40 i0 (.agg #[.int .i64 0, .int .i64 0, .bool false]) 3 24 Try.underlying25 HI.out.1 HI.out.2.1 HI.out.2.2.1 HI.out.2.2.2 rfl (by decide) _ _ _ rfl ((HOWN.out.alloc _).alloc _) ⟨wr.heap.size + 1, 0, none⟩ 1 1 (frE.enc ⟨d.page, d.pins, d.used⟩) rfl rfl ?ca1 ?cb1 hm7 hm8 ?cc1 ?_))
          case ca1 => have := news3 (wr.alloc (.cells #[.int .i64 d.page, .int .i64 d.pins, .bool d.used] 40)) 40 (.int .i64 d.page) (.int .i64 d.pins) (.bool d.used); simpa [frE] using this
          case cb1 => exact frE.one _
          case cc1 => have := HBW.out.size; simp; omega
          intro v' w1 hown1 hgrow _
          have hB1 : Below w.heap.size w w1 := ((HBW.out.alloc HBW.out.size _).alloc (by have := HBW.out.size; simp; omega) _).grown hgrow (by have := HBW.out.size; simp; omega) (own_base HOWN.out)
          have hx11 := ((HX.out.1.alloc _).alloc _).grown hgrow (own_ne HOWN.out HX.out.1 (by decide))
          have hx21 := ((HX.out.2.1.alloc _).alloc _).grown hgrow (own_ne HOWN.out HX.out.2.1 (by decide))
          have hx31 := ((HX.out.2.2.alloc _).alloc _).grown hgrow (own_ne HOWN.out HX.out.2.2 (by decide))
          obtain ⟨A', c', rfl⟩ := own_form hown1
          rw [← HD.out, ← HCL.out] at hown1
          have hb3 : Blk (w1.setCell ⟨W1.heap.size, 0, none⟩ (.slice A' (m + 1) c')) W1.heap.size 27 #[.slice A' (m + 1) c', .int .i64 hn1] := by have := hx31.put 0 (.slice A' (m + 1) c'); simpa using this
          have hb2 : Blk (w1.setCell ⟨W1.heap.size, 0, none⟩ (.slice A' (m + 1) c')) (w.heap.size + 1) 27 #[.slice none 0 0, .int .i64 0] := hx21.far (by simp; omega) _
          have hb1 : Blk (w1.setCell ⟨W1.heap.size, 0, none⟩ (.slice A' (m + 1) c')) w.heap.size 27 #[.slice (some ⟨b, off, none⟩) l.length cap, .int .i64 H] := hx11.far (by simp; omega) _
          have ho2 := own_put hown1 hx31 (by decide) 0 (.slice A' (m + 1) c')
          have hB2 := hB1.setCell (p := ⟨W1.heap.size, 0, none⟩) (by simp; omega) (.slice A' (m + 1) c')
          have HALL := Lib.hid (And.intro hb1 (And.intro hb2 (And.intro hb3 (And.intro ho2 hB2))))
          clear f0 f1 l1 g0 g1 l2
          obtain ⟨f0, f1, y0, y1, l1⟩ := pair_cells hx31
          clear hgrow c0 c1 c2 hown1 hb1 hb2 hb3 ho2 hB2 hB1 hx11 hx21 hx31
          go_wp2_with fail
          go_roundw
          case rel => exact ⟨m + 1, A', c', by omega, by go_num, HALL.out.1, HALL.out.2.1, HALL.out.2.2.1, HALL.out.2.2.2.1, HALL.out.2.2.2.2⟩
          case measure => simp only [intOf]; omega
        | true =>
          by_cases hpn : p1 < N
          · have hpi : (p1 : Int) < (N : Int) := by omega
            have hpd : decide ((p1 : Int) < (N : Int)) = true := decide_eq_true hpi
            have hpd2 : decide (p1 < N) = true := decide_eq_true hpn
            have HD := Lib.hid (show Ck.clearAt l H N m d = (⟨d.page, d.pins, false⟩ : Fr) by unfold Ck.clearAt; rw [hpz, HP1.out, hpd2]; first | rfl | (simp only [Bool.and_true, Bool.and_false, Bool.false_and, Bool.true_and, if_true, if_false, Bool.false_eq_true]; first | rfl | (cases d; rfl)))
            go_wp2_with (at_builtin; go_must (refine wpList_append_own _ rfl _ _ 25 rfl w.heap.size 40 i0 (.agg #[.int .i64 0, .int .i64 0, .bool false]) 3 24 Try.underlying25 HI.out.1 HI.out.2.1 HI.out.2.2.1 HI.out.2.2.2 rfl (by decide) _ _ _ rfl ((HOWN.out.alloc _).alloc _) ⟨wr.heap.size + 1, 0, none⟩ 1 1 (frE.enc ⟨d.page, d.pins, false⟩) rfl rfl ?ca2 ?cb2 hm7 hm8 ?cc2 ?_))
            case ca2 => have := news3 (wr.alloc (.cells #[.int .i64 d.page, .int .i64 d.pins, .bool false] 40)) 40 (.int .i64 d.page) (.int .i64 d.pins) (.bool false); simpa [frE] using this
            case cb2 => exact frE.one _
            case cc2 => have := HBW.out.size; simp; omega
            intro v' w1 hown1 hgrow _
            have hB1 : Below w.heap.size w w1 := ((HBW.out.alloc HBW.out.size _).alloc (by have := HBW.out.size; simp; omega) _).grown hgrow (by have := HBW.out.size; simp; omega) (own_base HOWN.out)
            have hx11 := ((HX.out.1.alloc _).alloc _).grown hgrow (own_ne HOWN.out HX.out.1 (by decide))
            have hx21 := ((HX.out.2.1.alloc _).alloc _).grown hgrow (own_ne HOWN.out HX.out.2.1 (by decide))
            have hx31 := ((HX.out.2.2.alloc _).alloc _).grown hgrow (own_ne HOWN.out HX.out.2.2 (by decide))
            obtain ⟨A', c', rfl⟩ := own_form hown1
            rw [← HD.out, ← HCL.out] at hown1
            have hb3 : Blk (w1.setCell ⟨W1.heap.size, 0, none⟩ (.slice A' (m + 1) c')) W1.heap.size 27 #[.slice A' (m + 1) c', .int .i64 hn1] := by have := hx31.put 0 (.slice A' (m + 1) c'); simpa using this
            have hb2 : Blk (w1.setCell ⟨W1.heap.size, 0, none⟩ (.slice A' (m + 1) c')) (w.heap.size + 1) 27 #[.slice none 0 0, .int .i64 0] := hx21.far (by simp; omega) _
            have hb1 : Blk (w1.setCell ⟨W1.heap.size, 0, none⟩ (.slice A' (m + 1) c')) w.heap.size 27 #[.slice (some ⟨b, off, none⟩) l.length cap, .int .i64 H] := hx11.far (by simp; omega) _
            have ho2 := own_put hown1 hx31 (by decide) 0 (.slice A' (m + 1) c')
            have hB2 := hB1.setCell (p := ⟨W1.heap.size, 0, none⟩) (by simp; omega) (.slice A' (m + 1) c')
            have HALL := Lib.hid (And.intro hb1 (And.intro hb2 (And.intro hb3 (And.intro ho2 hB2))))
            clear f0 f1 l1 g0 g1 l2
            obtain ⟨f0, f1, y0, y1, l1⟩ := pair_cells hx31
            clear hgrow c0 c1 c2 hown1 hb1 hb2 hb3 ho2 hB2 hB1 hx11 hx21 hx31
            go_wp2_with fail
            go_roundw
            case rel => exact ⟨m + 1, A', c', by omega, by go_num, HALL.out.1, HALL.out.2.1, HALL.out.2.2.1, HALL.out.2.2.2.1, HALL.out.2.2.2.2⟩
            case measure => simp only [intOf]; omega
          · have hpi : (N : Int) ≤ (p1 : Int) := by omega
            have hpd : decide ((p1 : Int) < (N : Int)) = false := decide_eq_false (by omega)
            have hpd2 : decide (p1 < N) = false := decide_eq_false hpn
            have HD := Lib.hid (show Ck.clearAt l H N m d = (⟨d.page, d.pins, d.used⟩ : Fr) by unfold Ck.clearAt; rw [hpz, HP1.out, hpd2]; first | rfl | (simp only [Bool.and_true, Bool.and_false, Bool.false_and, Bool.true_and, if_true, if_false, Bool.false_eq_true]; first | rfl | (cases d; rfl)))
            go_wp2_with (at_builtin; go_must (refine wpList_append_own _ rfl _ _ 25 rfl w.heap.size 40 i0 (.agg #[.int .i64 0, .int .i64 0, .bool false]) 3 24 Try.underlying25 HI.out.1 HI.out.2.1 HI.out.2.2.1 HI.out.2.2.2 rfl (by decide) _ _ _ rfl ((HOWN.out.alloc _).alloc _) ⟨wr.heap.size + 1, 0, none⟩ 1 1 (frE.enc ⟨d.page, d.pins, d.used⟩) rfl rfl ?ca3 ?cb3 hm7 hm8 ?cc3 ?_))
            case ca3 => have := news3 (wr.alloc (.cells #[.int .i64 d.page, .int .i64 d.pins, .bool d.used] 40)) 40 (.int .i64 d.page) (.int .i64 d.pins) (.bool d.used); simpa [frE] using this
            case cb3 => exact frE.one _
            case cc3 => have := HBW.out.size; simp; omega
            intro v' w1 hown1 hgrow _
            have hB1 : Below w.heap.size w w1 := ((HBW.out.alloc HBW.out.size _).alloc (by have := HBW.out.size; simp; omega) _).grown hgrow (by have := HBW.out.size; simp; omega) (own_base HOWN.out)
            have hx11 := ((HX.out.1.alloc _).alloc _).grown hgrow (own_ne HOWN.out HX.out.1 (by decide))
            have hx21 := ((HX.out.2.1.alloc _).alloc _).grown hgrow (own_ne HOWN.out HX.out.2.1 (by decide))
            have hx31 := ((HX.out.2.2.alloc _).alloc _).grown hgrow (own_ne HOWN.out HX.out.2.2 (by decide))
            obtain ⟨A', c', rfl⟩ := own_form hown1
            rw [← HD.out, ← HCL.out] at hown1
            have hb3 : Blk (w1.setCell ⟨W1.heap.size, 0, none⟩ (.slice A' (m + 1) c')) W1.heap.size 27 #[.slice A' (m + 1) c', .int .i64 hn1] := by have := hx31.put 0 (.slice A' (m + 1) c'); simpa using this
            have hb2 : Blk (w1.setCell ⟨W1.heap.size, 0, none⟩ (.slice A' (m + 1) c')) (w.heap.size + 1) 27 #[.slice none 0 0, .int .i64 0] := hx21.far (by simp; omega) _
            have hb1 : Blk (w1.setCell ⟨W1.heap.size, 0, none⟩ (.slice A' (m + 1) c')) w.heap.size 27 #[.slice (some ⟨b, off, none⟩) l.length cap, .int .i64 H] := hx11.far (by simp; omega) _
            have ho2 := own_put hown1 hx31 (by decide) 0 (.slice A' (m + 1) c')
            have hB2 := hB1.setCell (p := ⟨W1.heap.size, 0, none⟩) (by simp; omega) (.slice A' (m + 1) c')
            have HALL := Lib.hid (And.intro hb1 (And.intro hb2 (And.intro hb3 (And.intro ho2 hB2))))
            clear f0 f1 l1 g0 g1 l2
            obtain ⟨f0, f1, y0, y1, l1⟩ := pair_cells hx31
            clear hgrow c0 c1 c2 hown1 hb1 hb2 hb3 ho2 hB2 hB1 hx11 hx21 hx31
            go_wp2_with fail
            go_roundw
            case rel => exact ⟨m + 1, A', c', by omega, by go_num, HALL.out.1, HALL.out.2.1, HALL.out.2.2.1, HALL.out.2.2.2.1, HALL.out.2.2.2.2⟩
            case measure => simp only [intOf]; omega
      · obtain rfl : m = l.length := by omega
        rw [List.take_of_length_le (by rw [Ck.after_length]; exact Nat.le_refl _)] at hown
        obtain ⟨f0, f1, _, _, l1⟩ := pair_cells hx3
        obtain ⟨q0, q1, z0, z1, l3⟩ := pair_cells hx2
        obtain ⟨d0, d1, d2, _⟩ := pair_stored hx2 (.slice A2 l.length c3) (.int .i64 hn1)
        have ho1 := own_put hown hx2 (by decide) 0 (.slice A2 l.length c3)
        have ho2 := own_put ho1 (hx2.put 0 (.slice A2 l.length c3)) (by decide) 1 (.int .i64 hn1)
        have hf := (hBw.setCell (p := ⟨w.heap.size + 1, 0, none⟩) (by simp) (.slice A2 l.length c3)).setCell (p := ⟨w.heap.size + 1, 1, none⟩) (by simp) (.int .i64 hn1)
        have hfin : frE.Own ((wr.setCell ⟨w.heap.size + 1, 0, none⟩ (.slice A2 l.length c3)).setCell ⟨w.heap.size + 1, 1, none⟩ (.int .i64 hn1)) w.heap.size 40 (.slice A2 l.length c3) (Ck.after l H N) := by unfold Enc.Own; rw [Ck.after_length]; exact ho2
        have HALL := Lib.hid (And.intro hfin hf)
        clear hlt2 hx1 hx2 hx3 hown ho1 ho2 hf hBw hfin
        go_wp2_with fail
        exact bodyPost_ret (v := .tuple #[.agg #[.slice A2 l.length c3, .int .i64 hn1], .int .i64 at1]) (by simp [results, Try.results21, go_sem, d1, d2]) rfl ⟨⟨_, rfl, HALL.out.1⟩, HALL.out.2⟩
  · rw [e1] at S1
    have S1 := Lib.hid S1
    have F2 := fun W hw => F true W hw
    rw [e2] at F2
    have F2 := Lib.hid F2
    obtain ⟨D, hD⟩ : ∃ D, N - l.length = D := ⟨_, rfl⟩
    rw [hD] at F2
    have hat2 : (H + D) % l.length = at1 := by rw [← hat1, show H + N = H + D + l.length by omega, Nat.add_mod_right]
    have a1 : ((H : Int) + (D : Int)).tmod (l.length : Int) = (at1 : Int) := by rw [show (H : Int) + (D : Int) = ((H + D : Nat) : Int) by omega, rem_nat, hat2]
    have a2 : ((H : Int) + (D : Int)) % (l.length : Int) = (at1 : Int) := by rw [← hat2]; rfl
    have hNi : (D : Int) < (l.length : Int) := by omega
    have hN0 : (0 : Int) ≤ (D : Int) := by omega
    have hN0b : decide ((D : Int) < 0) = false := decide_eq_false (by omega)
    clear hY hb1 hb2 F h3 h0 hi hi1 hi2 hi3 hat1 hhn1 hrel e1 e2 hD hat2 hN
    go_enter Try.func21, Try.ntmps21
    go_wp2_with fail
    refine S1.out.mono ?_
    rintro e W0 ⟨rfl, hB0⟩
    have hb0 := HY.out.trans (hB0.mono HY.out.size)
    have HB1 := Lib.hid (HB1.out.keep hB0)
    have HB2 := Lib.hid (HB2.out.keep hB0)
    obtain ⟨f0, f1, _, _, l1⟩ := pair_cells HB1.out
    have S2 := Lib.hid (F2.out W0 (HS.out.below hb0))
    clear hB0 S1
    go_wp2_with fail
    refine S2.out.mono ?_
    rintro e W1 ⟨rfl, hB1⟩
    have hb := hb0.trans (hB1.mono hb0.size)
    have HB1 := Lib.hid (HB1.out.keep hB1)
    have HB2 := Lib.hid (HB2.out.keep hB1)
    clear f0 f1 l1 hB1 S2 hb0
    obtain ⟨f0, f1, _, _, l1⟩ := pair_cells HB1.out
    go_wp2_with fail
    have hsz1 : w.heap.size + 1 < W1.heap.size := HB2.out.lt
    have HAS := Lib.hid (And.intro (HB1.out.alloc (.cells #[.slice none 0 0, .int .i64 hn1] 27)) (And.intro (HB2.out.alloc (.cells #[.slice none 0 0, .int .i64 hn1] 27)) (And.intro (Blk.new W1 27 #[.slice none 0 0, .int .i64 hn1]) (hb.alloc hb.size (.cells #[.slice none 0 0, .int .i64 hn1] 27)))))
    clear f0 f1 l1 hb
    go_loopw [9, 10, 11] (fun i _ _ wr => ∃ (m : Nat) (A2 : Option Addr) (c2 : Nat), m ≤ l.length ∧ i = .int .i64 m ∧ Blk wr w.heap.size 27 #[.slice A l.length cap, .int .i64 H] ∧ Blk wr (w.heap.size + 1) 27 #[.slice none 0 0, .int .i64 0] ∧ Blk wr W1.heap.size 27 #[.slice A2 m c2, .int .i64 hn1] ∧ wr.ownsRow w.heap.size 40 3 (.slice A2 m c2) m (frE.flat ((Ck.after l H N).take m)) ∧ Below w.heap.size w wr) (fun i _ _ _ => l.length - (intOf i).toNat)
    case atStart => exact ⟨0, none, 0, by omega, rfl, HAS.out.1, HAS.out.2.1, HAS.out.2.2.1, ⟨rfl, .inl ⟨rfl, rfl⟩⟩, HAS.out.2.2.2⟩
    case round =>
      obtain ⟨m, A2, c3, hm, rfl, hx1, hx2, hx3, hown, hBw⟩ := hrel
      obtain ⟨g0, g1, _, _, l2⟩ := pair_cells hx1
      by_cases hlt2 : m < l.length
      · obtain ⟨f0, f1, _, _, l1⟩ := pair_cells hx3
        obtain ⟨b, off, rfl, hbl, hc⟩ := H3.out (by omega)
        obtain ⟨c0, c1, c2⟩ := fr_at (hc.below hBw hbl) m hlt2
        have hblt : b < wr.heap.size := Nat.lt_of_lt_of_le hbl hBw.size
        have hcl : frE.flat ((Ck.after l H N).take (m + 1)) = frE.flat ((Ck.after l H N).take m) ++ frE.enc (Ck.clearAt l H N m l[m]) := by rw [Ck.after_snoc l H N m hlt2, Enc.flat_append, Enc.flat_single]
        obtain ⟨p1, hp1⟩ : ∃ p1, (m + l.length - H) % l.length = p1 := ⟨_, rfl⟩
        have hp1l : p1 < l.length := by rw [← hp1]; exact Nat.mod_lt _ (by omega)
        have r1 : ((m : Int) - (H : Int) + (l.length : Int)).tmod (l.length : Int) = (p1 : Int) := by rw [show (m : Int) - (H : Int) + (l.length : Int) = ((m + l.length - H : Nat) : Int) by omega, rem_nat, hp1]
        have r2 : ((m : Int) - (H : Int) + (l.length : Int)) % (l.length : Int) = (p1 : Int) := by rw [show (m : Int) - (H : Int) + (l.length : Int) = ((m + l.length - H : Nat) : Int) by omega, ← hp1]; rfl
        have hmi : (m : Int) < (l.length : Int) := by omega
        have hm0 : (0 : Int) ≤ (m : Int) := by omega
        have hm7 : m + 1 ≤ maxLen := by unfold maxLen; omega
        have hm8 : (m + 1) * 24 ≤ 140737488355328 := by omega
        have HCL := Lib.hid hcl
        have HX := Lib.hid (And.intro hx1 (And.intro hx2 hx3))
        have HOWN := Lib.hid hown
        have HBW := Lib.hid hBw
        have HP1 := Lib.hid hp1
        clear hc hcl hx1 hx2 hx3 hown hBw hp1
        generalize l[m] = d at c0 c1 c2 HCL
        have hpd2 : decide (p1 < N) = true := decide_eq_true (by omega)
        cases hpz : (d.pins == 0) with
        | false =>
          have HD := Lib.hid (show Ck.clearAt l H N m d = (⟨d.page, d.pins, d.used⟩ : Fr) by unfold Ck.clearAt; rw [hpz]; first | rfl | (simp only [Bool.and_true, Bool.and_false, Bool.false_and, Bool.true_and, if_true, if_false, Bool.false_eq_true]; first | rfl | (cases d; rfl)))
          go_wp2_with (at_builtin; go_must (refine wpList_append_own _ rfl _ _ 25 rfl w.heap.size 40 i0 (.agg #[.int .i64 0, .int .i64 0, .bool false]) 3 24 Try.underlying25 HI.out.1 HI.out.2.1 HI.out.2.2.1 HI.out.2.2.2 rfl (by decide) _ _ _ rfl ((HOWN.out.alloc _).alloc _) ⟨wr.heap.size + 1, 0, none⟩ 1 1 (frE.enc ⟨d.page, d.pins, d.used⟩) rfl rfl ?ca4 ?cb4 hm7 hm8 ?cc4 ?_))
          case ca4 => have := news3 (wr.alloc (.cells #[.int .i64 d.page, .int .i64 d.pins, .bool d.used] 40)) 40 (.int .i64 d.page) (.int .i64 d.pins) (.bool d.used); simpa [frE] using this
          case cb4 => exact frE.one _
          case cc4 => have := HBW.out.size; simp; omega
          intro v' w1 hown1 hgrow _
          have hB1 : Below w.heap.size w w1 := ((HBW.out.alloc HBW.out.size _).alloc (by have := HBW.out.size; simp; omega) _).grown hgrow (by have := HBW.out.size; simp; omega) (own_base HOWN.out)
          have hx11 := ((HX.out.1.alloc _).alloc _).grown hgrow (own_ne HOWN.out HX.out.1 (by decide))
          have hx21 := ((HX.out.2.1.alloc _).alloc _).grown hgrow (own_ne HOWN.out HX.out.2.1 (by decide))
          have hx31 := ((HX.out.2.2.alloc _).alloc _).grown hgrow (own_ne HOWN.out HX.out.2.2 (by decide))
          obtain ⟨A', c', rfl⟩ := own_form hown1
          rw [← HD.out, ← HCL.out] at hown1
          have hb3 : Blk (w1.setCell ⟨W1.heap.size, 0, none⟩ (.slice A' (m + 1) c')) W1.heap.size 27 #[.slice A' (m + 1) c', .int .i64 hn1] := by have := hx31.put 0 (.slice A' (m + 1) c'); simpa using this
          have hb2 : Blk (w1.setCell ⟨W1.heap.size, 0, none⟩ (.slice A' (m + 1) c')) (w.heap.size + 1) 27 #[.slice none 0 0, .int .i64 0] := hx21.far (by simp; omega) _
          have hb1 : Blk (w1.setCell ⟨W1.heap.size, 0, none⟩ (.slice A' (m + 1) c')) w.heap.size 27 #[.slice (some ⟨b, off, none⟩) l.length cap, .int .i64 H] := hx11.far (by simp; omega) _
          have ho2 := own_put hown1 hx31 (by decide) 0 (.slice A' (m + 1) c')
          have hB2 := hB1.setCell (p := ⟨W1.heap.size, 0, none⟩) (by simp; omega) (.slice A' (m + 1) c')
          have HALL := Lib.hid (And.intro hb1 (And.intro hb2 (And.intro hb3 (And.intro ho2 hB2))))
          clear f0 f1 l1 g0 g1 l2
          obtain ⟨f0, f1, y0, y1, l1⟩ := pair_cells hx31
          clear hgrow c0 c1 c2 hown1 hb1 hb2 hb3 ho2 hB2 hB1 hx11 hx21 hx31
          go_wp2_with fail
          go_roundw
          case rel => exact ⟨m + 1, A', c', by omega, by go_num, HALL.out.1, HALL.out.2.1, HALL.out.2.2.1, HALL.out.2.2.2.1, HALL.out.2.2.2.2⟩
          case measure => simp only [intOf]; omega
        | true =>
          have HD := Lib.hid (show Ck.clearAt l H N m d = (⟨d.page, d.pins, false⟩ : Fr) by unfold Ck.clearAt; rw [hpz, HP1.out, hpd2]; first | rfl | (simp only [Bool.and_true, Bool.and_false, Bool.false_and, Bool.true_and, if_true, if_false, Bool.false_eq_true]; first | rfl | (cases d; rfl)))
          go_wp2_with (at_builtin; go_must (refine wpList_append_own _ rfl _ _ 25 rfl w.heap.size 40 i0 (.agg #[.int .i64 0, .int .i64 0, .bool false]) 3 24 Try.underlying25 HI.out.1 HI.out.2.1 HI.out.2.2.1 HI.out.2.2.2 rfl (by decide) _ _ _ rfl ((HOWN.out.alloc _).alloc _) ⟨wr.heap.size + 1, 0, none⟩ 1 1 (frE.enc ⟨d.page, d.pins, false⟩) rfl rfl ?ca5 ?cb5 hm7 hm8 ?cc5 ?_))
          case ca5 => have := news3 (wr.alloc (.cells #[.int .i64 d.page, .int .i64 d.pins, .bool false] 40)) 40 (.int .i64 d.page) (.int .i64 d.pins) (.bool false); simpa [frE] using this
          case cb5 => exact frE.one _
          case cc5 => have := HBW.out.size; simp; omega
          intro v' w1 hown1 hgrow _
          have hB1 : Below w.heap.size w w1 := ((HBW.out.alloc HBW.out.size _).alloc (by have := HBW.out.size; simp; omega) _).grown hgrow (by have := HBW.out.size; simp; omega) (own_base HOWN.out)
          have hx11 := ((HX.out.1.alloc _).alloc _).grown hgrow (own_ne HOWN.out HX.out.1 (by decide))
          have hx21 := ((HX.out.2.1.alloc _).alloc _).grown hgrow (own_ne HOWN.out HX.out.2.1 (by decide))
          have hx31 := ((HX.out.2.2.alloc _).alloc _).grown hgrow (own_ne HOWN.out HX.out.2.2 (by decide))
          obtain ⟨A', c', rfl⟩ := own_form hown1
          rw [← HD.out, ← HCL.out] at hown1
          have hb3 : Blk (w1.setCell ⟨W1.heap.size, 0, none⟩ (.slice A' (m + 1) c')) W1.heap.size 27 #[.slice A' (m + 1) c', .int .i64 hn1] := by have := hx31.put 0 (.slice A' (m + 1) c'); simpa using this
          have hb2 : Blk (w1.setCell ⟨W1.heap.size, 0, none⟩ (.slice A' (m + 1) c')) (w.heap.size + 1) 27 #[.slice none 0 0, .int .i64 0] := hx21.far (by simp; omega) _
          have hb1 : Blk (w1.setCell ⟨W1.heap.size, 0, none⟩ (.slice A' (m + 1) c')) w.heap.size 27 #[.slice (some ⟨b, off, none⟩) l.length cap, .int .i64 H] := hx11.far (by simp; omega) _
          have ho2 := own_put hown1 hx31 (by decide) 0 (.slice A' (m + 1) c')
          have hB2 := hB1.setCell (p := ⟨W1.heap.size, 0, none⟩) (by simp; omega) (.slice A' (m + 1) c')
          have HALL := Lib.hid (And.intro hb1 (And.intro hb2 (And.intro hb3 (And.intro ho2 hB2))))
          clear f0 f1 l1 g0 g1 l2
          obtain ⟨f0, f1, y0, y1, l1⟩ := pair_cells hx31
          clear hgrow c0 c1 c2 hown1 hb1 hb2 hb3 ho2 hB2 hB1 hx11 hx21 hx31
          go_wp2_with fail
          go_roundw
          case rel => exact ⟨m + 1, A', c', by omega, by go_num, HALL.out.1, HALL.out.2.1, HALL.out.2.2.1, HALL.out.2.2.2.1, HALL.out.2.2.2.2⟩
          case measure => simp only [intOf]; omega
      · obtain rfl : m = l.length := by omega
        rw [List.take_of_length_le (by rw [Ck.after_length]; exact Nat.le_refl _)] at hown
        obtain ⟨f0, f1, _, _, l1⟩ := pair_cells hx3
        obtain ⟨q0, q1, z0, z1, l3⟩ := pair_cells hx2
        obtain ⟨d0, d1, d2, _⟩ := pair_stored hx2 (.slice A2 l.length c3) (.int .i64 hn1)
        have ho1 := own_put hown hx2 (by decide) 0 (.slice A2 l.length c3)
        have ho2 := own_put ho1 (hx2.put 0 (.slice A2 l.length c3)) (by decide) 1 (.int .i64 hn1)
        have hf := (hBw.setCell (p := ⟨w.heap.size + 1, 0, none⟩) (by simp) (.slice A2 l.length c3)).setCell (p := ⟨w.heap.size + 1, 1, none⟩) (by simp) (.int .i64 hn1)
        have hfin : frE.Own ((wr.setCell ⟨w.heap.size + 1, 0, none⟩ (.slice A2 l.length c3)).setCell ⟨w.heap.size + 1, 1, none⟩ (.int .i64 hn1)) w.heap.size 40 (.slice A2 l.length c3) (Ck.after l H N) := by unfold Enc.Own; rw [Ck.after_length]; exact ho2
        have HALL := Lib.hid (And.intro hfin hf)
        clear hlt2 hx1 hx2 hx3 hown ho1 ho2 hf hBw hfin
        go_wp2_with fail
        exact bodyPost_ret (v := .tuple #[.agg #[.slice A2 l.length c3, .int .i64 hn1], .int .i64 at1]) (by simp [results, Try.results21, go_sem, d1, d2]) rfl ⟨⟨_, rfl, HALL.out.1⟩, HALL.out.2⟩
end Go.Proofs.Ythhialnnhhemaaa
