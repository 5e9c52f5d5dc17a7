/- LAYER 9, walked: the laws' copies; the document's rule who are clocks. Conditions: the slice leads to the frames. -/
import Derived.Test.YthhialnnhhemaaaClockRound
namespace Go.Proofs.Ythhialnnhhemaaa
open Go.RowKit
set_option linter.unusedVariables false

theorem infoRf : (Try.prog.info? 40).map (fun i => (i.zero, i.size, i.bytes)) = some (some (.agg #[.int .i64 0, .int .i64 0, .bool false]), 3, 24) := by kernel_rfl
def RefTold (B : Nat) (l : List Fr) (h : Int) (e : Ending) (w' : World) : Prop :=
  ∃ u, e = .returned (.tuple #[.agg #[u, .int .i64 h], .bool true]) ∧ frE.Own w' B 40 u l

set_option maxRecDepth 100000 in
set_option maxHeartbeats 800000 in
theorem ref_long (v : Value) (l : List Fr) (h : Int) (w : World) (hs : frE.Sl w v l) (h40 : 40 < l.length) :
    Calls Try.prog 14 #[.agg #[v, .int .i64 h]] w fun e w' => e = .returned (.tuple #[.agg #[.slice none 0 0, .int .i64 h], .bool false]) ∧ Below w.heap.size w w' := by
  obtain ⟨A, cap, rfl, _⟩ := hs
  have h40' : (40 : Int) < (l.length : Int) := by omega
  have hb2 : Blk (((w.alloc (.cells #[.slice A l.length cap, .int .i64 h] 24)).alloc (.cells #[.slice none 0 0, .int .i64 h] 27)).alloc (.cells #[.slice none 0 0, .int .i64 h] 27)) (w.heap.size + 1) 27 #[.slice none 0 0, .int .i64 h] := by
    have := (Blk.new (w.alloc (.cells #[.slice A l.length cap, .int .i64 h] 24)) 27 #[.slice none 0 0, .int .i64 h]).alloc (.cells #[.slice none 0 0, .int .i64 h] 27)
    simpa using this
  obtain ⟨d0, d1, _, _, _⟩ := pair_cells hb2
  have hY : Below w.heap.size w (((w.alloc (.cells #[.slice A l.length cap, .int .i64 h] 24)).alloc (.cells #[.slice none 0 0, .int .i64 h] 27)).alloc (.cells #[.slice none 0 0, .int .i64 h] 27)) := (((Below.refl _ _).alloc (Nat.le_refl _) _).alloc (by simp) _).alloc (by simp; omega) _
  clear hb2
  go_enter Try.func14, Try.ntmps14
  go_wp2_with fail
  exact bodyPost_ret (v := .tuple #[.agg #[.slice none 0 0, .int .i64 h], .bool false]) (by simp [results, Try.results14, go_sem, d0, d1]) rfl ⟨rfl, hY⟩

set_option maxRecDepth 100000 in
set_option maxHeartbeats 1600000 in
theorem ref_any (v : Value) (l : List Fr) (h : Int) (w : World) (hs : frE.Sl w v l) (h40 : l.length ≤ 40) :
    Calls Try.prog 14 #[.agg #[v, .int .i64 h]] w fun e w' => RefTold w.heap.size l h e w' ∧ Below w.heap.size w w' := by
  obtain ⟨A, cap, rfl, h1, h2, h0, h3⟩ := hs
  unfold maxLen at h2
  have H3 := Lib.hid h3
  have h40' : (l.length : Int) ≤ 40 := by omega
  obtain ⟨i0, hi, hi1, hi2, hi3⟩ := info_parts infoRf
  have HI := Lib.hid (And.intro hi (And.intro hi1 (And.intro hi2 hi3)))
  have hb2 : Blk (((w.alloc (.cells #[.slice A l.length cap, .int .i64 h] 24)).alloc (.cells #[.slice none 0 0, .int .i64 0] 27)).alloc (.cells #[.slice none 0 0, .int .i64 h] 27)) (w.heap.size + 1) 27 #[.slice none 0 0, .int .i64 0] := by
    have := (Blk.new (w.alloc (.cells #[.slice A l.length cap, .int .i64 h] 24)) 27 #[.slice none 0 0, .int .i64 0]).alloc (.cells #[.slice none 0 0, .int .i64 h] 27)
    simpa using this
  have hb3 : Blk (((w.alloc (.cells #[.slice A l.length cap, .int .i64 h] 24)).alloc (.cells #[.slice none 0 0, .int .i64 0] 27)).alloc (.cells #[.slice none 0 0, .int .i64 h] 27)) (w.heap.size + 1 + 1) 27 #[.slice none 0 0, .int .i64 h] := by
    have := Blk.new ((w.alloc (.cells #[.slice A l.length cap, .int .i64 h] 24)).alloc (.cells #[.slice none 0 0, .int .i64 0] 27)) 27 #[.slice none 0 0, .int .i64 h]
    simpa using this
  have hY : Below w.heap.size w (((w.alloc (.cells #[.slice A l.length cap, .int .i64 h] 24)).alloc (.cells #[.slice none 0 0, .int .i64 0] 27)).alloc (.cells #[.slice none 0 0, .int .i64 h] 27)) := (((Below.refl _ _).alloc (Nat.le_refl _) _).alloc (by simp) _).alloc (by simp; omega) _
  have HB2 := Lib.hid hb2
  have HB3 := Lib.hid hb3
  have HY := Lib.hid hY
  clear hb2 hb3 hY h3 h0 hi hi1 hi2 hi3
  go_enter Try.func14, Try.ntmps14
  go_wp2_with fail
  go_loopw [6, 18] (fun _ i wr => ∃ (m : Nat) (A : Option Addr) (c : Nat), m ≤ l.length ∧ i = .int .i64 m ∧ Blk wr (w.heap.size + 1) 27 #[.slice none 0 0, .int .i64 0] ∧ Blk wr (w.heap.size + 1 + 1) 27 #[.slice A m c, .int .i64 h] ∧ wr.ownsRow w.heap.size 40 3 (.slice A m c) m (frE.flat (l.take m)) ∧ Below w.heap.size w wr) (fun _ i _ => l.length - (intOf i).toNat)
  case atStart => exact ⟨0, none, 0, by omega, rfl, HB2.out, HB3.out, ⟨rfl, .inl ⟨rfl, rfl⟩⟩, HY.out⟩
  case round =>
    obtain ⟨m, A2, c, hm, rfl, hx2, hx3, hown, hB⟩ := hrel
    by_cases hlt : m < l.length
    · obtain ⟨b, off, rfl, hbl, hc⟩ := H3.out (by omega)
      obtain ⟨c0, c1, c2⟩ := fr_at (hc.below hB hbl) m hlt
      have hblt : b < wr.heap.size := Nat.lt_of_lt_of_le hbl hB.size
      have hcl := frE.flat_snoc l m hlt
      have HCL := Lib.hid hcl
      clear hc hcl
      generalize l[m] = d at c0 c1 c2 HCL
      obtain ⟨f0, f1, y0, y1, l1⟩ := pair_cells hx3
      have hm7 : m + 1 ≤ maxLen := by unfold maxLen; omega
      have hm8 : (m + 1) * 24 ≤ 140737488355328 := by omega
      have HX2 := Lib.hid hx2
      have HX3 := Lib.hid hx3
      have HOWN := Lib.hid hown
      clear hx2 hx3 hown
      go_wp2_with (at_builtin; go_must (refine wpList_append_own _ rfl _ _ 25 rfl w.heap.size 40 i0 (.agg #[.int .i64 0, .int .i64 0, .bool false]) 3 24 Try.underlying25 HI.out.1 HI.out.2.1 HI.out.2.2.1 HI.out.2.2.2 rfl (by decide) _ _ _ rfl ((HOWN.out.alloc _).alloc _) ⟨wr.heap.size + 1, 0, none⟩ 1 1 (frE.enc d) rfl rfl ?c1 ?c2 hm7 hm8 ?c5 ?_))
      case c1 => have := news3 (wr.alloc (.cells #[.int .i64 d.page, .int .i64 d.pins, .bool d.used] 42)) 40 (.int .i64 d.page) (.int .i64 d.pins) (.bool d.used); simpa [frE] using this
      case c2 => exact frE.one _
      case c5 => have := hB.size; simp; omega
      intro v' w1 hown1 hgrow _
      have hB1 : Below w.heap.size w w1 := ((hB.alloc hB.size _).alloc (by have := hB.size; simp; omega) _).grown hgrow (by have := hB.size; simp; omega) (own_base HOWN.out)
      have hx21 := ((HX2.out.alloc _).alloc _).grown hgrow (own_ne HOWN.out HX2.out (by decide))
      have hx31 := ((HX3.out.alloc _).alloc _).grown hgrow (own_ne HOWN.out HX3.out (by decide))
      obtain ⟨A', c', rfl⟩ := own_form hown1
      rw [← HCL.out] at hown1
      have hb3 : Blk (w1.setCell ⟨w.heap.size + 1 + 1, 0, none⟩ (.slice A' (m + 1) c')) (w.heap.size + 1 + 1) 27 #[.slice A' (m + 1) c', .int .i64 h] := by have := hx31.put 0 (.slice A' (m + 1) c'); simpa using this
      have hb2 : Blk (w1.setCell ⟨w.heap.size + 1 + 1, 0, none⟩ (.slice A' (m + 1) c')) (w.heap.size + 1) 27 #[.slice none 0 0, .int .i64 0] := hx21.far (by simp) _
      have ho2 := own_put hown1 hx31 (by decide) 0 (.slice A' (m + 1) c')
      have hB2 := hB1.setCell (p := ⟨w.heap.size + 1 + 1, 0, none⟩) (by simp; omega) (.slice A' (m + 1) c')
      have HALL := Lib.hid (And.intro hb2 (And.intro hb3 (And.intro ho2 hB2)))
      clear f0 f1 y0 y1 l1
      obtain ⟨f0, f1, y0, y1, l1⟩ := pair_cells hx31
      clear hgrow c0 c1 c2 hB hown1 hb2 hb3 ho2 hB2 hB1 hx21 hx31
      go_wp2_with fail
      go_roundw
      case rel => exact ⟨m + 1, A', c', by omega, by go_num, HALL.out.1, HALL.out.2.1, HALL.out.2.2.1, HALL.out.2.2.2⟩
      case measure => simp only [intOf]; omega
    · obtain rfl : m = l.length := by omega
      rw [List.take_length] at hown
      obtain ⟨f0, f1, y0, y1, l1⟩ := pair_cells hx3
      obtain ⟨g0, g1, z0, z1, l2⟩ := pair_cells hx2
      obtain ⟨d0, d1, d2, _⟩ := pair_stored hx2 (.slice A2 l.length c) (.int .i64 h)
      have ho1 := own_put hown hx2 (by decide) 0 (.slice A2 l.length c)
      have ho2 := own_put ho1 (hx2.put 0 (.slice A2 l.length c)) (by decide) 1 (.int .i64 h)
      have hf := (hB.setCell (p := ⟨w.heap.size + 1, 0, none⟩) (by simp) (.slice A2 l.length c)).setCell (p := ⟨w.heap.size + 1, 1, none⟩) (by simp) (.int .i64 h)
      have HALL := Lib.hid (And.intro ho2 hf)
      clear hlt hx2 hx3 hown ho1 ho2 hf hB
      go_wp2_with fail
      exact bodyPost_ret (v := .tuple #[.agg #[.slice A2 l.length c, .int .i64 h], .bool true]) (by simp [results, Try.results14, go_sem, d1, d2]) rfl ⟨⟨_, rfl, HALL.out.1⟩, HALL.out.2⟩

set_option maxRecDepth 100000 in
set_option maxHeartbeats 800000 in
theorem refCk_any (v : Value) (l : List Fr) (h : Int) (w : World) (hs : frE.Sl w v l) :
    Calls Try.prog 18 #[.agg #[v, .int .i64 h]] w fun e w' => e = .returned (.bool (Ck.right l h)) ∧ Below w.heap.size w w' := by
  have HS := Lib.hid hs
  obtain ⟨A, cap, rfl, h1, h2, h0, h3⟩ := hs
  unfold maxLen at h2
  have H3 := Lib.hid h3
  clear h3 h0
  have hY : Below w.heap.size w (w.alloc (.cells #[.slice A l.length cap, .int .i64 h] 27)) := (Below.refl _ _).alloc (Nat.le_refl _) _
  have hbox := Blk.new w 27 #[.slice A l.length cap, .int .i64 h]
  have HBOX := Lib.hid hbox
  have HY := Lib.hid hY
  have early : (l.length < 1 ∨ 8 < l.length ∨ h < 0 ∨ (l.length : Int) ≤ h) → Ck.right l h = false := by
    intro hh
    unfold Ck.right; rw [decide_eq_false (by omega)]; rfl
  clear hY hbox
  by_cases g1 : (l.length : Int) < 1
  · rw [early (by omega)]
    clear early
    go_enter Try.func18, Try.ntmps18
    go_wp2_with fail
    go_ret
    exact ⟨rfl, HY.out⟩
  have g1' : 1 ≤ (l.length : Int) := by omega
  clear g1
  by_cases g2 : (8 : Int) < (l.length : Int)
  · rw [early (by omega)]
    clear early
    go_enter Try.func18, Try.ntmps18
    go_wp2_with fail
    go_ret
    exact ⟨rfl, HY.out⟩
  have g2' : (l.length : Int) ≤ 8 := by omega
  clear g2
  by_cases g3 : h < 0
  · rw [early (by omega)]
    clear early
    go_enter Try.func18, Try.ntmps18
    go_wp2_with fail
    go_ret
    exact ⟨rfl, HY.out⟩
  have g3' : 0 ≤ h := by omega
  clear g3
  by_cases g4 : (l.length : Int) ≤ h
  · rw [early (by omega)]
    clear early
    go_enter Try.func18, Try.ntmps18
    go_wp2_with fail
    go_ret
    exact ⟨rfl, HY.out⟩
  have g4' : h < (l.length : Int) := by omega
  clear g4
  have HH := Lib.hid (And.intro g1' (And.intro g2' (And.intro g3' g4')))
  clear early
  go_enter Try.func18, Try.ntmps18
  go_wp2_with fail
  go_loopw [3, 4] (fun i _ wr => ∃ k : Nat, k ≤ l.length ∧ i = .int .i64 k ∧ (l.take k).all Ck.good = true ∧ Blk wr w.heap.size 27 #[.slice A l.length cap, .int .i64 h] ∧ Below w.heap.size w wr) (fun i _ _ => l.length - (intOf i).toNat)
  case atStart => exact ⟨0, by omega, rfl, rfl, HBOX.out, HY.out⟩
  case round =>
    obtain ⟨k, hk, rfl, hall, hbx, hB⟩ := hrel
    obtain ⟨f0, f1, _, _, l1⟩ := pair_cells hbx
    have HALL := Lib.hid hall
    have HBX := Lib.hid hbx
    clear hall hbx
    by_cases hlt : k < l.length
    · obtain ⟨b, off, rfl, hbl, hc⟩ := H3.out (by omega)
      obtain ⟨c0, c1, c2⟩ := fr_at (hc.below hB hbl) k hlt
      have hblt : b < wr.heap.size := Nat.lt_of_lt_of_le hbl hB.size
      have hki : (k : Int) < (l.length : Int) := by omega
      have hk0 : (0 : Int) ≤ (k : Int) := by omega
      have HBAD := Lib.hid (fun hh => Ck.right_bad (h := h) hlt hh)
      have HSTEP := Lib.hid (Ck.all_take hlt)
      have hBa : ∀ o, Below w.heap.size w (wr.alloc o) := fun o => hB.alloc hB.size o
      have HBA := Lib.hid hBa
      clear hc hBa
      generalize l[k] = a at c0 c1 c2 HBAD HSTEP
      by_cases e1 : a.page < 0
      · have HBD := Lib.hid (HBAD.out (by unfold Ck.good; exact decide_eq_false (by omega)))
        go_wp2_with fail
        go_ret
        exact ⟨by rw [HBD.out]; rfl, HBA.out _⟩
      have e1' : 0 ≤ a.page := by omega
      clear e1
      by_cases e2 : 16 < a.page
      · have HBD := Lib.hid (HBAD.out (by unfold Ck.good; exact decide_eq_false (by omega)))
        go_wp2_with fail
        go_ret
        exact ⟨by rw [HBD.out]; rfl, HBA.out _⟩
      have e2' : a.page ≤ 16 := by omega
      clear e2
      by_cases e3 : a.pins < 0
      · have HBD := Lib.hid (HBAD.out (by unfold Ck.good; exact decide_eq_false (by omega)))
        go_wp2_with fail
        go_ret
        exact ⟨by rw [HBD.out]; rfl, HBA.out _⟩
      have e3' : 0 ≤ a.pins := by omega
      clear e3
      by_cases e4 : 2147483647 < a.pins
      · have HBD := Lib.hid (HBAD.out (by unfold Ck.good; exact decide_eq_false (by omega)))
        go_wp2_with fail
        go_ret
        exact ⟨by rw [HBD.out]; rfl, HBA.out _⟩
      have e4' : a.pins ≤ 2147483647 := by omega
      clear e4
      have hst : (l.take (k + 1)).all Ck.good = true := HSTEP.out.trans (by rw [HALL.out, show Ck.good a = true by unfold Ck.good; exact decide_eq_true ⟨e1', e2', e3', e4'⟩]; rfl)
      have HST := Lib.hid hst
      clear hst
      go_wp2_with fail
      go_roundw
      case rel => exact ⟨k + 1, by omega, by go_num, HST.out, HBX.out.alloc _, HBA.out _⟩
      case measure => simp [intOf]; omega
    · obtain rfl : k = l.length := by omega
      have hr : Ck.right l h = true := by
        unfold Ck.right
        have := HALL.out
        rw [List.take_length] at this
        rw [this, decide_eq_true (by have := HH.out; omega)]; rfl
      have HR := Lib.hid hr
      clear hr hlt
      go_wp2_with fail
      go_ret
      exact ⟨by rw [HR.out]; rfl, hB⟩
end Go.Proofs.Ythhialnnhhemaaa
