/- THE LAWS of layer 9, walked: ClockFair, the stage's theorem. Conditions: those of the arguments alone. -/
import Derived.Test.YthhialnnhhemaaaClockOpen
namespace Go.Proofs.Ythhialnnhhemaaa
open Go.RowKit
set_option linter.unusedVariables false
namespace Ck
theorem countP_step (p : Fr → Bool) {l : List Fr} {m : Nat} (hm : m < l.length) : (l.take (m + 1)).countP p = (l.take m).countP p + (if p l[m] = true then 1 else 0) := by
  rw [List.take_succ_eq_append_getElem hm, List.countP_append, List.countP_singleton]
theorem stop_free_at {l : List Fr} {H N : Nat} (hH : H < l.length) (hN : stop l H = some N) : (l[(H + N) % l.length]'(mod_lt' hH)).pins = 0 := by
  rcases stop_cases hH hN with ⟨_, h, _⟩ | ⟨_, _, _, h⟩
  · rw [getD_eq (mod_lt' hH)] at h
    unfold fresh at h
    rw [Bool.and_eq_true] at h
    simpa using h.1
  · rw [getD_eq (mod_lt' hH)] at h
    unfold free at h
    simpa using h
theorem stop_clear_at {l : List Fr} {H N : Nat} (hH : H < l.length) (hN : stop l H = some N) : ((after l H N)[(H + N) % l.length]'(by rw [after_length]; exact mod_lt' hH)).used = false := by
  have hl := stop_lt hH hN
  rw [after_at hH hl]
  have h0 := stop_free_at hH hN
  rcases stop_cases hH hN with ⟨h1, h, _⟩ | ⟨h1, _, _, _⟩
  · rw [getD_eq (mod_lt' hH)] at h
    unfold fresh at h
    rw [Bool.and_eq_true] at h
    have h2 : decide (l.length ≤ N) = false := decide_eq_false (by omega)
    simp only [h2, Bool.and_false]
    simpa using h.2
  · have h2 : decide (l.length ≤ N) = true := decide_eq_true h1
    simp [h0, h2]
theorem stop_used {l : List Fr} {H N : Nat} (hH : H < l.length) (hN : stop l H = some N) (hu : (l[(H + N) % l.length]'(mod_lt' hH)).used = true) : l.countP fresh = 0 := by
  rw [List.countP_eq_zero]
  rcases stop_cases hH hN with ⟨_, h, _⟩ | ⟨_, _, h, _⟩
  · rw [getD_eq (mod_lt' hH)] at h
    unfold fresh at h
    rw [Bool.and_eq_true, hu] at h
    simp at h
  · intro f hf
    rw [h f hf]
    simp
theorem free_pos {l : List Fr} {H N : Nat} (hH : H < l.length) (hN : stop l H = some N) : 0 < l.countP free := by
  rw [List.countP_pos_iff]
  exact ⟨_, List.getElem_mem (mod_lt' hH), by unfold free; rw [stop_free_at hH hN]; rfl⟩
theorem free_none {l : List Fr} {H : Nat} (hH : H < l.length) (hN : stop l H = none) : l.countP free = 0 := by
  rw [List.countP_eq_zero]
  intro f hf
  rw [(stop_none_iff hH).1 hN f hf]
  simp
theorem clear_pinned {l : List Fr} {h N i : Nat} {f : Fr} (hp : 0 < f.pins) : clearAt l h N i f = f := by
  unfold clearAt
  rw [show (f.pins == 0) = false by rw [beq_eq_false_iff_ne]; omega]
  rfl
end Ck

set_option maxRecDepth 100000 in
set_option maxHeartbeats 6400000 in
theorem clockFair_walk {w : World} (v : Value) (ha : CkArg w v) :
    Calls Try.prog 4 #[v] w fun e w' => e = .returned (.bool true) ∧ Below w.heap.size w w' := by
  obtain ⟨u, l, h, rfl, hs, hf⟩ := ha
  have HS := Lib.hid hs
  obtain ⟨A, cap, rfl, h1, h2, h0, h3⟩ := hs
  unfold maxLen at h2
  have H3 := Lib.hid h3
  have hY : Below w.heap.size w (w.alloc (.cells #[.slice A l.length cap, .int .i64 h] 24)) := (Below.refl _ _).alloc (Nat.le_refl _) _
  have HY := Lib.hid hY
  have HBOX := Lib.hid (Blk.new w 24 #[.slice A l.length cap, .int .i64 h])
  clear h3 h0 hf
  by_cases h40 : 40 < l.length
  · have S := Lib.hid (ref_long _ l h _ (HS.out.below hY) h40)
    clear hY h40
    go_enter Try.func4, Try.ntmps4
    go_wp2_with fail
    refine S.out.mono ?_
    rintro e W1 ⟨rfl, hB1⟩
    have hb := HY.out.trans (hB1.mono HY.out.size)
    have hb := hb.alloc hb.size (.cells #[.slice none 0 0, .int .i64 h] 27)
    clear hB1 S
    go_wp2_with fail
    refine (awake09 _).mono ?_
    rintro e W2 ⟨rfl, hB2⟩
    have hb := hb.trans (hB2.mono hb.size)
    go_wp2_with fail
    go_ret
    exact ⟨rfl, hb⟩
  have SREF := Lib.hid (ref_any _ l h _ (HS.out.below hY) (by omega))
  have SRIGHT := fun x W hw => refCk_any x l h W hw
  clear hY h40
  cases hr : Ck.right l h with
  | false =>
    rw [hr] at SRIGHT
    have SRIGHT := Lib.hid SRIGHT
    clear hr
    go_enter Try.func4, Try.ntmps4
    go_wp2_with fail
    refine SREF.out.mono ?_
    rintro e W1 ⟨⟨x, rfl, hx⟩, hB1⟩
    have hb := HY.out.trans (hB1.mono HY.out.size)
    obtain ⟨Ax, cx, rfl, _, _, _⟩ := hx.sl.form (n := l.length) rfl
    have ha : Below W1.heap.size W1 (W1.alloc (.cells #[.slice Ax l.length cx, .int .i64 h] 27)) := (Below.refl _ _).alloc (Nat.le_refl _) _
    have hbx := (HBOX.out.keep hB1).keep ha
    have hb := hb.trans (ha.mono hb.size)
    have SR := Lib.hid (SRIGHT.out (.slice Ax l.length cx) _ (hx.sl.below ha))
    have HBOX := Lib.hid hbx
    have HB := Lib.hid hb
    clear hx hB1 hb hbx ha
    go_wp2_with fail
    generalize W1.alloc (.cells #[.slice Ax l.length cx, .int .i64 h] 27) = W1a at *
    refine SR.out.mono ?_
    rintro e W2 ⟨rfl, hB2⟩
    have hb := HB.out.trans (hB2.mono HB.out.size)
    have hbx := HBOX.out.keep hB2
    have HBOX := Lib.hid hbx
    clear hbx hB2 SR HB
    go_wp2_with fail
    refine (awake09 _).mono ?_
    rintro e W3 ⟨rfl, hB3⟩
    have hb := hb.trans (hB3.mono hb.size)
    go_wp2_with fail
    go_ret
    exact ⟨rfl, hb⟩
  | true =>
    rw [hr] at SRIGHT
    have SRIGHT := Lib.hid SRIGHT
    obtain ⟨hl8, ⟨H, rfl, hH⟩, hgd⟩ := Ck.right_parts hr
    have hl8i : (l.length : Int) ≤ 8 := by omega
    cases hN : Ck.stop l H with
    | none =>
      have SW := Lib.hid (fun W hw => sweep_no (.slice A l.length cap) l (H : Int) W hw (.inr (Ck.anyFree_none hr hN)))
      have HFZ := Lib.hid (Ck.free_none hH hN)
      clear hr hgd hN
      go_enter Try.func4, Try.ntmps4
      go_wp2_with fail
      refine SREF.out.mono ?_
      rintro e W1 ⟨⟨x, rfl, hx⟩, hB1⟩
      have hb := HY.out.trans (hB1.mono HY.out.size)
      obtain ⟨Ax, cx, rfl, _, _, _⟩ := hx.sl.form (n := l.length) rfl
      have ha : Below W1.heap.size W1 (W1.alloc (.cells #[.slice Ax l.length cx, .int .i64 (H : Int)] 27)) := (Below.refl _ _).alloc (Nat.le_refl _) _
      have hbx := (HBOX.out.keep hB1).keep ha
      have hb := hb.trans (ha.mono hb.size)
      have SR := Lib.hid (SRIGHT.out (.slice Ax l.length cx) _ (hx.sl.below ha))
      have HBOX := Lib.hid hbx
      have HB := Lib.hid hb
      clear hx hB1 hb hbx ha
      go_wp2_with fail
      generalize W1.alloc (.cells #[.slice Ax l.length cx, .int .i64 (H : Int)] 27) = W1a at *
      refine SR.out.mono ?_
      rintro e W2 ⟨rfl, hB2⟩
      have hb := HB.out.trans (hB2.mono HB.out.size)
      have hbx := HBOX.out.keep hB2
      have HBOX := Lib.hid hbx
      clear hbx hB2 SR HB
      obtain ⟨k0, k1, _, _, k4⟩ := pair_cells HBOX.out
      go_wp2_with fail
      go_loopw [5, 6, 8, 30] (fun fr fs _ i wr => ∃ m : Nat, m ≤ l.length ∧ i = .int .i64 m ∧ fr = .int .i64 ((l.take m).countP Ck.free : Nat) ∧ fs = .int .i64 ((l.take m).countP Ck.fresh : Nat) ∧ Blk wr w.heap.size 24 #[.slice A l.length cap, .int .i64 H] ∧ Below w.heap.size w wr) (fun _ _ _ i _ => l.length - (intOf i).toNat)
      case atStart => exact ⟨0, by omega, rfl, rfl, rfl, HBOX.out, hb⟩
      case round =>
        obtain ⟨m, hm, rfl, rfl, rfl, hbx, hB⟩ := hrel
        clear k0 k1 k4 hb
        by_cases hlt : m < l.length
        · obtain ⟨b, off, rfl, hbl, hc⟩ := H3.out (by omega)
          obtain ⟨c0, c1, c2⟩ := fr_at (hc.below hB hbl) m hlt
          have hblt : b < wr.heap.size := Nat.lt_of_lt_of_le hbl hB.size
          have e1 := Ck.countP_step Ck.free hlt
          have e2 := Ck.countP_step Ck.fresh hlt
          have hc1 : (l.take m).countP Ck.free ≤ 8 := by have := List.countP_le_length (p := Ck.free) (l := l.take m); rw [List.length_take] at this; omega
          have hc2 : (l.take m).countP Ck.fresh ≤ 8 := by have := List.countP_le_length (p := Ck.fresh) (l := l.take m); rw [List.length_take] at this; omega
          have HBX := Lib.hid hbx
          have HB := Lib.hid hB
          clear hc hbx hB
          generalize l[m] = d at c0 c1 c2 e1 e2
          generalize (l.take m).countP Ck.free = n1 at e1 hc1 ⊢
          generalize (l.take m).countP Ck.fresh = n2 at e2 hc2 ⊢
          have hn1 : (n1 : Int) ≤ 8 := by omega
          have hn2 : (n2 : Int) ≤ 8 := by omega
          rw [show Ck.free d = (d.pins == 0) from rfl] at e1
          rw [show Ck.fresh d = (d.pins == 0 && !d.used) from rfl] at e2
          cases hp : (d.pins == 0) with
          | true =>
            rw [hp] at e1
            rw [hp, Bool.true_and] at e2
            cases hu : d.used with
            | true =>
              rw [hu] at e2 c2
              have HE1 := Lib.hid e1
              have HE2 := Lib.hid e2
              clear e1 e2 hu
              go_wp2_with fail
              go_roundw
              case rel => exact ⟨m + 1, by omega, by go_num, by rw [HE1.out]; go_num, by rw [HE2.out]; go_num, HBX.out.alloc _, HB.out.alloc HB.out.size _⟩
              case measure => simp only [intOf]; omega
            | false =>
              rw [hu] at e2 c2
              have HE1 := Lib.hid e1
              have HE2 := Lib.hid e2
              clear e1 e2 hu
              go_wp2_with fail
              go_roundw
              case rel => exact ⟨m + 1, by omega, by go_num, by rw [HE1.out]; go_num, by rw [HE2.out]; go_num, HBX.out.alloc _, HB.out.alloc HB.out.size _⟩
              case measure => simp only [intOf]; omega
          | false =>
            rw [hp] at e1
            rw [hp, Bool.false_and] at e2
            have HE1 := Lib.hid e1
            have HE2 := Lib.hid e2
            clear e1 e2
            go_wp2_with fail
            go_roundw
            case rel => exact ⟨m + 1, by omega, by go_num, by rw [HE1.out]; go_num, by rw [HE2.out]; go_num, HBX.out.alloc _, HB.out.alloc HB.out.size _⟩
            case measure => simp only [intOf]; omega
        · obtain rfl : m = l.length := by omega
          rw [List.take_length]
          have hb := hB
          have HBOX := Lib.hid hbx
          clear hB hlt hm hbx
          generalize wr = W2 at *
          obtain ⟨k0, k1, _, _, k4⟩ := pair_cells HBOX.out
          have SS := Lib.hid (SW.out W2 (HS.out.below hb))
          rw [HFZ.out]
          generalize l.countP Ck.fresh = n2
          go_wp2_with fail
          refine SS.out.mono ?_
          rintro e W3 ⟨he, hB3⟩
          unfold SweepNo at he
          subst he
          have hb := hb.trans (hB3.mono hb.size)
          have hbx := HBOX.out.keep hB3
          clear k0 k1 k4 SS
          obtain ⟨k0, k1, _, _, k4⟩ := pair_cells hbx
          have hb := hb.alloc hb.size (.cells #[.slice A l.length cap, .int .i64 H] 24)
          have hll : ((l.length : Int) != (l.length : Int)) = false := by simp
          clear hB3 hbx
          go_wp2_with fail
          refine (awake09 _).mono ?_
          rintro e W9 ⟨rfl, hB9⟩
          have hb := hb.trans (hB9.mono hb.size)
          clear hB9
          go_wp2_with fail
          go_ret
          exact ⟨rfl, hb⟩
    | some N =>
      have SW := Lib.hid (fun W hw => sweep_yes (.slice A l.length cap) l H N W hw hr hN)
      have hfp := Ck.free_pos hH hN
      have hfa := Ck.stop_free_at hH hN
      have hca := Ck.stop_clear_at hH hN
      have hus := Ck.stop_used hH hN
      obtain ⟨at1, hat1⟩ : ∃ at1, (H + N) % l.length = at1 := ⟨_, rfl⟩
      obtain ⟨hn1, hhn1⟩ : ∃ hn1, (H + N + 1) % l.length = hn1 := ⟨_, rfl⟩
      have hatl : at1 < l.length := by rw [← hat1]; exact Nat.mod_lt _ (by omega)
      simp only [hat1] at hfa hca hus
      obtain ⟨l2, hlen2, hca2, hall, SW⟩ : ∃ l2 : List Fr, l2.length = l.length ∧ (∀ h : at1 < l2.length, l2[at1].used = false) ∧ (∀ i (hi : i < l.length) (hi2 : i < l2.length), l2[i].page = l[i].page ∧ l2[i].pins = l[i].pins ∧ (l2[i].used = true → l[i].used = true) ∧ (0 < l[i].pins → l2[i] = l[i])) ∧
          (∀ W, frE.Sl W (.slice A l.length cap) l → Calls Try.prog 16 #[.agg #[.slice A l.length cap, .int .i64 H]] W fun e w' => (∃ u, e = .returned (.tuple #[.agg #[u, .int .i64 hn1], .int .i64 at1, .bool true]) ∧ frE.Own w' W.heap.size 42 u l2) ∧ Below W.heap.size W w') := by
        refine ⟨Ck.after l H N, Ck.after_length l H N, fun _ => hca, ?_, fun W hw => ?_⟩
        · intro i hi hi2
          rw [Ck.after_get _ _ _ _ hi]
          exact ⟨Ck.clear_page _ _ _ _ _, Ck.clear_pins _ _ _ _ _, Ck.clear_used _ _ _ _ _, fun h => Ck.clear_pinned h⟩
        · have := SW.out W hw
          unfold SweepYes at this
          rw [hat1, hhn1] at this
          exact this
      have SW := Lib.hid SW
      have HPL := Lib.hid (And.intro hfp (And.intro hatl hlen2))
      have hfa2 : ∀ h : at1 < l.length, (l[at1]'h).pins = 0 := fun _ => hfa
      have hus2 : ∀ h : at1 < l.length, (l[at1]'h).used = true → l.countP Ck.fresh = 0 := fun _ => hus
      clear hfa hus hca
      have HFA := Lib.hid hfa2
      have HUS := Lib.hid hus2
      have HCA := Lib.hid hca2
      have HALL := Lib.hid hall
      clear hr hgd hN hat1 hhn1 hfp hfa2 hca2 hus2 hall hlen2
      go_enter Try.func4, Try.ntmps4
      go_wp2_with fail
      refine SREF.out.mono ?_
      rintro e W1 ⟨⟨x, rfl, hx⟩, hB1⟩
      have hb := HY.out.trans (hB1.mono HY.out.size)
      obtain ⟨Ax, cx, rfl, _, _, _⟩ := hx.sl.form (n := l.length) rfl
      have ha : Below W1.heap.size W1 (W1.alloc (.cells #[.slice Ax l.length cx, .int .i64 (H : Int)] 27)) := (Below.refl _ _).alloc (Nat.le_refl _) _
      have hbx := (HBOX.out.keep hB1).keep ha
      have hb := hb.trans (ha.mono hb.size)
      have SR := Lib.hid (SRIGHT.out (.slice Ax l.length cx) _ (hx.sl.below ha))
      have HBOX := Lib.hid hbx
      have HB := Lib.hid hb
      clear hx hB1 hb hbx ha
      go_wp2_with fail
      generalize W1.alloc (.cells #[.slice Ax l.length cx, .int .i64 (H : Int)] 27) = W1a at *
      refine SR.out.mono ?_
      rintro e W2 ⟨rfl, hB2⟩
      have hb := HB.out.trans (hB2.mono HB.out.size)
      have hbx := HBOX.out.keep hB2
      have HBOX := Lib.hid hbx
      clear hbx hB2 SR HB
      obtain ⟨k0, k1, _, _, k4⟩ := pair_cells HBOX.out
      go_wp2_with fail
      go_loopw [5, 6, 8, 30] (fun fr fs _ i wr => ∃ m : Nat, m ≤ l.length ∧ i = .int .i64 m ∧ fr = .int .i64 ((l.take m).countP Ck.free : Nat) ∧ fs = .int .i64 ((l.take m).countP Ck.fresh : Nat) ∧ Blk wr w.heap.size 24 #[.slice A l.length cap, .int .i64 H] ∧ Below w.heap.size w wr) (fun _ _ _ i _ => l.length - (intOf i).toNat)
      case atStart => exact ⟨0, by omega, rfl, rfl, rfl, HBOX.out, hb⟩
      case round =>
        obtain ⟨m, hm, rfl, rfl, rfl, hbx, hB⟩ := hrel
        clear k0 k1 k4 hb
        by_cases hlt : m < l.length
        · obtain ⟨b, off, rfl, hbl, hc⟩ := H3.out (by omega)
          obtain ⟨c0, c1, c2⟩ := fr_at (hc.below hB hbl) m hlt
          have hblt : b < wr.heap.size := Nat.lt_of_lt_of_le hbl hB.size
          have e1 := Ck.countP_step Ck.free hlt
          have e2 := Ck.countP_step Ck.fresh hlt
          have hc1 : (l.take m).countP Ck.free ≤ 8 := by have := List.countP_le_length (p := Ck.free) (l := l.take m); rw [List.length_take] at this; omega
          have hc2 : (l.take m).countP Ck.fresh ≤ 8 := by have := List.countP_le_length (p := Ck.fresh) (l := l.take m); rw [List.length_take] at this; omega
          have HBX := Lib.hid hbx
          have HB := Lib.hid hB
          clear hc hbx hB
          generalize l[m] = d at c0 c1 c2 e1 e2
          generalize (l.take m).countP Ck.free = n1 at e1 hc1 ⊢
          generalize (l.take m).countP Ck.fresh = n2 at e2 hc2 ⊢
          have hn1 : (n1 : Int) ≤ 8 := by omega
          have hn2 : (n2 : Int) ≤ 8 := by omega
          rw [show Ck.free d = (d.pins == 0) from rfl] at e1
          rw [show Ck.fresh d = (d.pins == 0 && !d.used) from rfl] at e2
          cases hp : (d.pins == 0) with
          | true =>
            rw [hp] at e1
            rw [hp, Bool.true_and] at e2
            cases hu : d.used with
            | true =>
              rw [hu] at e2 c2
              have HE1 := Lib.hid e1
              have HE2 := Lib.hid e2
              clear e1 e2 hu
              go_wp2_with fail
              go_roundw
              case rel => exact ⟨m + 1, by omega, by go_num, by rw [HE1.out]; go_num, by rw [HE2.out]; go_num, HBX.out.alloc _, HB.out.alloc HB.out.size _⟩
              case measure => simp only [intOf]; omega
            | false =>
              rw [hu] at e2 c2
              have HE1 := Lib.hid e1
              have HE2 := Lib.hid e2
              clear e1 e2 hu
              go_wp2_with fail
              go_roundw
              case rel => exact ⟨m + 1, by omega, by go_num, by rw [HE1.out]; go_num, by rw [HE2.out]; go_num, HBX.out.alloc _, HB.out.alloc HB.out.size _⟩
              case measure => simp only [intOf]; omega
          | false =>
            rw [hp] at e1
            rw [hp, Bool.false_and] at e2
            have HE1 := Lib.hid e1
            have HE2 := Lib.hid e2
            clear e1 e2
            go_wp2_with fail
            go_roundw
            case rel => exact ⟨m + 1, by omega, by go_num, by rw [HE1.out]; go_num, by rw [HE2.out]; go_num, HBX.out.alloc _, HB.out.alloc HB.out.size _⟩
            case measure => simp only [intOf]; omega
        · obtain rfl : m = l.length := by omega
          rw [List.take_length]
          have hb := hB
          have HBOX := Lib.hid hbx
          clear hB hlt hm hbx
          generalize wr = W2 at *
          obtain ⟨k0, k1, _, _, k4⟩ := pair_cells HBOX.out
          have SS := Lib.hid (SW.out W2 (HS.out.below hb))
          have hfpi : (0 : Int) < ((l.countP Ck.free : Nat) : Int) := by have := HPL.out.1; omega
          generalize l.countP Ck.free = n1 at hfpi ⊢
          obtain ⟨n2, hn2⟩ : ∃ n2, n2 = l.countP Ck.fresh := ⟨_, rfl⟩
          rw [← hn2]
          have husn : ∀ h : at1 < l.length, (l[at1]'h).used = true → n2 = 0 := fun h hu => hn2.trans (HUS.out h hu)
          have HUSN := Lib.hid husn
          clear hn2 husn
          go_wp2_with fail
          refine SS.out.mono ?_
          rintro e W3 ⟨⟨u3, rfl, hu3⟩, hB3⟩
          have hb := hb.trans (hB3.mono hb.size)
          have hbx := HBOX.out.keep hB3
          have hs3 := hu3.sl
          obtain ⟨A3, c3, rfl, _, _, p3⟩ := hs3.form (n := l.length) HPL.out.2.2
          clear k0 k1 k4 SS
          obtain ⟨k0, k1, _, _, k4⟩ := pair_cells hbx
          -- what stands where the sweep ended
          obtain ⟨bq, oq, hAq, hblq, hcq⟩ := H3.out (by omega)
          subst hAq
          obtain ⟨v0, v1, v2⟩ := fr_at (hcq.below hb hblq) at1 HPL.out.2.1
          obtain ⟨b3, o3, hA3, hbl3, hc3⟩ := p3 (by omega)
          subst hA3
          obtain ⟨x0, x1, x2⟩ := fr_at hc3 at1 (by have := HPL.out.2.1; have := HPL.out.2.2; omega)
          rw [HFA.out HPL.out.2.1] at v1
          rw [HCA.out (by have := HPL.out.2.1; have := HPL.out.2.2; omega)] at x2
          have hblq2 : bq < W3.heap.size := Nat.lt_of_lt_of_le hblq hb.size
          have ha3 : Below W3.heap.size W3 (W3.alloc (.cells #[.slice (some ⟨b3, o3, none⟩) l.length c3, .int .i64 hn1] 24)) := (Below.refl _ _).alloc (Nat.le_refl _) _
          have HB := Lib.hid (hb.trans (ha3.mono hb.size))
          have HBOX := Lib.hid (hbx.keep ha3)
          have HBD := Lib.hid (Blk.new W3 24 #[.slice (some ⟨b3, o3, none⟩) l.length c3, .int .i64 hn1])
          have HQ3 := Lib.hid (hc3.below ha3 hbl3)
          have HL3 := Lib.hid (Nat.lt_of_lt_of_le hbl3 ha3.size)
          have HQC := Lib.hid hcq
          have q5 : (0 : Int) ≤ (at1 : Int) := by omega
          have q6 : (at1 : Int) < (l.length : Int) := by have := HPL.out.2.1; omega
          have q7 : ((l.length : Int) != (l.length : Int)) = false := by simp
          clear hB3 hbx hu3 hb hs3 hc3 hcq ha3 p3
          have husn := HUSN.out HPL.out.2.1
          generalize l[at1].used = ub at v2 husn
          cases ub with
          | true =>
            obtain rfl : n2 = 0 := husn rfl
            clear husn
            go_wp2_with fail
            clear v0 v1 v2 x0 x1 x2 k0 k1 k4 hblq2 hbl3
            generalize W3.alloc (.cells #[.slice (some ⟨b3, o3, none⟩) l.length c3, .int .i64 hn1] 24) = W4 at *
            go_loopw [12, 13, 108] (fun _ _ i wr => ∃ m : Nat, m ≤ l.length ∧ i = .int .i64 m ∧ Below W4.heap.size W4 wr) (fun _ _ i _ => l.length - (intOf i).toNat)
            case atStart => exact ⟨0, by omega, rfl, Below.refl _ _⟩
            case round =>
              obtain ⟨m, hm, rfl, hBq⟩ := hrel
              have hbw := HB.out.trans (hBq.mono HB.out.size)
              have hbl3 := HL3.out
              by_cases hlt : m < l.length
              · have hlt2 : m < l2.length := by have := HPL.out.2.2; omega
                obtain ⟨k0, k1, _, _, k4⟩ := pair_cells (HBOX.out.keep hBq)
                obtain ⟨m0, m1, _, _, m4⟩ := pair_cells (HBD.out.keep hBq)
                obtain ⟨t0, t1, t2⟩ := fr_at (HQC.out.below hbw hblq) m hlt
                obtain ⟨s0, s1, s2⟩ := fr_at (HQ3.out.below hBq hbl3) m hlt2
                have hz1 : bq < wr.heap.size := Nat.lt_of_lt_of_le hblq hbw.size
                have hz3 : b3 < wr.heap.size := Nat.lt_of_lt_of_le hbl3 hBq.size
                have hmi : (m : Int) < (l.length : Int) := by omega
                have hm0 : (0 : Int) ≤ (m : Int) := by omega
                obtain ⟨r1, r2, r3, r4⟩ := HALL.out m hlt hlt2
                generalize l2[m] = g2 at s0 s1 s2 r1 r2 r3 r4
                generalize l[m] = f2 at t0 t1 t2 r1 r2 r3 r4
                rw [r1] at s0
                rw [r2] at s1
                have hpp1 : (f2.page != f2.page) = false := by simp
                have hpp2 : (f2.pins != f2.pins) = false := by simp
                clear r1 r2
                by_cases hp : 0 < f2.pins
                · have hgf := r4 hp
                  rw [hgf] at s2
                  have hpd : decide (0 < f2.pins) = true := decide_eq_true hp
                  clear r3 r4 hgf
                  cases hu : f2.used with
                  | true =>
                    rw [hu] at t2 s2
                    clear hu
                    go_wp2_with fail
                    go_quiet (fail)
                    go_wp2_with fail
                    go_roundw
                    case rel => exact ⟨m + 1, by omega, by go_num, (hBq.alloc hBq.size _).trans (drewN_below _ _ _)⟩
                    case measure => simp only [intOf]; omega
                  | false =>
                    rw [hu] at t2 s2
                    clear hu
                    go_wp2_with fail
                    go_quiet (fail)
                    go_wp2_with fail
                    go_roundw
                    case rel => exact ⟨m + 1, by omega, by go_num, (hBq.alloc hBq.size _).trans (drewN_below _ _ _)⟩
                    case measure => simp only [intOf]; omega
                · have hpd : decide (0 < f2.pins) = false := decide_eq_false hp
                  have hp2 : f2.pins ≤ 0 := by omega
                  clear r4 hp
                  cases hg2 : g2.used with
                  | true =>
                    have hu := r3 hg2
                    rw [hu] at t2
                    rw [hg2] at s2
                    clear hu hg2 r3
                    go_wp2_with fail
                    go_quiet (fail)
                    go_wp2_with fail
                    go_roundw
                    case rel => exact ⟨m + 1, by omega, by go_num, (hBq.alloc hBq.size _).trans (drewN_below _ _ _)⟩
                    case measure => simp only [intOf]; omega
                  | false =>
                    rw [hg2] at s2
                    clear hg2 r3
                    cases hu : f2.used with
                    | true =>
                      rw [hu] at t2
                      clear hu
                      go_wp2_with fail
                      go_quiet (fail)
                      go_wp2_with fail
                      go_roundw
                      case rel => exact ⟨m + 1, by omega, by go_num, (hBq.alloc hBq.size _).trans (drewN_below _ _ _)⟩
                      case measure => simp only [intOf]; omega
                    | false =>
                      rw [hu] at t2
                      clear hu
                      go_wp2_with fail
                      go_quiet (fail)
                      go_wp2_with fail
                      go_roundw
                      case rel => exact ⟨m + 1, by omega, by go_num, (hBq.alloc hBq.size _).trans (drewN_below _ _ _)⟩
                      case measure => simp only [intOf]; omega
              · obtain rfl : m = l.length := by omega
                have hb := hbw
                clear hlt hBq hbw
                go_wp2_with fail
                refine (awake09 _).mono ?_
                rintro e W9 ⟨rfl, hB9⟩
                have hb := hb.trans (hB9.mono hb.size)
                clear hB9
                go_wp2_with fail
                go_ret
                exact ⟨rfl, hb⟩
          | false =>
            clear husn
            have hn2 : (0 : Int) ≤ (n2 : Int) := by omega
            go_wp2_with fail
            clear v0 v1 v2 x0 x1 x2 k0 k1 k4 hblq2 hbl3
            generalize W3.alloc (.cells #[.slice (some ⟨b3, o3, none⟩) l.length c3, .int .i64 hn1] 24) = W4 at *
            go_loopw [12, 13, 108] (fun _ _ i wr => ∃ m : Nat, m ≤ l.length ∧ i = .int .i64 m ∧ Below W4.heap.size W4 wr) (fun _ _ i _ => l.length - (intOf i).toNat)
            case atStart => exact ⟨0, by omega, rfl, Below.refl _ _⟩
            case round =>
              obtain ⟨m, hm, rfl, hBq⟩ := hrel
              have hbw := HB.out.trans (hBq.mono HB.out.size)
              have hbl3 := HL3.out
              by_cases hlt : m < l.length
              · have hlt2 : m < l2.length := by have := HPL.out.2.2; omega
                obtain ⟨k0, k1, _, _, k4⟩ := pair_cells (HBOX.out.keep hBq)
                obtain ⟨m0, m1, _, _, m4⟩ := pair_cells (HBD.out.keep hBq)
                obtain ⟨t0, t1, t2⟩ := fr_at (HQC.out.below hbw hblq) m hlt
                obtain ⟨s0, s1, s2⟩ := fr_at (HQ3.out.below hBq hbl3) m hlt2
                have hz1 : bq < wr.heap.size := Nat.lt_of_lt_of_le hblq hbw.size
                have hz3 : b3 < wr.heap.size := Nat.lt_of_lt_of_le hbl3 hBq.size
                have hmi : (m : Int) < (l.length : Int) := by omega
                have hm0 : (0 : Int) ≤ (m : Int) := by omega
                obtain ⟨r1, r2, r3, r4⟩ := HALL.out m hlt hlt2
                generalize l2[m] = g2 at s0 s1 s2 r1 r2 r3 r4
                generalize l[m] = f2 at t0 t1 t2 r1 r2 r3 r4
                rw [r1] at s0
                rw [r2] at s1
                have hpp1 : (f2.page != f2.page) = false := by simp
                have hpp2 : (f2.pins != f2.pins) = false := by simp
                clear r1 r2
                by_cases hp : 0 < f2.pins
                · have hgf := r4 hp
                  rw [hgf] at s2
                  have hpd : decide (0 < f2.pins) = true := decide_eq_true hp
                  clear r3 r4 hgf
                  cases hu : f2.used with
                  | true =>
                    rw [hu] at t2 s2
                    clear hu
                    go_wp2_with fail
                    go_quiet (fail)
                    go_wp2_with fail
                    go_roundw
                    case rel => exact ⟨m + 1, by omega, by go_num, (hBq.alloc hBq.size _).trans (drewN_below _ _ _)⟩
                    case measure => simp only [intOf]; omega
                  | false =>
                    rw [hu] at t2 s2
                    clear hu
                    go_wp2_with fail
                    go_quiet (fail)
                    go_wp2_with fail
                    go_roundw
                    case rel => exact ⟨m + 1, by omega, by go_num, (hBq.alloc hBq.size _).trans (drewN_below _ _ _)⟩
                    case measure => simp only [intOf]; omega
                · have hpd : decide (0 < f2.pins) = false := decide_eq_false hp
                  have hp2 : f2.pins ≤ 0 := by omega
                  clear r4 hp
                  cases hg2 : g2.used with
                  | true =>
                    have hu := r3 hg2
                    rw [hu] at t2
                    rw [hg2] at s2
                    clear hu hg2 r3
                    go_wp2_with fail
                    go_quiet (fail)
                    go_wp2_with fail
                    go_roundw
                    case rel => exact ⟨m + 1, by omega, by go_num, (hBq.alloc hBq.size _).trans (drewN_below _ _ _)⟩
                    case measure => simp only [intOf]; omega
                  | false =>
                    rw [hg2] at s2
                    clear hg2 r3
                    cases hu : f2.used with
                    | true =>
                      rw [hu] at t2
                      clear hu
                      go_wp2_with fail
                      go_quiet (fail)
                      go_wp2_with fail
                      go_roundw
                      case rel => exact ⟨m + 1, by omega, by go_num, (hBq.alloc hBq.size _).trans (drewN_below _ _ _)⟩
                      case measure => simp only [intOf]; omega
                    | false =>
                      rw [hu] at t2
                      clear hu
                      go_wp2_with fail
                      go_quiet (fail)
                      go_wp2_with fail
                      go_roundw
                      case rel => exact ⟨m + 1, by omega, by go_num, (hBq.alloc hBq.size _).trans (drewN_below _ _ _)⟩
                      case measure => simp only [intOf]; omega
              · obtain rfl : m = l.length := by omega
                have hb := hbw
                clear hlt hBq hbw
                go_wp2_with fail
                refine (awake09 _).mono ?_
                rintro e W9 ⟨rfl, hB9⟩
                have hb := hb.trans (hB9.mono hb.size)
                clear hB9
                go_wp2_with fail
                go_ret
                exact ⟨rfl, hb⟩
end Go.Proofs.Ythhialnnhhemaaa
