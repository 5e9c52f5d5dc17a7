/- LAYER 9, walked: the document's search, and equal clocks. Conditions: the slices lead to the frames. -/
import Derived.Test.YthhialnnhhemaaaClockOpen
namespace Go.Proofs.Ythhialnnhhemaaa
open Go.RowKit
set_option linter.unusedVariables false
namespace Ck
def want (any : Bool) (f : Fr) : Bool := f.pins == 0 && (any || !f.used)
theorem want_true : want true = free := by funext f; unfold want free; simp
theorem want_false : want false = fresh := by funext f; unfold want fresh; simp
/-- as the document tells it: -1 for none -/
def firstI (any : Bool) (l : List Fr) (H : Nat) : Int := match first (want any) l H with
  | some d => d
  | none => -1
end Ck

set_option maxRecDepth 100000 in
set_option maxHeartbeats 1600000 in
theorem refFirst_any (v : Value) (l : List Fr) (H : Nat) (any : Bool) (w : World) (hs : frE.Sl w v l) (hH : H < l.length) (h8 : l.length ≤ 8) :
    Calls Try.prog 40 #[.agg #[v, .int .i64 H], .bool any] w fun e w' => e = .returned (.int .i64 (Ck.firstI any l H)) ∧ Below w.heap.size w w' := by
  obtain ⟨A, cap, rfl, h1, h2, h0, h3⟩ := hs
  unfold maxLen at h2
  have H3 := Lib.hid h3
  have hlz : ((l.length : Int) == 0) = false := by rw [beq_eq_false_iff_ne]; omega
  have hlz2 : ¬ (l.length : Int) = 0 := by omega
  have h8i : (l.length : Int) ≤ 8 := by omega
  have hHi : (H : Int) < (l.length : Int) := by omega
  clear h3 h0
  go_enter Try.func40, Try.ntmps40
  go_wp2_with fail
  go_loopw [5, 6] (fun i _ wr => ∃ k : Nat, k ≤ l.length ∧ i = .int .i64 k ∧ (∀ j, j < k → Ck.want any (l.getD ((H + j) % l.length) default) = false) ∧ Blk wr w.heap.size 27 #[.slice A l.length cap, .int .i64 H] ∧ Below w.heap.size w wr) (fun i _ _ => l.length - (intOf i).toNat)
  case atStart => exact ⟨0, by omega, rfl, fun j hj => by omega, Blk.new w _ _, (Below.refl _ _).alloc (Nat.le_refl _) _⟩
  case round =>
    obtain ⟨k, hk, rfl, hno, hbx, hB⟩ := hrel
    obtain ⟨k0, k1, _, _, k4⟩ := pair_cells hbx
    by_cases hlt : k < l.length
    · obtain ⟨i, hi⟩ : ∃ i, (H + k) % l.length = i := ⟨_, rfl⟩
      have hil : i < l.length := by rw [← hi]; exact Nat.mod_lt _ (by omega)
      have r1 : ((H : Int) + (k : Int)).tmod (l.length : Int) = (i : Int) := by rw [show (H : Int) + (k : Int) = ((H + k : Nat) : Int) by omega, rem_nat, hi]
      have r2 : ((H : Int) + (k : Int)) % (l.length : Int) = (i : Int) := by rw [← hi]; rfl
      have hgd : l.getD ((H + k) % l.length) default = l[i] := by rw [hi]; exact Ck.getD_eq hil
      obtain ⟨b, off, rfl, hbl, hc⟩ := H3.out (by omega)
      obtain ⟨c0, c1, c2⟩ := fr_at (hc.below hB hbl) i hil
      have hblt : b < wr.heap.size := Nat.lt_of_lt_of_le hbl hB.size
      have hii : (i : Int) < (l.length : Int) := by omega
      have hi0 : (0 : Int) ≤ (i : Int) := by omega
      have hki : (k : Int) < (l.length : Int) := by omega
      have hfirst : Ck.want any l[i] = true → Ck.firstI any l H = (k : Int) := by
        intro hw
        unfold Ck.firstI
        rw [Ck.first_some hlt (by rw [hgd]; exact hw) hno]
      have hnext : Ck.want any l[i] = false → ∀ j, j < k + 1 → Ck.want any (l.getD ((H + j) % l.length) default) = false := by
        intro hw j hj
        by_cases e : j = k
        · subst e; rw [hgd]; exact hw
        · exact hno j (by omega)
      have HF := Lib.hid hfirst
      have HX := Lib.hid hnext
      have HBX := Lib.hid hbx
      have HB := Lib.hid hB
      clear hc hgd hi hno hfirst hnext hbx hB
      generalize l[i] = d at c0 c1 c2 HF HX
      have hdef : Ck.want any d = (d.pins == 0 && (any || !d.used)) := rfl
      cases hw : (d.pins == 0 && (any || !d.used)) with
      | true =>
        have HFI := Lib.hid (HF.out (hdef.trans hw))
        rw [Bool.and_eq_true] at hw
        obtain ⟨w1, w2⟩ := hw
        clear hdef
        cases any with
        | true =>
          clear w2
          go_wp2_with fail
          go_region
          all_goals (try go_wp2_with fail)
          all_goals go_ret
          all_goals exact ⟨by rw [HFI.out]; rfl, by first | exact (HB.out.alloc HB.out.size _) | exact (HB.out.alloc HB.out.size _).drew | exact (HB.out.alloc HB.out.size _).trans (drewN_below _ _ _)⟩
        | false =>
          have hu : d.used = false := by simpa using w2
          rw [hu] at c2
          clear w2 hu
          go_wp2_with fail
          go_region
          all_goals (try go_wp2_with fail)
          all_goals go_ret
          all_goals exact ⟨by rw [HFI.out]; rfl, by first | exact (HB.out.alloc HB.out.size _) | exact (HB.out.alloc HB.out.size _).drew | exact (HB.out.alloc HB.out.size _).trans (drewN_below _ _ _)⟩
      | false =>
        have HXX := Lib.hid (HX.out (hdef.trans hw))
        cases hp : (d.pins == 0) with
        | false =>
          clear hdef hw
          go_wp2_with fail
          go_region
          all_goals (try go_wp2_with fail)
          all_goals go_roundw
          all_goals (try (first | exact ⟨k + 1, by omega, by go_num, HXX.out, HBX.out.alloc _, HB.out.alloc HB.out.size _⟩ | exact ⟨k + 1, by omega, by go_num, HXX.out, (HBX.out.alloc _).drew, (HB.out.alloc HB.out.size _).drew⟩ | exact ⟨k + 1, by omega, by go_num, HXX.out, (HBX.out.alloc _).drewN _, (HB.out.alloc HB.out.size _).trans (drewN_below _ _ _)⟩))
          all_goals (simp only [intOf]; omega)
        | true =>
          rw [hp, Bool.true_and, Bool.or_eq_false_iff] at hw
          obtain ⟨rfl, w2⟩ := hw
          have hu : d.used = true := by simpa using w2
          rw [hu] at c2
          clear hdef w2 hu
          go_wp2_with fail
          go_region
          all_goals (try go_wp2_with fail)
          all_goals go_roundw
          all_goals (try (first | exact ⟨k + 1, by omega, by go_num, HXX.out, HBX.out.alloc _, HB.out.alloc HB.out.size _⟩ | exact ⟨k + 1, by omega, by go_num, HXX.out, (HBX.out.alloc _).drew, (HB.out.alloc HB.out.size _).drew⟩ | exact ⟨k + 1, by omega, by go_num, HXX.out, (HBX.out.alloc _).drewN _, (HB.out.alloc HB.out.size _).trans (drewN_below _ _ _)⟩))
          all_goals (simp only [intOf]; omega)
    · obtain rfl : k = l.length := by omega
      have hfi : Ck.firstI any l H = -1 := by
        unfold Ck.firstI
        rw [Ck.first_none hno]
      have HFI := Lib.hid hfi
      clear hfi hlt hno hbx
      go_wp2_with fail
      go_ret
      exact ⟨by rw [HFI.out]; rfl, hB⟩

set_option maxRecDepth 100000 in
set_option maxHeartbeats 1600000 in
theorem ckSame_any (u v : Value) (a b : List Fr) (h k : Int) (w : World) (ha : frE.Sl w u a) (hb : frE.Sl w v b) :
    Calls Try.prog 20 #[.agg #[u, .int .i64 h], .agg #[v, .int .i64 k]] w fun e w' => e = .returned (.bool (decide (a = b ∧ h = k))) ∧ Below w.heap.size w w' := by
  obtain ⟨A, cap, rfl, h1, h2, h0, h3⟩ := ha
  obtain ⟨B, cap', rfl, k1, k2, k0, k3⟩ := hb
  unfold maxLen at h2 k2
  have H3 := Lib.hid h3
  have K3 := Lib.hid k3
  have hY : Below w.heap.size w ((w.alloc (.cells #[.slice A a.length cap, .int .i64 h] 27)).alloc (.cells #[.slice B b.length cap', .int .i64 k] 27)) := ((Below.refl _ _).alloc (Nat.le_refl _) _).alloc (by simp) _
  clear h3 h0 k3 k0
  by_cases hne : a.length = b.length
  · have hne1 : ((a.length : Int) != (b.length : Int)) = false := by rw [hne]; simp
    by_cases hhk : h = k
    · subst hhk
      have hhh : (h != h) = false := by simp
      have hb1 : Blk ((w.alloc (.cells #[.slice A a.length cap, .int .i64 h] 27)).alloc (.cells #[.slice B b.length cap', .int .i64 h] 27)) w.heap.size 27 #[.slice A a.length cap, .int .i64 h] := (Blk.new w _ _).alloc _
      have hb2 : Blk ((w.alloc (.cells #[.slice A a.length cap, .int .i64 h] 27)).alloc (.cells #[.slice B b.length cap', .int .i64 h] 27)) (w.heap.size + 1) 27 #[.slice B b.length cap', .int .i64 h] := by
        have := Blk.new (w.alloc (.cells #[.slice A a.length cap, .int .i64 h] 27)) 27 #[.slice B b.length cap', .int .i64 h]
        simpa using this
      have HST := Lib.hid (And.intro hb1 (And.intro hb2 hY))
      have HNE := Lib.hid hne
      clear hne hb1 hb2 hY
      go_enter Try.func20, Try.ntmps20
      go_wp2_with fail
      go_loopw [5] (fun i wr => ∃ k : Nat, k ≤ a.length ∧ i = .int .i64 k ∧ a.take k = b.take k ∧ Blk wr w.heap.size 27 #[.slice A a.length cap, .int .i64 h] ∧ Blk wr (w.heap.size + 1) 27 #[.slice B b.length cap', .int .i64 h] ∧ Below w.heap.size w wr) (fun i _ => a.length - (intOf i).toNat)
      case atStart => exact ⟨0, by omega, rfl, rfl, HST.out.1, HST.out.2.1, HST.out.2.2⟩
      case round =>
        obtain ⟨m, hm, rfl, heq, hx1, hx2, hB⟩ := hrel
        obtain ⟨f0, f1, _, _, l1⟩ := pair_cells hx1
        obtain ⟨g0, g1, _, _, l2⟩ := pair_cells hx2
        have HEQ := Lib.hid heq
        have HX := Lib.hid (And.intro hx1 hx2)
        clear heq hx1 hx2
        by_cases hlt : m < a.length
        · have hltb : m < b.length := by have := HNE.out; omega
          obtain ⟨ab, ao, rfl, hbl, hc⟩ := H3.out (by omega)
          obtain ⟨bb, bo, rfl, hbl', hc'⟩ := K3.out (by omega)
          obtain ⟨c0, c1, c2⟩ := fr_at (hc.below hB hbl) m hlt
          obtain ⟨d0, d1, d2⟩ := fr_at (hc'.below hB hbl') m hltb
          have hblt : ab < wr.heap.size := Nat.lt_of_lt_of_le hbl hB.size
          have hblt' : bb < wr.heap.size := Nat.lt_of_lt_of_le hbl' hB.size
          have hlta : (m : Int) < (a.length : Int) := by omega
          have hltbi : (m : Int) < (b.length : Int) := by omega
          have hk0 : (0 : Int) ≤ (m : Int) := by omega
          have ta : a.take (m + 1) = a.take m ++ [a[m]] := List.take_succ_eq_append_getElem hlt
          have tb : b.take (m + 1) = b.take m ++ [b[m]] := List.take_succ_eq_append_getElem hltb
          clear hc hc'
          by_cases he : a[m] = b[m]
          · have HST := Lib.hid (show a.take (m + 1) = b.take (m + 1) by rw [ta, tb, HEQ.out, he])
            rw [← he] at d0 d1 d2
            clear ta tb he
            generalize a[m] = x at *
            go_wp2_with fail
            go_quiet (fail)
            go_wp2_with fail
            go_roundw
            case rel => exact ⟨m + 1, by omega, by go_num, HST.out, HX.out.1.drewN _, HX.out.2.drewN _, hB.trans (drewN_below _ _ _)⟩
            case measure => simp [intOf]; omega
          · have HF := Lib.hid (show decide (a = b ∧ h = h) = false from decide_eq_false (by rintro ⟨rfl, _⟩; exact he rfl))
            have hne3 : ¬ (a[m].page = b[m].page ∧ a[m].pins = b[m].pins ∧ a[m].used = b[m].used) := by
              intro hh; apply he
              cases hx : a[m]; cases hy : b[m]; rw [hx, hy] at hh; simp at hh; simp [hh]
            clear ta tb he
            generalize a[m] = x at *
            generalize b[m] = y at *
            by_cases e1 : x.page = y.page
            · rw [← e1] at d0
              by_cases e2 : x.pins = y.pins
              · rw [← e2] at d1
                have e3 : x.used ≠ y.used := fun e => hne3 ⟨e1, e2, e⟩
                have e3b : (x.used == y.used) = false := by simpa using e3
                clear hne3 e1 e2 e3
                go_wp2_with fail
                go_quiet (fail)
                go_wp2_with fail
                go_ret
                exact ⟨by rw [HF.out]; rfl, hB.trans (drewN_below _ _ _)⟩
              · have e2b : (x.pins == y.pins) = false := by simpa using e2
                clear hne3 e1 e2
                go_wp2_with fail
                go_quiet (fail)
                go_wp2_with fail
                go_ret
                exact ⟨by rw [HF.out]; rfl, hB.trans (drewN_below _ _ _)⟩
            · have e1b : (x.page == y.page) = false := by simpa using e1
              clear hne3 e1
              go_wp2_with fail
              go_quiet (fail)
              go_wp2_with fail
              go_ret
              exact ⟨by rw [HF.out]; rfl, hB.trans (drewN_below _ _ _)⟩
        · have hge : a.length ≤ m := by omega
          have ht : a = b := by
            have h1 := HEQ.out
            rw [List.take_of_length_le hge, List.take_of_length_le (by have := HNE.out; omega)] at h1
            exact h1
          have HT := Lib.hid ht
          clear ht hlt
          go_wp2_with fail
          go_ret
          exact ⟨by first | (rw [show decide (a = b ∧ True) = true from decide_eq_true ⟨HT.out, trivial⟩]; rfl) | (rw [show decide (a = b ∧ h = h) = true from decide_eq_true ⟨HT.out, rfl⟩]; rfl), hB⟩
    · have hf : decide (a = b ∧ h = k) = false := decide_eq_false (fun e => hhk e.2)
      rw [hf]
      have hhk2 : (h != k) = true := by rw [bne_iff_ne]; exact hhk
      have HY := Lib.hid hY
      clear hne hf hhk hY
      go_enter Try.func20, Try.ntmps20
      go_wp2_with fail
      go_ret
      exact ⟨rfl, HY.out⟩
  · have hne1 : ((a.length : Int) != (b.length : Int)) = true := by rw [bne_iff_ne]; omega
    have hf : decide (a = b ∧ h = k) = false := decide_eq_false (by rintro ⟨rfl, _⟩; exact hne rfl)
    rw [hf]
    have HY := Lib.hid hY
    clear hne hf hY
    go_enter Try.func20, Try.ntmps20
    go_wp2_with fail
    go_ret
    exact ⟨rfl, HY.out⟩
end Go.Proofs.Ythhialnnhhemaaa
