/- LAYER 9, walked: who are clocks. Conditions: the slice leads to the frames. -/
import Derived.Test.YthhialnnhhemaaaClockWalks
namespace Go.Proofs.Ythhialnnhhemaaa
open Go.RowKit
set_option linter.unusedVariables false

theorem Ck.all_take {l : List Fr} {k : Nat} (hk : k < l.length) : (l.take (k + 1)).all Ck.good = ((l.take k).all Ck.good && Ck.good l[k]) := by
  rw [List.take_succ_eq_append_getElem hk, List.all_append]; simp
theorem Ck.right_bad {l : List Fr} {h : Int} {k : Nat} (hk : k < l.length) (hb : Ck.good l[k] = false) : Ck.right l h = false := by
  unfold Ck.right
  rw [Bool.and_eq_false_iff]
  refine .inr ?_
  rw [List.all_eq_false]
  exact ⟨l[k], List.getElem_mem hk, by rw [hb]; decide⟩
set_option maxRecDepth 100000 in
set_option maxHeartbeats 800000 in
theorem cright_any (v : Value) (l : List Fr) (h : Int) (w : World) (hs : frE.Sl w v l) :
    Calls Try.prog 19 #[.agg #[v, .int .i64 h]] w fun e w' => e = .returned (.bool (Ck.right l h)) ∧ Below w.heap.size w w' := by
  have HS := Lib.hid hs
  obtain ⟨A, cap, rfl, h1, h2, h0, h3⟩ := hs
  unfold maxLen at h2
  have H3 := Lib.hid h3
  clear h3 h0
  have hY : Below w.heap.size w (w.alloc (.cells #[.slice A l.length cap, .int .i64 h] 24)) := (Below.refl _ _).alloc (Nat.le_refl _) _
  have hbox := Blk.new w 24 #[.slice A l.length cap, .int .i64 h]
  have HBOX := Lib.hid hbox
  have HY := Lib.hid hY
  by_cases h8 : 8 < l.length
  · have hr : Ck.right l h = false := by unfold Ck.right; rw [decide_eq_false (by omega)]; rfl
    rw [hr]
    have h8' : (8 : Int) < (l.length : Int) := by omega
    clear hr hY hbox
    go_enter Try.func19, Try.ntmps19
    go_wp2_with fail
    go_ret
    exact ⟨rfl, HY.out⟩
  have h8' : (l.length : Int) ≤ 8 := by omega
  have S := has_any (.slice A l.length cap) l h h _ (HS.out.below hY)
  by_cases hh : 0 ≤ h ∧ h < (l.length : Int)
  case neg =>
    have hr : Ck.right l h = false := by unfold Ck.right; rw [decide_eq_false (by omega)]; rfl
    rw [hr]
    rw [decide_eq_false hh] at S
    have S := Lib.hid S
    clear hr hY hbox hh h8
    go_enter Try.func19, Try.ntmps19
    go_wp2_with fail
    refine S.out.mono ?_
    rintro e W1 ⟨rfl, hB1⟩
    go_wp2_with fail
    go_ret
    exact ⟨rfl, HY.out.trans (hB1.mono HY.out.size)⟩
  rw [decide_eq_true hh] at S
  have S := Lib.hid S
  have HH := Lib.hid hh
  clear hY hbox hh h8
  go_enter Try.func19, Try.ntmps19
  go_wp2_with fail
  refine S.out.mono ?_
  rintro e W1 ⟨rfl, hB1⟩
  have hb := HY.out.trans (hB1.mono HY.out.size)
  have hbx := HBOX.out.keep hB1
  have hlt1 := hbx.lt
  have hf0 := hbx.cell 0
  rw [show (#[Value.slice A l.length cap, .int .i64 h])[0]? = some (.slice A l.length cap) from rfl] at hf0
  clear hB1 S HBOX hbx
  go_wp2_with fail
  go_loopw [4, 19] (fun _ i wr => ∃ k : Nat, k ≤ l.length ∧ i = .int .i64 k ∧ (l.take k).all Ck.good = true ∧ Below w.heap.size w wr) (fun _ i _ => l.length - (intOf i).toNat)
  case atStart => exact ⟨0, by omega, rfl, rfl, hb⟩
  case round =>
    obtain ⟨k, hk, rfl, hall, hB⟩ := hrel
    have HALL := Lib.hid hall
    clear hall hb hf0 hlt1
    by_cases hlt : k < l.length
    · obtain ⟨b, off, rfl, hbl, hc⟩ := H3.out (by omega)
      obtain ⟨c0, c1, c2⟩ := fr_at (hc.below hB hbl) k hlt
      have hblt : b < wr.heap.size := Nat.lt_of_lt_of_le hbl hB.size
      have HBAD := Lib.hid (fun hh => Ck.right_bad (h := h) hlt hh)
      have HSTEP := Lib.hid (Ck.all_take hlt)
      have hBa : ∀ o, Below w.heap.size w (wr.alloc o) := fun o => hB.alloc hB.size o
      have HBA := Lib.hid hBa
      clear hc hBa
      generalize l[k] = a at c0 c1 c2 HBAD HSTEP
      by_cases g1 : a.page < 0
      · have HBD := Lib.hid (HBAD.out (by unfold Ck.good; exact decide_eq_false (by omega)))
        go_wp2_with fail
        go_ret
        exact ⟨by rw [HBD.out]; rfl, HBA.out _⟩
      have g1' : 0 ≤ a.page := by omega
      clear g1
      by_cases g2 : 16 < a.page
      · have HBD := Lib.hid (HBAD.out (by unfold Ck.good; exact decide_eq_false (by omega)))
        go_wp2_with fail
        go_ret
        exact ⟨by rw [HBD.out]; rfl, HBA.out _⟩
      have g2' : a.page ≤ 16 := by omega
      clear g2
      by_cases g3 : a.pins < 0
      · have HBD := Lib.hid (HBAD.out (by unfold Ck.good; exact decide_eq_false (by omega)))
        go_wp2_with fail
        go_ret
        exact ⟨by rw [HBD.out]; rfl, HBA.out _⟩
      have g3' : 0 ≤ a.pins := by omega
      clear g3
      by_cases g4 : 2147483647 < a.pins
      · have HBD := Lib.hid (HBAD.out (by unfold Ck.good; exact decide_eq_false (by omega)))
        go_wp2_with fail
        go_ret
        exact ⟨by rw [HBD.out]; rfl, HBA.out _⟩
      have g4' : a.pins ≤ 2147483647 := by omega
      clear g4
      have hst : (l.take (k + 1)).all Ck.good = true := HSTEP.out.trans (by rw [HALL.out, show Ck.good a = true by unfold Ck.good; exact decide_eq_true ⟨g1', g2', g3', g4'⟩]; rfl)
      have HST := Lib.hid hst
      clear hst
      go_wp2_with fail
      go_roundw
      case rel => exact ⟨k + 1, by omega, by go_num, HST.out, HBA.out _⟩
      case measure => simp [intOf]; omega
    · obtain rfl : k = l.length := by omega
      have hr : Ck.right l h = true := by
        unfold Ck.right
        have := HALL.out
        rw [List.take_length] at this
        rw [this, decide_eq_true (by have := HH.out; omega)]; rfl
      have HR := Lib.hid hr
      clear hr hlt
      go_wp2_with fail
      go_ret
      exact ⟨by rw [HR.out]; rfl, hB⟩
end Go.Proofs.Ythhialnnhhemaaa
