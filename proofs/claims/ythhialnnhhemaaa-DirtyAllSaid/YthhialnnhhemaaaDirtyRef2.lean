/- LAYER 14, walked: the document's rule who are items. Conditions: the slice leads to the items. -/
import Derived.Test.YthhialnnhhemaaaDirtyRef
namespace Go.Proofs.Ythhialnnhhemaaa
open Go.RowKit
set_option linter.unusedVariables false
namespace Dy
/-- which pages stand there: 17 cells -/
def there (l : List It) : Array Value := ((List.range 17).map fun q : Nat => Value.bool (hasPage l (q : Int))).toArray
theorem there_nil : there [] = (List.replicate 17 (Value.bool false)).toArray := rfl
theorem there_get (l : List It) (q : Nat) (hq : q < 17) : (there l)[q]? = some (.bool (hasPage l (q : Int))) := by
  unfold there
  rw [List.getElem?_toArray, List.getElem?_map, List.getElem?_range hq]
  rfl
theorem hasPage_snoc (l : List It) (a : It) (p : Int) : hasPage (l ++ [a]) p = (hasPage l p || (a.page == p)) := by
  unfold hasPage; rw [List.any_append]; simp
theorem there_size (l : List It) : (there l).size = 17 := by simp [there]
theorem there_put (l : List It) (a : It) (q : Nat) (hq : q < 17) (ha : a.page = (q : Int)) : (there l).setIfInBounds q (.bool true) = there (l ++ [a]) := by
  apply Array.ext_getElem?
  intro i
  rw [Array.getElem?_setIfInBounds]
  by_cases hi : i < 17
  · rw [there_get _ i hi, there_get _ i hi, hasPage_snoc, ha, there_size, if_pos hq]
    by_cases e : q = i
    · subst e; simp
    · rw [if_neg e]
      have : (((q : Nat) : Int) == ((i : Nat) : Int)) = false := by rw [beq_eq_false_iff_ne]; omega
      rw [this, Bool.or_false]
  · have h1 : (there l)[i]? = none := Array.getElem?_eq_none (by rw [there_size]; omega)
    have h2 : (there (l ++ [a]))[i]? = none := Array.getElem?_eq_none (by rw [there_size]; omega)
    rw [h1, h2, if_neg (by omega)]
theorem good_eq2 (l : List It) (a : It) : good l a = decide ((1 ≤ a.page ∧ a.page ≤ 16) ∧ hasPage l a.page = false ∧ last l ≤ a.since ∧ a.since ≤ 2147483647) := by
  rw [Bool.eq_iff_iff, good_iff, decide_eq_true_iff]
  constructor
  · rintro ⟨h1, h2, h3⟩
    refine ⟨h1, ?_, h3⟩
    unfold hasPage
    rw [List.any_eq_false]
    intro o ho
    simpa using h2 o ho
  · rintro ⟨h1, h2, h3⟩
    refine ⟨h1, ?_, h3⟩
    intro o ho
    unfold hasPage at h2
    rw [List.any_eq_false] at h2
    simpa using h2 o ho
theorem right_long {l : List It} (h : 16 < l.length) : right l = false := by
  rw [Bool.eq_false_iff]
  intro hr
  have := ((right_iff l).1 hr).short
  omega
end Dy

set_option maxRecDepth 100000 in
set_option maxHeartbeats 800000 in
theorem refRight_any (v : Value) (l : List It) (w : World) (h : itE.Sl w v l) :
    Calls Try.prog 24 #[v] w fun e w' => e = .returned (.bool (Dy.right l)) ∧ Below w.heap.size w w' := by
  obtain ⟨A, cap, rfl, h1, h2, h0, h3⟩ := h
  unfold maxLen at h2
  by_cases h16 : 16 < l.length
  · rw [Dy.right_long h16]
    have h16' : (16 : Int) < (l.length : Int) := by omega
    clear h3 h0
    go_enter Try.func24, Try.ntmps24
    go_wp2_with fail
    go_ret
    exact ⟨rfl, Below.refl _ _⟩
  have h16' : (l.length : Int) ≤ 16 := by omega
  have H3 := Lib.hid h3
  clear h3 h0 h16
  go_enter Try.func24, Try.ntmps24
  go_wp2_with fail
  go_loopw [4, 5, 6] (fun la i _ wr => ∃ k : Nat, k ≤ l.length ∧ i = .int .i64 k ∧ la = .int .i64 (Dy.last (l.take k)) ∧ Dy.right (l.take k) = true ∧ Blk wr w.heap.size 80 (Dy.there (l.take k)) ∧ Below w.heap.size w wr) (fun _ i _ _ => l.length - (intOf i).toNat)
  case atStart => exact ⟨0, by omega, rfl, rfl, rfl, Blk.new w _ _, (Below.refl _ _).alloc (Nat.le_refl _) _⟩
  case round =>
    obtain ⟨k, hk, rfl, rfl, hrt, hbt, hB⟩ := hrel
    have HRT := Lib.hid hrt
    clear hrt
    by_cases hlt : k < l.length
    · obtain ⟨b, off, rfl, hbl, hc⟩ := H3.out (by omega)
      obtain ⟨c0, c1⟩ := it_at (hc.below hB hbl) k hlt
      have hblt : b < wr.heap.size := Nat.lt_of_lt_of_le hbl hB.size
      have hlti : (k : Int) < (l.length : Int) := by omega
      have hk0 : (0 : Int) ≤ (k : Int) := by omega
      have HG := Lib.hid (Dy.good_eq2 (l.take k) l[k])
      have HBAD := Lib.hid (fun hh => Dy.bad_of hlt hh)
      have HSTEP := Lib.hid (Dy.right_step hlt)
      have HLAST := Lib.hid (Dy.last_take hlt)
      have HTS := Lib.hid (List.take_succ_eq_append_getElem hlt)
      clear hc
      generalize l[k] = a at c0 c1 HG HBAD HSTEP HLAST HTS
      generalize Dy.last (l.take k) = la at HG ⊢
      have hwsz : w.heap.size < wr.heap.size := hbt.lt
      by_cases hp1 : a.page < 1
      · have hbad : Dy.right l = false := HBAD.out (HG.out.trans (decide_eq_false (fun h' => by omega)))
        have HBD := Lib.hid hbad
        clear hbad
        go_wp2_with fail
        go_ret
        exact ⟨by rw [HBD.out]; rfl, hB.alloc hB.size _⟩
      by_cases hp2 : 16 < a.page
      · have hbad : Dy.right l = false := HBAD.out (HG.out.trans (decide_eq_false (fun h' => by omega)))
        have HBD := Lib.hid hbad
        clear hbad hp1
        have hp1' : 1 ≤ a.page := by omega
        go_wp2_with fail
        go_ret
        exact ⟨by rw [HBD.out]; rfl, hB.alloc hB.size _⟩
      obtain ⟨q, hq⟩ : ∃ q : Nat, a.page = (q : Int) := ⟨a.page.toNat, by omega⟩
      have HPUT := Lib.hid (fun hq17 => Dy.there_put (l.take k) a q hq17 hq)
      have hq17 : q < 17 := by omega
      have hq17i : (q : Int) < 17 := by omega
      have hq0 : (0 : Int) ≤ (q : Int) := by omega
      have hqt : ((q : Int)).toNat = q := by omega
      have hq1 : (1 : Int) ≤ (q : Int) := by omega
      have hq16 : (q : Int) ≤ 16 := by omega
      have hbt2 := hbt.alloc (.cells #[.int .i64 a.page, .int .i64 a.since] 60)
      have hcell := hbt2.cell q
      rw [Dy.there_get _ q hq17] at hcell
      rw [hq] at c0 HG hbt2 hcell
      have HPQ := Lib.hid hq
      clear hq hp1 hp2
      generalize hhp : Dy.hasPage (l.take k) (q : Int) = hp at hcell HG
      have hnfz := hbt2.frozen q
      cases hp with
      | true =>
        have hbad : Dy.right l = false := HBAD.out (HG.out.trans (decide_eq_false (fun h' => by simp at h')))
        have HBD := Lib.hid hbad
        clear hbad hhp
        go_wp2_with fail
        go_ret
        exact ⟨by rw [HBD.out]; rfl, hB.alloc hB.size _⟩
      | false =>
        clear hhp
        by_cases hs1 : a.since < la
        · have hbad : Dy.right l = false := HBAD.out (HG.out.trans (decide_eq_false (fun h' => by omega)))
          have HBD := Lib.hid hbad
          clear hbad
          go_wp2_with fail
          go_ret
          exact ⟨by rw [HBD.out]; rfl, hB.alloc hB.size _⟩
        have hs1' : la ≤ a.since := by omega
        by_cases hs2 : 2147483647 < a.since
        · have hbad : Dy.right l = false := HBAD.out (HG.out.trans (decide_eq_false (fun h' => by omega)))
          have HBD := Lib.hid hbad
          clear hbad hs1
          go_wp2_with fail
          go_ret
          exact ⟨by rw [HBD.out]; rfl, hB.alloc hB.size _⟩
        have hs2' : a.since ≤ 2147483647 := by omega
        have hgood : Dy.right (l.take (k + 1)) = true := HSTEP.out.trans (by rw [HRT.out, HG.out]; simp only [Bool.true_and, decide_eq_true_eq]; exact ⟨⟨hq1, hq16⟩, trivial, hs1', hs2'⟩)
        have HGD := Lib.hid hgood
        have hBa := hB.alloc hB.size (.cells #[.int .i64 (q : Int), .int .i64 a.since] 60)
        have hBp : Below w.heap.size w ((wr.alloc (.cells #[.int .i64 (q : Int), .int .i64 a.since] 60)).setCell ⟨w.heap.size, q, none⟩ (.bool true)) := hBa.setCell (Nat.le_refl _) _
        have hbp := hbt2.put q (.bool true)
        rw [HPUT.out hq17] at hbp
        have hBp2 : Below w.heap.size w ((wr.setCell ⟨w.heap.size, q, none⟩ (.bool true)).alloc (.cells #[.int .i64 (q : Int), .int .i64 a.since] 60)) := (hB.setCell (Nat.le_refl _) _).alloc (by have := hB.size; simp; omega) _
        have hbp2 := (hbt.put q (.bool true)).alloc (.cells #[.int .i64 (q : Int), .int .i64 a.since] 60)
        rw [HPUT.out hq17] at hbp2
        have hcb := Blk.new wr 60 #[.int .i64 (q : Int), .int .i64 a.since]
        have hf1 := (hcb.far (p := ⟨w.heap.size, q, none⟩) (by simp; omega) (.bool true)).cell 1
        have hsz : wr.heap.size < ((wr.alloc (.cells #[.int .i64 (q : Int), .int .i64 a.since] 60)).setCell ⟨w.heap.size, q, none⟩ (.bool true)).heap.size := by simp
        rw [show (#[Value.int .i64 (q : Int), .int .i64 a.since])[1]? = some (.int .i64 a.since) from rfl] at hf1
        clear hgood hs1 hs2 hbt2 hcb
        go_wp2_with fail
        go_roundw
        case rel => exact ⟨k + 1, by omega, by go_num, by rw [HLAST.out], HGD.out, by rw [HTS.out]; first | exact hbp2 | exact hbp, by first | exact hBp2 | exact hBp⟩
        case measure => simp [intOf]; omega
    · obtain rfl : k = l.length := by omega
      have hr := HRT.out
      rw [List.take_length] at hr
      have HR := Lib.hid hr
      clear hr hlt
      go_wp2_with fail
      go_ret
      exact ⟨by rw [HR.out]; rfl, hB⟩
end Go.Proofs.Ythhialnnhhemaaa
