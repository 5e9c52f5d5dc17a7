/- THE LAWS of layer 9, walked: ClockRound. Conditions: those of the arguments alone. -/
import Derived.Test.YthhialnnhhemaaaClockAwake
import Derived.ProofKit
namespace Go.Proofs.Ythhialnnhhemaaa
open Go.RowKit Go.ChangeShapes Go.WideShapes
set_option linter.unusedVariables false

def boolE : Enc Bool := ⟨fun a => [.bool a], 1, fun _ => rfl, by decide, by intro a u hu; simp at hu; subst hu; rfl⟩
theorem bool_at {w : World} {b off : Nat} {l : List Bool} (h : boolE.At w b off l) (i : Nat) (hi : i < l.length) : w.cell? ⟨b, off + i, none⟩ = some (.bool l[i]) := by
  have := h i hi 0 (by decide)
  simpa [boolE] using this
def BoolsArg (w : World) (v : Value) : Prop := ∃ l, boolE.Sl w v l ∧ ∀ a ∈ l, True
theorem cells_bool : Try.prog.cellsOf 4 = 1 := by kernel_rfl
theorem trod_boolE {H : Type} {enc : TypeId × Value → H} {w : World} {base : Nat} {spare : Nat → Bool} {held : Bool} (fuel : Nat) (cs : List Value) (x : DataW H × List MemPlace)
    (h : DataW.trod enc Try.prog w base spare held fuel 4 cs = some x) : ∃ a : Bool, cs = boolE.enc a ∧ True := by
  obtain ⟨a, hu, _⟩ := DataW.trod_bool Try.underlying4 h
  exact ⟨a, hu, trivial⟩
theorem open_bools {H : Type} {enc : TypeId × Value → H} {w : World} {r : Reach} {b0 : Nat} {spare : Nat → Bool} {held : Bool} {v : Value} {d : DataW H} {p : List MemPlace}
    (hv : Value.okWide Try.prog w r b0 43 v) (h : DataW.Trod enc Try.prog w 0 spare held 43 v d p) : BoolsArg w v :=
  Enc.open_rows (E := boolE) (ok := fun _ => True) Try.underlying43 cells_bool (fun fuel cs x h => trod_boolE fuel cs x h) hv h
theorem u8_of' {k : Int} (h : (Lit.int .u8 k).wf = true) : 0 ≤ k ∧ k ≤ 255 := by
  simpa [Lit.wf, IntKind.min, IntKind.max, IntKind.signed, IntKind.bits] using h

namespace Ck
/-- frames without pins, used or not -/
def initFr (us : List Bool) : List Fr := us.mapIdx fun i u => ⟨1 + (i : Int), 0, u⟩
theorem initFr_length (us : List Bool) : (initFr us).length = us.length := by simp [initFr]
theorem initFr_snoc {us : List Bool} {m : Nat} (hm : m < us.length) : initFr (us.take (m + 1)) = initFr (us.take m) ++ [⟨1 + (m : Int), 0, us[m]⟩] := by
  unfold initFr
  rw [List.take_succ_eq_append_getElem hm, List.mapIdx_append]
  simp [List.length_take, Nat.min_eq_left (Nat.le_of_lt hm)]
theorem initFr_good {us : List Bool} (h8 : us.length ≤ 8) : ∀ f ∈ initFr us, good f = true ∧ f.pins = 0 := by
  intro f hf
  unfold initFr at hf
  rw [List.mem_mapIdx] at hf
  obtain ⟨i, hi, rfl⟩ := hf
  refine ⟨?_, rfl⟩
  unfold good
  rw [decide_eq_true_iff]
  simp only
  omega
theorem after_good {l : List Fr} {h N : Nat} (hg : ∀ f ∈ l, good f = true ∧ f.pins = 0) : ∀ f ∈ after l h N, good f = true ∧ f.pins = 0 := by
  intro f hf
  obtain ⟨i, hi, rfl⟩ := List.getElem_of_mem hf
  rw [after_length] at hi
  rw [after_get _ _ _ _ hi]
  obtain ⟨a, b⟩ := hg _ (List.getElem_mem hi)
  refine ⟨?_, by rw [clear_pins]; exact b⟩
  unfold good at a ⊢
  rw [clear_page, clear_pins]
  exact a
theorem right_mk {l : List Fr} {H : Nat} (h8 : l.length ≤ 8) (hH : H < l.length) (hg : ∀ f ∈ l, good f = true ∧ f.pins = 0) : right l (H : Int) = true := by
  unfold right
  rw [Bool.and_eq_true, decide_eq_true_iff, List.all_eq_true]
  exact ⟨by omega, fun f hf => (hg f hf).1⟩
end Ck
theorem rem_nat (a n : Nat) : ((a : Int)).tmod (n : Int) = ((a % n : Nat) : Int) := by rw [Int.tmod_eq_emod_of_nonneg (by omega)]; rfl
/-- the clock's box is given other frames, beside a box that is new -/
theorem box_given {W w : World} {A A2 : Option Addr} {n c c2 : Nat} {h h2 : Int} {l : List Fr} (hx : Blk W w.heap.size 24 #[.slice A n c, .int .i64 h]) (ho : frE.Own W w.heap.size 42 (.slice A2 n c2) l) (hB : Below w.heap.size w W) (o : Obj) :
    (frE.Own (((W.alloc o).setCell ⟨w.heap.size, 0, none⟩ (.slice A2 n c2)).setCell ⟨w.heap.size, 1, none⟩ (.int .i64 h2)) w.heap.size 42 (.slice A2 n c2) l ∧ Blk (((W.alloc o).setCell ⟨w.heap.size, 0, none⟩ (.slice A2 n c2)).setCell ⟨w.heap.size, 1, none⟩ (.int .i64 h2)) w.heap.size 24 #[.slice A2 n c2, .int .i64 h2] ∧ Below w.heap.size w (((W.alloc o).setCell ⟨w.heap.size, 0, none⟩ (.slice A2 n c2)).setCell ⟨w.heap.size, 1, none⟩ (.int .i64 h2))) ∧
    (frE.Own (((W.setCell ⟨w.heap.size, 0, none⟩ (.slice A2 n c2)).setCell ⟨w.heap.size, 1, none⟩ (.int .i64 h2)).alloc o) w.heap.size 42 (.slice A2 n c2) l ∧ Blk (((W.setCell ⟨w.heap.size, 0, none⟩ (.slice A2 n c2)).setCell ⟨w.heap.size, 1, none⟩ (.int .i64 h2)).alloc o) w.heap.size 24 #[.slice A2 n c2, .int .i64 h2] ∧ Below w.heap.size w (((W.setCell ⟨w.heap.size, 0, none⟩ (.slice A2 n c2)).setCell ⟨w.heap.size, 1, none⟩ (.int .i64 h2)).alloc o)) := by
  have key : ∀ (V : World), Blk V w.heap.size 24 #[.slice A n c, .int .i64 h] → frE.Own V w.heap.size 42 (.slice A2 n c2) l → Below w.heap.size w V → frE.Own ((V.setCell ⟨w.heap.size, 0, none⟩ (.slice A2 n c2)).setCell ⟨w.heap.size, 1, none⟩ (.int .i64 h2)) w.heap.size 42 (.slice A2 n c2) l ∧ Blk ((V.setCell ⟨w.heap.size, 0, none⟩ (.slice A2 n c2)).setCell ⟨w.heap.size, 1, none⟩ (.int .i64 h2)) w.heap.size 24 #[.slice A2 n c2, .int .i64 h2] ∧ Below w.heap.size w ((V.setCell ⟨w.heap.size, 0, none⟩ (.slice A2 n c2)).setCell ⟨w.heap.size, 1, none⟩ (.int .i64 h2)) := by
    intro V hx ho hB
    have h1 := own_put ho hx (by decide) 0 (.slice A2 n c2)
    have h2' := own_put h1 (hx.put 0 (.slice A2 n c2)) (by decide) 1 (.int .i64 h2)
    exact ⟨h2', (pair_stored hx (.slice A2 n c2) (.int .i64 h2)).2.2.2, (hB.setCell (Nat.le_refl _) _).setCell (Nat.le_refl _) _⟩
  refine ⟨key _ (hx.alloc o) (World.ownsRow.alloc ho o) (hB.alloc hB.size o), ?_⟩
  obtain ⟨a, b, c⟩ := key W hx ho hB
  exact ⟨World.ownsRow.alloc a o, b.alloc o, c.alloc c.size o⟩
theorem infoFr2 : (Try.prog.info? 42).map (fun i => (i.zero, i.size, i.bytes)) = some (some (.agg #[.int .i64 0, .int .i64 0, .bool false]), 3, 24) := infoFr

set_option maxRecDepth 100000 in
set_option maxHeartbeats 3200000 in
theorem clockRound_walk {w : World} (v : Value) (ha : BoolsArg w v) (hand : Int) (wh : (Lit.int .u8 hand).wf = true) :
    Calls Try.prog 5 #[v, .int .u8 hand] w fun e w' => e = .returned (.bool true) ∧ Below w.heap.size w w' := by
  obtain ⟨us, hs, _⟩ := ha
  obtain ⟨a1, a2⟩ := u8_of' wh
  obtain ⟨A, cap, rfl, h1, h2, h0, h3⟩ := hs
  have H3 := Lib.hid h3
  clear h3 h0 wh
  by_cases hz : us.length = 0
  · rw [hz]
    go_enter Try.func5, Try.ntmps5
    go_wp2_with fail
    refine (awake09 _).mono ?_
    rintro e W1 ⟨rfl, hB⟩
    go_wp2_with fail
    go_ret
    exact ⟨rfl, hB⟩
  have hz1 : ((us.length : Int) == 0) = false := by rw [beq_eq_false_iff_ne]; omega
  by_cases h8 : (8 : Int) < (us.length : Int)
  · clear hz
    go_enter Try.func5, Try.ntmps5
    go_wp2_with fail
    refine (awake09 _).mono ?_
    rintro e W1 ⟨rfl, hB⟩
    go_wp2_with fail
    go_ret
    exact ⟨rfl, hB⟩
  have h8' : (us.length : Int) ≤ 8 := by omega
  obtain ⟨hn, rfl⟩ : ∃ hn : Nat, hand = (hn : Int) := ⟨hand.toNat, by omega⟩
  obtain ⟨H0, hH0⟩ : ∃ H0 : Nat, hn % us.length = H0 := ⟨_, rfl⟩
  have hH0l : H0 < us.length := by rw [← hH0]; exact Nat.mod_lt _ (by omega)
  have r1 : ((hn : Int)).tmod (us.length : Int) = (H0 : Int) := by rw [rem_nat, hH0]
  have r2 : (hn : Int) % (us.length : Int) = (H0 : Int) := by rw [← hH0]; rfl
  have hz2 : ¬ (us.length : Int) = 0 := by omega
  obtain ⟨i0, hi, hi1, hi2, hi3⟩ := info_parts infoFr2
  have HI := Lib.hid (And.intro hi (And.intro hi1 (And.intro hi2 hi3)))
  clear hz h8 hi hi1 hi2 hi3 hH0
  go_enter Try.func5, Try.ntmps5
  go_wp2_with fail
  go_loopw [6, 7, 30] (fun _ _ i wr => ∃ (m : Nat) (A : Option Addr) (c : Nat), m ≤ us.length ∧ i = .int .i64 m ∧ Blk wr w.heap.size 24 #[.slice A m c, .int .i64 H0] ∧ wr.ownsRow w.heap.size 42 3 (.slice A m c) m (frE.flat (Ck.initFr (us.take m))) ∧ Below w.heap.size w wr) (fun _ _ i _ => us.length - (intOf i).toNat)
  case atStart => exact ⟨0, none, 0, by omega, rfl, Blk.new w _ _, ⟨rfl, .inl ⟨rfl, rfl⟩⟩, (Below.refl _ _).alloc (Nat.le_refl _) _⟩
  case round =>
    obtain ⟨m, A2, c, hm, rfl, hbx, hown, hB⟩ := hrel
    clear r1 r2
    by_cases hlt : m < us.length
    · obtain ⟨b, off, rfl, hbl, hc⟩ := H3.out (by omega)
      have c0 := bool_at (hc.below hB hbl) m hlt
      have hblt : b < wr.heap.size := Nat.lt_of_lt_of_le hbl hB.size
      have hsn := Ck.initFr_snoc hlt
      have hcl : frE.flat (Ck.initFr (us.take (m + 1))) = frE.flat (Ck.initFr (us.take m)) ++ frE.enc ⟨1 + (m : Int), 0, us[m]⟩ := by rw [hsn, Enc.flat_append, Enc.flat_single]
      have HCL := Lib.hid hcl
      clear hc hsn hcl
      generalize us[m] = ub at c0 HCL
      obtain ⟨f0, f1, y0, y1, l1⟩ := pair_cells hbx
      have hm7 : m + 1 ≤ maxLen := by unfold maxLen; omega
      have hm8 : (m + 1) * 24 ≤ 140737488355328 := by omega
      have hmi : (m : Int) < 8 := by omega
      have HBX := Lib.hid hbx
      have HOWN := Lib.hid hown
      clear hbx hown
      go_wp2_with (at_builtin; go_must (refine wpList_append_own _ rfl _ _ 22 rfl w.heap.size 42 i0 (.agg #[.int .i64 0, .int .i64 0, .bool false]) 3 24 Try.underlying22 HI.out.1 HI.out.2.1 HI.out.2.2.1 HI.out.2.2.2 rfl (by decide) _ _ _ rfl (HOWN.out.alloc _) ⟨wr.heap.size, 0, none⟩ 1 1 (frE.enc ⟨1 + (m : Int), 0, ub⟩) rfl rfl ?c1 ?c2 hm7 hm8 ?c5 ?_))
      case c1 => have := news3 wr 42 (.int .i64 (1 + (m : Int))) (.int .i64 0) (.bool ub); simpa [frE] using this
      case c2 => exact frE.one _
      case c5 => have := hB.size; simp; omega
      intro v' w1 hown1 hgrow _
      have hB1 : Below w.heap.size w w1 := (hB.alloc hB.size _).grown hgrow (by have := hB.size; simp; omega) (own_base HOWN.out)
      have hbx1 := (HBX.out.alloc _).grown hgrow (own_ne HOWN.out HBX.out (by decide))
      obtain ⟨A', c', rfl⟩ := own_form hown1
      rw [← HCL.out] at hown1
      have hb2 : Blk (w1.setCell ⟨w.heap.size, 0, none⟩ (.slice A' (m + 1) c')) w.heap.size 24 #[.slice A' (m + 1) c', .int .i64 H0] := by have := hbx1.put 0 (.slice A' (m + 1) c'); simpa using this
      have ho2 := own_put hown1 hbx1 (by decide) 0 (.slice A' (m + 1) c')
      have hB2 := hB1.setCell (p := ⟨w.heap.size, 0, none⟩) (Nat.le_refl _) (.slice A' (m + 1) c')
      have HALL := Lib.hid (And.intro hb2 (And.intro ho2 hB2))
      clear f0 f1 y0 y1 l1
      obtain ⟨f0, f1, y0, y1, l1⟩ := pair_cells hbx1
      clear hgrow c0 hB hown1 hb2 ho2 hB2 hB1 hbx1
      go_wp2_with fail
      go_roundw
      case rel => exact ⟨m + 1, A', c', by omega, by go_num, HALL.out.1, HALL.out.2.1, HALL.out.2.2⟩
      case measure => simp only [intOf]; omega
    · obtain rfl : m = us.length := by omega
      rw [List.take_length] at hown
      have hown : frE.Own wr w.heap.size 42 (.slice A2 us.length c) (Ck.initFr us) := by unfold Enc.Own; rw [Ck.initFr_length]; exact hown
      have hg0 := Ck.initFr_good (us := us) (by omega)
      have hl0 := Ck.initFr_length us
      generalize Ck.initFr us = l0 at hown hg0 hl0
      have HST := Lib.hid (And.intro hg0 (And.intro hl0 (And.intro hown (And.intro hbx hB))))
      clear hown hg0 hl0 hbx hB hlt hm
      generalize wr = wq at *
      go_wp2_with fail
      go_loopw [8, 9, 10, 11, 12, 48] (fun la _ _ _ _ i wr => ∃ (k H : Nat) (A : Option Addr) (c : Nat) (l : List Fr), k ≤ 2 * us.length ∧ i = .int .i64 k ∧ ((k = 0 ∧ la = .int .i64 (-1)) ∨ ∃ L : Nat, la = .int .i64 L ∧ L < us.length ∧ (L + 1) % us.length = H) ∧ H < us.length ∧ l.length = us.length ∧ (∀ f ∈ l, Ck.good f = true ∧ f.pins = 0) ∧ Ck.Trail l H k ∧ frE.Own wr w.heap.size 42 (.slice A us.length c) l ∧ Blk wr w.heap.size 24 #[.slice A us.length c, .int .i64 H] ∧ Below w.heap.size w wr) (fun _ _ _ _ _ i _ => 2 * us.length - (intOf i).toNat)
      case atStart => exact ⟨0, H0, A2, c, l0, by omega, rfl, .inl ⟨rfl, rfl⟩, hH0l, HST.out.2.1, HST.out.1, fun i hi h => by omega, HST.out.2.2.1, HST.out.2.2.2.1, HST.out.2.2.2.2⟩
      case round =>
        obtain ⟨k, H, A3, c3, l, hk, rfl, hla, hH, hlen, hg, htr, hown, hbx, hB⟩ := hrel
        clear HST
        by_cases hlt : k < 2 * us.length
        · obtain ⟨N, hN⟩ := Ck.stop_free (l := l) (h := H) (by omega) ⟨l[0]'(by omega), List.getElem_mem _, (hg _ (List.getElem_mem _)).2⟩
          have hNl := Ck.stop_lt (by omega) hN
          have hrt := Ck.right_mk (l := l) (H := H) (by omega) (by omega) hg
          have S := sweep_yes _ l H N wr hown.sl hrt hN
          have htr2 := htr.sweep (by omega) (fun f hf => (hg f hf).2) hN
          have hg2 := Ck.after_good (h := H) (N := N) hg
          have hlen2 : (Ck.after l H N).length = us.length := by rw [Ck.after_length]; exact hlen
          have hkey : us.length < k → (H + N) % us.length = H := by
            intro hk2
            have := Ck.stop_unused (l := l) (h := H) (by omega) (fun f hf => (hg f hf).2) (htr.all (by omega) (by omega))
            rw [hN] at this
            obtain rfl : N = 0 := by simpa using this
            rw [Nat.add_zero, Nat.mod_eq_of_lt hH]
          rw [hlen] at htr2
          unfold SweepYes at S
          rw [hlen] at S
          obtain ⟨at1, hat1⟩ : ∃ at1, (H + N) % us.length = at1 := ⟨_, rfl⟩
          obtain ⟨hn1, hhn1⟩ : ∃ hn1, (H + N + 1) % us.length = hn1 := ⟨_, rfl⟩
          have hatl : at1 < us.length := by rw [← hat1]; exact Nat.mod_lt _ (by omega)
          have hhnl : hn1 < us.length := by rw [← hhn1]; exact Nat.mod_lt _ (by omega)
          have hrel : (at1 + 1) % us.length = hn1 := by rw [← hat1, ← hhn1]; exact Ck.mod_step H N us.length
          rw [hat1, hhn1] at S
          rw [hat1] at hkey
          rw [hhn1] at htr2
          generalize Ck.after l H N = l2 at S htr2 hg2 hlen2
          have S := Lib.hid S
          have HNEW := Lib.hid (And.intro hrel (And.intro hlen2 (And.intro hg2 htr2)))
          have HBX := Lib.hid hbx
          have HKEY := Lib.hid hkey
          obtain ⟨f0, f1, y0, y1, l1⟩ := pair_cells hbx
          have hki : (k : Int) < 2 * (us.length : Int) := by omega
          have hata : (0 : Int) ≤ (at1 : Int) := by omega
          have hatb : (at1 : Int) < (us.length : Int) := by omega
          clear hN hNl hrt htr2 hg2 hlen2 hkey hat1 hhn1 hrel hg htr hown hbx hlen
          by_cases hbig : us.length < k
          · obtain ⟨L, rfl, hL, hLH⟩ := hla.resolve_left (by omega)
            have hkb : (us.length : Int) < (k : Int) := by omega
            have hrem1 : ((L : Int) + 1).tmod (us.length : Int) = (at1 : Int) := by
              rw [show (L : Int) + 1 = ((L + 1 : Nat) : Int) by omega, rem_nat, hLH, HKEY.out hbig]
            have hrem2 : ((L : Int) + 1) % (us.length : Int) = (at1 : Int) := by
              rw [show (L : Int) + 1 = ((L + 1 : Nat) : Int) by omega, HKEY.out hbig, ← hLH]; rfl
            have hLi : (L : Int) ≤ 8 := by omega
            have haa : ((at1 : Int) != (at1 : Int)) = false := by simp
            clear hla hLH
            go_wp2_with fail
            refine S.out.mono ?_
            rintro e W1 ⟨⟨u, rfl, hu⟩, hB1⟩
            have hb := hB.trans (hB1.mono hB.size)
            obtain ⟨A4, c4, rfl, _, _, _⟩ := hu.sl.form (n := us.length) HNEW.out.2.1
            have hx := HBX.out.keep hB1
            have BG := Lib.hid (fun o => box_given (h2 := (hn1 : Int)) hx (hu.mono hB.size) hb o)
            clear f0 f1 y0 y1 l1
            obtain ⟨f0, f1, y0, y1, l1⟩ := pair_cells hx
            clear hB1 hb hx hu hB S
            go_wp2_with fail
            go_roundw
            case rel => exact ⟨k + 1, hn1, A4, c4, _, by omega, by go_num, .inr ⟨at1, rfl, hatl, HNEW.out.1⟩, hhnl, HNEW.out.2.1, HNEW.out.2.2.1, HNEW.out.2.2.2, by first | exact (BG.out _).1.1 | exact (BG.out _).2.1, by first | exact (BG.out _).1.2.1 | exact (BG.out _).2.2.1, by first | exact (BG.out _).1.2.2 | exact (BG.out _).2.2.2⟩
            case measure => simp only [intOf]; omega
          · have hkb : (k : Int) ≤ (us.length : Int) := by omega
            clear hbig
            rcases hla with ⟨rfl, rfl⟩ | ⟨L, rfl, hL, hLH⟩
            · have hnop := trivial
              go_wp2_with fail
              refine S.out.mono ?_
              rintro e W1 ⟨⟨u, rfl, hu⟩, hB1⟩
              have hb := hB.trans (hB1.mono hB.size)
              obtain ⟨A4, c4, rfl, _, _, _⟩ := hu.sl.form (n := us.length) HNEW.out.2.1
              have hx := HBX.out.keep hB1
              have BG := Lib.hid (fun o => box_given (h2 := (hn1 : Int)) hx (hu.mono hB.size) hb o)
              clear f0 f1 y0 y1 l1
              obtain ⟨f0, f1, y0, y1, l1⟩ := pair_cells hx
              clear hB1 hb hx hu hB S
              go_wp2_with fail
              go_roundw
              case rel => exact ⟨0 + 1, hn1, A4, c4, _, by omega, by go_num, .inr ⟨at1, rfl, hatl, HNEW.out.1⟩, hhnl, HNEW.out.2.1, HNEW.out.2.2.1, HNEW.out.2.2.2, by first | exact (BG.out _).1.1 | exact (BG.out _).2.1, by first | exact (BG.out _).1.2.1 | exact (BG.out _).2.2.1, by first | exact (BG.out _).1.2.2 | exact (BG.out _).2.2.2⟩
              case measure => simp only [intOf]; omega
            · clear hLH
              go_wp2_with fail
              refine S.out.mono ?_
              rintro e W1 ⟨⟨u, rfl, hu⟩, hB1⟩
              have hb := hB.trans (hB1.mono hB.size)
              obtain ⟨A4, c4, rfl, _, _, _⟩ := hu.sl.form (n := us.length) HNEW.out.2.1
              have hx := HBX.out.keep hB1
              have BG := Lib.hid (fun o => box_given (h2 := (hn1 : Int)) hx (hu.mono hB.size) hb o)
              clear f0 f1 y0 y1 l1
              obtain ⟨f0, f1, y0, y1, l1⟩ := pair_cells hx
              clear hB1 hb hx hu hB S
              go_wp2_with fail
              go_roundw
              case rel => exact ⟨k + 1, hn1, A4, c4, _, by omega, by go_num, .inr ⟨at1, rfl, hatl, HNEW.out.1⟩, hhnl, HNEW.out.2.1, HNEW.out.2.2.1, HNEW.out.2.2.2, by first | exact (BG.out _).1.1 | exact (BG.out _).2.1, by first | exact (BG.out _).1.2.1 | exact (BG.out _).2.2.1, by first | exact (BG.out _).1.2.2 | exact (BG.out _).2.2.2⟩
              case measure => simp only [intOf]; omega
        · obtain rfl : k = 2 * us.length := by omega
          clear hlt htr hown hbx hla hg hlen
          go_wp2_with fail
          refine (awake09 _).mono ?_
          rintro e W1 ⟨rfl, hB1⟩
          have hb := hB.trans (hB1.mono hB.size)
          go_wp2_with fail
          go_ret
          exact ⟨rfl, hb⟩
end Go.Proofs.Ythhialnnhhemaaa
