/- LAYER 9, walked: the sweep, where somebody goes. Conditions: the slice leads to the frames. -/
import Derived.Test.YthhialnnhhemaaaClockSweep
namespace Go.Proofs.Ythhialnnhhemaaa
open Go.RowKit
set_option linter.unusedVariables false

theorem fr_own {w : World} {B g cap : Nat} {t : TypeId} {l : List Fr} (h : frE.Own w B t (.slice (some ⟨g, 0, none⟩) l.length cap) l) (i : Nat) (hi : i < l.length) :
    w.cell? ⟨g, i * 3, none⟩ = some (.int .i64 l[i].page) ∧ w.cell? ⟨g, i * 3 + 1, none⟩ = some (.int .i64 l[i].pins) ∧ w.cell? ⟨g, i * 3 + 2, none⟩ = some (.bool l[i].used) ∧ w.frozen? ⟨g, i * 3 + 2, none⟩ = false ∧ g < w.heap.size := by
  obtain ⟨A, c, hv, _, _, _, h3⟩ := h.sl
  obtain ⟨b, off, hA, hbl, hc⟩ := h3 (by omega)
  simp only [Value.slice.injEq, true_and] at hv
  obtain ⟨hv1, _⟩ := hv
  rw [hA] at hv1
  simp only [Option.some.injEq, Addr.mk.injEq, and_true] at hv1
  obtain ⟨rfl, rfl⟩ := hv1
  obtain ⟨c0, c1, c2⟩ := fr_at hc i hi
  rw [Nat.zero_add] at c0 c1 c2
  exact ⟨c0, c1, c2, World.ownsRow.frozenAt h _, hbl⟩
theorem fr_stored {w : World} {B g cap : Nat} {t : TypeId} {l : List Fr} (h : frE.Own w B t (.slice (some ⟨g, 0, none⟩) l.length cap) l) (i : Nat) (hi : i < l.length) (b : Bool) :
    frE.Own (w.setCell ⟨g, i * 3 + 2, none⟩ (.bool b)) B t (.slice (some ⟨g, 0, none⟩) l.length cap) (l.set i { l[i] with used := b }) ∧ w.grownBy (w.setCell ⟨g, i * 3 + 2, none⟩ (.bool b)) (some g) := by
  have hs := World.ownsRow.stored h (i * 3 + 2) (.bool b)
  refine ⟨?_, hs.2⟩
  unfold Enc.Own
  rw [List.length_set, flat_used l i hi b]
  exact hs.1
theorem own_block_ne {w : World} {B g cap : Nat} {t t2 : TypeId} {l : List Fr} (h : frE.Own w B t (.slice (some ⟨g, 0, none⟩) l.length cap) l) {G : Nat} {cs : Array Value} (hb : Blk w G t2 cs) (hne : t2 ≠ t) : some g ≠ some G :=
  own_ne h hb hne
namespace Ck
theorem ends_pinned {l : List Fr} {H M : Nat} (hi : (H + M) % l.length < l.length) (h : 0 < (l[(H + M) % l.length]'hi).pins) : ends l H M = false := by
  unfold ends free
  rw [getD_eq hi, show ((l[(H + M) % l.length]'hi).pins == 0) = false by rw [beq_eq_false_iff_ne]; omega]
  rfl
theorem after_pinned {l : List Fr} {H M : Nat} (hh : H < l.length) (h : 0 < (l[(H + M) % l.length]'(mod_lt' hh)).pins) : after l H (M + 1) = after l H M := by
  rw [after_succ hh]
  have hi : (H + M) % l.length < (after l H M).length := by rw [after_length]; exact mod_lt' hh
  rw [set_eq_modify hi, after_get _ _ _ _ (mod_lt' hh), clear_pins, if_neg (by rw [beq_iff_eq]; omega), ← after_get _ _ _ _ (mod_lt' hh)]
  exact set_self hi
theorem after_cleared {l : List Fr} {H M : Nat} (hh : H < l.length) (h : (l[(H + M) % l.length]'(mod_lt' hh)).pins = 0) :
    after l H (M + 1) = (after l H M).set ((H + M) % l.length) { (after l H M)[(H + M) % l.length]'(by rw [after_length]; exact mod_lt' hh) with used := false } := by
  rw [after_succ hh]
  have hi : (H + M) % l.length < (after l H M).length := by rw [after_length]; exact mod_lt' hh
  rw [set_eq_modify hi]
  have hp : ((after l H M)[(H + M) % l.length]'hi).pins = 0 := by rw [after_get _ _ _ _ (mod_lt' hh), clear_pins]; exact h
  rw [if_pos (by rw [hp]; rfl)]
/-- what is used still, at step M, is no end; what is not, and has no pins, is one -/
theorem ends_used {l : List Fr} {H M : Nat} (hh : H < l.length) (hM : M < 2 * l.length) (h0 : (l[(H + M) % l.length]'(mod_lt' hh)).pins = 0) : ends l H M = !((after l H M)[(H + M) % l.length]'(by rw [after_length]; exact mod_lt' hh)).used := by
  rw [after_at hh hM]
  unfold ends free
  rw [getD_eq (mod_lt' hh)]
  simp only [h0]
  by_cases hl : l.length ≤ M
  · simp [hl]
  · simp [hl]
theorem mod_step (H M n : Nat) : ((H + M) % n + 1) % n = (H + (M + 1)) % n := by rw [Nat.mod_add_mod]; rfl
end Ck

set_option maxRecDepth 100000 in
set_option maxHeartbeats 1600000 in
theorem sweep_yes (v : Value) (l : List Fr) (H N : Nat) (w : World) (hs : frE.Sl w v l) (hr : Ck.right l (H : Int) = true) (hN : Ck.stop l H = some N) :
    Calls Try.prog 16 #[.agg #[v, .int .i64 H]] w fun e w' => SweepYes w.heap.size l H N e w' ∧ Below w.heap.size w w' := by
  have HS := Lib.hid hs
  obtain ⟨hl8, ⟨H', hHe, hH⟩, hg⟩ := Ck.right_parts hr
  obtain rfl : H = H' := by omega
  have hany : Ck.anyFree l = true := by
    rw [Ck.anyFree_iff hg]
    apply Classical.byContradiction
    intro hno
    have : Ck.stop l H = none := (Ck.stop_none_iff hH).2 (fun f hf => by
      unfold Ck.free
      rw [beq_eq_false_iff_ne]
      exact fun e => hno ⟨f, hf, e⟩)
    rw [this] at hN
    simp at hN
  have hfree := (Ck.anyFree_iff hg).1 hany
  obtain ⟨A, cap, rfl, _⟩ := hs
  have hY : Below w.heap.size w ((w.alloc (.cells #[.slice A l.length cap, .int .i64 H] 24)).alloc (.cells #[.slice none 0 0, .int .i64 0] 24)) := ((Below.refl _ _).alloc (Nat.le_refl _) _).alloc (by simp) _
  have hb1 : Blk ((w.alloc (.cells #[.slice A l.length cap, .int .i64 H] 24)).alloc (.cells #[.slice none 0 0, .int .i64 0] 24)) w.heap.size 24 #[.slice A l.length cap, .int .i64 H] := (Blk.new w _ _).alloc _
  have hb2 : Blk ((w.alloc (.cells #[.slice A l.length cap, .int .i64 H] 24)).alloc (.cells #[.slice none 0 0, .int .i64 0] 24)) (w.heap.size + 1) 24 #[.slice none 0 0, .int .i64 0] := by
    have := Blk.new (w.alloc (.cells #[.slice A l.length cap, .int .i64 H] 24)) 24 #[.slice none 0 0, .int .i64 0]
    simpa using this
  have HY := Lib.hid hY
  have HB1 := Lib.hid hb1
  have HB2 := Lib.hid hb2
  have S := cright_any (.slice A l.length cap) l (H : Int) _ (HS.out.below hY)
  have SC := fun W hw => contains_any (.slice A l.length cap) l W hw
  have CL := Lib.hid (fun W hw => fclone_any (.slice A l.length cap) l W hw (by omega))
  rw [hr] at S
  rw [hany] at SC
  have S := Lib.hid S
  have SC := Lib.hid SC
  have HF := Lib.hid hfree
  have HG := Lib.hid hg
  have HN := Lib.hid hN
  clear hY hb1 hb2 hr hany hfree hg hN hHe
  go_enter Try.func16, Try.ntmps16
  go_wp2_with fail
  refine S.out.mono ?_
  rintro e W0 ⟨rfl, hB0⟩
  have hb0 := HY.out.trans (hB0.mono HY.out.size)
  have HB1 := Lib.hid (HB1.out.keep hB0)
  have HB2 := Lib.hid (HB2.out.keep hB0)
  obtain ⟨f10, f11, y10, y11, l1⟩ := pair_cells HB1.out
  have SS := Lib.hid (SC.out W0 (HS.out.below hb0))
  clear hB0 S
  go_wp2_with fail
  refine SS.out.mono ?_
  rintro e W1 ⟨rfl, hB1⟩
  have hb := hb0.trans (hB1.mono hb0.size)
  have HB1 := Lib.hid (HB1.out.keep hB1)
  have HB2 := Lib.hid (HB2.out.keep hB1)
  clear f10 f11 y10 y11 l1 hB1 SS hb0
  obtain ⟨f10, f11, y10, y11, l1⟩ := pair_cells HB1.out
  have CC := Lib.hid (CL.out W1 (HS.out.below hb))
  go_wp2_with fail
  refine CC.out.mono ?_
  rintro e W2 ⟨⟨u, rfl, hown⟩, hB2⟩
  have hsz1 := hb.size
  have hb := hb.trans (hB2.mono hb.size)
  have HB1 := Lib.hid (HB1.out.keep hB2)
  have HB2 := Lib.hid (HB2.out.keep hB2)
  clear f10 f11 y10 y11 l1 hB2 CC
  obtain ⟨g, cap2, _, rfl, _, _, _, _, _, _⟩ := hown.blk (by omega)
  have hown := hown.mono hsz1
  have HOWN := Lib.hid hown
  obtain ⟨f10, f11, y10, y11, l1⟩ := pair_cells HB1.out
  have HBB := Lib.hid hb
  clear hown hb hsz1
  go_wp2_with fail
  go_loopg [6] (2 * l.length) (fun gk at' wr => ∃ M i : Nat, gk + M = 2 * l.length ∧ M < 2 * l.length ∧ i = (H + M) % l.length ∧ at' = .int .i64 i ∧ (∀ j, j < M → Ck.ends l H j = false) ∧ frE.Own wr w.heap.size 42 (.slice (some ⟨g, 0, none⟩) l.length cap2) (Ck.after l H M) ∧ Blk wr w.heap.size 24 #[.slice A l.length cap, .int .i64 H] ∧ Blk wr (w.heap.size + 1) 24 #[.slice none 0 0, .int .i64 0] ∧ Below w.heap.size w wr)
  case atStart => exact ⟨0, H, by omega, by omega, by rw [Nat.add_zero, Nat.mod_eq_of_lt hH], rfl, fun j hj => by omega, by rw [Ck.after_zero]; exact HOWN.out, HB1.out, HB2.out, HBB.out⟩
  case round =>
    obtain ⟨M, i, hgk, hM, hi, rfl, hno, hown, hx1, hx2, hb⟩ := hrel
    clear f10 f11 y10 y11 l1
    have hi' : i < l.length := by rw [hi]; exact Ck.mod_lt' hH
    have hil : i < (Ck.after l H M).length := by rw [Ck.after_length]; exact hi'
    have hown' : frE.Own wr w.heap.size 42 (.slice (some ⟨g, 0, none⟩) (Ck.after l H M).length cap2) (Ck.after l H M) := by rw [Ck.after_length]; exact hown
    have hgb : w.heap.size ≤ g := own_base hown g rfl
    have cells : ∀ W, Below wr.heap.size wr W → W.cell? ⟨g, i * 3, none⟩ = some (.int .i64 (Ck.after l H M)[i].page) ∧ W.cell? ⟨g, i * 3 + 1, none⟩ = some (.int .i64 (Ck.after l H M)[i].pins) ∧ W.cell? ⟨g, i * 3 + 2, none⟩ = some (.bool (Ck.after l H M)[i].used) ∧ W.frozen? ⟨g, i * 3 + 2, none⟩ = false ∧ g < W.heap.size :=
      fun W hB => fr_own (hown'.keep hB) i hil
    have hfp : (Ck.after l H M)[i].pins = l[i].pins := by rw [Ck.after_get _ _ _ _ hi', Ck.clear_pins]
    have hgood := HG.out l[i] (List.getElem_mem hi')
    unfold Ck.good at hgood
    rw [decide_eq_true_iff] at hgood
    have hst : l[i].pins = 0 → ∀ W, Below wr.heap.size wr W → frE.Own (W.setCell ⟨g, i * 3 + 2, none⟩ (.bool false)) w.heap.size 42 (.slice (some ⟨g, 0, none⟩) l.length cap2) (Ck.after l H (M + 1)) ∧ W.grownBy (W.setCell ⟨g, i * 3 + 2, none⟩ (.bool false)) (some g) := by
      intro h0 W hB
      have := fr_stored (hown'.keep hB) i hil false
      have e := Ck.after_cleared (M := M) hH (by simp only [← hi]; exact h0)
      simp only [← hi] at e
      rw [← e, Ck.after_length] at this
      exact this
    have hne1 : ∀ W, Below wr.heap.size wr W → some g ≠ some w.heap.size := fun W hB => own_ne hown hx1 (by decide)
    have hne2 : ∀ W, Below wr.heap.size wr W → some g ≠ some (w.heap.size + 1) := fun W hB => own_ne hown hx2 (by decide)
    have hendp : 0 < l[i].pins → Ck.ends l H M = false := fun h => Ck.ends_pinned (Ck.mod_lt' hH) (by simp only [← hi]; exact h)
    have hafp : 0 < l[i].pins → Ck.after l H (M + 1) = Ck.after l H M := fun h => Ck.after_pinned hH (by simp only [← hi]; exact h)
    have hendu : l[i].pins = 0 → Ck.ends l H M = !(Ck.after l H M)[i].used := by
      intro h0
      have := Ck.ends_used (M := M) hH hM (by simp only [← hi]; exact h0)
      simp only [← hi] at this
      exact this
    have hno2 : Ck.ends l H M = false → (∀ j, j < M + 1 → Ck.ends l H j = false) ∧ M + 1 < 2 * l.length := by
      intro h
      have h2 : ∀ j, j < M + 1 → Ck.ends l H j = false := by
        intro j hj
        by_cases e : j = M
        · subst e; exact h
        · exact hno j (by omega)
      refine ⟨h2, ?_⟩
      apply Classical.byContradiction
      intro hcon
      have := Ck.ends_some hH HF.out (fun j hj => h2 j (by omega))
      rw [h2 _ (by omega)] at this
      exact Bool.noConfusion this
    have hstop : Ck.ends l H M = true → M = N := by
      intro h
      have := Ck.stop_of_ends hH hM h hno
      rw [HN.out] at this
      simpa using this.symm
    have hnext : (i + 1) % l.length = (H + (M + 1)) % l.length := by rw [hi]; exact Ck.mod_step H M l.length
    have BE := Lib.hid (fun W hw => behind_any (.slice A l.length cap) l (H : Int) i W hw hi' (by omega))
    have HI := Lib.hid hi
    have HC := Lib.hid cells
    have HST := Lib.hid hst
    have HNE := Lib.hid (And.intro hne1 hne2)
    have HOWNR := Lib.hid hown
    have HX1 := Lib.hid hx1
    have HX2 := Lib.hid hx2
    have HNX := Lib.hid hnext
    have HNO2 := Lib.hid hno2
    have HSTOP := Lib.hid hstop
    have hii : (i : Int) < (l.length : Int) := by omega
    have hi0 : (0 : Int) ≤ (i : Int) := by omega
    have HGK := Lib.hid (And.intro hgk hM)
    generalize (Ck.after l H M)[i] = f at HC hfp hendu
    have P := fun W => pinned_any f W
    clear cells hst hne1 hne2 hown hown' hx1 hx2 hnext hno2 hstop hno hi hil hgk hM
    obtain ⟨c0, c1, c2, z2, lg⟩ := HC.out wr (Below.refl _ _)
    by_cases hp : 0 < l[i].pins
    · have HE := Lib.hid (HNO2.out (hendp hp))
      have HAF := Lib.hid (hafp hp)
      rw [decide_eq_true (show 0 < f.pins by omega)] at P
      have P := Lib.hid P
      clear hendp hafp hendu hgood hfp hp
      go_wp2_with fail
      refine (P.out wr).mono ?_
      rintro e W3 ⟨rfl, hB3⟩
      clear c0 c1 c2 z2 lg
      obtain ⟨c0, c1, c2, z2, lg⟩ := HC.out W3 hB3
      go_wp2_with fail
      refine (P.out W3).mono ?_
      rintro e W4 ⟨rfl, hB4⟩
      have hB := hB3.trans (hB4.mono hB3.size)
      clear c0 c1 c2 z2 lg hB3 hB4
      obtain ⟨f10, f11, y10, y11, l1⟩ := pair_cells (HX1.out.keep hB)
      have hbw := hb.trans (hB.mono hb.size)
      have BB := Lib.hid (BE.out W4 (HS.out.below hbw))
      go_wp2_with fail
      refine BB.out.mono ?_
      rintro e W5 ⟨rfl, hB5⟩
      have hB := hB.trans (hB5.mono hB.size)
      have hbw := hb.trans (hB.mono hb.size)
      clear hB5 BB f10 f11 y10 y11 l1
      go_wp2_with fail
      go_roundg (gk - 1)
      case measure => have := HGK.out; have := HE.out.2; omega
      case rel => exact ⟨M + 1, (i + 1) % l.length, by have := HGK.out; have := HE.out.2; omega, HE.out.2, HNX.out, rfl, HE.out.1, by rw [HAF.out]; exact HOWNR.out.keep hB, HX1.out.keep hB, HX2.out.keep hB, hbw⟩
    · have h0 : l[i].pins = 0 := by omega
      rw [decide_eq_false (show ¬ 0 < f.pins by omega)] at P
      have hendu := hendu h0
      have HST := Lib.hid (HST.out h0)
      cases hu : f.used with
      | true =>
        rw [hu] at hendu HC c2 P
        have P := Lib.hid P
        have HE := Lib.hid (HNO2.out hendu)
        clear hendp hafp hendu hgood hfp hp hu h0
        go_wp2_with fail
        refine (P.out wr).mono ?_
        rintro e W3 ⟨rfl, hB3⟩
        clear c0 c1 c2 z2 lg
        obtain ⟨c0, c1, c2, z2, lg⟩ := HC.out W3 hB3
        go_wp2_with fail
        refine (P.out W3).mono ?_
        rintro e W4 ⟨rfl, hB4⟩
        have hB := hB3.trans (hB4.mono hB3.size)
        clear c0 c1 c2 z2 lg hB3 hB4
        obtain ⟨c0, c1, c2, z2, lg⟩ := HC.out W4 hB
        obtain ⟨hos, hgr⟩ := HST.out W4 hB
        have hx1 := (HX1.out.keep hB).grown hgr (HNE.out.1 W4 hB)
        have hx2 := (HX2.out.keep hB).grown hgr (HNE.out.2 W4 hB)
        have hbw : Below w.heap.size w (W4.setCell ⟨g, i * 3 + 2, none⟩ (.bool false)) := (hb.trans (hB.mono hb.size)).setCell hgb _
        have HOS := Lib.hid hos
        have HX1 := Lib.hid hx1
        have HX2 := Lib.hid hx2
        have HBW := Lib.hid hbw
        obtain ⟨f10, f11, y10, y11, l1⟩ := pair_cells hx1
        have BB := Lib.hid (BE.out (W4.setCell ⟨g, i * 3 + 2, none⟩ (.bool false)) (HS.out.below hbw))
        clear hos hgr hx1 hx2 hbw
        go_wp2_with fail
        refine BB.out.mono ?_
        rintro e W5 ⟨rfl, hB5⟩
        have hbw := HBW.out.trans (hB5.mono HBW.out.size)
        have hos := HOS.out.keep hB5
        have hx1 := HX1.out.keep hB5
        have hx2 := HX2.out.keep hB5
        have HALL := Lib.hid (And.intro hos (And.intro hx1 (And.intro hx2 hbw)))
        clear hB5 BB f10 f11 y10 y11 l1 hos hx1 hx2 hbw c0 c1 c2 z2 lg
        go_wp2_with fail
        go_roundg (gk - 1)
        case measure => have := HGK.out; have := HE.out.2; omega
        case rel => exact ⟨M + 1, (i + 1) % l.length, by have := HGK.out; have := HE.out.2; omega, HE.out.2, HNX.out, rfl, HE.out.1, HALL.out.1, HALL.out.2.1, HALL.out.2.2.1, HALL.out.2.2.2⟩
      | false =>
        rw [hu] at hendu HC c2 P
        have P := Lib.hid P
        have hMN := HSTOP.out hendu
        subst hMN
        clear hendp hafp hendu hgood hfp hp hu h0
        go_wp2_with fail
        refine (P.out wr).mono ?_
        rintro e W3 ⟨rfl, hB3⟩
        clear c0 c1 c2 z2 lg
        obtain ⟨c0, c1, c2, z2, lg⟩ := HC.out W3 hB3
        obtain ⟨f10, f11, y10, y11, l1⟩ := pair_cells (HX1.out.keep hB3)
        have hbw := hb.trans (hB3.mono hb.size)
        have BB := Lib.hid (BE.out W3 (HS.out.below hbw))
        go_wp2_with fail
        refine BB.out.mono ?_
        rintro e W5 ⟨rfl, hB5⟩
        have hB := hB3.trans (hB5.mono hB3.size)
        have hbw := hb.trans (hB.mono hb.size)
        have hx2 := HX2.out.keep hB
        have hown5 := HOWNR.out.keep hB
        rw [HNX.out]
        generalize hz : (((H + (M + 1)) % l.length : Nat) : Int) = z
        have HZ := Lib.hid hz
        obtain ⟨f20, f21, z20, z21, l2⟩ := pair_cells hx2
        obtain ⟨d0, d1, d2, _⟩ := pair_stored hx2 (.slice (some ⟨g, 0, none⟩) l.length cap2) (.int .i64 z)
        have hf : Below w.heap.size w ((W5.setCell ⟨w.heap.size + 1, 0, none⟩ (.slice (some ⟨g, 0, none⟩) l.length cap2)).setCell ⟨w.heap.size + 1, 1, none⟩ (.int .i64 z)) := (hbw.setCell (by simp) _).setCell (by simp) _
        have hrow : frE.Own ((W5.setCell ⟨w.heap.size + 1, 0, none⟩ (.slice (some ⟨g, 0, none⟩) l.length cap2)).setCell ⟨w.heap.size + 1, 1, none⟩ (.int .i64 z)) w.heap.size 42 (.slice (some ⟨g, 0, none⟩) l.length cap2) (Ck.after l H M) := by
          have h1 := own_put hown5 hx2 (by decide) 0 (.slice (some ⟨g, 0, none⟩) l.length cap2)
          have hx3 := hx2.put 0 (.slice (some ⟨g, 0, none⟩) l.length cap2)
          exact own_put h1 hx3 (by decide) 1 (.int .i64 z)
        have HFIN := Lib.hid (And.intro hf hrow)
        clear hB3 hB5 BB f10 f11 y10 y11 l1 hbw hx2 hown5 hB hf hrow c0 c1 c2 z2 lg hz
        go_wp2_with fail
        refine bodyPost_ret (v := .tuple #[.agg #[.slice (some ⟨g, 0, none⟩) l.length cap2, .int .i64 z], .int .i64 i, .bool true]) (by simp [results, Try.results16, go_sem, d1, d2]) rfl ⟨⟨_, ?_, HFIN.out.2⟩, HFIN.out.1⟩
        rw [← HZ.out, HI.out]
        rfl
end Go.Proofs.Ythhialnnhhemaaa
