/- THE LAWS of layer 14, walked: DirtyFirst. Conditions: those of the arguments alone. -/
import Derived.Test.YthhialnnhhemaaaDirtyOpen
import Derived.OpenShut
namespace Go.Proofs.Ythhialnnhhemaaa
open Go.RowKit Go.ChangeShapes Go.WideShapes
set_option linter.unusedVariables false

/-- an act: two bytes -/
def actE : Enc (Int × Int) := ⟨fun a => [.int .u8 a.1, .int .u8 a.2], 2, fun _ => rfl, by decide, by intro a u hu; simp at hu; rcases hu with rfl | rfl <;> rfl⟩
theorem act_at {w : World} {b off : Nat} {l : List (Int × Int)} (h : actE.At w b off l) (i : Nat) (hi : i < l.length) : w.cell? ⟨b, off + i * 2, none⟩ = some (.int .u8 l[i].1) ∧ w.cell? ⟨b, off + i * 2 + 1, none⟩ = some (.int .u8 l[i].2) :=
  ⟨by have := h i hi 0 (by decide); simpa [actE] using this, by have := h i hi 1 (by decide); simpa [actE] using this⟩
def ActArg (w : World) (v : Value) : Prop := ∃ l, actE.Sl w v l ∧ ∀ a ∈ l, (0 ≤ a.1 ∧ a.1 ≤ 255) ∧ 0 ≤ a.2 ∧ a.2 ≤ 255
theorem cells_u8 : Try.prog.cellsOf 5 = 1 := by kernel_rfl
theorem cells_act : Try.prog.cellsOf 71 = 2 := by kernel_rfl
theorem trod_act {H : Type} {enc : TypeId × Value → H} {w : World} {base : Nat} {spare : Nat → Bool} {held : Bool} (fuel : Nat) (cs : List Value) (x : DataW H × List MemPlace)
    (h : DataW.trod enc Try.prog w base spare held fuel 71 cs = some x) : ∃ a : Int × Int, cs = actE.enc a ∧ (0 ≤ a.1 ∧ a.1 ≤ 255) ∧ 0 ≤ a.2 ∧ a.2 ≤ 255 := by
  obtain ⟨xs, n, _, _, hlen, hl, hf⟩ := DataW.trod_array Try.underlying71 h
  have hl2 : cs.length = 2 := by rw [hlen, cells_act]
  match cs, hl2 with
  | [x0, x1], _ =>
    have one : ∀ (u : Value) (y : Option (DataW H × List MemPlace)), DataW.trod enc Try.prog w base spare held n 5 [u] = y → y.isSome → ∃ a, u = .int .u8 a ∧ 0 ≤ a ∧ a ≤ 255 := by
      intro u y hy hs
      obtain ⟨z, rfl⟩ := Option.isSome_iff_exists.1 hs
      obtain ⟨a, hu, _, wa⟩ := DataW.trod_int Try.underlying5 hy
      exact ⟨a, by simpa using hu, u8_of wa⟩
    have f0 := hf 0 (by omega)
    have f1 := hf 1 (by omega)
    rw [cells_u8] at f0 f1
    obtain ⟨a, rfl, ha⟩ := one x0 _ f0 (by rw [List.getElem?_eq_getElem (by omega)]; rfl)
    obtain ⟨b, rfl, hb⟩ := one x1 _ f1 (by rw [List.getElem?_eq_getElem (by omega)]; rfl)
    exact ⟨(a, b), rfl, ha, hb⟩
theorem open_acts {H : Type} {enc : TypeId × Value → H} {w : World} {r : Reach} {b0 : Nat} {spare : Nat → Bool} {held : Bool} {v : Value} {d : DataW H} {p : List MemPlace}
    (hv : Value.okWide Try.prog w r b0 69 v) (h : DataW.Trod enc Try.prog w 0 spare held 69 v d p) : ActArg w v :=
  Enc.open_rows (E := actE) (ok := fun a : Int × Int => (0 ≤ a.1 ∧ a.1 ≤ 255) ∧ 0 ≤ a.2 ∧ a.2 ≤ 255) Try.underlying69 cells_act (fun fuel cs x h => trod_act fuel cs x h) hv h

namespace Dy
/-- since when each page is dirty: 17 cells -/
def sinces (l : List It) : Array Value := ((List.range 17).map fun q : Nat => Value.int .i64 (sinceOf l (q : Int))).toArray
theorem sinces_get (l : List It) (q : Nat) (hq : q < 17) : (sinces l)[q]? = some (.int .i64 (sinceOf l (q : Int))) := by
  unfold sinces
  rw [List.getElem?_toArray, List.getElem?_map, List.getElem?_range hq]
  rfl
theorem sinces_size (l : List It) : (sinces l).size = 17 := by simp [sinces]
theorem sinces_put {l l' : List It} {q : Nat} {z : Int} (hq : q < 17) (h : ∀ p : Int, sinceOf l' p = if p = (q : Int) then z else sinceOf l p) : (sinces l).setIfInBounds q (.int .i64 z) = sinces l' := by
  apply Array.ext_getElem?
  intro i
  rw [Array.getElem?_setIfInBounds]
  by_cases hi : i < 17
  · rw [sinces_get _ i hi, sinces_get _ i hi, sinces_size, h]
    by_cases e : q = i
    · subst e; simp [hq]
    · rw [if_neg e, if_neg (by omega)]
  · have h1 : (sinces l)[i]? = none := Array.getElem?_eq_none (by rw [sinces_size]; omega)
    have h2 : (sinces l')[i]? = none := Array.getElem?_eq_none (by rw [sinces_size]; omega)
    rw [h1, h2, if_neg (by omega)]
theorem sinces_same {l : List It} {q : Nat} (hq : q < 17) (h : sinceOf l (q : Int) = 0) : (sinces l).setIfInBounds q (.int .i64 0) = sinces l := by
  apply sinces_put hq
  intro p
  by_cases e : p = (q : Int)
  · rw [if_pos e, e, h]
  · rw [if_neg e]
/-- the state of the law: right items, marked by now -/
structure St (l : List It) (t : Int) : Prop where
  right : right l = true
  pos : ∀ a ∈ l, 0 < a.since
  last : last l ≤ t
theorem St.nil : St [] 0 := ⟨rfl, by simp, by simp [last_nil]⟩
theorem has_since {l : List It} (h : ∀ a ∈ l, 0 < a.since) (p : Int) : hasPage l p = (sinceOf l p != 0) := by
  cases hp : hasPage l p with
  | false => rw [sinceOf_none (hasPage_false.1 hp)]; rfl
  | true =>
    rcases at_cases l p with ⟨e, hno⟩ | ⟨k, hk, e, _, _⟩
    · have := (at_has l p).2 hp; omega
    · rw [sinceOf_at hk e]
      have := h _ (List.getElem_mem hk)
      symm; rw [bne_iff_ne]; omega
theorem St.mark {l : List It} {t p now : Int} (h : St l t) (hp : 1 ≤ p ∧ p ≤ 16) (h1 : t ≤ now) (h2 : 0 < now) (h3 : now ≤ 2147483647) :
    (sinceOf l p ≠ 0 ∧ mark l p now = (l, 0) ∧ St l now) ∨ (sinceOf l p = 0 ∧ mark l p now = (l ++ [⟨p, now⟩], 0) ∧ St (l ++ [⟨p, now⟩]) now ∧ ∀ q : Int, sinceOf (l ++ [⟨p, now⟩]) q = if q = p then now else sinceOf l q) := by
  have hl := h.last
  rw [mark_ok h.right hp (by omega) h3]
  have hs := has_since h.pos p
  cases hh : hasPage l p with
  | true =>
    left
    rw [hh] at hs
    exact ⟨by simpa using hs.symm, rfl, h.right, h.pos, by omega⟩
  | false =>
    right
    rw [hh] at hs
    refine ⟨by simpa using hs.symm, rfl, ⟨right_new h.right hp (by omega) h3 hh, ?_, by rw [last_snoc]; exact Int.le_refl _⟩, ?_⟩
    · intro a ha
      rcases List.mem_append.1 ha with ha | ha
      · exact h.pos a ha
      · simp at ha; subst ha; exact h2
    · intro q
      exact sinceOf_snoc (a := ⟨p, now⟩) (hasPage_false.1 hh) q
theorem St.clean {l : List It} {t p now : Int} (h : St l t) (h1 : t ≤ now) (h0 : 0 ≤ now) :
    (sinceOf l p = 0 ∧ clean l p = (l, 3) ∧ St l now) ∨ (sinceOf l p ≠ 0 ∧ ∃ l', clean l p = (l', 0) ∧ St l' now ∧ ∀ q : Int, sinceOf l' q = if q = p then 0 else sinceOf l q) := by
  have hl := h.last
  have hs := has_since h.pos p
  have hok := (right_iff l).1 h.right
  unfold Dy.clean
  rw [h.right, if_pos rfl]
  cases hh : hasPage l p with
  | false =>
    left
    rw [hh] at hs
    exact ⟨by simpa using hs.symm, rfl, h.right, h.pos, by omega⟩
  | true =>
    right
    rw [hh] at hs
    refine ⟨by simpa using hs.symm, l.eraseIdx (at' l p).toNat, rfl, ⟨(right_iff _).2 (hok.erase _), ?_, ?_⟩, ?_⟩
    · intro a ha; exact h.pos a ((List.eraseIdx_sublist l _).subset ha)
    · unfold Dy.last
      cases hg : (l.eraseIdx (at' l p).toNat).getLast? with
      | none => exact h0
      | some b =>
        have hb := (List.eraseIdx_sublist l _).subset (List.mem_of_getLast? hg)
        have := hok.last b hb
        simp only
        omega
    · intro q
      rcases at_cases l p with ⟨e, hno⟩ | ⟨k, hk, e, e1, _⟩
      · have := (at_has l p).2 hh; omega
      · rw [e, Int.toNat_natCast, sinceOf_erase hok hk, e1]
end Dy

set_option maxRecDepth 100000 in
set_option maxHeartbeats 6400000 in
theorem dirtyFirst_walk {w : World} (v : Value) (ha : ActArg w v) (age : Int) (wa : (Lit.int .u8 age).wf = true) :
    Calls Try.prog 10 #[v, .int .u8 age] w fun e w' => e = .returned (.bool true) ∧ Below w.heap.size w w' := by
  obtain ⟨acts, hs, hfit⟩ := ha
  obtain ⟨a1, a2⟩ := u8_of wa
  have HFIT := Lib.hid hfit
  have HSA := Lib.hid hs
  obtain ⟨A, cap, rfl, h1, h2, h0, h3⟩ := hs
  have H3 := Lib.hid h3
  clear h3 h0 wa hfit
  go_enter Try.func10, Try.ntmps10
  go_wp2_with fail
  go_loopw [5, 7, 8, 9, 10, 11, 12, 13, 14, 15, 16, 17, 18, 19, 106] (fun v i _ _ _ _ _ _ _ _ _ _ _ _ _ wr => ∃ (k : Nat) (v0 : Value) (l : List It), k ≤ acts.length ∧ k ≤ 60 ∧ i = .int .i64 k ∧ v0 = v ∧ itE.Sl wr v0 l ∧ (∀ g, v0.ownBlock = some g → w.heap.size < g) ∧ l.length ≤ 60 ∧ Dy.St l (10 * (k : Int)) ∧ Blk wr w.heap.size 70 (Dy.sinces l) ∧ Below w.heap.size w wr) (fun _ i _ _ _ _ _ _ _ _ _ _ _ _ _ _ => 60 - (intOf i).toNat)
  case atStart => exact ⟨0, _, [], by omega, by omega, rfl, rfl, Enc.Sl.nil _, fun g hg => by simp [Value.ownBlock] at hg, by simp, Dy.St.nil, Blk.new w _ _, (Below.refl _ _).alloc (Nat.le_refl _) _⟩
  case round =>
    obtain ⟨k, v, l, hka, hk60, rfl, rfl, hsl, hne, hl60, hst, hbs, hB⟩ := hrel
    have HNE := Lib.hid hne
    have HS := Lib.hid hsl
    have HST := Lib.hid hst
    have HBS := Lib.hid hbs
    have hl60' : l.length ≤ 1000000 := by omega
    clear hsl hst hbs hne
    by_cases hlt : k < acts.length ∧ k < 60
    · obtain ⟨hlt1, hlt2⟩ := hlt
      obtain ⟨b, off, rfl, hbl, hc⟩ := H3.out (by omega)
      obtain ⟨c0, c1⟩ := act_at (hc.below hB hbl) k hlt1
      have hblt : b < wr.heap.size := Nat.lt_of_lt_of_le hbl hB.size
      have hki : (k : Int) < (acts.length : Int) := by omega
      have hk0 : (0 : Int) ≤ (k : Int) := by omega
      have hk6 : (k : Int) < 60 := by omega
      obtain ⟨⟨x1, x2⟩, y1, y2⟩ := HFIT.out acts[k] (List.getElem_mem hlt1)
      clear hc
      generalize acts[k] = d at c0 c1 x1 x2 y1 y2
      obtain ⟨dx, dy⟩ := d
      simp only at c0 c1 x1 x2 y1 y2
      obtain ⟨q, hq⟩ : ∃ q : Nat, 1 + dx % 16 = (q : Int) := ⟨(1 + dx % 16).toNat, by omega⟩
      have hq1 : 1 ≤ q := by omega
      have hq2 : q < 17 := by omega
      have hqi : (q : Int) < 17 := by omega
      have hq0 : (0 : Int) ≤ (q : Int) := by omega
      have hqt : ((q : Int)).toNat = q := by omega
      have hcell : wr.cell? ⟨w.heap.size, q, none⟩ = some (.int .i64 (Dy.sinceOf l (q : Int))) := by rw [HBS.out.cell, Dy.sinces_get _ q hq2]
      have hfr := HBS.out.frozen q
      have hwl := HBS.out.lt
      by_cases hm3 : dy % 3 = 0
      · have hm4 : ¬ 0 < dy % 3 := by omega
        rcases HST.out.clean (p := (q : Int)) (now := 10 * ((k : Int) + 1)) (by omega) (by omega) with ⟨hz, hm, ht⟩ | ⟨hz, l2, hm, ht, hsn⟩
        · have SM := clean_at v l (q : Int) wr HS.out hl60'
          rw [hm] at SM
          rw [hz] at hcell
          have HT2 := Lib.hid ht
          have HPUT := Lib.hid (Dy.sinces_same hq2 hz)
          have SM := Lib.hid SM
          have HCELL := Lib.hid hcell
          clear hz hm ht hm3 hcell hfr
          go_wp2_with fail
          refine SM.out.mono ?_
          rintro e W2 ⟨⟨u2, rfl, hu2, hat⟩, hB2⟩
          have hb := hB.trans (hB2.mono hB.size)
          have hat2 : ∀ g, u2.ownBlock = some g → w.heap.size < g := by
            rcases hat with rfl | hat
            · exact HNE.out
            · intro g hg; have := hat g hg; omega
          have hbk := HBS.out.keep hB2
          have hcell : W2.cell? ⟨w.heap.size, q, none⟩ = some (.int .i64 0) := by rw [hB2.cell (p := ⟨w.heap.size, q, none⟩) hwl]; exact HCELL.out
          have hfr := hbk.frozen q
          have hwl2 := hbk.lt
          have HB2 := Lib.hid (show Blk (W2.setCell ⟨w.heap.size, q, none⟩ (.int .i64 0)) w.heap.size 70 (Dy.sinces l) by have := hbk.put q (.int .i64 0); rw [HPUT.out] at this; exact this)
          have HS2 := Lib.hid (hu2.set (p := ⟨w.heap.size, q, none⟩) (.int .i64 0) (fun g hg => by have := hat2 g hg; simp; omega))
          have hb := hb.setCell (p := ⟨w.heap.size, q, none⟩) (Nat.le_refl _) (.int .i64 0)
          have HNE := Lib.hid hat2
          clear hu2 hB2 hat hat2 hbk SM
          go_wp2_with fail
          generalize W2.setCell ⟨w.heap.size, q, none⟩ (.int .i64 0) = W2 at *
          clear hcell hfr hwl2
          have HOK := Lib.hid ((Dy.right_iff _).1 HT2.out.right)
          have t1 := Dy.due_take HOK.out (now := 10 * ((k : Int) + 1)) (age := age) a1
          have t2 := Dy.due_take HOK.out (now := 10 * ((k : Int) + 1) + 5) (age := age) a1
          have n1 := Dy.dueN_mono HOK.out (now := 10 * ((k : Int) + 1)) (now' := 10 * ((k : Int) + 1) + 5) (age := age) (age' := age) a1 a1 (by omega)
          have n2 := Dy.dueN_le l (10 * ((k : Int) + 1) + 5) age
          have D1 := due_any u2 l (10 * ((k : Int) + 1)) age W2 HS2.out (by unfold Dy.fits; omega) (by unfold Dy.fits; omega)
          have D2 := fun W hw => due_any u2 l (10 * ((k : Int) + 1) + 5) age W hw (by unfold Dy.fits; omega) (by unfold Dy.fits; omega)
          rw [t1.1] at D1
          rw [t2.1] at D2
          generalize Dy.dueN l (10 * ((k : Int) + 1)) age = s1 at n1 D1
          generalize Dy.dueN l (10 * ((k : Int) + 1) + 5) age = s2 at n1 n2 D2
          have D1 := Lib.hid D1
          have D2 := Lib.hid D2
          obtain ⟨A2, cap2, hu2, hl1, hl2, hl3⟩ := HS2.out.form rfl
          subst hu2
          have HL3 := Lib.hid hl3
          have n1i : (s1 : Int) ≤ (s2 : Int) := by omega
          have n2i : (s2 : Int) ≤ (l.length : Int) := by omega
          have n3i : l.length ≤ 16 := HOK.out.short
          have n4i : (s2 : Int) ≤ 16 := by omega
          have g1 : decide (s2 < s1) = false := decide_eq_false (by omega)
          have g2 : decide (l.length < s2) = false := decide_eq_false (by omega)
          clear t1 t2 hl3
          go_wp2_with fail
          refine D1.out.mono ?_
          rintro e W3 ⟨⟨z1, rfl, hz1⟩, hB3⟩
          have hb := hb.trans (hB3.mono hb.size)
          have HS2 := Lib.hid (HS2.out.below hB3)
          have HB2 := Lib.hid (HB2.out.keep hB3)
          have HZ1 := Lib.hid hz1.sl
          have HL3 := Lib.hid (Enc.At.carry HL3.out hB3)
          clear hz1 hB3 D1
          have D2 := Lib.hid (D2.out W3 HS2.out)
          go_wp2_with fail
          refine D2.out.mono ?_
          rintro e W4 ⟨⟨z2, rfl, hz2⟩, hB4⟩
          have hb := hb.trans (hB4.mono hb.size)
          have HS2 := Lib.hid (HS2.out.below hB4)
          have HB2 := Lib.hid (HB2.out.keep hB4)
          have HL3 := Lib.hid (Enc.At.carry HL3.out hB4)
          obtain ⟨Az1, cz1, rfl, _, _, p3⟩ := (HZ1.out.below hB4).form (n := s1) (by simp; omega)
          obtain ⟨Az2, cz2, rfl, _, _, q3⟩ := hz2.sl.form (n := s2) (by simp; omega)
          have HP := Lib.hid p3
          have HQ := Lib.hid q3
          have HBB := Lib.hid hb
          clear hz2 hB4 D2 p3 q3 HZ1 hb
          go_wp2_with fail
          go_loopw [16, 106] (fun _ i wq => ∃ m : Nat, m ≤ s2 ∧ i = .int .i64 m ∧ Below W4.heap.size W4 wq) (fun _ i _ => s2 - (intOf i).toNat)
          case atStart => exact ⟨0, by omega, rfl, Below.refl _ _⟩
          case round =>
            obtain ⟨m, hm, rfl, hBq⟩ := hrel
            by_cases hlm : m < s2
            · obtain ⟨bb, oo, rfl, hbl4, hc4⟩ := HL3.out (by omega)
              obtain ⟨b2, o2, rfl, hbl2, hc2⟩ := HQ.out (by omega)
              obtain ⟨e0, e1⟩ := it_at (hc4.below hBq hbl4) m (by omega)
              have e2 := int_at (hc2.below hBq hbl2) m (by simp; omega)
              rw [List.getElem_map, List.getElem_take] at e2
              have hb4 : bb < wr.heap.size := Nat.lt_of_lt_of_le hbl4 hBq.size
              have hb22 : b2 < wr.heap.size := Nat.lt_of_lt_of_le hbl2 hBq.size
              have hm1 : (m : Int) < (s2 : Int) := by omega
              have hm2 : (m : Int) < (l.length : Int) := by omega
              have hm0 : (0 : Int) ≤ (m : Int) := by omega
              clear hc4 hc2 e1
              by_cases hms : m < s1
              · obtain ⟨b3, o3, rfl, hbl3, hc3⟩ := HP.out (by omega)
                have e3 := int_at (hc3.below hBq hbl3) m (by simp; omega)
                rw [List.getElem_map, List.getElem_take] at e3
                have hb33 : b3 < wr.heap.size := Nat.lt_of_lt_of_le hbl3 hBq.size
                have hm3 : (m : Int) < (s1 : Int) := by omega
                have hd1 : decide ((m : Int) < (s1 : Int)) = true := decide_eq_true hm3
                clear hc3
                generalize (l[m]'(by omega)).page = pg at e0 e2 e3
                have hpp : (pg != pg) = false := by simp
                go_wp2_with fail
                go_quiet (fail)
                go_wp2_with fail
                go_roundw
                case rel => exact ⟨m + 1, by omega, by go_num, hBq.trans (drewN_below _ _ _)⟩
                case measure => first | (show s2 - ((m : Int) + 1).toNat < s2 - ((m : Int)).toNat; omega) | (simp only [intOf]; omega)
              · have hm3 : ¬ (m : Int) < (s1 : Int) := by omega
                have HM3 := Lib.hid hm3
                generalize (l[m]'(by omega)).page = pg at e0 e2
                have hpp : (pg != pg) = false := by simp
                clear hms hm3
                go_wp2_with fail
                have hd2 : decide (m < s1) = false := decide_eq_false (by have := HM3.out; omega)
                have hd3 : ¬ m < s1 := by have := HM3.out; omega
                have hd1 : decide ((m : Int) < (s1 : Int)) = false := decide_eq_false (by have := HM3.out; omega)
                go_quiet (fail)
                go_wp2_with fail
                go_roundw
                case rel => first | exact ⟨m + 1, by omega, by go_num, hBq.trans (drewN_below _ _ _)⟩ | exact ⟨_, _, _, _, _, _, _, _, _, _, _, _, _, _, _, _, _, _, _, _, _, _, _, _, _, _, _, _, _, _, _, _, _, ⟨m + 1, by omega, by go_num, hBq.trans (drewN_below _ _ _)⟩, rfl⟩ | exact ⟨_, _, _, _, _, _, _, _, _, _, _, _, _, _, _, _, _, _, _, _, _, _, _, _, _, _, _, _, _, _, _, _, ⟨m + 1, by omega, by go_num, hBq.trans (drewN_below _ _ _)⟩, rfl⟩ | exact ⟨_, _, _, _, _, _, _, _, _, _, _, _, _, _, _, _, _, _, _, _, _, _, _, _, _, _, _, _, _, _, _, _, _, _, ⟨m + 1, by omega, by go_num, hBq.trans (drewN_below _ _ _)⟩, rfl⟩
                case measure => first | (show s2 - ((m : Int) + 1).toNat < s2 - ((m : Int)).toNat; omega) | (simp only [intOf]; omega)
            · obtain rfl : m = s2 := by omega
              have hb := HBB.out.trans (hBq.mono HBB.out.size)
              have HS2 := Lib.hid (HS2.out.below hBq)
              have HB2 := Lib.hid (HB2.out.keep hBq)
              clear hlm hBq HP HQ HL3
              generalize wr = W5 at *
              go_wp2_with fail
              go_loopw [17, 18, 19] (fun p _ _ wq => ∃ m : Nat, m ≤ 16 ∧ p = .int .i64 ((m : Int) + 1) ∧ Below W5.heap.size W5 wq) (fun p _ _ _ => 20 - (intOf p).toNat)
              case atStart => exact ⟨0, by omega, rfl, Below.refl _ _⟩
              case round =>
                obtain ⟨m, hm, rfl, hBq⟩ := hrel
                by_cases hlm : m < 16
                · have SS := since_any _ l ((m : Int) + 1) wr (HS2.out.below hBq)
                  rw [HT2.out.right, if_pos rfl, Bool.true_and, Dy.has_since HT2.out.pos] at SS
                  have hcl := (HB2.out.keep hBq).cell (m + 1)
                  rw [Dy.sinces_get _ (m + 1) (by omega), show (((m + 1 : Nat)) : Int) = (m : Int) + 1 by omega] at hcl
                  have hwl2 := (HB2.out.keep hBq).lt
                  generalize Dy.sinceOf l ((m : Int) + 1) = z at SS hcl
                  have SS := Lib.hid SS
                  have hmt : ((m : Int) + 1).toNat = m + 1 := by omega
                  have hm1 : (m : Int) + 1 < 17 := by omega
                  have hm0 : (0 : Int) ≤ (m : Int) + 1 := by omega
                  have HCL := Lib.hid hcl
                  have HWL := Lib.hid hwl2
                  clear hcl hwl2
                  go_wp2_with fail
                  refine SS.out.mono ?_
                  rintro e W6 ⟨rfl, hB6⟩
                  have hcl : W6.cell? ⟨w.heap.size, m + 1, none⟩ = some (.int .i64 z) := by rw [hB6.cell (p := ⟨w.heap.size, m + 1, none⟩) HWL.out]; exact HCL.out
                  have hBq := hBq.trans (hB6.mono hBq.size)
                  have hwl6 : w.heap.size < W6.heap.size := Nat.lt_of_lt_of_le HWL.out hB6.size
                  have hzz : (z != z) = false := by simp
                  clear hB6 SS
                  cases hz : (z != 0) with
                  | true =>
                    go_wp2_with fail
                    go_roundw
                    case rel => first | exact ⟨m + 1, by omega, by go_num, hBq⟩ | exact ⟨_, _, _, _, _, _, _, _, _, _, _, _, _, _, _, _, _, _, _, _, _, _, _, _, ⟨m + 1, by omega, by go_num, hBq⟩, rfl⟩ | exact ⟨_, _, _, _, _, _, _, _, _, _, _, _, _, _, _, _, _, _, _, _, _, _, _, _, _, ⟨m + 1, by omega, by go_num, hBq⟩, rfl⟩ | exact ⟨_, _, _, _, _, _, _, _, _, _, _, _, _, _, _, _, _, _, _, _, _, _, _, ⟨m + 1, by omega, by go_num, hBq⟩, rfl⟩
                    case measure => first | (show 20 - ((m : Int) + 1 + 1).toNat < 20 - ((m : Int) + 1).toNat; omega) | (simp only [intOf]; omega)
                  | false =>
                    go_wp2_with fail
                    go_roundw
                    case rel => first | exact ⟨m + 1, by omega, by go_num, hBq⟩ | ((iterate 24 (refine Exists.intro _ ?_)); refine ⟨⟨m + 1, by omega, ?_, hBq⟩, rfl⟩; go_num)
                    case measure => first | (show 20 - ((m : Int) + 1 + 1).toNat < 20 - ((m : Int) + 1).toNat; omega) | (simp only [intOf]; omega)
                · obtain rfl : m = 16 := by omega
                  have hb := hb.trans (hBq.mono hb.size)
                  have HS2 := Lib.hid (HS2.out.below hBq)
                  have HB2 := Lib.hid (HB2.out.keep hBq)
                  clear hlm hBq
                  go_wp2_with fail
                  go_roundw
                  case rel => exact ⟨k + 1, _, l, by omega, by omega, by go_num, rfl, HS2.out, HNE.out, by have := HOK.out.short; omega, by rw [show 10 * (((k + 1 : Nat)) : Int) = 10 * ((k : Int) + 1) by omega]; exact HT2.out, HB2.out, hb⟩
                  case measure => simp only [intOf]; omega
        · have SM := clean_at v l (q : Int) wr HS.out hl60'
          rw [hm] at SM
          have HPUT := Lib.hid (Dy.sinces_put (z := 0) hq2 hsn)
          generalize Dy.sinceOf l (q : Int) = z0 at hcell hz
          have hz1 : (z0 != 0) = true := by rw [bne_iff_ne]; exact hz
          have HT2 := Lib.hid ht
          have SM := Lib.hid SM
          have HCELL := Lib.hid hcell
          clear hz hm ht hm3 hcell hfr hsn
          go_wp2_with fail
          refine SM.out.mono ?_
          rintro e W2 ⟨⟨u2, rfl, hu2, hat⟩, hB2⟩
          have hb := hB.trans (hB2.mono hB.size)
          have hat2 : ∀ g, u2.ownBlock = some g → w.heap.size < g := by
            rcases hat with rfl | hat
            · exact HNE.out
            · intro g hg; have := hat g hg; omega
          have hbk := HBS.out.keep hB2
          have hcell : W2.cell? ⟨w.heap.size, q, none⟩ = some (.int .i64 z0) := by rw [hB2.cell (p := ⟨w.heap.size, q, none⟩) hwl]; exact HCELL.out
          have hfr := hbk.frozen q
          have hwl2 := hbk.lt
          have HB2 := Lib.hid (show Blk (W2.setCell ⟨w.heap.size, q, none⟩ (.int .i64 0)) w.heap.size 70 (Dy.sinces l2) by have := hbk.put q (.int .i64 0); rw [HPUT.out] at this; exact this)
          have HS2 := Lib.hid (hu2.set (p := ⟨w.heap.size, q, none⟩) (.int .i64 0) (fun g hg => by have := hat2 g hg; simp; omega))
          have hb := hb.setCell (p := ⟨w.heap.size, q, none⟩) (Nat.le_refl _) (.int .i64 0)
          have HNE := Lib.hid hat2
          clear hu2 hB2 hat hat2 hbk SM
          go_wp2_with fail
          generalize W2.setCell ⟨w.heap.size, q, none⟩ (.int .i64 0) = W2 at *
          clear hcell hfr hwl2
          have HOK := Lib.hid ((Dy.right_iff _).1 HT2.out.right)
          have t1 := Dy.due_take HOK.out (now := 10 * ((k : Int) + 1)) (age := age) a1
          have t2 := Dy.due_take HOK.out (now := 10 * ((k : Int) + 1) + 5) (age := age) a1
          have n1 := Dy.dueN_mono HOK.out (now := 10 * ((k : Int) + 1)) (now' := 10 * ((k : Int) + 1) + 5) (age := age) (age' := age) a1 a1 (by omega)
          have n2 := Dy.dueN_le l2 (10 * ((k : Int) + 1) + 5) age
          have D1 := due_any u2 l2 (10 * ((k : Int) + 1)) age W2 HS2.out (by unfold Dy.fits; omega) (by unfold Dy.fits; omega)
          have D2 := fun W hw => due_any u2 l2 (10 * ((k : Int) + 1) + 5) age W hw (by unfold Dy.fits; omega) (by unfold Dy.fits; omega)
          rw [t1.1] at D1
          rw [t2.1] at D2
          generalize Dy.dueN l2 (10 * ((k : Int) + 1)) age = s1 at n1 D1
          generalize Dy.dueN l2 (10 * ((k : Int) + 1) + 5) age = s2 at n1 n2 D2
          have D1 := Lib.hid D1
          have D2 := Lib.hid D2
          obtain ⟨A2, cap2, hu2, hl1, hl2, hl3⟩ := HS2.out.form rfl
          subst hu2
          have HL3 := Lib.hid hl3
          have n1i : (s1 : Int) ≤ (s2 : Int) := by omega
          have n2i : (s2 : Int) ≤ (l2.length : Int) := by omega
          have n3i : l2.length ≤ 16 := HOK.out.short
          have n4i : (s2 : Int) ≤ 16 := by omega
          have g1 : decide (s2 < s1) = false := decide_eq_false (by omega)
          have g2 : decide (l2.length < s2) = false := decide_eq_false (by omega)
          clear t1 t2 hl3
          go_wp2_with fail
          refine D1.out.mono ?_
          rintro e W3 ⟨⟨z1, rfl, hz1⟩, hB3⟩
          have hb := hb.trans (hB3.mono hb.size)
          have HS2 := Lib.hid (HS2.out.below hB3)
          have HB2 := Lib.hid (HB2.out.keep hB3)
          have HZ1 := Lib.hid hz1.sl
          have HL3 := Lib.hid (Enc.At.carry HL3.out hB3)
          clear hz1 hB3 D1
          have D2 := Lib.hid (D2.out W3 HS2.out)
          go_wp2_with fail
          refine D2.out.mono ?_
          rintro e W4 ⟨⟨z2, rfl, hz2⟩, hB4⟩
          have hb := hb.trans (hB4.mono hb.size)
          have HS2 := Lib.hid (HS2.out.below hB4)
          have HB2 := Lib.hid (HB2.out.keep hB4)
          have HL3 := Lib.hid (Enc.At.carry HL3.out hB4)
          obtain ⟨Az1, cz1, rfl, _, _, p3⟩ := (HZ1.out.below hB4).form (n := s1) (by simp; omega)
          obtain ⟨Az2, cz2, rfl, _, _, q3⟩ := hz2.sl.form (n := s2) (by simp; omega)
          have HP := Lib.hid p3
          have HQ := Lib.hid q3
          have HBB := Lib.hid hb
          clear hz2 hB4 D2 p3 q3 HZ1 hb
          go_wp2_with fail
          go_loopw [16, 106] (fun _ i wq => ∃ m : Nat, m ≤ s2 ∧ i = .int .i64 m ∧ Below W4.heap.size W4 wq) (fun _ i _ => s2 - (intOf i).toNat)
          case atStart => exact ⟨0, by omega, rfl, Below.refl _ _⟩
          case round =>
            obtain ⟨m, hm, rfl, hBq⟩ := hrel
            by_cases hlm : m < s2
            · obtain ⟨bb, oo, rfl, hbl4, hc4⟩ := HL3.out (by omega)
              obtain ⟨b2, o2, rfl, hbl2, hc2⟩ := HQ.out (by omega)
              obtain ⟨e0, e1⟩ := it_at (hc4.below hBq hbl4) m (by omega)
              have e2 := int_at (hc2.below hBq hbl2) m (by simp; omega)
              rw [List.getElem_map, List.getElem_take] at e2
              have hb4 : bb < wr.heap.size := Nat.lt_of_lt_of_le hbl4 hBq.size
              have hb22 : b2 < wr.heap.size := Nat.lt_of_lt_of_le hbl2 hBq.size
              have hm1 : (m : Int) < (s2 : Int) := by omega
              have hm2 : (m : Int) < (l2.length : Int) := by omega
              have hm0 : (0 : Int) ≤ (m : Int) := by omega
              clear hc4 hc2 e1
              by_cases hms : m < s1
              · obtain ⟨b3, o3, rfl, hbl3, hc3⟩ := HP.out (by omega)
                have e3 := int_at (hc3.below hBq hbl3) m (by simp; omega)
                rw [List.getElem_map, List.getElem_take] at e3
                have hb33 : b3 < wr.heap.size := Nat.lt_of_lt_of_le hbl3 hBq.size
                have hm3 : (m : Int) < (s1 : Int) := by omega
                have hd1 : decide ((m : Int) < (s1 : Int)) = true := decide_eq_true hm3
                clear hc3
                generalize (l2[m]'(by omega)).page = pg at e0 e2 e3
                have hpp : (pg != pg) = false := by simp
                go_wp2_with fail
                go_quiet (fail)
                go_wp2_with fail
                go_roundw
                case rel => exact ⟨m + 1, by omega, by go_num, hBq.trans (drewN_below _ _ _)⟩
                case measure => first | (show s2 - ((m : Int) + 1).toNat < s2 - ((m : Int)).toNat; omega) | (simp only [intOf]; omega)
              · have hm3 : ¬ (m : Int) < (s1 : Int) := by omega
                have HM3 := Lib.hid hm3
                generalize (l2[m]'(by omega)).page = pg at e0 e2
                have hpp : (pg != pg) = false := by simp
                clear hms hm3
                go_wp2_with fail
                have hd2 : decide (m < s1) = false := decide_eq_false (by have := HM3.out; omega)
                have hd3 : ¬ m < s1 := by have := HM3.out; omega
                have hd1 : decide ((m : Int) < (s1 : Int)) = false := decide_eq_false (by have := HM3.out; omega)
                go_quiet (fail)
                go_wp2_with fail
                go_roundw
                case rel => first | exact ⟨m + 1, by omega, by go_num, hBq.trans (drewN_below _ _ _)⟩ | exact ⟨_, _, _, _, _, _, _, _, _, _, _, _, _, _, _, _, _, _, _, _, _, _, _, _, _, _, _, _, _, _, _, _, _, ⟨m + 1, by omega, by go_num, hBq.trans (drewN_below _ _ _)⟩, rfl⟩ | exact ⟨_, _, _, _, _, _, _, _, _, _, _, _, _, _, _, _, _, _, _, _, _, _, _, _, _, _, _, _, _, _, _, _, ⟨m + 1, by omega, by go_num, hBq.trans (drewN_below _ _ _)⟩, rfl⟩ | exact ⟨_, _, _, _, _, _, _, _, _, _, _, _, _, _, _, _, _, _, _, _, _, _, _, _, _, _, _, _, _, _, _, _, _, _, ⟨m + 1, by omega, by go_num, hBq.trans (drewN_below _ _ _)⟩, rfl⟩
                case measure => first | (show s2 - ((m : Int) + 1).toNat < s2 - ((m : Int)).toNat; omega) | (simp only [intOf]; omega)
            · obtain rfl : m = s2 := by omega
              have hb := HBB.out.trans (hBq.mono HBB.out.size)
              have HS2 := Lib.hid (HS2.out.below hBq)
              have HB2 := Lib.hid (HB2.out.keep hBq)
              clear hlm hBq HP HQ HL3
              generalize wr = W5 at *
              go_wp2_with fail
              go_loopw [17, 18, 19] (fun p _ _ wq => ∃ m : Nat, m ≤ 16 ∧ p = .int .i64 ((m : Int) + 1) ∧ Below W5.heap.size W5 wq) (fun p _ _ _ => 20 - (intOf p).toNat)
              case atStart => exact ⟨0, by omega, rfl, Below.refl _ _⟩
              case round =>
                obtain ⟨m, hm, rfl, hBq⟩ := hrel
                by_cases hlm : m < 16
                · have SS := since_any _ l2 ((m : Int) + 1) wr (HS2.out.below hBq)
                  rw [HT2.out.right, if_pos rfl, Bool.true_and, Dy.has_since HT2.out.pos] at SS
                  have hcl := (HB2.out.keep hBq).cell (m + 1)
                  rw [Dy.sinces_get _ (m + 1) (by omega), show (((m + 1 : Nat)) : Int) = (m : Int) + 1 by omega] at hcl
                  have hwl2 := (HB2.out.keep hBq).lt
                  generalize Dy.sinceOf l2 ((m : Int) + 1) = z at SS hcl
                  have SS := Lib.hid SS
                  have hmt : ((m : Int) + 1).toNat = m + 1 := by omega
                  have hm1 : (m : Int) + 1 < 17 := by omega
                  have hm0 : (0 : Int) ≤ (m : Int) + 1 := by omega
                  have HCL := Lib.hid hcl
                  have HWL := Lib.hid hwl2
                  clear hcl hwl2
                  go_wp2_with fail
                  refine SS.out.mono ?_
                  rintro e W6 ⟨rfl, hB6⟩
                  have hcl : W6.cell? ⟨w.heap.size, m + 1, none⟩ = some (.int .i64 z) := by rw [hB6.cell (p := ⟨w.heap.size, m + 1, none⟩) HWL.out]; exact HCL.out
                  have hBq := hBq.trans (hB6.mono hBq.size)
                  have hwl6 : w.heap.size < W6.heap.size := Nat.lt_of_lt_of_le HWL.out hB6.size
                  have hzz : (z != z) = false := by simp
                  clear hB6 SS
                  cases hz : (z != 0) with
                  | true =>
                    go_wp2_with fail
                    go_roundw
                    case rel => first | exact ⟨m + 1, by omega, by go_num, hBq⟩ | exact ⟨_, _, _, _, _, _, _, _, _, _, _, _, _, _, _, _, _, _, _, _, _, _, _, _, ⟨m + 1, by omega, by go_num, hBq⟩, rfl⟩ | exact ⟨_, _, _, _, _, _, _, _, _, _, _, _, _, _, _, _, _, _, _, _, _, _, _, _, _, ⟨m + 1, by omega, by go_num, hBq⟩, rfl⟩ | exact ⟨_, _, _, _, _, _, _, _, _, _, _, _, _, _, _, _, _, _, _, _, _, _, _, ⟨m + 1, by omega, by go_num, hBq⟩, rfl⟩
                    case measure => first | (show 20 - ((m : Int) + 1 + 1).toNat < 20 - ((m : Int) + 1).toNat; omega) | (simp only [intOf]; omega)
                  | false =>
                    go_wp2_with fail
                    go_roundw
                    case rel => first | exact ⟨m + 1, by omega, by go_num, hBq⟩ | ((iterate 24 (refine Exists.intro _ ?_)); refine ⟨⟨m + 1, by omega, ?_, hBq⟩, rfl⟩; go_num)
                    case measure => first | (show 20 - ((m : Int) + 1 + 1).toNat < 20 - ((m : Int) + 1).toNat; omega) | (simp only [intOf]; omega)
                · obtain rfl : m = 16 := by omega
                  have hb := hb.trans (hBq.mono hb.size)
                  have HS2 := Lib.hid (HS2.out.below hBq)
                  have HB2 := Lib.hid (HB2.out.keep hBq)
                  clear hlm hBq
                  go_wp2_with fail
                  go_roundw
                  case rel => exact ⟨k + 1, _, l2, by omega, by omega, by go_num, rfl, HS2.out, HNE.out, by have := HOK.out.short; omega, by rw [show 10 * (((k + 1 : Nat)) : Int) = 10 * ((k : Int) + 1) by omega]; exact HT2.out, HB2.out, hb⟩
                  case measure => simp only [intOf]; omega
      · have hm4 : 0 < dy % 3 := by omega
        rcases HST.out.mark (p := (q : Int)) (now := 10 * ((k : Int) + 1)) (by omega) (by omega) (by omega) (by omega) with ⟨hz, hm, ht⟩ | ⟨hz, hm, ht, hsn⟩
        · have SM := mark_at v l (q : Int) (10 * ((k : Int) + 1)) wr HS.out hl60'
          rw [hm] at SM
          have HBE := HBS.out
          generalize Dy.sinceOf l (q : Int) = z0 at hcell hz
          have hz1 : (z0 == 0) = false := by rw [beq_eq_false_iff_ne]; exact hz
          have HT2 := Lib.hid ht
          have SM := Lib.hid SM
          have HCELL := Lib.hid hcell
          clear hz hm ht hm3 hcell hfr HBE
          go_wp2_with fail
          refine SM.out.mono ?_
          rintro e W2 ⟨⟨u2, rfl, hu2, hat⟩, hB2⟩
          have hb := hB.trans (hB2.mono hB.size)
          have hat2 : ∀ g, u2.ownBlock = some g → w.heap.size < g := by
            rcases hat with rfl | hat
            · exact HNE.out
            · intro g hg; have := hat g hg; omega
          have hbk := HBS.out.keep hB2
          have hcell : W2.cell? ⟨w.heap.size, q, none⟩ = some (.int .i64 z0) := by rw [hB2.cell (p := ⟨w.heap.size, q, none⟩) hwl]; exact HCELL.out
          have hfr := hbk.frozen q
          have hwl2 := hbk.lt
          have HB2 := Lib.hid hbk
          have HS2 := Lib.hid hu2
          have HNE := Lib.hid hat2
          clear hu2 hB2 hat hat2 hbk SM
          go_wp2_with fail
          clear hcell hfr hwl2
          have HOK := Lib.hid ((Dy.right_iff _).1 HT2.out.right)
          have t1 := Dy.due_take HOK.out (now := 10 * ((k : Int) + 1)) (age := age) a1
          have t2 := Dy.due_take HOK.out (now := 10 * ((k : Int) + 1) + 5) (age := age) a1
          have n1 := Dy.dueN_mono HOK.out (now := 10 * ((k : Int) + 1)) (now' := 10 * ((k : Int) + 1) + 5) (age := age) (age' := age) a1 a1 (by omega)
          have n2 := Dy.dueN_le l (10 * ((k : Int) + 1) + 5) age
          have D1 := due_any u2 l (10 * ((k : Int) + 1)) age W2 HS2.out (by unfold Dy.fits; omega) (by unfold Dy.fits; omega)
          have D2 := fun W hw => due_any u2 l (10 * ((k : Int) + 1) + 5) age W hw (by unfold Dy.fits; omega) (by unfold Dy.fits; omega)
          rw [t1.1] at D1
          rw [t2.1] at D2
          generalize Dy.dueN l (10 * ((k : Int) + 1)) age = s1 at n1 D1
          generalize Dy.dueN l (10 * ((k : Int) + 1) + 5) age = s2 at n1 n2 D2
          have D1 := Lib.hid D1
          have D2 := Lib.hid D2
          obtain ⟨A2, cap2, hu2, hl1, hl2, hl3⟩ := HS2.out.form rfl
          subst hu2
          have HL3 := Lib.hid hl3
          have n1i : (s1 : Int) ≤ (s2 : Int) := by omega
          have n2i : (s2 : Int) ≤ (l.length : Int) := by omega
          have n3i : l.length ≤ 16 := HOK.out.short
          have n4i : (s2 : Int) ≤ 16 := by omega
          have g1 : decide (s2 < s1) = false := decide_eq_false (by omega)
          have g2 : decide (l.length < s2) = false := decide_eq_false (by omega)
          clear t1 t2 hl3
          go_wp2_with fail
          refine D1.out.mono ?_
          rintro e W3 ⟨⟨z1, rfl, hz1⟩, hB3⟩
          have hb := hb.trans (hB3.mono hb.size)
          have HS2 := Lib.hid (HS2.out.below hB3)
          have HB2 := Lib.hid (HB2.out.keep hB3)
          have HZ1 := Lib.hid hz1.sl
          have HL3 := Lib.hid (Enc.At.carry HL3.out hB3)
          clear hz1 hB3 D1
          have D2 := Lib.hid (D2.out W3 HS2.out)
          go_wp2_with fail
          refine D2.out.mono ?_
          rintro e W4 ⟨⟨z2, rfl, hz2⟩, hB4⟩
          have hb := hb.trans (hB4.mono hb.size)
          have HS2 := Lib.hid (HS2.out.below hB4)
          have HB2 := Lib.hid (HB2.out.keep hB4)
          have HL3 := Lib.hid (Enc.At.carry HL3.out hB4)
          obtain ⟨Az1, cz1, rfl, _, _, p3⟩ := (HZ1.out.below hB4).form (n := s1) (by simp; omega)
          obtain ⟨Az2, cz2, rfl, _, _, q3⟩ := hz2.sl.form (n := s2) (by simp; omega)
          have HP := Lib.hid p3
          have HQ := Lib.hid q3
          have HBB := Lib.hid hb
          clear hz2 hB4 D2 p3 q3 HZ1 hb
          go_wp2_with fail
          go_loopw [16, 106] (fun _ i wq => ∃ m : Nat, m ≤ s2 ∧ i = .int .i64 m ∧ Below W4.heap.size W4 wq) (fun _ i _ => s2 - (intOf i).toNat)
          case atStart => exact ⟨0, by omega, rfl, Below.refl _ _⟩
          case round =>
            obtain ⟨m, hm, rfl, hBq⟩ := hrel
            by_cases hlm : m < s2
            · obtain ⟨bb, oo, rfl, hbl4, hc4⟩ := HL3.out (by omega)
              obtain ⟨b2, o2, rfl, hbl2, hc2⟩ := HQ.out (by omega)
              obtain ⟨e0, e1⟩ := it_at (hc4.below hBq hbl4) m (by omega)
              have e2 := int_at (hc2.below hBq hbl2) m (by simp; omega)
              rw [List.getElem_map, List.getElem_take] at e2
              have hb4 : bb < wr.heap.size := Nat.lt_of_lt_of_le hbl4 hBq.size
              have hb22 : b2 < wr.heap.size := Nat.lt_of_lt_of_le hbl2 hBq.size
              have hm1 : (m : Int) < (s2 : Int) := by omega
              have hm2 : (m : Int) < (l.length : Int) := by omega
              have hm0 : (0 : Int) ≤ (m : Int) := by omega
              clear hc4 hc2 e1
              by_cases hms : m < s1
              · obtain ⟨b3, o3, rfl, hbl3, hc3⟩ := HP.out (by omega)
                have e3 := int_at (hc3.below hBq hbl3) m (by simp; omega)
                rw [List.getElem_map, List.getElem_take] at e3
                have hb33 : b3 < wr.heap.size := Nat.lt_of_lt_of_le hbl3 hBq.size
                have hm3 : (m : Int) < (s1 : Int) := by omega
                have hd1 : decide ((m : Int) < (s1 : Int)) = true := decide_eq_true hm3
                clear hc3
                generalize (l[m]'(by omega)).page = pg at e0 e2 e3
                have hpp : (pg != pg) = false := by simp
                go_wp2_with fail
                go_quiet (fail)
                go_wp2_with fail
                go_roundw
                case rel => exact ⟨m + 1, by omega, by go_num, hBq.trans (drewN_below _ _ _)⟩
                case measure => first | (show s2 - ((m : Int) + 1).toNat < s2 - ((m : Int)).toNat; omega) | (simp only [intOf]; omega)
              · have hm3 : ¬ (m : Int) < (s1 : Int) := by omega
                have HM3 := Lib.hid hm3
                generalize (l[m]'(by omega)).page = pg at e0 e2
                have hpp : (pg != pg) = false := by simp
                clear hms hm3
                go_wp2_with fail
                have hd2 : decide (m < s1) = false := decide_eq_false (by have := HM3.out; omega)
                have hd3 : ¬ m < s1 := by have := HM3.out; omega
                have hd1 : decide ((m : Int) < (s1 : Int)) = false := decide_eq_false (by have := HM3.out; omega)
                go_quiet (fail)
                go_wp2_with fail
                go_roundw
                case rel => first | exact ⟨m + 1, by omega, by go_num, hBq.trans (drewN_below _ _ _)⟩ | exact ⟨_, _, _, _, _, _, _, _, _, _, _, _, _, _, _, _, _, _, _, _, _, _, _, _, _, _, _, _, _, _, _, _, _, ⟨m + 1, by omega, by go_num, hBq.trans (drewN_below _ _ _)⟩, rfl⟩ | exact ⟨_, _, _, _, _, _, _, _, _, _, _, _, _, _, _, _, _, _, _, _, _, _, _, _, _, _, _, _, _, _, _, _, ⟨m + 1, by omega, by go_num, hBq.trans (drewN_below _ _ _)⟩, rfl⟩ | exact ⟨_, _, _, _, _, _, _, _, _, _, _, _, _, _, _, _, _, _, _, _, _, _, _, _, _, _, _, _, _, _, _, _, _, _, ⟨m + 1, by omega, by go_num, hBq.trans (drewN_below _ _ _)⟩, rfl⟩
                case measure => first | (show s2 - ((m : Int) + 1).toNat < s2 - ((m : Int)).toNat; omega) | (simp only [intOf]; omega)
            · obtain rfl : m = s2 := by omega
              have hb := HBB.out.trans (hBq.mono HBB.out.size)
              have HS2 := Lib.hid (HS2.out.below hBq)
              have HB2 := Lib.hid (HB2.out.keep hBq)
              clear hlm hBq HP HQ HL3
              generalize wr = W5 at *
              go_wp2_with fail
              go_loopw [17, 18, 19] (fun p _ _ wq => ∃ m : Nat, m ≤ 16 ∧ p = .int .i64 ((m : Int) + 1) ∧ Below W5.heap.size W5 wq) (fun p _ _ _ => 20 - (intOf p).toNat)
              case atStart => exact ⟨0, by omega, rfl, Below.refl _ _⟩
              case round =>
                obtain ⟨m, hm, rfl, hBq⟩ := hrel
                by_cases hlm : m < 16
                · have SS := since_any _ l ((m : Int) + 1) wr (HS2.out.below hBq)
                  rw [HT2.out.right, if_pos rfl, Bool.true_and, Dy.has_since HT2.out.pos] at SS
                  have hcl := (HB2.out.keep hBq).cell (m + 1)
                  rw [Dy.sinces_get _ (m + 1) (by omega), show (((m + 1 : Nat)) : Int) = (m : Int) + 1 by omega] at hcl
                  have hwl2 := (HB2.out.keep hBq).lt
                  generalize Dy.sinceOf l ((m : Int) + 1) = z at SS hcl
                  have SS := Lib.hid SS
                  have hmt : ((m : Int) + 1).toNat = m + 1 := by omega
                  have hm1 : (m : Int) + 1 < 17 := by omega
                  have hm0 : (0 : Int) ≤ (m : Int) + 1 := by omega
                  have HCL := Lib.hid hcl
                  have HWL := Lib.hid hwl2
                  clear hcl hwl2
                  go_wp2_with fail
                  refine SS.out.mono ?_
                  rintro e W6 ⟨rfl, hB6⟩
                  have hcl : W6.cell? ⟨w.heap.size, m + 1, none⟩ = some (.int .i64 z) := by rw [hB6.cell (p := ⟨w.heap.size, m + 1, none⟩) HWL.out]; exact HCL.out
                  have hBq := hBq.trans (hB6.mono hBq.size)
                  have hwl6 : w.heap.size < W6.heap.size := Nat.lt_of_lt_of_le HWL.out hB6.size
                  have hzz : (z != z) = false := by simp
                  clear hB6 SS
                  cases hz : (z != 0) with
                  | true =>
                    go_wp2_with fail
                    go_roundw
                    case rel => first | exact ⟨m + 1, by omega, by go_num, hBq⟩ | exact ⟨_, _, _, _, _, _, _, _, _, _, _, _, _, _, _, _, _, _, _, _, _, _, _, _, ⟨m + 1, by omega, by go_num, hBq⟩, rfl⟩ | exact ⟨_, _, _, _, _, _, _, _, _, _, _, _, _, _, _, _, _, _, _, _, _, _, _, _, _, ⟨m + 1, by omega, by go_num, hBq⟩, rfl⟩ | exact ⟨_, _, _, _, _, _, _, _, _, _, _, _, _, _, _, _, _, _, _, _, _, _, _, ⟨m + 1, by omega, by go_num, hBq⟩, rfl⟩
                    case measure => first | (show 20 - ((m : Int) + 1 + 1).toNat < 20 - ((m : Int) + 1).toNat; omega) | (simp only [intOf]; omega)
                  | false =>
                    go_wp2_with fail
                    go_roundw
                    case rel => first | exact ⟨m + 1, by omega, by go_num, hBq⟩ | ((iterate 24 (refine Exists.intro _ ?_)); refine ⟨⟨m + 1, by omega, ?_, hBq⟩, rfl⟩; go_num)
                    case measure => first | (show 20 - ((m : Int) + 1 + 1).toNat < 20 - ((m : Int) + 1).toNat; omega) | (simp only [intOf]; omega)
                · obtain rfl : m = 16 := by omega
                  have hb := hb.trans (hBq.mono hb.size)
                  have HS2 := Lib.hid (HS2.out.below hBq)
                  have HB2 := Lib.hid (HB2.out.keep hBq)
                  clear hlm hBq
                  go_wp2_with fail
                  go_roundw
                  case rel => exact ⟨k + 1, _, l, by omega, by omega, by go_num, rfl, HS2.out, HNE.out, by have := HOK.out.short; omega, by rw [show 10 * (((k + 1 : Nat)) : Int) = 10 * ((k : Int) + 1) by omega]; exact HT2.out, HB2.out, hb⟩
                  case measure => simp only [intOf]; omega
        · have SM := mark_at v l (q : Int) (10 * ((k : Int) + 1)) wr HS.out hl60'
          rw [hm] at SM
          have HPUT := Lib.hid (Dy.sinces_put (z := 10 * ((k : Int) + 1)) hq2 hsn)
          rw [hz] at hcell
          obtain ⟨ln, hln⟩ : ∃ ln, ln = l ++ [(⟨(q : Int), 10 * ((k : Int) + 1)⟩ : It)] := ⟨_, rfl⟩
          rw [← hln] at SM HPUT ht
          have HT2 := Lib.hid ht
          have SM := Lib.hid SM
          have HCELL := Lib.hid hcell
          clear hz hm ht hm3 hcell hfr hsn hln
          go_wp2_with fail
          refine SM.out.mono ?_
          rintro e W2 ⟨⟨u2, rfl, hu2, hat⟩, hB2⟩
          have hb := hB.trans (hB2.mono hB.size)
          have hat2 : ∀ g, u2.ownBlock = some g → w.heap.size < g := by
            rcases hat with rfl | hat
            · exact HNE.out
            · intro g hg; have := hat g hg; omega
          have hbk := HBS.out.keep hB2
          have hcell : W2.cell? ⟨w.heap.size, q, none⟩ = some (.int .i64 0) := by rw [hB2.cell (p := ⟨w.heap.size, q, none⟩) hwl]; exact HCELL.out
          have hfr := hbk.frozen q
          have hwl2 := hbk.lt
          have HB2 := Lib.hid (show Blk (W2.setCell ⟨w.heap.size, q, none⟩ (.int .i64 (10 * ((k : Int) + 1)))) w.heap.size 70 (Dy.sinces ln) by have := hbk.put q (.int .i64 (10 * ((k : Int) + 1))); rw [HPUT.out] at this; exact this)
          have HS2 := Lib.hid (hu2.set (p := ⟨w.heap.size, q, none⟩) (.int .i64 (10 * ((k : Int) + 1))) (fun g hg => by have := hat2 g hg; simp; omega))
          have hb := hb.setCell (p := ⟨w.heap.size, q, none⟩) (Nat.le_refl _) (.int .i64 (10 * ((k : Int) + 1)))
          have HNE := Lib.hid hat2
          clear hu2 hB2 hat hat2 hbk SM
          go_wp2_with fail
          generalize W2.setCell ⟨w.heap.size, q, none⟩ (.int .i64 (10 * ((k : Int) + 1))) = W2 at *
          clear hcell hfr hwl2
          have HOK := Lib.hid ((Dy.right_iff _).1 HT2.out.right)
          have t1 := Dy.due_take HOK.out (now := 10 * ((k : Int) + 1)) (age := age) a1
          have t2 := Dy.due_take HOK.out (now := 10 * ((k : Int) + 1) + 5) (age := age) a1
          have n1 := Dy.dueN_mono HOK.out (now := 10 * ((k : Int) + 1)) (now' := 10 * ((k : Int) + 1) + 5) (age := age) (age' := age) a1 a1 (by omega)
          have n2 := Dy.dueN_le ln (10 * ((k : Int) + 1) + 5) age
          have D1 := due_any u2 ln (10 * ((k : Int) + 1)) age W2 HS2.out (by unfold Dy.fits; omega) (by unfold Dy.fits; omega)
          have D2 := fun W hw => due_any u2 ln (10 * ((k : Int) + 1) + 5) age W hw (by unfold Dy.fits; omega) (by unfold Dy.fits; omega)
          rw [t1.1] at D1
          rw [t2.1] at D2
          generalize Dy.dueN ln (10 * ((k : Int) + 1)) age = s1 at n1 D1
          generalize Dy.dueN ln (10 * ((k : Int) + 1) + 5) age = s2 at n1 n2 D2
          have D1 := Lib.hid D1
          have D2 := Lib.hid D2
          obtain ⟨A2, cap2, hu2, hl1, hl2, hl3⟩ := HS2.out.form rfl
          subst hu2
          have HL3 := Lib.hid hl3
          have n1i : (s1 : Int) ≤ (s2 : Int) := by omega
          have n2i : (s2 : Int) ≤ (ln.length : Int) := by omega
          have n3i : ln.length ≤ 16 := HOK.out.short
          have n4i : (s2 : Int) ≤ 16 := by omega
          have g1 : decide (s2 < s1) = false := decide_eq_false (by omega)
          have g2 : decide (ln.length < s2) = false := decide_eq_false (by omega)
          clear t1 t2 hl3
          go_wp2_with fail
          refine D1.out.mono ?_
          rintro e W3 ⟨⟨z1, rfl, hz1⟩, hB3⟩
          have hb := hb.trans (hB3.mono hb.size)
          have HS2 := Lib.hid (HS2.out.below hB3)
          have HB2 := Lib.hid (HB2.out.keep hB3)
          have HZ1 := Lib.hid hz1.sl
          have HL3 := Lib.hid (Enc.At.carry HL3.out hB3)
          clear hz1 hB3 D1
          have D2 := Lib.hid (D2.out W3 HS2.out)
          go_wp2_with fail
          refine D2.out.mono ?_
          rintro e W4 ⟨⟨z2, rfl, hz2⟩, hB4⟩
          have hb := hb.trans (hB4.mono hb.size)
          have HS2 := Lib.hid (HS2.out.below hB4)
          have HB2 := Lib.hid (HB2.out.keep hB4)
          have HL3 := Lib.hid (Enc.At.carry HL3.out hB4)
          obtain ⟨Az1, cz1, rfl, _, _, p3⟩ := (HZ1.out.below hB4).form (n := s1) (by simp; omega)
          obtain ⟨Az2, cz2, rfl, _, _, q3⟩ := hz2.sl.form (n := s2) (by simp; omega)
          have HP := Lib.hid p3
          have HQ := Lib.hid q3
          have HBB := Lib.hid hb
          clear hz2 hB4 D2 p3 q3 HZ1 hb
          go_wp2_with fail
          go_loopw [16, 106] (fun _ i wq => ∃ m : Nat, m ≤ s2 ∧ i = .int .i64 m ∧ Below W4.heap.size W4 wq) (fun _ i _ => s2 - (intOf i).toNat)
          case atStart => exact ⟨0, by omega, rfl, Below.refl _ _⟩
          case round =>
            obtain ⟨m, hm, rfl, hBq⟩ := hrel
            by_cases hlm : m < s2
            · obtain ⟨bb, oo, rfl, hbl4, hc4⟩ := HL3.out (by omega)
              obtain ⟨b2, o2, rfl, hbl2, hc2⟩ := HQ.out (by omega)
              obtain ⟨e0, e1⟩ := it_at (hc4.below hBq hbl4) m (by omega)
              have e2 := int_at (hc2.below hBq hbl2) m (by simp; omega)
              rw [List.getElem_map, List.getElem_take] at e2
              have hb4 : bb < wr.heap.size := Nat.lt_of_lt_of_le hbl4 hBq.size
              have hb22 : b2 < wr.heap.size := Nat.lt_of_lt_of_le hbl2 hBq.size
              have hm1 : (m : Int) < (s2 : Int) := by omega
              have hm2 : (m : Int) < (ln.length : Int) := by omega
              have hm0 : (0 : Int) ≤ (m : Int) := by omega
              clear hc4 hc2 e1
              by_cases hms : m < s1
              · obtain ⟨b3, o3, rfl, hbl3, hc3⟩ := HP.out (by omega)
                have e3 := int_at (hc3.below hBq hbl3) m (by simp; omega)
                rw [List.getElem_map, List.getElem_take] at e3
                have hb33 : b3 < wr.heap.size := Nat.lt_of_lt_of_le hbl3 hBq.size
                have hm3 : (m : Int) < (s1 : Int) := by omega
                have hd1 : decide ((m : Int) < (s1 : Int)) = true := decide_eq_true hm3
                clear hc3
                generalize (ln[m]'(by omega)).page = pg at e0 e2 e3
                have hpp : (pg != pg) = false := by simp
                go_wp2_with fail
                go_quiet (fail)
                go_wp2_with fail
                go_roundw
                case rel => exact ⟨m + 1, by omega, by go_num, hBq.trans (drewN_below _ _ _)⟩
                case measure => first | (show s2 - ((m : Int) + 1).toNat < s2 - ((m : Int)).toNat; omega) | (simp only [intOf]; omega)
              · have hm3 : ¬ (m : Int) < (s1 : Int) := by omega
                have HM3 := Lib.hid hm3
                generalize (ln[m]'(by omega)).page = pg at e0 e2
                have hpp : (pg != pg) = false := by simp
                clear hms hm3
                go_wp2_with fail
                have hd2 : decide (m < s1) = false := decide_eq_false (by have := HM3.out; omega)
                have hd3 : ¬ m < s1 := by have := HM3.out; omega
                have hd1 : decide ((m : Int) < (s1 : Int)) = false := decide_eq_false (by have := HM3.out; omega)
                go_quiet (fail)
                go_wp2_with fail
                go_roundw
                case rel => first | exact ⟨m + 1, by omega, by go_num, hBq.trans (drewN_below _ _ _)⟩ | exact ⟨_, _, _, _, _, _, _, _, _, _, _, _, _, _, _, _, _, _, _, _, _, _, _, _, _, _, _, _, _, _, _, _, _, ⟨m + 1, by omega, by go_num, hBq.trans (drewN_below _ _ _)⟩, rfl⟩ | exact ⟨_, _, _, _, _, _, _, _, _, _, _, _, _, _, _, _, _, _, _, _, _, _, _, _, _, _, _, _, _, _, _, _, ⟨m + 1, by omega, by go_num, hBq.trans (drewN_below _ _ _)⟩, rfl⟩ | exact ⟨_, _, _, _, _, _, _, _, _, _, _, _, _, _, _, _, _, _, _, _, _, _, _, _, _, _, _, _, _, _, _, _, _, _, ⟨m + 1, by omega, by go_num, hBq.trans (drewN_below _ _ _)⟩, rfl⟩
                case measure => first | (show s2 - ((m : Int) + 1).toNat < s2 - ((m : Int)).toNat; omega) | (simp only [intOf]; omega)
            · obtain rfl : m = s2 := by omega
              have hb := HBB.out.trans (hBq.mono HBB.out.size)
              have HS2 := Lib.hid (HS2.out.below hBq)
              have HB2 := Lib.hid (HB2.out.keep hBq)
              clear hlm hBq HP HQ HL3
              generalize wr = W5 at *
              go_wp2_with fail
              go_loopw [17, 18, 19] (fun p _ _ wq => ∃ m : Nat, m ≤ 16 ∧ p = .int .i64 ((m : Int) + 1) ∧ Below W5.heap.size W5 wq) (fun p _ _ _ => 20 - (intOf p).toNat)
              case atStart => exact ⟨0, by omega, rfl, Below.refl _ _⟩
              case round =>
                obtain ⟨m, hm, rfl, hBq⟩ := hrel
                by_cases hlm : m < 16
                · have SS := since_any _ ln ((m : Int) + 1) wr (HS2.out.below hBq)
                  rw [HT2.out.right, if_pos rfl, Bool.true_and, Dy.has_since HT2.out.pos] at SS
                  have hcl := (HB2.out.keep hBq).cell (m + 1)
                  rw [Dy.sinces_get _ (m + 1) (by omega), show (((m + 1 : Nat)) : Int) = (m : Int) + 1 by omega] at hcl
                  have hwl2 := (HB2.out.keep hBq).lt
                  generalize Dy.sinceOf ln ((m : Int) + 1) = z at SS hcl
                  have SS := Lib.hid SS
                  have hmt : ((m : Int) + 1).toNat = m + 1 := by omega
                  have hm1 : (m : Int) + 1 < 17 := by omega
                  have hm0 : (0 : Int) ≤ (m : Int) + 1 := by omega
                  have HCL := Lib.hid hcl
                  have HWL := Lib.hid hwl2
                  clear hcl hwl2
                  go_wp2_with fail
                  refine SS.out.mono ?_
                  rintro e W6 ⟨rfl, hB6⟩
                  have hcl : W6.cell? ⟨w.heap.size, m + 1, none⟩ = some (.int .i64 z) := by rw [hB6.cell (p := ⟨w.heap.size, m + 1, none⟩) HWL.out]; exact HCL.out
                  have hBq := hBq.trans (hB6.mono hBq.size)
                  have hwl6 : w.heap.size < W6.heap.size := Nat.lt_of_lt_of_le HWL.out hB6.size
                  have hzz : (z != z) = false := by simp
                  clear hB6 SS
                  cases hz : (z != 0) with
                  | true =>
                    go_wp2_with fail
                    go_roundw
                    case rel => first | exact ⟨m + 1, by omega, by go_num, hBq⟩ | exact ⟨_, _, _, _, _, _, _, _, _, _, _, _, _, _, _, _, _, _, _, _, _, _, _, _, ⟨m + 1, by omega, by go_num, hBq⟩, rfl⟩ | exact ⟨_, _, _, _, _, _, _, _, _, _, _, _, _, _, _, _, _, _, _, _, _, _, _, _, _, ⟨m + 1, by omega, by go_num, hBq⟩, rfl⟩ | exact ⟨_, _, _, _, _, _, _, _, _, _, _, _, _, _, _, _, _, _, _, _, _, _, _, ⟨m + 1, by omega, by go_num, hBq⟩, rfl⟩
                    case measure => first | (show 20 - ((m : Int) + 1 + 1).toNat < 20 - ((m : Int) + 1).toNat; omega) | (simp only [intOf]; omega)
                  | false =>
                    go_wp2_with fail
                    go_roundw
                    case rel => first | exact ⟨m + 1, by omega, by go_num, hBq⟩ | ((iterate 24 (refine Exists.intro _ ?_)); refine ⟨⟨m + 1, by omega, ?_, hBq⟩, rfl⟩; go_num)
                    case measure => first | (show 20 - ((m : Int) + 1 + 1).toNat < 20 - ((m : Int) + 1).toNat; omega) | (simp only [intOf]; omega)
                · obtain rfl : m = 16 := by omega
                  have hb := hb.trans (hBq.mono hb.size)
                  have HS2 := Lib.hid (HS2.out.below hBq)
                  have HB2 := Lib.hid (HB2.out.keep hBq)
                  clear hlm hBq
                  go_wp2_with fail
                  go_roundw
                  case rel => exact ⟨k + 1, _, ln, by omega, by omega, by go_num, rfl, HS2.out, HNE.out, by have := HOK.out.short; omega, by rw [show 10 * (((k + 1 : Nat)) : Int) = 10 * ((k : Int) + 1) by omega]; exact HT2.out, HB2.out, hb⟩
                  case measure => simp only [intOf]; omega
    · by_cases hk2 : k < acts.length
      · obtain rfl : k = 60 := by omega
        have hki : (60 : Int) < (acts.length : Int) := by omega
        have S := Lib.hid (dright_any v l wr HS.out)
        have HR := HST.out.right
        have S := S.out
        rw [HR] at S
        have S := Lib.hid S
        clear hlt HR
        go_wp2_with fail
        refine S.out.mono ?_
        rintro e W1 ⟨rfl, hB1⟩
        have hb := hB.trans (hB1.mono hB.size)
        clear hB1 S hB
        go_wp2_with fail
        refine (awake14 _).mono ?_
        rintro e W2 ⟨rfl, hB2⟩
        have hb := hb.trans (hB2.mono hb.size)
        clear hB2
        go_wp2_with fail
        go_ret
        exact ⟨rfl, hb⟩
      · obtain rfl : k = acts.length := by omega
        have S := Lib.hid (dright_any v l wr HS.out)
        have HR := HST.out.right
        have S := S.out
        rw [HR] at S
        have S := Lib.hid S
        clear hlt HR hk2
        go_wp2_with fail
        refine S.out.mono ?_
        rintro e W1 ⟨rfl, hB1⟩
        have hb := hB.trans (hB1.mono hB.size)
        clear hB1 S hB
        go_wp2_with fail
        refine (awake14 _).mono ?_
        rintro e W2 ⟨rfl, hB2⟩
        have hb := hb.trans (hB2.mono hb.size)
        clear hB2
        go_wp2_with fail
        go_ret
        exact ⟨rfl, hb⟩
end Go.Proofs.Ythhialnnhhemaaa
