/- LAYER 2: the document's Take, walked; the law PageTakes. Conditions: those of the arguments alone. -/
import Derived.Test.YtekkmlhkcdijkaaPageLaws6
import Derived.BigRegion
namespace Go.Proofs.Ytekkmlhkcdijkaa
open Go.RowKit
set_option linter.unusedVariables false

theorem all_noughts (l : List UInt8) (h : l.length = 32) : (l.all (· == 0) = true) ↔ l = List.replicate 32 0 := by
  rw [List.eq_replicate_iff, List.all_eq_true]
  constructor
  · intro hh; exact ⟨h, fun b hb => by simpa using hh b hb⟩
  · intro hh b hb; simpa using hh.2 b hb
/-- the number of the four bytes from 4 k on -/
def numAt (l : List UInt8) (k : Nat) : Nat := num4 (l.drop (4 * k))
theorem num4_take (l : List UInt8) : num4 (l.take 4) = num4 l := by
  unfold num4
  match l with
  | [] => rfl
  | [a] => rfl
  | [a, b] => rfl
  | [a, b, c] => rfl
  | a :: b :: c :: d :: l => rfl
theorem numAt_0 (l : List UInt8) : numAt l 0 = partI l := by unfold numAt partI; rw [num4_take]; rfl
theorem numAt_1 (l : List UInt8) : numAt l 1 = partV l := by
  unfold numAt partV; rw [List.drop_take, num4_take]
theorem numAt_2 (l : List UInt8) : numAt l 2 = partN l := by
  unfold numAt partN; rw [List.drop_take, num4_take]
theorem numAt_sum (l : List UInt8) (k : Nat) (h : 4 * k + 3 < l.length) : (numAt l k : Int) = (l[4 * k].toNat : Int) + 256 * (l[4 * k + 1].toNat : Int) + 65536 * (l[4 * k + 2].toNat : Int) + 16777216 * (l[4 * k + 3].toNat : Int) := by
  unfold numAt num4
  have g : ∀ j, j < 4 → (l.drop (4 * k)).getD j 0 = l.getD (4 * k + j) 0 := by
    intro j hj
    rw [List.getD_eq_getElem?_getD, List.getElem?_drop, List.getD_eq_getElem?_getD]
  rw [g 0 (by omega), g 1 (by omega), g 2 (by omega), g 3 (by omega)]
  simp only [List.getD_eq_getElem?_getD, Nat.add_zero]
  rw [List.getElem?_eq_getElem (by omega), List.getElem?_eq_getElem (by omega), List.getElem?_eq_getElem (by omega), List.getElem?_eq_getElem (by omega)]
  simp only [Option.getD_some]
  omega

theorem refNum_form (a b c d : UInt8) : wrap64 (wrap64 (wrap64 (wrap64 (a.toNat : Int) + wrap64 (256 * wrap64 (b.toNat : Int))) + wrap64 (65536 * wrap64 (c.toNat : Int))) + wrap64 (16777216 * wrap64 (d.toNat : Int))) = (a.toNat : Int) + 256 * (b.toNat : Int) + 65536 * (c.toNat : Int) + 16777216 * (d.toNat : Int) := by
  have ha := a.toNat_lt
  have hb := b.toNat_lt
  have hc := c.toNat_lt
  have hd := d.toNat_lt
  rw [IntWalk.wrap64_in (a.toNat : Int) ⟨by omega, by omega⟩, IntWalk.wrap64_in (b.toNat : Int) ⟨by omega, by omega⟩, IntWalk.wrap64_in (c.toNat : Int) ⟨by omega, by omega⟩, IntWalk.wrap64_in (d.toNat : Int) ⟨by omega, by omega⟩]
  rw [IntWalk.wrap64_in (256 * (b.toNat : Int)) ⟨by omega, by omega⟩, IntWalk.wrap64_in (65536 * (c.toNat : Int)) ⟨by omega, by omega⟩, IntWalk.wrap64_in (16777216 * (d.toNat : Int)) ⟨by omega, by omega⟩]
  rw [IntWalk.wrap64_in ((a.toNat : Int) + 256 * (b.toNat : Int)) ⟨by omega, by omega⟩, IntWalk.wrap64_in ((a.toNat : Int) + 256 * (b.toNat : Int) + 65536 * (c.toNat : Int)) ⟨by omega, by omega⟩, IntWalk.wrap64_in _ ⟨by omega, by omega⟩]

set_option maxRecDepth 100000 in
set_option maxHeartbeats 800000 in
theorem refTake_page (l : List UInt8) (w : World) (h : l.length = 32) (h0 : l ≠ List.replicate 32 0) :
    Calls Try.prog 26 #[.string (str l)] w (fun en w' => en = .returned (.tuple #[pageVal (takeI l) (takeV l) (takeB l), .int .i64 (takeE l)]) ∧ Below w.heap.size w w') := by
  have hsz := str_size
  have hex := str_extract
  have htl := str_list
  have hne : ((l.length : Int) != 32) = false := by rw [h]; rfl
  have hno : l.all (· == 0) = false := by rw [Bool.eq_false_iff]; intro hh; exact h0 ((all_noughts l h).1 hh)
  have NO := noughts_any l (by omega)
  rw [hno] at NO
  have NO := Lib.hid NO
  have H32 := Lib.hid h
  clear h hno
  go_enter Try.func26, Try.ntmps26
  go_wp2_with fail
  refine (NO.out _).mono ?_
  rintro e W1 ⟨rfl, rfl⟩
  go_wp2_with fail
  have b1 := (Blk.new w 37 #[.int .i64 0, .int .i64 0, .string ⟨#[]⟩]).alloc (.cells #[.int .i64 0, .int .i64 0, .int .i64 0] 56)
  have b2 := Blk.new (w.alloc (.cells #[.int .i64 0, .int .i64 0, .string ⟨#[]⟩] 37)) 56 #[.int .i64 0, .int .i64 0, .int .i64 0]
  rw [show (w.alloc (.cells #[.int .i64 0, .int .i64 0, .string ⟨#[]⟩] 37)).heap.size = w.heap.size + 1 by simp] at b2
  have hw : Below w.heap.size w ((w.alloc (.cells #[.int .i64 0, .int .i64 0, .string ⟨#[]⟩] 37)).alloc (.cells #[.int .i64 0, .int .i64 0, .int .i64 0] 56)) := ((Below.refl _ _).alloc (Nat.le_refl _) _).alloc (by simp) _
  generalize (w.alloc (.cells #[.int .i64 0, .int .i64 0, .string ⟨#[]⟩] 37)).alloc (.cells #[.int .i64 0, .int .i64 0, .int .i64 0] 56) = W at b1 b2 hw
  go_loopw [5] (fun i wr => ∃ (k : Nat) (cs : Array Value), k ≤ 3 ∧ i = .int .i64 k ∧ Blk wr w.heap.size 37 #[.int .i64 0, .int .i64 0, .string ⟨#[]⟩] ∧ Blk wr (w.heap.size + 1) 56 cs ∧ cs.size = 3 ∧ (∀ j, j < k → cs[j]? = some (.int .i64 (numAt l j))) ∧ Below w.heap.size w wr) (fun i _ => 3 - (intOf i).toNat)
  case atStart => exact ⟨0, _, by omega, rfl, b1, b2, rfl, fun j hj => by omega, hw⟩
  case round =>
    obtain ⟨k, cs, hk, rfl, hb1, hb2, hcs, hd, hB⟩ := hrel
    have HCS := Lib.hid hcs
    have HD := Lib.hid hd
    clear hcs hd b1 b2 hw
    by_cases hlt : k < 3
    · have h32 := H32.out
      have i0 : (4 : Int) * (k : Int) < (l.length : Int) := by omega
      have i1 : (4 : Int) * (k : Int) + 1 < (l.length : Int) := by omega
      have i2 : (4 : Int) * (k : Int) + 2 < (l.length : Int) := by omega
      have i3 : (4 : Int) * (k : Int) + 3 < (l.length : Int) := by omega
      have i0n : 4 * k < l.length := by omega
      have hq3 : 4 * k + 3 < l.length := by omega
      clear h32
      have hsum := numAt_sum l k hq3
      have HSUM := Lib.hid hsum
      clear hsum
      have hcell : wr.cell? ⟨w.heap.size + 1, k, none⟩ = some (cs[k]'(by have := HCS.out; omega)) := by rw [hb2.cell, Array.getElem?_eq_getElem]
      generalize (cs[k]'(by have := HCS.out; omega)) = u at hcell
      have hfr := hb2.frozen k
      have wa0 : IntKind.i64.wrap ((4 : Int) * (k : Int)) = (4 : Int) * (k : Int) := IntWalk.i64_in _ (by omega)
      have wb0 : 0 ≤ (4 : Int) * (k : Int) := by omega
      have wc0 : ((4 : Int) * (k : Int)).toNat = 4 * k := by omega
      have wa1 : IntKind.i64.wrap ((4 : Int) * (k : Int) + 1) = (4 : Int) * (k : Int) + 1 := IntWalk.i64_in _ (by omega)
      have wb1 : 0 ≤ (4 : Int) * (k : Int) + 1 := by omega
      have wc1 : ((4 : Int) * (k : Int) + 1).toNat = 4 * k + 1 := by omega
      have wa2 : IntKind.i64.wrap ((4 : Int) * (k : Int) + 2) = (4 : Int) * (k : Int) + 2 := IntWalk.i64_in _ (by omega)
      have wb2 : 0 ≤ (4 : Int) * (k : Int) + 2 := by omega
      have wc2 : ((4 : Int) * (k : Int) + 2).toNat = 4 * k + 2 := by omega
      have wa3 : IntKind.i64.wrap ((4 : Int) * (k : Int) + 3) = (4 : Int) * (k : Int) + 3 := IntWalk.i64_in _ (by omega)
      have wb3 : 0 ≤ (4 : Int) * (k : Int) + 3 := by omega
      have wc3 : ((4 : Int) * (k : Int) + 3).toNat = 4 * k + 3 := by omega
      go_wp2_with fail
      go_region
      all_goals go_wp2_with fail
      all_goals
        go_roundw
        case rel =>
          rw [refNum_form]
          refine ⟨k + 1, cs.setIfInBounds k (.int .i64 (numAt l k)), by omega, by go_num, ?_, ?_, ?_, ?_, ?_⟩
          · exact (hb1.far (by simp) _).drew
          · rw [HSUM.out]; exact (hb2.put k _).drew
          · rw [Array.size_setIfInBounds]; exact HCS.out
          · intro j hj
            rw [Array.getElem?_setIfInBounds]
            by_cases e : k = j
            · subst e; rw [if_pos rfl, if_pos (by rw [HCS.out]; exact hlt)]
            · rw [if_neg e]; exact HD.out j (by omega)
          · exact (hB.setCell (by simp) _).drew
        case measure => simp [intOf]; omega
    · obtain rfl : k = 3 := by omega
      have hcse : cs = #[.int .i64 (partI l), .int .i64 (partV l), .int .i64 (partN l)] := by
        rw [← numAt_0, ← numAt_1, ← numAt_2]
        apply Array.ext_getElem?
        intro j
        match j with
        | 0 => rw [HD.out 0 (by omega)]; rfl
        | 1 => rw [HD.out 1 (by omega)]; rfl
        | 2 => rw [HD.out 2 (by omega)]; rfl
        | j + 3 => rw [Array.getElem?_eq_none (by rw [HCS.out]; omega)]; rfl
      subst hcse
      clear HCS HD hlt hk
      have hge : ¬ (((3 : Nat) : Int) < 3) := by omega
      by_cases hn : 16 < partN l
      · have e : takeE l = 9 := by unfold takeE; rw [if_neg (by rw [H32.out]; simp), if_neg h0, if_pos hn]
        have e1 : takeI l = 0 := by unfold takeI; rw [if_neg (by omega)]
        have e2 : takeV l = 0 := by unfold takeV; rw [if_neg (by omega)]
        have e3 : takeB l = [] := by unfold takeB; rw [if_neg (by omega)]
        have E := Lib.hid (And.intro e (And.intro e1 (And.intro e2 e3)))
        clear e e1 e2 e3
        obtain ⟨c0, c1, c2, f0, f1, f2⟩ := hb1.three
        obtain ⟨d0, d1, d2, g0, g1, g2⟩ := hb2.three
        generalize partN l = n at *
        go_wp2_with fail
        refine bodyPost_ret (v := .tuple #[.agg #[.int .i64 0, .int .i64 0, .string ⟨#[]⟩], .int .i64 9]) (by simp [results, Try.results26, go_sem, c0, c1, c2]) rfl ?_
        rw [E.out.1, E.out.2.1, E.out.2.2.1, E.out.2.2.2]
        exact ⟨rfl, hB.set3 (Nat.le_refl _) _ _ _⟩
      · have hTE : takeE l = if isPage (partI l) (partV l) (str (partB l)) = true ∧ pageBytes (partI l) (partV l) (partB l) = l then 0 else 9 := by unfold takeE; rw [if_neg (by rw [H32.out]; simp), if_neg h0, if_neg hn]
        have hTI : takeI l = if takeE l = 0 then partI l else 0 := rfl
        have hTV : takeV l = if takeE l = 0 then partV l else 0 := rfl
        have hTB : takeB l = if takeE l = 0 then partB l else [] := rfl
        have T := Lib.hid (And.intro hTE (And.intro hTI (And.intro hTV hTB)))
        clear hTE hTI hTV hTB
        have hpb : (l.take (16 + partN l)).drop 16 = partB l := rfl
        have h32 := H32.out
        obtain ⟨q, hqn⟩ : ∃ q, 16 + partN l = q := ⟨_, rfl⟩
        rw [hqn] at hpb
        have hadd : (16 : Int) + (partN l : Int) = (q : Int) := by omega
        have haddw : IntKind.i64.wrap (q : Int) = (q : Int) := IntWalk.i64_in _ (by omega)
        have hq16 : (16 : Int) ≤ (q : Int) := by omega
        have hq16n : 16 ≤ q := by omega
        have hb16 : (q : Int) ≤ (l.length : Int) := by omega
        have hb17 : q ≤ l.length := by omega
        clear hqn h32
        obtain ⟨d0, d1, d2, _, _, _⟩ := hb2.three
        have lt2 := hb2.lt
        have lt1 := hb1.lt
        generalize partN l = n at *
        generalize partI l = i at *
        generalize partV l = v at *
        generalize partB l = b at *
        go_wp2_with fail
        go_region
        go_wp2_with fail
        have br := (hb1.alloc (.cells #[.int .i64 i, .int .i64 v, .string (str b)] 37)).drew
        have bp := (Blk.new wr 37 #[.int .i64 i, .int .i64 v, .string (str b)]).drew
        have hw := (hB.alloc hB.size (.cells #[.int .i64 i, .int .i64 v, .string (str b)] 37)).drew
        generalize (wr.alloc (.cells #[.int .i64 i, .int .i64 v, .string (str b)] 37)).drew = X at br bp hw
        clear hb1 hb2 hB d0 d1 d2 lt1 lt2
        refine (refRight_any i v (str b) _).mono ?_
        rintro e W2 ⟨rfl, rfl⟩
        have br := br.alloc (.cells #[.int .i64 i, .int .i64 v, .string (str b)] 37)
        have bp := bp.alloc (.cells #[.int .i64 i, .int .i64 v, .string (str b)] 37)
        have hw := hw.alloc hw.size (.cells #[.int .i64 i, .int .i64 v, .string (str b)] 37)
        generalize X.alloc (.cells #[.int .i64 i, .int .i64 v, .string (str b)] 37) = Y at br bp hw
        cases hpg : isPage i v (str b) with
        | false =>
          have T2 := T.out
          rw [hpg] at T2
          simp only [Bool.false_eq_true, false_and, if_false] at T2
          obtain ⟨t1, t2, t3, t4⟩ := T2
          rw [t1] at t2 t3 t4
          simp only [show ((9 : Int) = 0) = False by simp, if_false] at t2 t3 t4
          have E := Lib.hid (And.intro t1 (And.intro t2 (And.intro t3 t4)))
          clear t1 t2 t3 t4 hpg
          obtain ⟨c0, c1, c2, f0, f1, f2⟩ := br.three
          obtain ⟨d0, d1, d2, _, _, _⟩ := bp.three
          go_wp2_with fail
          refine bodyPost_ret (v := .tuple #[.agg #[.int .i64 0, .int .i64 0, .string ⟨#[]⟩], .int .i64 9]) (by simp [results, Try.results26, go_sem, c0, c1, c2]) rfl ?_
          rw [E.out.1, E.out.2.1, E.out.2.2.1, E.out.2.2.2]
          exact ⟨rfl, hw.set3 (Nat.le_refl _) _ _ _⟩
        | true =>
          have PU := Lib.hid (refPut_yes i v b · hpg)
          have T2 := T.out
          rw [hpg] at T2
          simp only [true_and] at T2
          clear hpg T
          generalize hpbb : pageBytes i v b = pb at PU T2
          clear hpbb
          obtain ⟨c0, c1, c2, f0, f1, f2⟩ := br.three
          obtain ⟨d0, d1, d2, _, _, _⟩ := bp.three
          have T3 := Lib.hid T2
          clear T2
          go_wp2_with fail
          refine (PU.out _).mono ?_
          rintro e W3 ⟨rfl, hBz⟩
          have br := br.keep hBz
          have bp := bp.keep hBz
          have hw := hw.trans (hBz.mono hw.size)
          clear hBz c0 c1 c2 f0 f1 f2 d0 d1 d2
          obtain ⟨c0, c1, c2, f0, f1, f2⟩ := br.three
          obtain ⟨d0, d1, d2, _, _, _⟩ := bp.three
          by_cases hpl : pb = l
          · have T2 := T3.out
            rw [if_pos hpl] at T2
            obtain ⟨t1, t2, t3, t4⟩ := T2
            rw [t1] at t2 t3 t4
            simp only [if_true] at t2 t3 t4
            have E := Lib.hid (And.intro t1 (And.intro t2 (And.intro t3 t4)))
            clear t1 t2 t3 t4
            have hpe : (pb == l) = true := by simpa using hpl
            have hpn : (pb != l) = false := by simpa using hpl
            clear hpl
            go_wp2_with fail
            refine bodyPost_ret (v := .tuple #[.agg #[.int .i64 i, .int .i64 v, .string (str b)], .int .i64 0]) (by simp [results, Try.results26, go_sem, c0, c1, c2]) rfl ?_
            rw [E.out.1, E.out.2.1, E.out.2.2.1, E.out.2.2.2]
            exact ⟨rfl, hw.set3 (Nat.le_refl _) _ _ _⟩
          · have T2 := T3.out
            rw [if_neg hpl] at T2
            obtain ⟨t1, t2, t3, t4⟩ := T2
            rw [t1] at t2 t3 t4
            simp only [show ((9 : Int) = 0) = False by simp, if_false] at t2 t3 t4
            have E := Lib.hid (And.intro t1 (And.intro t2 (And.intro t3 t4)))
            clear t1 t2 t3 t4
            have hpe : (pb == l) = false := beq_eq_false_iff_ne.2 hpl
            have hpn : (pb != l) = true := bne_iff_ne.2 hpl
            have HPL := Lib.hid hpl
            clear hpl
            go_wp2_with fail
            refine bodyPost_ret (v := .tuple #[.agg #[.int .i64 0, .int .i64 0, .string ⟨#[]⟩], .int .i64 9]) (by simp [results, Try.results26, go_sem, c0, c1, c2]) rfl ?_
            rw [E.out.1, E.out.2.1, E.out.2.2.1, E.out.2.2.2]
            exact ⟨rfl, hw.set3 (Nat.le_refl _) _ _ _⟩
end Go.Proofs.Ytekkmlhkcdijkaa
