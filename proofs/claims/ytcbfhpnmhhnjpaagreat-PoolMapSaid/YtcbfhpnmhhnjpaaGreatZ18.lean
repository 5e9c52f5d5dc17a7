import Derived.Test.YtcbfhpnmhhnjpaaGreatZ17
import Derived.BigRegion
set_option linter.unusedVariables false
set_option linter.unusedSimpArgs false
namespace Go.Proofs.YtcbfhpnmhhnjpaaGreat
open Go.RowKit
set_option maxRecDepth 100000 in
set_option maxHeartbeats 400000 in
theorem refPut_yes (i v : Nat) (l : List UInt8) (w : World) (h : isPage i v (str l) = true) :
    Calls Tryz.prog 72 #[.agg #[.int .i64 i, .int .i64 v, .string (str l)]] w fun e w' => e = .returned (.string (str (pageBytes i v l))) ∧ Below w.heap.size w w' := by
  obtain ⟨hb1, hb2, hb3, hb4, hb5⟩ := (isPage_iff i v (str l)).1 h
  rw [str_size] at hb5
  clear h
  have hap := str_append
  have hsz := str_size
  have hfl := four_length
  go_enter Tryz.func72, Tryz.ntmps72
  go_wp2_with fail
  have hblk := Blk.new w 42 #[.int .i64 i, .int .i64 v, .string (str l)]
  have hbel : Below w.heap.size w (w.alloc (.cells #[.int .i64 i, .int .i64 v, .string (str l)] 42)) := (Below.refl _ _).alloc (Nat.le_refl _) _
  generalize w.alloc (.cells #[.int .i64 i, .int .i64 v, .string (str l)] 42) = W at hblk hbel
  have c0 : W.cell? ⟨w.heap.size, 0, none⟩ = some (.int .i64 i) := hblk.cell 0
  have c1 : W.cell? ⟨w.heap.size, 1, none⟩ = some (.int .i64 v) := hblk.cell 1
  have c2 : W.cell? ⟨w.heap.size, 2, none⟩ = some (.string (str l)) := hblk.cell 2
  have hlt := hblk.lt
  have hk := fun A B C => (Below3 W A B C)
  have HK := Lib.hid hk
  clear hk
  go_region_held3 (fun w' => w'.cell? ⟨w.heap.size, 0, none⟩ = some (.int .i64 i) ∧ w'.cell? ⟨w.heap.size, 1, none⟩ = some (.int .i64 v) ∧ w'.cell? ⟨w.heap.size, 2, none⟩ = some (.string (str l))) (first | (go_keep; done) | (go_split_ands; refine ⟨?_, ?_, ?_⟩; (exact ((HK.out _ _ _).cell (p := ⟨w.heap.size, 0, none⟩) hlt).trans c0); (exact ((HK.out _ _ _).cell (p := ⟨w.heap.size, 1, none⟩) hlt).trans c1); (exact ((HK.out _ _ _).cell (p := ⟨w.heap.size, 2, none⟩) hlt).trans c2)))
    (first | (go_at_call 111; refine (refFour_any _ _ (by omega) (by omega)).mono ?_; rintro e w' ⟨rfl, rfl⟩))
  have hblk2 : Blk (((W.alloc (numObj i)).alloc (numObj v)).alloc (numObj l.length)).drew w.heap.size 42 #[.int .i64 i, .int .i64 v, .string (str l)] := hblk.keep (HK.out _ _ _)
  have hbel2 : Below w.heap.size w (((W.alloc (numObj i)).alloc (numObj v)).alloc (numObj l.length)).drew := hbel.trans ((HK.out _ _ _).mono (by omega))
  generalize (((W.alloc (numObj i)).alloc (numObj v)).alloc (numObj l.length)).drew = W2 at hblk2 hbel2
  clear hblk hbel c0 c1 c2 HK hlt
  have c2 : W2.cell? ⟨w.heap.size, 2, none⟩ = some (.string (str l)) := hblk2.cell 2
  go_wp2_with fail
  clear hblk2 c2
  obtain ⟨m, hm⟩ : ∃ m, l.length + m = 16 := ⟨16 - l.length, by omega⟩
  have HM := Lib.hid hm
  clear hm
  go_loopw [4] (fun b wr => ∃ k : Nat, k ≤ m ∧ b = .string (str (l ++ List.replicate k 0)) ∧ Below w.heap.size w wr) (fun b _ => match b with | .string s => 16 - s.size | _ => 0)
  case atStart => exact ⟨0, by omega, by simp, hbel2⟩
  case round =>
    obtain ⟨k, hk, rfl, hB⟩ := hrel
    have hmm := HM.out
    have hln : (l ++ List.replicate k (0 : UInt8)).length = l.length + k := by simp
    have hrep : l ++ List.replicate k (0 : UInt8) ++ [0] = l ++ List.replicate (k + 1) 0 := by
      rw [List.append_assoc]; congr 1; rw [List.replicate_succ']
    have hln2 : (l ++ List.replicate (k + 1) (0 : UInt8)).length = l.length + (k + 1) := by simp
    generalize hx : l ++ List.replicate k (0 : UInt8) = x at hln hrep
    have HX := Lib.hid hx
    have HREP := Lib.hid hrep
    have HLN2 := Lib.hid hln2
    clear hx hrep hln2
    by_cases hlt : k < m
    · have hx16 : (x.length : Int) < 16 := by omega
      have hcv := conv1 0
      have h0 : strOfNums [(0 : Int)] = str [0] := rfl
      rw [h0] at hcv
      have hcat : ¬ 9223372036854775807 < x.length + 1 := by omega
      have HLN := Lib.hid hln
      have HMM := Lib.hid hmm
      clear hln hmm
      go_wp2_with fail
      go_roundw
      case rel => exact ⟨k + 1, by omega, by rw [HREP.out], hB.alloc hB.size _⟩
      case measure =>
        have h1 := HLN.out
        rw [HREP.out]
        simp only [str_size, HLN2.out, h1]
        omega
    · have hx16 : (16 : Int) ≤ (x.length : Int) := by omega
      obtain rfl : k = m := by omega
      have hl4 : ¬ 9223372036854775807 < 12 + x.length := by omega
      have hl5 : ¬ 9223372036854775807 < 4 + (4 + (4 + x.length)) := by omega
      have hl6 : ¬ 9223372036854775807 < 12 + (4 + x.length) := by omega
      have hl7 : ¬ 9223372036854775807 < 16 + x.length := by omega
      have hl8 : ¬ 9223372036854775807 < 4 + (4 + (4 + 4)) + x.length := by omega
      have hl9 : ¬ 9223372036854775807 < 4 + (4 + (4 + (4 + x.length))) := by omega
      have hall : (str (four i ++ (four v ++ (four l.length ++ x)))).size ≤ maxLen := by
        rw [str_size]; simp only [List.length_append, four_length]; unfold maxLen; omega
      have HLN := Lib.hid hln
      have HMM := Lib.hid hmm
      clear hln hmm
      have hn := Sm.sum_nonneg (four i ++ (four v ++ (four l.length ++ x)))
      have hsumc := fun W => refSum_any (str (four i ++ (four v ++ (four l.length ++ x)))) W hall
      simp only [str_toList] at hsumc
      have hfin : pageBytes i v l = four i ++ (four v ++ (four l.length ++ (four (Sm.sum (four i ++ (four v ++ (four l.length ++ x)))).toNat ++ x))) := by
        unfold pageBytes pageFront pageBack
        rw [show 16 - l.length = k by have := HMM.out; omega, HX.out]
        simp only [List.append_assoc]
      generalize Sm.sum (four i ++ (four v ++ (four l.length ++ x))) = n at hn hsumc hfin
      have HS := Lib.hid hsumc
      have HF := Lib.hid hfin
      clear hsumc hfin hall
      obtain ⟨hn1, hn2⟩ := hn
      go_wp2_with fail
      refine (HS.out _).mono ?_
      rintro e w' ⟨rfl, rfl⟩
      go_wp2_with fail
      refine (refFour_any _ _ hn1 hn2).mono ?_
      rintro e w' ⟨rfl, rfl⟩
      go_wp2_with fail
      go_ret
      exact ⟨by rw [HF.out]; rfl, hB.alloc hB.size _⟩
end Go.Proofs.YtcbfhpnmhhnjpaaGreat

namespace Go.Proofs.YtcbfhpnmhhnjpaaGreat
open Go.RowKit
theorem all_noughts (l : List UInt8) (h : l.length = 32) : (l.all (· == 0) = true) ↔ l = List.replicate 32 0 := by
  rw [List.eq_replicate_iff, List.all_eq_true]
  constructor
  · intro hh; exact ⟨h, fun b hb => by simpa using hh b hb⟩
  · intro hh b hb; simpa using hh.2 b hb
def numAt (l : List UInt8) (k : Nat) : Nat := num4 (l.drop (4 * k))
theorem num4_take (l : List UInt8) : num4 (l.take 4) = num4 l := by
  unfold num4
  match l with
  | [] => rfl
  | [a] => rfl
  | [a, b] => rfl
  | [a, b, c] => rfl
  | a :: b :: c :: d :: l => rfl
theorem numAt_0 (l : List UInt8) : numAt l 0 = partI l := by unfold numAt partI; rw [num4_take]; rfl
theorem numAt_1 (l : List UInt8) : numAt l 1 = partV l := by
  unfold numAt partV; rw [List.drop_take, num4_take]
theorem numAt_2 (l : List UInt8) : numAt l 2 = partN l := by
  unfold numAt partN; rw [List.drop_take, num4_take]
theorem numAt_sum (l : List UInt8) (k : Nat) (h : 4 * k + 3 < l.length) : (numAt l k : Int) = (l[4 * k].toNat : Int) + 256 * (l[4 * k + 1].toNat : Int) + 65536 * (l[4 * k + 2].toNat : Int) + 16777216 * (l[4 * k + 3].toNat : Int) := by
  unfold numAt num4
  have g : ∀ j, j < 4 → (l.drop (4 * k)).getD j 0 = l.getD (4 * k + j) 0 := by
    intro j hj
    rw [List.getD_eq_getElem?_getD, List.getElem?_drop, List.getD_eq_getElem?_getD]
  rw [g 0 (by omega), g 1 (by omega), g 2 (by omega), g 3 (by omega)]
  simp only [List.getD_eq_getElem?_getD, Nat.add_zero]
  rw [List.getElem?_eq_getElem (by omega), List.getElem?_eq_getElem (by omega), List.getElem?_eq_getElem (by omega), List.getElem?_eq_getElem (by omega)]
  simp only [Option.getD_some]
  omega
theorem refNum_form (a b c d : UInt8) : wrap64 (wrap64 (wrap64 (wrap64 (a.toNat : Int) + wrap64 (256 * wrap64 (b.toNat : Int))) + wrap64 (65536 * wrap64 (c.toNat : Int))) + wrap64 (16777216 * wrap64 (d.toNat : Int))) = (a.toNat : Int) + 256 * (b.toNat : Int) + 65536 * (c.toNat : Int) + 16777216 * (d.toNat : Int) := by
  have ha := a.toNat_lt
  have hb := b.toNat_lt
  have hc := c.toNat_lt
  have hd := d.toNat_lt
  rw [IntWalk.wrap64_in (a.toNat : Int) ⟨by omega, by omega⟩, IntWalk.wrap64_in (b.toNat : Int) ⟨by omega, by omega⟩, IntWalk.wrap64_in (c.toNat : Int) ⟨by omega, by omega⟩, IntWalk.wrap64_in (d.toNat : Int) ⟨by omega, by omega⟩]
  rw [IntWalk.wrap64_in (256 * (b.toNat : Int)) ⟨by omega, by omega⟩, IntWalk.wrap64_in (65536 * (c.toNat : Int)) ⟨by omega, by omega⟩, IntWalk.wrap64_in (16777216 * (d.toNat : Int)) ⟨by omega, by omega⟩]
  rw [IntWalk.wrap64_in ((a.toNat : Int) + 256 * (b.toNat : Int)) ⟨by omega, by omega⟩, IntWalk.wrap64_in ((a.toNat : Int) + 256 * (b.toNat : Int) + 65536 * (c.toNat : Int)) ⟨by omega, by omega⟩, IntWalk.wrap64_in _ ⟨by omega, by omega⟩]
set_option maxRecDepth 100000 in
set_option maxHeartbeats 800000 in
theorem refTake_page (l : List UInt8) (w : World) (h : l.length = 32) (h0 : l ≠ List.replicate 32 0) :
    Calls Tryz.prog 51 #[.string (str l)] w (fun en w' => en = .returned (.tuple #[pageVal (takeI l) (takeV l) (takeB l), .int .i64 (takeE l)]) ∧ Below w.heap.size w w') := by
  have hsz := str_size
  have hex := str_extract
  have htl := str_list
  have hne : ((l.length : Int) != 32) = false := by rw [h]; rfl
  have hno : l.all (· == 0) = false := by rw [Bool.eq_false_iff]; intro hh; exact h0 ((all_noughts l h).1 hh)
  have NO := noughts_any l (by omega)
  rw [hno] at NO
  have NO := Lib.hid NO
  have H32 := Lib.hid h
  clear h hno
  go_enter Tryz.func51, Tryz.ntmps51
  go_wp2_with fail
  refine (NO.out _).mono ?_
  rintro e W1 ⟨rfl, rfl⟩
  go_wp2_with fail
  have b1 := (Blk.new w 42 #[.int .i64 0, .int .i64 0, .string ⟨#[]⟩]).alloc (.cells #[.int .i64 0, .int .i64 0, .int .i64 0] 165)
  have b2 := Blk.new (w.alloc (.cells #[.int .i64 0, .int .i64 0, .string ⟨#[]⟩] 42)) 165 #[.int .i64 0, .int .i64 0, .int .i64 0]
  rw [show (w.alloc (.cells #[.int .i64 0, .int .i64 0, .string ⟨#[]⟩] 42)).heap.size = w.heap.size + 1 by simp] at b2
  have hw : Below w.heap.size w ((w.alloc (.cells #[.int .i64 0, .int .i64 0, .string ⟨#[]⟩] 42)).alloc (.cells #[.int .i64 0, .int .i64 0, .int .i64 0] 165)) := ((Below.refl _ _).alloc (Nat.le_refl _) _).alloc (by simp) _
  generalize (w.alloc (.cells #[.int .i64 0, .int .i64 0, .string ⟨#[]⟩] 42)).alloc (.cells #[.int .i64 0, .int .i64 0, .int .i64 0] 165) = W at b1 b2 hw
  go_loopw [5] (fun i wr => ∃ (k : Nat) (cs : Array Value), k ≤ 3 ∧ i = .int .i64 k ∧ Blk wr w.heap.size 42 #[.int .i64 0, .int .i64 0, .string ⟨#[]⟩] ∧ Blk wr (w.heap.size + 1) 165 cs ∧ cs.size = 3 ∧ (∀ j, j < k → cs[j]? = some (.int .i64 (numAt l j))) ∧ Below w.heap.size w wr) (fun i _ => 3 - (intOf i).toNat)
  case atStart => exact ⟨0, _, by omega, rfl, b1, b2, rfl, fun j hj => by omega, hw⟩
  case round =>
    obtain ⟨k, cs, hk, rfl, hb1, hb2, hcs, hd, hB⟩ := hrel
    have HCS := Lib.hid hcs
    have HD := Lib.hid hd
    clear hcs hd b1 b2 hw
    by_cases hlt : k < 3
    · have h32 := H32.out
      have i0 : (4 : Int) * (k : Int) < (l.length : Int) := by omega
      have i1 : (4 : Int) * (k : Int) + 1 < (l.length : Int) := by omega
      have i2 : (4 : Int) * (k : Int) + 2 < (l.length : Int) := by omega
      have i3 : (4 : Int) * (k : Int) + 3 < (l.length : Int) := by omega
      have i0n : 4 * k < l.length := by omega
      have hq3 : 4 * k + 3 < l.length := by omega
      clear h32
      have hsum := numAt_sum l k hq3
      have HSUM := Lib.hid hsum
      clear hsum
      have hcell : wr.cell? ⟨w.heap.size + 1, k, none⟩ = some (cs[k]'(by have := HCS.out; omega)) := by rw [hb2.cell, Array.getElem?_eq_getElem]
      generalize (cs[k]'(by have := HCS.out; omega)) = u at hcell
      have hfr := hb2.frozen k
      have wa0 : IntKind.i64.wrap ((4 : Int) * (k : Int)) = (4 : Int) * (k : Int) := IntWalk.i64_in _ (by omega)
      have wb0 : 0 ≤ (4 : Int) * (k : Int) := by omega
      have wc0 : ((4 : Int) * (k : Int)).toNat = 4 * k := by omega
      have wa1 : IntKind.i64.wrap ((4 : Int) * (k : Int) + 1) = (4 : Int) * (k : Int) + 1 := IntWalk.i64_in _ (by omega)
      have wb1 : 0 ≤ (4 : Int) * (k : Int) + 1 := by omega
      have wc1 : ((4 : Int) * (k : Int) + 1).toNat = 4 * k + 1 := by omega
      have wa2 : IntKind.i64.wrap ((4 : Int) * (k : Int) + 2) = (4 : Int) * (k : Int) + 2 := IntWalk.i64_in _ (by omega)
      have wb2 : 0 ≤ (4 : Int) * (k : Int) + 2 := by omega
      have wc2 : ((4 : Int) * (k : Int) + 2).toNat = 4 * k + 2 := by omega
      have wa3 : IntKind.i64.wrap ((4 : Int) * (k : Int) + 3) = (4 : Int) * (k : Int) + 3 := IntWalk.i64_in _ (by omega)
      have wb3 : 0 ≤ (4 : Int) * (k : Int) + 3 := by omega
      have wc3 : ((4 : Int) * (k : Int) + 3).toNat = 4 * k + 3 := by omega
      go_wp2_with fail
      go_region
      all_goals go_wp2_with fail
      all_goals
        go_roundw
        case rel =>
          rw [refNum_form]
          refine ⟨k + 1, cs.setIfInBounds k (.int .i64 (numAt l k)), by omega, by go_num, ?_, ?_, ?_, ?_, ?_⟩
          · exact (hb1.far (by simp) _).drew
          · rw [HSUM.out]; exact (hb2.put k _).drew
          · rw [Array.size_setIfInBounds]; exact HCS.out
          · intro j hj
            rw [Array.getElem?_setIfInBounds]
            by_cases e : k = j
            · subst e; rw [if_pos rfl, if_pos (by rw [HCS.out]; exact hlt)]
            · rw [if_neg e]; exact HD.out j (by omega)
          · exact (hB.setCell (by simp) _).drew
        case measure => simp [intOf]; omega
    · obtain rfl : k = 3 := by omega
      have hcse : cs = #[.int .i64 (partI l), .int .i64 (partV l), .int .i64 (partN l)] := by
        rw [← numAt_0, ← numAt_1, ← numAt_2]
        apply Array.ext_getElem?
        intro j
        match j with
        | 0 => rw [HD.out 0 (by omega)]; rfl
        | 1 => rw [HD.out 1 (by omega)]; rfl
        | 2 => rw [HD.out 2 (by omega)]; rfl
        | j + 3 => rw [Array.getElem?_eq_none (by rw [HCS.out]; omega)]; rfl
      subst hcse
      clear HCS HD hlt hk
      have hge : ¬ (((3 : Nat) : Int) < 3) := by omega
      by_cases hn : 16 < partN l
      · have e : takeE l = 9 := by unfold takeE; rw [if_neg (by rw [H32.out]; simp), if_neg h0, if_pos hn]
        have e1 : takeI l = 0 := by unfold takeI; rw [if_neg (by omega)]
        have e2 : takeV l = 0 := by unfold takeV; rw [if_neg (by omega)]
        have e3 : takeB l = [] := by unfold takeB; rw [if_neg (by omega)]
        have E := Lib.hid (And.intro e (And.intro e1 (And.intro e2 e3)))
        clear e e1 e2 e3
        obtain ⟨c0, c1, c2, f0, f1, f2⟩ := hb1.three
        obtain ⟨d0, d1, d2, g0, g1, g2⟩ := hb2.three
        generalize partN l = n at *
        go_wp2_with fail
        refine bodyPost_ret (v := .tuple #[.agg #[.int .i64 0, .int .i64 0, .string ⟨#[]⟩], .int .i64 9]) (by simp [results, Tryz.results51, go_sem, c0, c1, c2]) rfl ?_
        rw [E.out.1, E.out.2.1, E.out.2.2.1, E.out.2.2.2]
        exact ⟨rfl, hB.set3 (Nat.le_refl _) _ _ _⟩
      · have hTE : takeE l = if isPage (partI l) (partV l) (str (partB l)) = true ∧ pageBytes (partI l) (partV l) (partB l) = l then 0 else 9 := by unfold takeE; rw [if_neg (by rw [H32.out]; simp), if_neg h0, if_neg hn]
        have hTI : takeI l = if takeE l = 0 then partI l else 0 := rfl
        have hTV : takeV l = if takeE l = 0 then partV l else 0 := rfl
        have hTB : takeB l = if takeE l = 0 then partB l else [] := rfl
        have T := Lib.hid (And.intro hTE (And.intro hTI (And.intro hTV hTB)))
        clear hTE hTI hTV hTB
        have hpb : (l.take (16 + partN l)).drop 16 = partB l := rfl
        have h32 := H32.out
        obtain ⟨q, hqn⟩ : ∃ q, 16 + partN l = q := ⟨_, rfl⟩
        rw [hqn] at hpb
        have hadd : (16 : Int) + (partN l : Int) = (q : Int) := by omega
        have haddw : IntKind.i64.wrap (q : Int) = (q : Int) := IntWalk.i64_in _ (by omega)
        have hq16 : (16 : Int) ≤ (q : Int) := by omega
        have hq16n : 16 ≤ q := by omega
        have hb16 : (q : Int) ≤ (l.length : Int) := by omega
        have hb17 : q ≤ l.length := by omega
        clear hqn h32
        obtain ⟨d0, d1, d2, _, _, _⟩ := hb2.three
        have lt2 := hb2.lt
        have lt1 := hb1.lt
        generalize partN l = n at *
        generalize partI l = i at *
        generalize partV l = v at *
        generalize partB l = b at *
        go_wp2_with fail
        go_region
        go_wp2_with fail
        have br := (hb1.alloc (.cells #[.int .i64 i, .int .i64 v, .string (str b)] 42)).drew
        have bp := (Blk.new wr 42 #[.int .i64 i, .int .i64 v, .string (str b)]).drew
        have hw := (hB.alloc hB.size (.cells #[.int .i64 i, .int .i64 v, .string (str b)] 42)).drew
        generalize (wr.alloc (.cells #[.int .i64 i, .int .i64 v, .string (str b)] 42)).drew = X at br bp hw
        clear hb1 hb2 hB d0 d1 d2 lt1 lt2
        refine (refRight_any i v (str b) _).mono ?_
        rintro e W2 ⟨rfl, rfl⟩
        have br := br.alloc (.cells #[.int .i64 i, .int .i64 v, .string (str b)] 42)
        have bp := bp.alloc (.cells #[.int .i64 i, .int .i64 v, .string (str b)] 42)
        have hw := hw.alloc hw.size (.cells #[.int .i64 i, .int .i64 v, .string (str b)] 42)
        generalize X.alloc (.cells #[.int .i64 i, .int .i64 v, .string (str b)] 42) = Y at br bp hw
        cases hpg : isPage i v (str b) with
        | false =>
          have T2 := T.out
          rw [hpg] at T2
          simp only [Bool.false_eq_true, false_and, if_false] at T2
          obtain ⟨t1, t2, t3, t4⟩ := T2
          rw [t1] at t2 t3 t4
          simp only [show ((9 : Int) = 0) = False by simp, if_false] at t2 t3 t4
          have E := Lib.hid (And.intro t1 (And.intro t2 (And.intro t3 t4)))
          clear t1 t2 t3 t4 hpg
          obtain ⟨c0, c1, c2, f0, f1, f2⟩ := br.three
          obtain ⟨d0, d1, d2, _, _, _⟩ := bp.three
          go_wp2_with fail
          refine bodyPost_ret (v := .tuple #[.agg #[.int .i64 0, .int .i64 0, .string ⟨#[]⟩], .int .i64 9]) (by simp [results, Tryz.results51, go_sem, c0, c1, c2]) rfl ?_
          rw [E.out.1, E.out.2.1, E.out.2.2.1, E.out.2.2.2]
          exact ⟨rfl, hw.set3 (Nat.le_refl _) _ _ _⟩
        | true =>
          have PU := Lib.hid (refPut_yes i v b · hpg)
          have T2 := T.out
          rw [hpg] at T2
          simp only [true_and] at T2
          clear hpg T
          generalize hpbb : pageBytes i v b = pb at PU T2
          clear hpbb
          obtain ⟨c0, c1, c2, f0, f1, f2⟩ := br.three
          obtain ⟨d0, d1, d2, _, _, _⟩ := bp.three
          have T3 := Lib.hid T2
          clear T2
          go_wp2_with fail
          refine (PU.out _).mono ?_
          rintro e W3 ⟨rfl, hBz⟩
          have br := br.keep hBz
          have bp := bp.keep hBz
          have hw := hw.trans (hBz.mono hw.size)
          clear hBz c0 c1 c2 f0 f1 f2 d0 d1 d2
          obtain ⟨c0, c1, c2, f0, f1, f2⟩ := br.three
          obtain ⟨d0, d1, d2, _, _, _⟩ := bp.three
          by_cases hpl : pb = l
          · have T2 := T3.out
            rw [if_pos hpl] at T2
            obtain ⟨t1, t2, t3, t4⟩ := T2
            rw [t1] at t2 t3 t4
            simp only [if_true] at t2 t3 t4
            have E := Lib.hid (And.intro t1 (And.intro t2 (And.intro t3 t4)))
            clear t1 t2 t3 t4
            have hpe : (pb == l) = true := by simpa using hpl
            have hpn : (pb != l) = false := by simpa using hpl
            clear hpl
            go_wp2_with fail
            refine bodyPost_ret (v := .tuple #[.agg #[.int .i64 i, .int .i64 v, .string (str b)], .int .i64 0]) (by simp [results, Tryz.results51, go_sem, c0, c1, c2]) rfl ?_
            rw [E.out.1, E.out.2.1, E.out.2.2.1, E.out.2.2.2]
            exact ⟨rfl, hw.set3 (Nat.le_refl _) _ _ _⟩
          · have T2 := T3.out
            rw [if_neg hpl] at T2
            obtain ⟨t1, t2, t3, t4⟩ := T2
            rw [t1] at t2 t3 t4
            simp only [show ((9 : Int) = 0) = False by simp, if_false] at t2 t3 t4
            have E := Lib.hid (And.intro t1 (And.intro t2 (And.intro t3 t4)))
            clear t1 t2 t3 t4
            have hpe : (pb == l) = false := beq_eq_false_iff_ne.2 hpl
            have hpn : (pb != l) = true := bne_iff_ne.2 hpl
            have HPL := Lib.hid hpl
            clear hpl
            go_wp2_with fail
            refine bodyPost_ret (v := .tuple #[.agg #[.int .i64 0, .int .i64 0, .string ⟨#[]⟩], .int .i64 9]) (by simp [results, Tryz.results51, go_sem, c0, c1, c2]) rfl ?_
            rw [E.out.1, E.out.2.1, E.out.2.2.1, E.out.2.2.2]
            exact ⟨rfl, hw.set3 (Nat.le_refl _) _ _ _⟩
end Go.Proofs.YtcbfhpnmhhnjpaaGreat

namespace Go.Proofs.YtcbfhpnmhhnjpaaGreat
open Go.RowKit
set_option maxRecDepth 100000 in
set_option maxHeartbeats 400000 in
theorem refTake_form (l : List UInt8) (w : World) (h : l.length ≠ 32) :
    Calls Tryz.prog 51 #[.string (str l)] w (fun en w' => en = .returned (.tuple #[pageVal 0 0 [], .int .i64 2]) ∧ Below w.heap.size w w') := by
  have hsz := str_size
  have ht : ((l.length : Int) != 32) = true := by simp; omega
  go_enter Tryz.func51, Tryz.ntmps51
  go_wp2_with fail
  refine bodyPost_ret (v := .tuple #[.agg #[.int .i64 0, .int .i64 0, .string ⟨#[]⟩], .int .i64 2]) (by simp [results, Tryz.results51, go_sem]) rfl ⟨rfl, (Below.refl _ _).alloc (Nat.le_refl _) _⟩
set_option maxRecDepth 100000 in
set_option maxHeartbeats 400000 in
theorem refTake_none (l : List UInt8) (w : World) (h : l.length = 32) (hz : l = List.replicate 32 0) :
    Calls Tryz.prog 51 #[.string (str l)] w (fun en w' => en = .returned (.tuple #[pageVal 0 0 [], .int .i64 3]) ∧ Below w.heap.size w w') := by
  have hsz := str_size
  have hne : ((l.length : Int) != 32) = false := by rw [h]; rfl
  have hno : l.all (· == 0) = true := (all_noughts l h).2 hz
  have NO := noughts_any l (by omega)
  rw [hno] at NO
  have NO := Lib.hid NO
  clear h hno hz
  go_enter Tryz.func51, Tryz.ntmps51
  go_wp2_with fail
  refine (NO.out _).mono ?_
  rintro e W1 ⟨rfl, rfl⟩
  go_wp2_with fail
  refine bodyPost_ret (v := .tuple #[.agg #[.int .i64 0, .int .i64 0, .string ⟨#[]⟩], .int .i64 3]) (by simp [results, Tryz.results51, go_sem]) rfl ⟨rfl, (Below.refl _ _).alloc (Nat.le_refl _) _⟩
theorem refTake_any (l : List UInt8) (w : World) :
    Calls Tryz.prog 51 #[.string (str l)] w fun en w' => en = .returned (.tuple #[pageVal (takeI l) (takeV l) (takeB l), .int .i64 (takeE l)]) ∧ Below w.heap.size w w' := by
  by_cases h : l.length ≠ 32
  · have e : takeE l = 2 := by unfold takeE; rw [if_pos h]
    have e1 : takeI l = 0 := by unfold takeI; rw [if_neg (by omega)]
    have e2 : takeV l = 0 := by unfold takeV; rw [if_neg (by omega)]
    have e3 : takeB l = [] := by unfold takeB; rw [if_neg (by omega)]
    rw [e, e1, e2, e3]
    exact refTake_form l w h
  have h32 : l.length = 32 := by omega
  by_cases h0 : l = List.replicate 32 0
  · have e : takeE l = 3 := by unfold takeE; rw [if_neg h, if_pos h0]
    have e1 : takeI l = 0 := by unfold takeI; rw [if_neg (by omega)]
    have e2 : takeV l = 0 := by unfold takeV; rw [if_neg (by omega)]
    have e3 : takeB l = [] := by unfold takeB; rw [if_neg (by omega)]
    rw [e, e1, e2, e3]
    exact refTake_none l w h32 h0
  exact refTake_page l w h32 h0
end Go.Proofs.YtcbfhpnmhhnjpaaGreat

namespace Go.Proofs.YtcbfhpnmhhnjpaaGreat
open Go.RowKit
structure Pg where
  id : Int
  ver : Int
  body : ByteArray
def zP : Pg := ⟨0, 0, ⟨#[]⟩⟩
def encPg (p : Pg) : List SC := [.pv (.int .i64 p.id), .pv (.int .i64 p.ver), .pv (.string p.body)]
def okP (p : Pg) : Bool := isPage p.id p.ver p.body
def bytesP (p : Pg) : ByteArray := str (pageBytes p.id.toNat p.ver.toNat p.body.data.toList)
def putM (p : Pg) : ByteArray × Int := if okP p = true then (bytesP p, 0) else (⟨#[]⟩, 1)
def takeM (s : ByteArray) : Pg × Int := (⟨takeI s.data.toList, takeV s.data.toList, str (takeB s.data.toList)⟩, takeE s.data.toList)
theorem str_id (s : ByteArray) : str s.data.toList = s := by cases s; rfl
theorem okP_iff {p : Pg} : okP p = true ↔ 1 ≤ p.id ∧ p.id ≤ 16 ∧ 1 ≤ p.ver ∧ p.ver ≤ 2147483647 ∧ p.body.size ≤ 16 := by unfold okP isPage; rw [decide_eq_true_iff]
theorem okP_nat {p : Pg} (h : okP p = true) : isPage (p.id.toNat : Int) (p.ver.toNat : Int) (str p.body.data.toList) = true := by
  have h2 := okP_iff.1 h
  rw [str_id]
  unfold isPage
  rw [decide_eq_true_iff]
  omega
theorem bytesP_size {p : Pg} (h : okP p = true) : (bytesP p).size = 32 := by
  unfold bytesP
  rw [str_size]
  refine pageBytes_length _ _ _ ?_
  have := (okP_iff.1 h).2.2.2.2
  have e : p.body.size = p.body.data.toList.length := by show p.body.data.size = _; simp
  omega
theorem take_bytes {p : Pg} (h : okP p = true) : takeM (bytesP p) = (p, 0) := by
  have h2 := okP_iff.1 h
  have hn := okP_nat h
  have e0 := takeE_page p.id.toNat p.ver.toNat p.body.data.toList hn
  have e : p.body.size = p.body.data.toList.length := by show p.body.data.size = _; simp
  unfold takeM bytesP
  have ed : (str (pageBytes p.id.toNat p.ver.toNat p.body.data.toList)).data.toList = pageBytes p.id.toNat p.ver.toNat p.body.data.toList := by unfold str; simp
  rw [ed]
  unfold takeI takeV takeB
  rw [e0, if_pos rfl, if_pos rfl, if_pos rfl, partI_page _ _ _ (by omega), partV_page _ _ _ (by omega), partB_page _ _ _ (by omega), str_id]
  have e1 : ((p.id.toNat : Nat) : Int) = p.id := by omega
  have e2 : ((p.ver.toNat : Nat) : Int) = p.ver := by omega
  rw [e1, e2]
theorem take_err {s : ByteArray} (h : (takeM s).2 ≠ 0) : (takeM s).1 = zP := by
  have h2 : takeE s.data.toList ≠ 0 := h
  unfold takeM takeI takeV takeB zP
  rw [if_neg h2, if_neg h2, if_neg h2]; rfl
def nought32 : ByteArray := ⟨#[0, 0, 0, 0, 0, 0, 0, 0, 0, 0, 0, 0, 0, 0, 0, 0, 0, 0, 0, 0, 0, 0, 0, 0, 0, 0, 0, 0, 0, 0, 0, 0]⟩
theorem nought32_size : nought32.size = 32 := rfl
theorem take_nought : takeM nought32 = (zP, 3) := by
  have e : takeE nought32.data.toList = 3 := by unfold takeE; rw [if_neg (by decide), if_pos (by decide)]
  have h2 : (takeM nought32).2 = 3 := e
  have := take_err (s := nought32) (by rw [h2]; decide)
  exact Prod.ext this h2
theorem pput_spec (p : Pg) : Spec Tryz.prog 168 [.agg (encPg p)] (.val (.tup [(false, [.pv (.string (putM p).1)]), (false, [.pv (.int .i64 (putM p).2)])])) := by
  intro w O us hO hus
  obtain ⟨a, us', rfl, ha, hn⟩ := hus.cons_inv
  obtain rfl := hn.nil_inv
  obtain ⟨vs, rfl, hv⟩ := ha
  obtain ⟨x, vs1, rfl, hx, hv⟩ := hv.cons_inv
  obtain ⟨y, vs2, rfl, hy, hv⟩ := hv.cons_inv
  obtain ⟨z, vs3, rfl, hz, hv⟩ := hv.cons_inv
  obtain rfl := hv.nil_inv
  obtain rfl := RepS.flat hx
  obtain rfl := RepS.flat hy
  obtain rfl := RepS.flat hz
  have fin : ∀ (s : ByteArray) (e : Int) (w' : World), RepT (RepS w' O) (.tup [(false, [.pv (.string s)]), (false, [.pv (.int .i64 e)])]) (.tuple #[.string s, .int .i64 e]) := fun s e w' => by
    refine ⟨[.string s, .int .i64 e], rfl, rfl, fun i a b => ?_⟩
    match i, a, b with
    | 0, _, _ => exact ⟨fun e => by simp at e, fun _ => ⟨_, rfl, .pv rfl⟩⟩
    | 1, _, _ => exact ⟨fun e => by simp at e, fun _ => ⟨_, rfl, .pv rfl⟩⟩
  cases h : okP p
  · refine (y_put_no p.id p.ver p.body w h).mono ?_
    rintro e w' ⟨rfl, hB⟩
    have e1 : putM p = (⟨#[]⟩, 1) := by unfold putM; rw [if_neg (by rw [h]; simp)]
    rw [e1]
    exact ⟨_, rfl, fin _ _ _, hB⟩
  · have hn := okP_nat h
    have h2 := okP_iff.1 h
    have hc := put_yes p.id.toNat p.ver.toNat p.body.data.toList w hn
    rw [str_id, show ((p.id.toNat : Nat) : Int) = p.id by omega, show ((p.ver.toNat : Nat) : Int) = p.ver by omega] at hc
    refine hc.mono ?_
    rintro e w' ⟨rfl, hB⟩
    have e1 : putM p = (bytesP p, 0) := by unfold putM; rw [if_pos h]
    rw [e1]
    exact ⟨_, rfl, fin _ _ _, hB⟩
theorem tk_rep (s : ByteArray) (w' : World) (O : Nat → Prop) : RepT (RepS w' O) (.tup [(true, encPg (takeM s).1), (false, [.pv (.int .i64 (takeM s).2)])]) (.tuple #[pageVal (takeI s.data.toList) (takeV s.data.toList) (takeB s.data.toList), .int .i64 (takeE s.data.toList)]) := by
  refine ⟨[pageVal (takeI s.data.toList) (takeV s.data.toList) (takeB s.data.toList), .int .i64 (takeE s.data.toList)], rfl, rfl, fun i a b => ?_⟩
  match i, a, b with
  | 0, _, _ => exact ⟨fun _ => ⟨[_, _, _], rfl, .cons (.pv rfl) (.cons (.pv rfl) (.cons (.pv rfl) .nil))⟩, fun e => by simp at e⟩
  | 1, _, _ => exact ⟨fun e => by simp at e, fun _ => ⟨_, rfl, .pv rfl⟩⟩
theorem ptake_spec (s : ByteArray) : Spec Tryz.prog 142 [rS s] (.val (.tup [(true, encPg (takeM s).1), (false, [.pv (.int .i64 (takeM s).2)])])) := by
  intro w O us hO hus
  obtain ⟨a, us', rfl, ha, hn⟩ := hus.cons_inv
  obtain rfl := hn.nil_inv
  obtain rfl : a = .string s := RepS.flat ha
  have hc := take_any s.data.toList w
  rw [str_id] at hc
  refine hc.mono ?_
  rintro e w' ⟨rfl, hB⟩
  exact ⟨_, rfl, tk_rep s w' O, hB⟩
theorem rtake_spec (s : ByteArray) : Spec Tryz.prog 51 [rS s] (.val (.tup [(true, encPg (takeM s).1), (false, [.pv (.int .i64 (takeM s).2)])])) := by
  intro w O us hO hus
  obtain ⟨a, us', rfl, ha, hn⟩ := hus.cons_inv
  obtain rfl := hn.nil_inv
  obtain rfl : a = .string s := RepS.flat ha
  have hc := refTake_any s.data.toList w
  rw [str_id] at hc
  refine hc.mono ?_
  rintro e w' ⟨rfl, hB⟩
  exact ⟨_, rfl, tk_rep s w' O, hB⟩
theorem rput_spec (p : Pg) (h : okP p = true) : Spec Tryz.prog 72 [.agg (encPg p)] (.val (rS (bytesP p))) := by
  intro w O us hO hus
  obtain ⟨a, us', rfl, ha, hn⟩ := hus.cons_inv
  obtain rfl := hn.nil_inv
  obtain ⟨vs, rfl, hv⟩ := ha
  obtain ⟨x, vs1, rfl, hx, hv⟩ := hv.cons_inv
  obtain ⟨y, vs2, rfl, hy, hv⟩ := hv.cons_inv
  obtain ⟨z, vs3, rfl, hz, hv⟩ := hv.cons_inv
  obtain rfl := hv.nil_inv
  obtain rfl := RepS.flat hx
  obtain rfl := RepS.flat hy
  obtain rfl := RepS.flat hz
  have hn := okP_nat h
  have h2 := okP_iff.1 h
  have hc := refPut_yes p.id.toNat p.ver.toNat p.body.data.toList w hn
  rw [str_id, show ((p.id.toNat : Nat) : Int) = p.id by omega, show ((p.ver.toNat : Nat) : Int) = p.ver by omega] at hc
  refine hc.mono ?_
  rintro e w' ⟨rfl, hB⟩
  exact ⟨_, rfl, .pv rfl, hB⟩
theorem rright2_spec (p : Pg) : Spec Tryz.prog 71 [.agg (encPg p)] (.val (rB (okP p))) := by
  intro w O us hO hus
  obtain ⟨a, us', rfl, ha, hn⟩ := hus.cons_inv
  obtain rfl := hn.nil_inv
  obtain ⟨vs, rfl, hv⟩ := ha
  obtain ⟨x, vs1, rfl, hx, hv⟩ := hv.cons_inv
  obtain ⟨y, vs2, rfl, hy, hv⟩ := hv.cons_inv
  obtain ⟨z, vs3, rfl, hz, hv⟩ := hv.cons_inv
  obtain rfl := hv.nil_inv
  obtain rfl := RepS.flat hx
  obtain rfl := RepS.flat hy
  obtain rfl := RepS.flat hz
  refine (refRight_any p.id p.ver p.body w).mono ?_
  rintro e w' ⟨rfl, rfl⟩
  exact ⟨_, rfl, .pv rfl, (Below.refl _ _).alloc (Nat.le_refl _) _⟩
theorem absent_spec : Spec Tryz.prog 175 [] (.val (rS nought32)) := by
  refine spec_val mixed fn175 (by simp) ?_
  unfold ac175
  have hr : Spec Tryz.prog 67 [rS ⟨#[0]⟩, rI 32] (.val (rS nought32)) := by
    intro w O us hO hus
    obtain ⟨a, b, rfl, ha, hb⟩ := hus.two
    have e1 : a = .string ⟨#[0]⟩ := RepS.flat ha
    have e2 : b = .int .i64 32 := RepS.flat hb
    subst e1 e2
    refine (Tryz.strings_Repeat ⟨#[0]⟩ 32 w (by omega) (by decide)).mono ?_
    rintro e w' ⟨rfl, hB⟩
    exact ⟨_, rfl, .pv rfl, hB⟩
  simp -implicitDefEqProofs only [↓aP, aR, ↓reduceIte, reduceCtorEq, seval]
  refine ask hr ?_
  simp -implicitDefEqProofs only [↓aP, aR, ↓reduceIte, reduceCtorEq, seval]
end Go.Proofs.YtcbfhpnmhhnjpaaGreat

namespace Go.Proofs.YtcbfhpnmhhnjpaaGreat
open Go.RowKit
def tell (s : ByteArray) (q : Int) : Pg × Int := if (takeM s).2 ≠ 0 then (zP, (takeM s).2) else if (takeM s).1.id ≠ q then (zP, 9) else ((takeM s).1, 0)
def getS (d : Dk) (q : Int) : Pg × Int := if (Jn.getM d q).2 ≠ 0 then (zP, (Jn.getM d q).2) else tell (Jn.getM d q).1 q
def setS (d : Dk) (p : Pg) : Dk × Int := if (putM p).2 ≠ 0 then (d, (putM p).2) else Jn.commitM d p.id (putM p).1
def delS (d : Dk) (q : Int) : Dk × Int := Jn.commitM d q nought32
def stepsS (d : Dk) (p : Pg) : List Jo := if p.ver ≠ 0 ∨ p.body ≠ ⟨#[]⟩ then (if (putM p).2 ≠ 0 then [] else (Jn.planM d p.id (putM p).1).1) else (Jn.planM d p.id nought32).1
theorem tell_page {p : Pg} (h : okP p = true) : tell (bytesP p) p.id = (p, 0) := by
  unfold tell
  rw [take_bytes h]
  rw [if_neg (by simp), if_neg (by simp)]
theorem tell_none {q : Int} : tell nought32 q = (zP, 3) := by
  unfold tell
  rw [take_nought, if_pos (by decide)]
theorem put_ok2 {p : Pg} (h : okP p = true) : putM p = (bytesP p, 0) := by unfold putM; rw [if_pos h]
theorem put_no2 {p : Pg} (h : okP p = false) : putM p = (⟨#[]⟩, 1) := by unfold putM; rw [if_neg (by rw [h]; simp)]
section
variable {n : Nat} {s : List ByteArray} (hn : 35 ≤ n ∧ n ≤ 64) (hs : Jn.Ok n s)
include hn hs in
theorem getS_eq {q : Int} (hq : 1 ≤ q ∧ q ≤ 16) : getS ⟨s, []⟩ q = tell (Jn.getM ⟨s, []⟩ q).1 q := by
  unfold getS
  rw [Jn.get_sec hn hs hq, if_neg (by simp)]
include hn hs in
theorem getS_fin {p : Int} {x : ByteArray} {t : List ByteArray} (hp : 1 ≤ p ∧ p ≤ 16) (hx : x.size = 32) (hf : Jn.Fin n s p x t) {q : Int} (hq : 1 ≤ q ∧ q ≤ 16) : getS ⟨t, []⟩ q = if q = p then tell x q else getS ⟨s, []⟩ q := by
  rw [getS_eq hn hf.ok hq, getS_eq hn hs hq, Jn.fin_get hn hs hp hx hf q hq]
  by_cases e : q = p
  · rw [if_pos e, if_pos e]
  · rw [if_neg e, if_neg e]
include hn hs in
theorem setS_ok {p : Pg} (h : okP p = true) : setS ⟨s, []⟩ p = (⟨Jn.s4 s p.id (bytesP p), []⟩, 0) ∧ Jn.Fin n s p.id (bytesP p) (Jn.s4 s p.id (bytesP p)) ∧ ∀ q : Int, 1 ≤ q ∧ q ≤ 16 → getS ⟨Jn.s4 s p.id (bytesP p), []⟩ q = if q = p.id then (p, 0) else getS ⟨s, []⟩ q := by
  have h2 := okP_iff.1 h
  have hp : 1 ≤ p.id ∧ p.id ≤ 16 := ⟨h2.1, h2.2.1⟩
  have hz := bytesP_size h
  have hf := Jn.s4_fin hn hs hp hz
  refine ⟨?_, hf, fun q hq => ?_⟩
  · unfold setS
    rw [put_ok2 h, if_neg (by simp)]
    exact Jn.commit_st hn hs hp hz
  · rw [getS_fin hn hs hp hz hf hq]
    by_cases e : q = p.id
    · rw [if_pos e, if_pos e, e, tell_page h]
    · rw [if_neg e, if_neg e]
include hn hs in
theorem delS_ok {p : Int} (hp : 1 ≤ p ∧ p ≤ 16) : delS ⟨s, []⟩ p = (⟨Jn.s4 s p nought32, []⟩, 0) ∧ Jn.Fin n s p nought32 (Jn.s4 s p nought32) ∧ ∀ q : Int, 1 ≤ q ∧ q ≤ 16 → getS ⟨Jn.s4 s p nought32, []⟩ q = if q = p then (zP, 3) else getS ⟨s, []⟩ q := by
  have hf := Jn.s4_fin hn hs hp nought32_size
  refine ⟨Jn.commit_st hn hs hp nought32_size, hf, fun q hq => ?_⟩
  rw [getS_fin hn hs hp nought32_size hf hq]
  by_cases e : q = p
  · rw [if_pos e, if_pos e, tell_none]
  · rw [if_neg e, if_neg e]
end
theorem getS_new {q : Int} (hq : 1 ≤ q ∧ q ≤ 16) : getS ⟨Jn.new35, []⟩ q = (zP, 3) := by
  rw [getS_eq Jn.h35 Jn.ok_new hq, Jn.get_sec Jn.h35 Jn.ok_new hq, Jn.rd_new (by omega), Jn.rd_new (by omega)]
  exact tell_none
def encGet (x : Pg × Int) : TV SC := .tup [(true, encPg x.1), (false, [.pv (.int .i64 x.2)])]
theorem sget_spec (d : Dk) (q : Int) : Spec Tryz.prog 116 [.agg (encDk d), rI q] (.val (encGet (getS d q))) := by
  refine spec_val mixed fn116 (by simp) ?_
  unfold ac116
  simp -implicitDefEqProofs only [↓aP, aR, ↓reduceIte, reduceCtorEq, seval, encDk, encGet]
  refine ask (jget_spec d q) ?_
  by_cases h0 : (Jn.getM d q).2 = 0
  · have e0 : getS d q = tell (Jn.getM d q).1 q := by unfold getS; rw [if_neg (by simp [h0])]
    simp -implicitDefEqProofs only [↓aP, aR, ↓reduceIte, reduceCtorEq, seval, h0, bne_self_eq_false]
    refine ask (ptake_spec (Jn.getM d q).1) ?_
    by_cases h1 : (takeM (Jn.getM d q).1).2 = 0
    · by_cases h2 : (takeM (Jn.getM d q).1).1.id = q
      · have e : getS d q = ((takeM (Jn.getM d q).1).1, 0) := by rw [e0]; unfold tell; rw [if_neg (by simp [h1]), if_neg (by simp [h2])]
        simp -implicitDefEqProofs only [↓aP, aR, ↓reduceIte, reduceCtorEq, seval, encPg, h1, bne_self_eq_false, h2, e]
      · have e : getS d q = (zP, 9) := by rw [e0]; unfold tell; rw [if_neg (by simp [h1]), if_pos h2]
        simp -implicitDefEqProofs only [↓aP, aR, ↓reduceIte, reduceCtorEq, seval, encPg, h1, bne_self_eq_false, show ((takeM (Jn.getM d q).1).1.id != q) = true by simpa using h2, e, zP]
    · have e : getS d q = (zP, (takeM (Jn.getM d q).1).2) := by rw [e0]; unfold tell; rw [if_pos h1]
      simp -implicitDefEqProofs only [↓aP, aR, ↓reduceIte, reduceCtorEq, seval, encPg, show ((takeM (Jn.getM d q).1).2 != 0) = true by simpa using h1, e, zP]
  · have e : getS d q = (zP, (Jn.getM d q).2) := by unfold getS; rw [if_pos h0]
    simp -implicitDefEqProofs only [↓aP, aR, ↓reduceIte, reduceCtorEq, seval, show ((Jn.getM d q).2 != 0) = true by simpa using h0, e, encPg, zP]
def encSet (x : Dk × Int) : TV SC := .tup [(true, encDk x.1), (false, [.pv (.int .i64 x.2)])]
theorem sset_spec (d : Dk) (p : Pg) : Spec Tryz.prog 178 [.agg (encDk d), .agg (encPg p)] (.val (encSet (setS d p))) := by
  refine spec_val mixed fn178 (by simp) ?_
  unfold ac178
  simp -implicitDefEqProofs only [↓aP, aR, ↓reduceIte, reduceCtorEq, seval, encDk, encPg, encSet]
  refine ask (by have := pput_spec p; rw [encPg] at this; exact this) ?_
  by_cases h0 : (putM p).2 = 0
  · have e : setS d p = Jn.commitM d p.id (putM p).1 := by unfold setS; rw [if_neg (by simp [h0])]
    simp -implicitDefEqProofs only [↓aP, aR, ↓reduceIte, reduceCtorEq, seval, h0, bne_self_eq_false, encDk]
    refine ask (commit_spec d p.id (putM p).1) ?_
    simp -implicitDefEqProofs only [↓aP, aR, ↓reduceIte, reduceCtorEq, seval, e, encDk]
  · have e : setS d p = (d, (putM p).2) := by unfold setS; rw [if_pos h0]
    simp -implicitDefEqProofs only [↓aP, aR, ↓reduceIte, reduceCtorEq, seval, show ((putM p).2 != 0) = true by simpa using h0, e, encDk]
theorem sdel_spec (d : Dk) (q : Int) : Spec Tryz.prog 148 [.agg (encDk d), rI q] (.val (encSet (delS d q))) := by
  refine spec_val mixed fn148 (by simp) ?_
  unfold ac148
  simp -implicitDefEqProofs only [↓aP, aR, ↓reduceIte, reduceCtorEq, seval, encDk, encSet]
  refine ask absent_spec ?_
  simp -implicitDefEqProofs only [↓aP, aR, ↓reduceIte, reduceCtorEq, seval, encDk]
  refine ask (commit_spec d q nought32) ?_
  simp -implicitDefEqProofs only [↓aP, aR, ↓reduceIte, reduceCtorEq, seval, delS, encDk]
  first | done | decide +kernel
theorem ssteps_spec (d : Dk) (p : Pg) : Spec Tryz.prog 147 [.agg (encDk d), .agg (encPg p)] (.val (rL 3 ((stepsS d p).map encJo))) := by
  refine spec_val mixed fn147 (by simp) ?_
  unfold ac147
  simp -implicitDefEqProofs only [↓aP, aR, ↓reduceIte, reduceCtorEq, seval, encDk, encPg]
  refine ask absent_spec ?_
  have yes : (p.ver ≠ 0 ∨ p.body ≠ ⟨#[]⟩) → stepsS d p = if (putM p).2 ≠ 0 then [] else (Jn.planM d p.id (putM p).1).1 := fun h => by unfold stepsS; rw [if_pos h]
  by_cases hv : p.ver = 0
  · by_cases hb : p.body = ⟨#[]⟩
    · have e : stepsS d p = (Jn.planM d p.id nought32).1 := by unfold stepsS; rw [if_neg (by simp [hv, hb])]
      simp -implicitDefEqProofs only [↓aP, aR, ↓reduceIte, reduceCtorEq, seval, hv, bne_self_eq_false, tl_beq, decide_eq_true hb, Bool.not_true, encDk]
      refine ask (plan_spec d p.id nought32) ?_
      simp -implicitDefEqProofs only [↓aP, aR, ↓reduceIte, reduceCtorEq, seval, e]
    · have e := yes (.inr hb)
      simp -implicitDefEqProofs only [↓aP, aR, ↓reduceIte, reduceCtorEq, seval, hv, bne_self_eq_false, tl_beq, decide_eq_false hb, Bool.not_false]
      refine ask (by have := pput_spec p; rw [encPg, hv] at this; exact this) ?_
      by_cases h0 : (putM p).2 = 0
      · rw [if_neg (by simp [h0])] at e
        simp -implicitDefEqProofs only [↓aP, aR, ↓reduceIte, reduceCtorEq, seval, h0, bne_self_eq_false, encDk]
        refine ask (plan_spec d p.id (putM p).1) ?_
        simp -implicitDefEqProofs only [↓aP, aR, ↓reduceIte, reduceCtorEq, seval, e]
      · rw [if_pos h0] at e
        simp -implicitDefEqProofs only [↓aP, aR, ↓reduceIte, reduceCtorEq, seval, show ((putM p).2 != 0) = true by simpa using h0, e, List.map_nil]
  · have e := yes (.inl hv)
    simp -implicitDefEqProofs only [↓aP, aR, ↓reduceIte, reduceCtorEq, seval, show (p.ver != 0) = true by simpa using hv]
    refine ask (by have := pput_spec p; rw [encPg] at this; exact this) ?_
    by_cases h0 : (putM p).2 = 0
    · rw [if_neg (by simp [h0])] at e
      simp -implicitDefEqProofs only [↓aP, aR, ↓reduceIte, reduceCtorEq, seval, h0, bne_self_eq_false, encDk]
      refine ask (plan_spec d p.id (putM p).1) ?_
      simp -implicitDefEqProofs only [↓aP, aR, ↓reduceIte, reduceCtorEq, seval, e]
    · rw [if_pos h0] at e
      simp -implicitDefEqProofs only [↓aP, aR, ↓reduceIte, reduceCtorEq, seval, show ((putM p).2 != 0) = true by simpa using h0, e, List.map_nil]
end Go.Proofs.YtcbfhpnmhhnjpaaGreat

namespace Go.Proofs.YtcbfhpnmhhnjpaaGreat
open Go.RowKit
instance : DecidableEq Pg := fun a b => if h : a.id = b.id ∧ a.ver = b.ver ∧ a.body.data.toList = b.body.data.toList then isTrue (by
  obtain ⟨i, v, ⟨⟨l⟩⟩⟩ := a
  obtain ⟨i', v', ⟨⟨l'⟩⟩⟩ := b
  obtain ⟨h1, h2, h3⟩ := h
  simp only at h1 h2 h3
  subst h1 h2 h3; rfl) else isFalse (fun e => h (by rw [e]; exact ⟨rfl, rfl, rfl⟩))
theorem fields_pg : Tryz.prog.underlying 42 = some (.struct (Tryz.prog.fieldsOf 42)) := by kernel_rfl
theorem held_pg : Tryz.prog.stoodInHeld 42 = false := by kernel_rfl
set_option maxRecDepth 100000 in
theorem eq_pg (x y : Pg) : EqRun Tryz.prog 42 [.int .i64 x.id, .int .i64 x.ver, .string x.body] [.int .i64 y.id, .int .i64 y.ver, .string y.body] (decide (x = y)) := by
  intro w
  rw [run_eql_struct, run_equalIn_agg w 9999 _ _ _ fields_pg held_pg]
  by_cases h1 : x.id = y.id
  · by_cases h2 : x.ver = y.ver
    · by_cases h3 : x.body = y.body
      · have e : x = y := by cases x; cases y; simp_all
        subst e
        rw [decide_eq_true rfl]
        go_simp
      · rw [decide_eq_false (fun e => h3 (by rw [e]))]
        go_simp
        intro e
        have := tl_beq x.body y.body
        rw [e, beq_self_eq_true] at this
        exact h3 (of_decide_eq_true this.symm)
    · rw [decide_eq_false (fun e => h2 (by rw [e]))]
      go_simp
  · rw [decide_eq_false (fun e => h1 (by rw [e]))]
    go_simp
theorem eqP {x y : Pg} (h : x = y) : EqRun Tryz.prog 42 [.int .i64 x.id, .int .i64 x.ver, .string x.body] [.int .i64 y.id, .int .i64 y.ver, .string y.body] true := by
  have := eq_pg x y
  rwa [decide_eq_true h] at this
theorem new_spec35 : Spec Tryz.prog 39 [rI 35] (.val (.tup [(true, encDk ⟨Jn.new35, []⟩), (false, [.pv (.int .i64 0)])])) := by
  have := new_spec 35
  rw [Jn.new_eq] at this
  exact this
theorem steps_set {n : Nat} {s : List ByteArray} (hn : 35 ≤ n ∧ n ≤ 64) (hs : Jn.Ok n s) {p : Pg} (h : okP p = true) : stepsS ⟨s, []⟩ p = Jn.plan p.id (bytesP p) := by
  have h2 := okP_iff.1 h
  unfold stepsS
  rw [if_pos (Or.inl (by omega)), put_ok2 h, if_neg (by simp)]
  unfold Jn.planM
  rw [if_pos ⟨Jn.usable_ok hn hs Jn.cok_nil, Jn.page_iff.2 ⟨h2.1, h2.2.1⟩, bytesP_size h⟩]
theorem steps_del {n : Nat} {s : List ByteArray} (hn : 35 ≤ n ∧ n ≤ 64) (hs : Jn.Ok n s) {p : Pg} (hp : 1 ≤ p.id ∧ p.id ≤ 16) (h : p.ver = 0 ∧ p.body = ⟨#[]⟩) : stepsS ⟨s, []⟩ p = Jn.plan p.id nought32 := by
  unfold stepsS
  rw [if_neg (by simp [h.1, h.2])]
  unfold Jn.planM
  rw [if_pos ⟨Jn.usable_ok hn hs Jn.cok_nil, Jn.page_iff.2 hp, nought32_size⟩]
end Go.Proofs.YtcbfhpnmhhnjpaaGreat

namespace Go.Proofs.YtcbfhpnmhhnjpaaGreat
open Go.RowKit
structure Fs where
  ck : Clk
  tb : List Sl
  pg : List Pg
  dt : List It
def encFs (f : Fs) : List SC := [.sl 3 (f.ck.fr.map encFr), .pv (.int .i64 f.ck.hand), .sl 2 (f.tb.map encSl), .sl 3 (f.pg.map encPg), .sl 2 (f.dt.map encIt)]
def zF : Fr := ⟨0, 0, false⟩
def okPg (p : Pg) : Bool := decide (1 ≤ p.id ∧ p.id ≤ 16 ∧ 1 ≤ p.ver ∧ p.ver ≤ 2147483647 ∧ p.body.size ≤ 16)
namespace Fm
def okAt (f : Fs) (k : Nat) : Bool := if (f.ck.fr.getD k zF).page = 0 then decide (f.pg.getD k zP = zP) && ((f.ck.fr.getD k zF).pins == 0) else (((f.ck.fr.getD k zF).page == (f.pg.getD k zP).id) && okPg (f.pg.getD k zP)) && ((Ta.find f.tb (f.ck.fr.getD k zF).page).2 && ((Ta.find f.tb (f.ck.fr.getD k zF).page).1 == (k : Int)))
def taken (l : List Pg) : Nat := l.countP fun p => p.id != 0
def right (f : Fs) : Bool := Ck.right f.ck.fr f.ck.hand && Ta.right f.tb && Dy.right f.dt && (f.pg.length == f.ck.fr.length) && (List.range f.pg.length).all (okAt f) && ((Ta.pgs f.tb).length == taken f.pg) && f.dt.all fun i => (Ta.find f.tb i.page).2
def find (f : Fs) (id : Int) : Int × Bool := if right f = true then Ta.find f.tb id else (0, false)
def locate (f : Fs) (id : Int) : Int × Int := if right f = false then (0, 1) else if (Ta.find f.tb id).2 = false then (0, 3) else ((Ta.find f.tb id).1, 0)
def ff (f : Fs) : Int := fst? (fun c : Fr => c.page == 0) f.ck.fr
def lay (f : Fs) (k : Nat) (c : Fr) (p : Pg) : Fs := ⟨⟨f.ck.fr.set k c, f.ck.hand⟩, f.tb, f.pg.set k p, f.dt⟩
def empty (f : Fs) (k : Nat) : Fs := ⟨⟨f.ck.fr.set k zF, f.ck.hand⟩, (Ta.del f.tb (f.pg.getD k zP).id).1, f.pg.set k zP, (cleanI f.dt (f.pg.getD k zP).id).1⟩
def mark (f : Fs) (id now : Int) : Fs × Int := (⟨f.ck, f.tb, f.pg, (markI f.dt id now).1⟩, (markI f.dt id now).2)
def room (f : Fs) : Fs × Pg × Bool × Int := if right f = false then (f, zP, false, 1) else if 0 ≤ ff f then (f, zP, false, 0) else if (sweepC f.ck).2.2 = false then (f, zP, false, 6) else
  if (sinceI f.dt (f.pg.getD (sweepC f.ck).2.1.toNat zP).id).2 = true then (⟨(sweepC f.ck).1, f.tb, f.pg, f.dt⟩, f.pg.getD (sweepC f.ck).2.1.toNat zP, true, 0) else (empty ⟨(sweepC f.ck).1, f.tb, f.pg, f.dt⟩ (sweepC f.ck).2.1.toNat, f.pg.getD (sweepC f.ck).2.1.toNat zP, false, 0)
def load (f : Fs) (p : Pg) (now : Int) (fresh : Bool) : Fs × Int := if right f = false ∨ okPg p = false ∨ now < 0 ∨ 2147483647 < now then (f, 1) else if (Ta.find f.tb p.id).2 = true then (f, 4) else if ff f < 0 then (f, 7) else
  if fresh = true then (if (mark ⟨⟨f.ck.fr.set (ff f).toNat ⟨p.id, 1, true⟩, f.ck.hand⟩, (Ta.put f.tb p.id (ff f)).1, f.pg.set (ff f).toNat p, f.dt⟩ p.id now).2 ≠ 0 then (f, (mark ⟨⟨f.ck.fr.set (ff f).toNat ⟨p.id, 1, true⟩, f.ck.hand⟩, (Ta.put f.tb p.id (ff f)).1, f.pg.set (ff f).toNat p, f.dt⟩ p.id now).2) else ((mark ⟨⟨f.ck.fr.set (ff f).toNat ⟨p.id, 1, true⟩, f.ck.hand⟩, (Ta.put f.tb p.id (ff f)).1, f.pg.set (ff f).toNat p, f.dt⟩ p.id now).1, 0))
  else (⟨⟨f.ck.fr.set (ff f).toNat ⟨p.id, 1, true⟩, f.ck.hand⟩, (Ta.put f.tb p.id (ff f)).1, f.pg.set (ff f).toNat p, f.dt⟩, 0)
def unpin (f : Fs) (id : Int) : Fs × Int := if (locate f id).2 ≠ 0 then (f, (locate f id).2) else if (f.ck.fr.getD (locate f id).1.toNat zF).pins = 0 then (f, 12) else (lay f (locate f id).1.toNat ⟨(f.ck.fr.getD (locate f id).1.toNat zF).page, (f.ck.fr.getD (locate f id).1.toNat zF).pins - 1, (f.ck.fr.getD (locate f id).1.toNat zF).used⟩ (f.pg.getD (locate f id).1.toNat zP), 0)
def newF (n : Int) : Fs × Int := if 1 ≤ n ∧ n ≤ 8 then (⟨⟨List.replicate n.toNat zF, 0⟩, List.replicate 16 Ta.z, List.replicate n.toNat zP, []⟩, 0) else (⟨⟨[], 0⟩, [], [], []⟩, 1)
end Fm
theorem clonePg (l : List (List SC)) (hl : l.length * 32 ≤ 2 ^ 47) : Spec Tryz.prog 166 [.c (.sl 3 l)] (.row 42 3 l) := by
  refine Spec.tag ?_ ?_
  · intro h
    subst h
    refine spec_row mixed fn166 (by simp) ?_
    unfold ac166
    simp -implicitDefEqProofs only [↓aP, aR, ↓reduceIte, reduceCtorEq, seval]
  · refine spec_row mixed fn166 (by simp) ?_
    unfold ac166
    simp -implicitDefEqProofs only [↓aP, aR, ↓reduceIte, reduceCtorEq, seval]
    refine ⟨?_, ?_⟩ <;> omega
theorem pRight_spec (p : Pg) : Spec Tryz.prog 89 [.agg (encPg p)] (.val (rB (okPg p))) := by
  refine spec_val mixed fn89 (by simp) ?_
  unfold ac89
  simp -implicitDefEqProofs only [↓aP, aR, ↓reduceIte, reduceCtorEq, seval, encPg]
  repeat' ((first | ((first | with_reducible refine fork ?_ ?_ | with_reducible refine gcase ?_ ?_ | with_reducible refine gcaseD ?_ ?_) <;> intro hc <;> (have hp := hc) <;> (try simp only [aB] at hp)) | (have hc := True.intro; first | with_reducible refine askM (by omega) ?_ | with_reducible refine And.intro (by first | omega | decide +kernel) ?_ | fail)) <;> (try simp -implicitDefEqProofs only [↓aP, aR, ↓reduceIte, reduceCtorEq, seval, hc]))
  all_goals (unfold okPg; first | (symm; rw [decide_eq_false_iff_not]; omega) | (rw [decide_eq_decide]; omega))
theorem ff1_spec (x : Fr) : Spec Tryz.prog 190 [.agg (encFr x)] (.val (rB (x.page == 0))) := by
  refine spec_val mixed fn190 (by simp) ?_
  unfold ac190
  simp -implicitDefEqProofs only [↓aP, aR, ↓reduceIte, reduceCtorEq, seval, encFr]
theorem ff_spec (f : Fs) (hl : f.ck.fr.length < 4611686018427387904) : Spec Tryz.prog 170 [.agg (encFs f)] (.val (rI (Fm.ff f))) := by
  refine spec_val mixed fn170 (by simp) ?_
  unfold ac170
  simp -implicitDefEqProofs only [↓aP, aR, ↓reduceIte, reduceCtorEq, seval, encFs]
  refine ask (idxFr_spec f.ck.fr (fun x => x.page == 0) 190 [] (by kernel_rfl) (fun x => ff1_spec x) hl) ?_
  simp -implicitDefEqProofs only [↓aP, aR, ↓reduceIte, reduceCtorEq, seval]
  rfl
theorem lay_spec (f : Fs) (k : Nat) (c : Fr) (p : Pg) (h1 : k < f.ck.fr.length) (h2 : k < f.pg.length) (hl : f.ck.fr.length ≤ 1000000 ∧ f.pg.length ≤ 1000000) : Spec Tryz.prog 141 [.agg (encFs f), rI (k : Int), .agg (encFr c), .agg (encPg p)] (.val (.agg (encFs (Fm.lay f k c p)))) := by
  refine spec_val mixed fn141 (by simp) ?_
  unfold ac141
  simp -implicitDefEqProofs only [↓aP, aR, ↓reduceIte, reduceCtorEq, seval, encFs, encFr, encPg]
  refine ask (cloneFr _ (by simp; omega)) ?_
  simp -implicitDefEqProofs only [↓aP, aR, ↓reduceIte, reduceCtorEq, seval, encFs, askIdx_map, h1, encFr]
  have m1 : (f.ck.fr.map encFr).set k [.pv (.int .i64 c.page), .pv (.int .i64 c.pins), .pv (.bool c.used)] = (f.ck.fr.set k c).map encFr := by rw [List.map_set]; rfl
  have m2 : (f.pg.map encPg).set k [.pv (.int .i64 p.id), .pv (.int .i64 p.ver), .pv (.string p.body)] = (f.pg.set k p).map encPg := by rw [List.map_set]; rfl
  refine ask (clonePg _ (by simp; omega)) ?_
  simp -implicitDefEqProofs only [↓aP, aR, ↓reduceIte, reduceCtorEq, seval, encFs, askIdx_map, h2, encPg, m1, m2, Fm.lay]
theorem fr_getD {l : List Fr} {k : Nat} (h : k < l.length) : l.getD k zF = l[k] := by rw [List.getD_eq_getElem?_getD, List.getElem?_eq_getElem h]; rfl
theorem pg_getD {l : List Pg} {k : Nat} (h : k < l.length) : l.getD k zP = l[k] := by rw [List.getD_eq_getElem?_getD, List.getElem?_eq_getElem h]; rfl
set_option maxRecDepth 100000 in
theorem okAt_spec (f : Fs) (k : Nat) (h1 : k < f.ck.fr.length) (h2 : k < f.pg.length) : Spec Tryz.prog 46 [.agg (encFs f), rI (k : Int)] (.val (rB (Fm.okAt f k))) := by
  refine spec_val mixed fn46 (by simp) ?_
  unfold ac46
  have e1 := fr_getD h1
  have e2 := pg_getD h2
  simp -implicitDefEqProofs only [↓aP, aR, ↓reduceIte, reduceCtorEq, seval, encFs, askIdx_map, h1, h2, encFr, encPg]
  have tf := tFind_spec f.tb f.ck.fr[k].page
  rw [encTa] at tf
  have pr := pRight_spec f.pg[k]
  rw [encPg] at pr
  by_cases hp : f.ck.fr[k].page = 0
  · simp -implicitDefEqProofs only [↓aP, aR, ↓reduceIte, reduceCtorEq, seval, hp, beq_self_eq_true]
    repeat (refine And.intro (by decide +kernel) ?_)
    refine askEq (eq_pg f.pg[k] zP) ?_
    have e : Fm.okAt f k = (decide (f.pg[k] = zP) && (f.ck.fr[k].pins == 0)) := by unfold Fm.okAt; rw [e1, e2, if_pos hp]
    rw [e]
    cases decide (f.pg[k] = zP)
    · simp -implicitDefEqProofs only [↓aP, aR, ↓reduceIte, reduceCtorEq, seval, Bool.false_and]
    · simp -implicitDefEqProofs only [↓aP, aR, ↓reduceIte, reduceCtorEq, seval, Bool.true_and]
  · have e : Fm.okAt f k = (((f.ck.fr[k].page == f.pg[k].id) && okPg f.pg[k]) && ((Ta.find f.tb f.ck.fr[k].page).2 && ((Ta.find f.tb f.ck.fr[k].page).1 == (k : Int)))) := by unfold Fm.okAt; rw [e1, e2, if_neg hp]
    simp -implicitDefEqProofs only [↓aP, aR, ↓reduceIte, reduceCtorEq, seval, show (f.ck.fr[k].page == 0) = false from beq_eq_false_iff_ne.2 hp]
    repeat (refine And.intro (by decide +kernel) ?_)
    refine ask tf ?_
    rw [e]
    cases x1 : (f.ck.fr[k].page == f.pg[k].id)
    · simp -implicitDefEqProofs only [↓aP, aR, ↓reduceIte, reduceCtorEq, seval, encSlot, x1, Bool.false_and]
    · simp -implicitDefEqProofs only [↓aP, aR, ↓reduceIte, reduceCtorEq, seval, encSlot, x1, Bool.true_and]
      refine ask pr ?_
      cases x2 : okPg f.pg[k]
      · simp -implicitDefEqProofs only [↓aP, aR, ↓reduceIte, reduceCtorEq, seval, Bool.false_and]
      · cases x3 : (Ta.find f.tb f.ck.fr[k].page).2
        · simp -implicitDefEqProofs only [↓aP, aR, ↓reduceIte, reduceCtorEq, seval, x3, Bool.true_and, Bool.false_and]
        · simp -implicitDefEqProofs only [↓aP, aR, ↓reduceIte, reduceCtorEq, seval, x3, Bool.true_and]
end Go.Proofs.YtcbfhpnmhhnjpaaGreat

