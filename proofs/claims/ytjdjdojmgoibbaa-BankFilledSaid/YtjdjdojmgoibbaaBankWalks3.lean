/- THE WALKS of layer 10: the order in which all can be served. Conditions: the slice's cells hold the clients. -/
import Derived.Test.YtjdjdojmgoibbaaBankWalks2
import Derived.OwnWalk
namespace Go.Proofs.Ytjdjdojmgoibbaa
open Go.RowKit
set_option linter.unusedVariables false

theorem infoB : (Try.prog.info? 4).map (fun i => (i.zero, i.size, i.bytes)) = some (some (.bool false), 1, 1) := by kernel_rfl
theorem infoI : (Try.prog.info? 3).map (fun i => (i.zero, i.size, i.bytes)) = some (some (.int .i64 0), 1, 8) := by kernel_rfl
theorem madeB (n : Nat) (hn : n ≤ 281474976710656) (w : World) : (Instr.makeSlice 43 (.int .i64 n) (.int .i64 n)).run Try.prog w = .ok (.slice (some ⟨w.heap.size, 0, none⟩) n n) (w.alloc (.cells (boolCells (List.replicate n false)) 4)) := by
  obtain ⟨i0, hi, hz0, hz1, hz2⟩ := info_parts infoB
  have h := run_make w 43 4 i0 (.bool false) Try.underlying43 hi hz0 .i64 .i64 n n (by omega) (by omega) (by rw [hz2]; omega) (by omega)
  simp only [hz1, Nat.mul_one, Int.toNat_natCast] at h
  rw [h]
  congr 4
  apply Array.toList_inj.1
  rw [show (Value.bool false).cells = #[Value.bool false] from rfl, toList_madeCells_one]
  simp [boolCells]

/-- what Order tells: a row of places of the call's own, and whether they are all -/
def OrderIs (B : Nat) (l : List Cl) (ord : List Nat) (e : Ending) (w' : World) : Prop :=
  ∃ v, e = .returned (.tuple #[v, .bool (decide ((ord.length : Int) = (l.length : Int)))]) ∧ w'.ownsRow B 3 1 v ord.length (ord.map fun i : Nat => Value.int .i64 (i : Int))

theorem Bk.go_none {n : Nat} {free : Int} {l : List Cl} {sv : List Bool} {ord : List Nat} (h : Bk.next free l sv = none) : Bk.go n free l sv ord = ord := by
  cases n with
  | zero => rfl
  | succ n => simp only [Bk.go, h]
theorem Bk.go_some {n : Nat} {free : Int} {l : List Cl} {sv : List Bool} {ord : List Nat} {i : Nat} (h : Bk.next free l sv = some i) : Bk.go (n + 1) free l sv ord = Bk.go n (free + (l.getD i default).held) l (sv.set i true) (ord ++ [i]) := by
  simp only [Bk.go, h]
theorem Bk.next_lt {free : Int} {l : List Cl} {sv : List Bool} {i : Nat} (h : Bk.next free l sv = some i) : i < l.length ∧ sv.getD i true = false ∧ Bk.can free (l.getD i default) = true := by
  unfold Bk.next at h
  rw [List.find?_range_eq_some] at h
  obtain ⟨h1, h2, _⟩ := h
  rw [Bool.and_eq_true] at h1
  exact ⟨by simpa using h2, by simpa using h1.1, h1.2⟩
theorem count_set {sv : List Bool} {i : Nat} (hi : sv.getD i true = false) : (sv.set i true).count false + 1 = sv.count false := by
  have hlt : i < sv.length := by
    by_cases h : i < sv.length
    · exact h
    · rw [List.getD_eq_getElem?_getD, List.getElem?_eq_none (by omega)] at hi; simp at hi
  have he : sv[i] = false := by rw [List.getD_eq_getElem?_getD, List.getElem?_eq_getElem hlt] at hi; simpa using hi
  rw [List.count_set hlt, he]
  have hpos : 0 < sv.count false := List.count_pos_iff.2 (by rw [← he]; exact List.getElem_mem hlt)
  simp
  omega

set_option maxRecDepth 100000 in
set_option maxHeartbeats 800000 in
theorem order_yes (free : Int) (b off cap : Nat) (l : List Cl) (w : World) (hfr : 0 ≤ free ∧ free ≤ 1000) (hr : Bk.right l = true) (hcap : l.length ≤ cap) (hm : cap ≤ maxLen) (hb : b < w.heap.size) (hc : ClsAt w b off l) :
    Calls Try.prog 25 #[.int .i64 free, .slice (some ⟨b, off, none⟩) l.length cap] w fun e w' => OrderIs w.heap.size l (Bk.order free l) e w' ∧ Below w.heap.size w w' := by
  obtain ⟨hgood, hl8⟩ := Bk.good_of_right hr
  obtain ⟨hf1, hf2⟩ := hfr
  have hmk := madeB l.length (by omega)
  obtain ⟨i0, hi, hz0, hz1, hz2⟩ := info_parts infoI
  have R := Lib.hid (right_any b off cap l w hcap hm hb hc)
  rw [hr] at R
  have HC := Lib.hid hc
  have HG := Lib.hid hgood
  have HI := Lib.hid (And.intro hi (And.intro hz0 (And.intro hz1 hz2)))
  clear hc hgood hr hi hz0 hz1 hz2
  go_enter Try.func25, Try.ntmps25
  go_wp2_with fail
  refine R.out.mono ?_
  rintro e W1 ⟨rfl, hB1⟩
  go_wp2_with fail
  clear hmk
  have hsb := Blk.new W1 4 (boolCells (List.replicate l.length false))
  have hB2 := hB1.alloc hB1.size (.cells (boolCells (List.replicate l.length false)) 4)
  generalize hsbb : W1.heap.size = sb at hsb
  have hsbw : w.heap.size ≤ sb := by rw [← hsbb]; exact hB1.size
  clear hsbb hB1
  generalize W1.alloc (.cells (boolCells (List.replicate l.length false)) 4) = W2 at hsb hB2
  clear W1
  go_loopw [0, 7, 8, 9] (fun f v _ _ wr => ∃ (fr : Int) (ord : List Nat) (sv : List Bool) (A : Option Addr) (c : Nat), f = .int .i64 fr ∧ 0 ≤ fr ∧ fr ≤ 1000 + 100 * (ord.length : Int) ∧ ord.length ≤ l.length ∧ v = .slice A ord.length c ∧ wr.ownsRow w.heap.size 3 1 (.slice A ord.length c) ord.length (ord.map fun i : Nat => Value.int .i64 (i : Int)) ∧ Blk wr sb 4 (boolCells sv) ∧ sv.length = l.length ∧ sv.count false = l.length - ord.length ∧ Below w.heap.size w wr ∧ Bk.go (l.length + 1 - ord.length) fr l sv ord = Bk.order free l) (fun _ v _ _ _ => match v with | .slice _ n _ => l.length - n | _ => 0)
  case atStart => exact ⟨free, [], List.replicate l.length false, none, 0, rfl, hf1, by simpa using hf2, by simp, rfl, ⟨rfl, .inl ⟨rfl, rfl⟩⟩, hsb, by simp, by simp, hB2, rfl⟩
  case round =>
    obtain ⟨fr, ord, sv, A, c, rfl, hr1, hr2, hol, rfl, hown, hsb3, hsl, hcnt, hB3, hgo⟩ := hrel
    have HGO := Lib.hid hgo
    have HSL := Lib.hid hsl
    have HCNT := Lib.hid hcnt
    clear hgo hsl hcnt hsb hB2 W2
    have hblt : b < wr.heap.size := Nat.lt_of_lt_of_le hb hB3.size
    have HN := Lib.hid (next_any fr b off cap l sb l.length sv wr ⟨hr1, by omega⟩ hl8 HG.out hblt (HC.out.below hB3 hb) hsb3 HSL.out)
    cases hnx : Bk.next fr l sv with
    | none =>
      have hord : Bk.order free l = ord := by rw [← HGO.out, Bk.go_none hnx]
      have HO := Lib.hid hord
      have N2 := HN.out
      rw [hnx] at N2
      have N3 := Lib.hid N2
      clear hord hnx N2 HN
      go_wp2_with fail
      refine N3.out.mono ?_
      rintro e W4 ⟨he, hB4⟩
      change e = _ at he
      subst he
      go_wp2_with fail
      go_ret2
      refine ⟨?_, hB3.trans (hB4.mono hB3.size)⟩
      rw [HO.out]
      exact ⟨_, rfl, own_keep hown hB4⟩
    | some i =>
      obtain ⟨hil, hsvi, hcan⟩ := Bk.next_lt hnx
      have hpos : ord.length < l.length := by
        have h1 := HCNT.out
        have h2 := count_set hsvi
        omega
      have hgo2 : Bk.go (l.length + 1 - (ord.length + 1)) (fr + (l.getD i default).held) l (sv.set i true) (ord ++ [i]) = Bk.order free l := by
        rw [← HGO.out, show l.length + 1 - ord.length = (l.length + 1 - (ord.length + 1)) + 1 by omega, Bk.go_some hnx]
      have N2 := HN.out
      rw [hnx] at N2
      have N3 := Lib.hid N2
      have hcnt2 : (sv.set i true).count false = l.length - (ord.length + 1) := by
        have h1 := HCNT.out
        have h2 := count_set hsvi
        omega
      have HGO2 := Lib.hid hgo2
      have HCNT2 := Lib.hid hcnt2
      clear hgo2 hcnt2 hnx N2 HN hcan hsvi
      go_wp2_with fail
      refine N3.out.mono ?_
      rintro e W4 ⟨he, hB4⟩
      change e = _ at he
      subst he
      have hsb5 := hsb3.keep hB4
      have hown5 := own_keep hown hB4
      have hB5 := hB3.trans (hB4.mono hB3.size)
      have hsf := hsb5.frozen i
      have hii : i < sv.length := by rw [HSL.out]; exact hil
      have hsc : W4.cell? ⟨sb, i, none⟩ = some (.bool sv[i]) := by rw [hsb5.cell]; simp [boolCells, List.getElem?_eq_getElem hii]
      generalize sv[i] = s at hsc
      clear hsb3 hown hB3 hB4 hblt
      have hput := own_put hown5 hsb5 (show (4 : Nat) ≠ 3 by decide) i (.bool true)
      have hsb6 := hsb5.put i (.bool true)
      have hB6 := hB5.setCell (p := ⟨sb, i, none⟩) hsbw (.bool true)
      obtain ⟨hi, hz0, hz1, hz2⟩ := HI.out
      have hord7 : ord.length + 1 ≤ maxLen := by unfold maxLen; omega
      have hord8 : (ord.length + 1) * 8 ≤ 140737488355328 := by omega
      go_wp2_with (at_builtin; go_must (refine wpList_append_own _ rfl _ _ 50 rfl w.heap.size 3 i0 (.int .i64 0) 1 8 Try.underlying50 hi hz0 hz1 hz2 rfl (by decide) _ _ _ rfl (hput.alloc _) ⟨W4.heap.size, 0, none⟩ 1 1 [.int .i64 i] rfl rfl ?c1 (by simp [Value.oneCell']) hord7 hord8 ?c5 ?_))
      case c1 => intro j u h; have := cell_one_new (W4.setCell ⟨sb, i, none⟩ (.bool true)) (.int .i64 (i : Int)) 3 j u h; simpa using this
      case c5 => have := hB6.size; simp at this ⊢; omega
      intro v' w1 hown1 hgrow _
      have hsz6 : w.heap.size ≤ (W4.setCell ⟨sb, i, none⟩ (.bool true)).heap.size := hB6.size
      have hB7 : Below w.heap.size w w1 := (hB6.alloc hsz6 _).grown hgrow (by have := hsz6; simp at this ⊢; omega) (own_base hput)
      have hsb7 : Blk w1 sb 4 ((boolCells sv).setIfInBounds i (.bool true)) := (hsb6.alloc _).grown hgrow (own_ne hput hsb6 (show (4 : Nat) ≠ 3 by decide))
      have hset : (boolCells sv).setIfInBounds i (.bool true) = boolCells (sv.set i true) := by
        simp [boolCells, List.map_set]
      rw [hset] at hsb7
      obtain ⟨A', c', rfl⟩ := own_form hown1
      have hown2 : w1.ownsRow w.heap.size 3 1 (.slice A' (ord.length + 1) c') (ord.length + 1) ((ord ++ [i]).map fun i : Nat => Value.int .i64 (i : Int)) := by
        rw [List.map_append]; exact hown1
      obtain ⟨c0, c1, c2⟩ := (HC.out.below hB7 hb) i hil
      have hld : l.getD i default = l[i] := by rw [List.getD_eq_getElem?_getD, List.getElem?_eq_getElem hil]; rfl
      have hgk := HG.out l[i] (List.getElem_mem hil)
      rw [← hld] at c0 c1 c2 hgk
      generalize l.getD i default = x at c0 c1 c2 hgk HGO2
      obtain ⟨g1, g2, g3, g4⟩ := hgk
      clear hput hsb6 hB6 hown1 hgrow hsc hsf hsb5 hown5 hB5 hi hz0 hz1 hz2 hset hld c0 c1
      go_wp2_with fail
      go_roundw
      case rel =>
        refine ⟨fr + x.held, ord ++ [i], sv.set i true, A', c', rfl, by omega, ?_, ?_, ?_, ?_, hsb7, ?_, ?_, hB7, ?_⟩
        · rw [List.length_append]; simp; omega
        · rw [List.length_append]; simp; omega
        · rw [List.length_append]; rfl
        · rw [List.length_append]; exact hown2
        · rw [List.length_set]; exact HSL.out
        · rw [List.length_append]; exact HCNT2.out
        · rw [List.length_append]; exact HGO2.out
      case measure => simp; omega
end Go.Proofs.Ytjdjdojmgoibbaa
