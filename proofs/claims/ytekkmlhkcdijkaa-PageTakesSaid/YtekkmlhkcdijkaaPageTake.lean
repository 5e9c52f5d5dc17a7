/- THE WALK of layer 2's Take: any bytes are the page that the document says, or none, and why. Conditions: a string lies in memory. -/
import Derived.Test.YtekkmlhkcdijkaaPageWalks
import Derived.Deep.RegionWith
namespace Go.Proofs.Ytekkmlhkcdijkaa
open Go.RowKit
set_option linter.unusedVariables false

theorem str_extract (l : List UInt8) (a b : Nat) : (str l).extract a b = str ((l.take b).drop a) := by
  have : ((str l).extract a b).data.toList = (l.take b).drop a := by
    simp [str, ByteArray.data_extract, List.extract_eq_take_drop, List.drop_take]
  rw [← str_of ((str l).extract a b), this]
theorem str_list (l : List UInt8) : (str l).toList = l := Go.ByteArray.toList_eq _

/-- what a Take tells: a page's three parts, and an error -/
def pageVal (i v : Nat) (b : List UInt8) : Value := .agg #[.int .i64 i, .int .i64 v, .string (str b)]
/-- the walk's post of Take -/
def Took (i v : Nat) (b : List UInt8) (e : Int) (w : World) (en : Ending) (w' : World) : Prop :=
  en = .returned (.tuple #[pageVal i v b, .int .i64 e]) ∧ Below w.heap.size w w'

/-- three cells of a block of the call's own -/
theorem Blk.three {w : World} {g t : Nat} {a b c : Value} (h : Blk w g t #[a, b, c]) : w.cell? ⟨g, 0, none⟩ = some a ∧ w.cell? ⟨g, 1, none⟩ = some b ∧ w.cell? ⟨g, 2, none⟩ = some c ∧
    w.frozen? ⟨g, 0, none⟩ = false ∧ w.frozen? ⟨g, 1, none⟩ = false ∧ w.frozen? ⟨g, 2, none⟩ = false :=
  ⟨h.cell 0, h.cell 1, h.cell 2, h.frozen 0, h.frozen 1, h.frozen 2⟩

theorem _root_.Go.RowKit.Below.set3 {B : Nat} {w W : World} (h : Below B w W) {g : Nat} (hg : B ≤ g) (a b c : Value) :
    Below B w (((W.setCell ⟨g, 0, none⟩ a).setCell ⟨g, 1, none⟩ b).setCell ⟨g, 2, none⟩ c) :=
  ((h.setCell (by exact hg) _).setCell (by exact hg) _).setCell (by exact hg) _

set_option maxRecDepth 100000 in
set_option maxHeartbeats 400000 in
theorem take_form (l : List UInt8) (w : World) (h : l.length ≠ 32) :
    Calls Try.prog 24 #[.string (str l)] w (Took 0 0 [] 2 w) := by
  have hsz := str_size
  have ht : ((l.length : Int) != 32) = true := by simp; omega
  go_enter Try.func24, Try.ntmps24
  go_wp2_with fail
  refine bodyPost_ret (v := .tuple #[.agg #[.int .i64 0, .int .i64 0, .string ⟨#[]⟩], .int .i64 2]) (by simp [results, Try.results24, go_sem]) rfl ⟨rfl, (Below.refl _ _).alloc (Nat.le_refl _) _⟩

set_option maxRecDepth 100000 in
set_option maxHeartbeats 400000 in
theorem take_none (w : World) :
    Calls Try.prog 24 #[.string (str (List.replicate 32 0))] w (Took 0 0 [] 3 w) := by
  have hsz := str_size
  have htl := str_list
  generalize hl : List.replicate 32 (0 : UInt8) = l
  have hln : (l.length : Int) = 32 := by rw [← hl]; rfl
  have hne : ((l.length : Int) != 32) = false := by rw [hln]; rfl
  have HL := Lib.hid hl
  clear hl hln
  go_enter Try.func24, Try.ntmps24
  go_wp2_with fail
  refine (repeat_noughts 32 _ (by omega)).mono ?_
  rw [HL.out]
  rintro e W1 ⟨rfl, hB⟩
  have hb := (Blk.new w 37 #[.int .i64 0, .int .i64 0, .string ⟨#[]⟩]).keep hB
  have hbel : Below w.heap.size w W1 := ((Below.refl _ _).alloc (Nat.le_refl _) _).trans (hB.mono (by simp))
  clear hB
  obtain ⟨c0, c1, c2, f0, f1, f2⟩ := hb.three
  go_wp2_with fail
  refine bodyPost_ret (v := .tuple #[.agg #[.int .i64 0, .int .i64 0, .string ⟨#[]⟩], .int .i64 3]) (by simp [results, Try.results24, go_sem, c0, c1, c2]) rfl ⟨rfl, ?_⟩
  exact hbel.set3 (Nat.le_refl _) _ _ _

set_option maxRecDepth 100000 in
set_option maxHeartbeats 400000 in
theorem take_long (l : List UInt8) (w : World) (h : l.length = 32) (h0 : l ≠ List.replicate 32 0) (hn : 16 < num4 ((l.take 12).drop 8)) :
    Calls Try.prog 24 #[.string (str l)] w (Took 0 0 [] 9 w) := by
  have hsz := str_size
  have hex := str_extract
  have hne : ((l.length : Int) != 32) = false := by rw [h]; rfl
  have h32 : 32 ≤ l.length := by omega
  have htl := str_list
  have hq : (l == List.replicate 32 0) = false := beq_eq_false_iff_ne.2 h0
  generalize hl : List.replicate 32 (0 : UInt8) = r at hq
  have HL := Lib.hid hl
  have hv := value_any (str ((l.take 12).drop 8))
  rw [str_toList] at hv
  have HV := Lib.hid (hv · (by simp [str_size]; omega))
  generalize num4 ((l.take 12).drop 8) = n at hn HV
  clear hl h h0 hv
  go_enter Try.func24, Try.ntmps24
  go_wp2_with fail
  refine (repeat_noughts 32 _ (by omega)).mono ?_
  rw [HL.out]
  rintro e W1 ⟨rfl, hB⟩
  have hb := (Blk.new w 37 #[.int .i64 0, .int .i64 0, .string ⟨#[]⟩]).keep hB
  have hbel : Below w.heap.size w W1 := ((Below.refl _ _).alloc (Nat.le_refl _) _).trans (hB.mono (by simp))
  clear hB
  obtain ⟨c0, c1, c2, f0, f1, f2⟩ := hb.three
  go_wp2_with fail
  refine (HV.out _).mono ?_
  rintro e W2 ⟨rfl, k, rfl⟩
  go_wp2_with fail
  refine bodyPost_ret (v := .tuple #[.agg #[.int .i64 0, .int .i64 0, .string ⟨#[]⟩], .int .i64 9]) (by simp [results, Try.results24, go_sem, c0, c1, c2]) rfl ⟨rfl, ?_⟩
  exact (hbel.trans (drewN_below _ _ _)).set3 (Nat.le_refl _) _ _ _

/-- the three parts that the bytes name -/
def partI (l : List UInt8) : Nat := num4 (l.take 4)
def partV (l : List UInt8) : Nat := num4 ((l.take 8).drop 4)
def partN (l : List UInt8) : Nat := num4 ((l.take 12).drop 8)
def partB (l : List UInt8) : List UInt8 := (l.take (16 + partN l)).drop 16
def TookPage (i v : Nat) (b l : List UInt8) (w : World) (en : Ending) (w' : World) : Prop :=
  if isPage i v (str b) = true ∧ pageBytes i v b = l then Took i v b 0 w en w' else Took 0 0 [] 9 w en w'
theorem put_any (i v : Nat) (b : List UInt8) (w : World) :
    Calls Try.prog 21 #[.agg #[.int .i64 i, .int .i64 v, .string (str b)]] w fun e w' => e = .returned (.tuple #[.string (str (if isPage i v (str b) then pageBytes i v b else [])), .int .i64 (if isPage i v (str b) then 0 else 1)]) ∧ Below w.heap.size w w' := by
  cases h : isPage i v (str b) with
  | true => exact put_yes i v b w h
  | false => exact put_no i v (str b) w h

/-- the world behind the page that was taken apart: the result's block, the page's block, and what was there -/
def TakeWorld (w : World) (p : Nat) (i v : Nat) (b : List UInt8) (X : World) : Prop :=
  Blk X w.heap.size 37 #[.int .i64 0, .int .i64 0, .string ⟨#[]⟩] ∧ Blk X p 37 #[.int .i64 i, .int .i64 v, .string (str b)] ∧ Below w.heap.size w X
theorem TakeWorld.carry {w : World} {p : Nat} {i v : Nat} {b : List UInt8} {X Y : World} (h : TakeWorld w p i v b X) (hb : Below X.heap.size X Y) : TakeWorld w p i v b Y :=
  ⟨h.1.keep hb, h.2.1.keep hb, h.2.2.trans (hb.mono h.2.2.size)⟩
theorem TakeWorld.plain {w W : World} {i v : Nat} {b : List UInt8} (h : Blk W w.heap.size 37 #[.int .i64 0, .int .i64 0, .string ⟨#[]⟩]) (hb : Below w.heap.size w W) (k : Nat) :
    TakeWorld w W.heap.size i v b ((W.drewN k).alloc (.cells #[.int .i64 i, .int .i64 v, .string (str b)] 37)) :=
  ⟨(h.drewN k).alloc _, Blk.new (W.drewN k) _ _, (hb.trans (drewN_below _ _ _)).alloc hb.size _⟩
theorem TakeWorld.late {w W : World} {i v : Nat} {b : List UInt8} (h : Blk W w.heap.size 37 #[.int .i64 0, .int .i64 0, .string ⟨#[]⟩]) (hb : Below w.heap.size w W) (k m : Nat) :
    TakeWorld w W.heap.size i v b ((((((W.drewN k).alloc (.cells #[.int .i64 0, .int .i64 0, .string ⟨#[]⟩] 37)).drewN m).setCell ⟨W.heap.size, 0, none⟩ (.int .i64 i)).setCell ⟨W.heap.size, 1, none⟩ (.int .i64 v)).setCell ⟨W.heap.size, 2, none⟩ (.string (str b))) := by
  have hne : w.heap.size ≠ W.heap.size := by have := h.lt; omega
  refine ⟨(((((h.drewN k).alloc _).drewN m).far hne _).far hne _).far hne _, ?_, (((hb.trans (drewN_below W k _)).alloc hb.size _).trans (drewN_below _ m _)).set3 hb.size _ _ _⟩
  exact ((((Blk.new (W.drewN k) 37 #[.int .i64 0, .int .i64 0, .string ⟨#[]⟩]).drewN m).put 0 _).put 1 _).put 2 _

theorem TakeWorld.first {w W : World} {i v : Nat} {b : List UInt8} (h : Blk W w.heap.size 37 #[.int .i64 0, .int .i64 0, .string ⟨#[]⟩]) (hb : Below w.heap.size w W) (m : Nat) :
    TakeWorld w W.heap.size i v b (((((W.alloc (.cells #[.int .i64 0, .int .i64 0, .string ⟨#[]⟩] 37)).drewN m).setCell ⟨W.heap.size, 0, none⟩ (.int .i64 i)).setCell ⟨W.heap.size, 1, none⟩ (.int .i64 v)).setCell ⟨W.heap.size, 2, none⟩ (.string (str b))) := by
  have hne : w.heap.size ≠ W.heap.size := by have := h.lt; omega
  refine ⟨((((h.alloc _).drewN m).far hne _).far hne _).far hne _, ?_, ((hb.alloc hb.size _).trans (drewN_below _ m _)).set3 hb.size _ _ _⟩
  exact ((((Blk.new W 37 #[.int .i64 0, .int .i64 0, .string ⟨#[]⟩]).drewN m).put 0 _).put 1 _).put 2 _

set_option maxRecDepth 100000 in
set_option maxHeartbeats 800000 in
theorem take_page (l : List UInt8) (w : World) (h : l.length = 32) (h0 : l ≠ List.replicate 32 0) (hn : partN l ≤ 16) :
    Calls Try.prog 24 #[.string (str l)] w (TookPage (partI l) (partV l) (partB l) l w) := by
  have hsz := str_size
  have hex := str_extract
  have hne : ((l.length : Int) != 32) = false := by rw [h]; rfl
  have h32 : 32 ≤ l.length := by omega
  have hl4 : ¬ l.length < 4 := by omega
  have htl := str_list
  have hq : (l == List.replicate 32 0) = false := beq_eq_false_iff_ne.2 h0
  generalize hl : List.replicate 32 (0 : UInt8) = r at hq
  have HL := Lib.hid hl
  have hv := value_any (str ((l.take 12).drop 8))
  have hv1 := value_any (str (l.take 4))
  have hv2 := value_any (str ((l.take 8).drop 4))
  rw [str_toList] at hv hv1 hv2
  have HV := Lib.hid (hv · (by simp [str_size]; omega))
  have HV1 := Lib.hid (hv1 · (by simp [str_size]; omega))
  have HV2 := Lib.hid (hv2 · (by simp [str_size]; omega))
  have HP := Lib.hid (put_any (partI l) (partV l) (partB l))
  change Hid (∀ _, Calls Try.prog _ _ _ fun e _ => e = .returned (.int .i64 (partN l : Int)) ∧ _) at HV
  change Hid (∀ _, Calls Try.prog _ _ _ fun e _ => e = .returned (.int .i64 (partI l : Int)) ∧ _) at HV1
  change Hid (∀ _, Calls Try.prog _ _ _ fun e _ => e = .returned (.int .i64 (partV l : Int)) ∧ _) at HV2
  have hpb : (l.take (16 + partN l)).drop 16 = partB l := rfl
  generalize partN l = n at hn HV hpb
  generalize partI l = i at HV1 HP
  generalize partV l = v at HV2 HP
  generalize partB l = b at hpb HP
  clear hl h h0 hv hv1 hv2
  go_enter Try.func24, Try.ntmps24
  go_wp2_with fail
  refine (repeat_noughts 32 _ (by omega)).mono ?_
  rw [HL.out]
  rintro e W1 ⟨rfl, hB⟩
  have hb := (Blk.new w 37 #[.int .i64 0, .int .i64 0, .string ⟨#[]⟩]).keep hB
  have hbel : Below w.heap.size w W1 := ((Below.refl _ _).alloc (Nat.le_refl _) _).trans (hB.mono (by simp))
  clear hB
  go_wp2_with fail
  refine (HV.out _).mono ?_
  rintro e W2 ⟨rfl, k, rfl⟩
  have hb2 := hb.drewN k
  have hbel2 := hbel.trans (drewN_below W1 k w.heap.size)
  generalize W1.drewN k = W at hb2 hbel2
  clear hb hbel
  go_wp2_with fail
  obtain ⟨q, hqn⟩ : ∃ q, 16 + n = q := ⟨_, rfl⟩
  rw [hqn] at hpb
  have hadd : (16 : Int) + (n : Int) = (q : Int) := by omega
  have haddw : IntKind.i64.wrap (q : Int) = (q : Int) := IntWalk.i64_in _ (by omega)
  have hq16 : (16 : Int) ≤ (q : Int) := by omega
  have hq16n : 16 ≤ q := by omega
  have hb16 : (q : Int) ≤ (l.length : Int) := by omega
  have hb17 : q ≤ l.length := by omega
  have h4 : 4 ≤ l.length := by omega
  have h8 : 8 ≤ l.length := by omega
  have h4i : (4 : Int) ≤ (l.length : Int) := by omega
  have h8i : (8 : Int) ≤ (l.length : Int) := by omega
  clear hqn
  have hd1 : ∀ (W : World) (k : Nat) (p : Addr), (W.drewN k).cell? p = W.cell? p := fun _ _ _ => rfl
  have hd2 : ∀ (W : World) (k : Nat) (p : Addr), (W.drewN k).frozen? p = W.frozen? p := fun _ _ _ => rfl
  have hd3 : ∀ (W : World) (k : Nat), (W.drewN k).heap.size = W.heap.size := fun _ _ => rfl
  have hd4 : ∀ (k : Nat) (cs : Array Value) (i : Nat), ((W.drewN k).alloc (.cells cs 37)).cell? ⟨W.heap.size, i, none⟩ = cs[i]? := fun k cs i => (Blk.new (W.drewN k) 37 cs).cell i
  have hd5 : ∀ (k : Nat) (cs : Array Value) (i : Nat), ((W.drewN k).alloc (.cells cs 37)).frozen? ⟨W.heap.size, i, none⟩ = false := fun k cs i => (Blk.new (W.drewN k) 37 cs).frozen i
  have hd6 : ∀ (k : Nat) (cs : Array Value) (i : Nat) (u : Value), ((W.drewN k).alloc (.cells cs 37)).setCell ⟨W.heap.size, i, none⟩ u = (W.drewN k).alloc (.cells (cs.setIfInBounds i u) 37) := fun k cs i u => World.setCell_alloc_at _ _ _ _ _ rfl
  go_region_with (first | (go_at_call 31; ((with_reducible refine (HV1.out _).mono ?_); rintro e wr ⟨rfl, k, rfl⟩)) | (go_at_call 31; ((with_reducible refine (HV2.out _).mono ?_); rintro e wr ⟨rfl, k, rfl⟩)))
  all_goals go_wp2_with fail
  all_goals refine (HP.out _).mono ?_
  all_goals rintro e W5 ⟨rfl, hB5⟩
  all_goals have F5 := TakeWorld.carry (by first | (with_reducible exact TakeWorld.plain hb2 hbel2 _) | (with_reducible exact TakeWorld.late hb2 hbel2 _ _) | (with_reducible exact TakeWorld.first hb2 hbel2 _)) hB5
  all_goals obtain ⟨hr5, hp5, hbel5⟩ := F5
  all_goals obtain ⟨c0, c1, c2, f0, f1, f2⟩ := hr5.three
  all_goals obtain ⟨d0, d1, d2, _, _, _⟩ := hp5.three
  all_goals clear hB5 hb2 hbel2
  all_goals
    cases hpg : isPage i v (str b) with
    | false =>
      have HPG := Lib.hid hpg
      clear hpg
      simp only [Bool.false_eq_true, if_false]
      go_wp2_with fail
      refine bodyPost_ret (v := .tuple #[.agg #[.int .i64 0, .int .i64 0, .string ⟨#[]⟩], .int .i64 9]) (by simp [results, Try.results24, go_sem, c0, c1, c2]) rfl ?_
      unfold TookPage
      rw [HPG.out, if_neg (by simp)]
      exact ⟨rfl, hbel5.set3 (Nat.le_refl _) _ _ _⟩
    | true =>
      have HPG := Lib.hid hpg
      clear hpg
      simp only [if_true]
      by_cases hpl : pageBytes i v b = l
      · have hpe : (pageBytes i v b == l) = true := by simpa using hpl
        have hpn : (pageBytes i v b != l) = false := by simpa using hpl
        have HPL := Lib.hid hpl
        clear hpl
        generalize hpbb : pageBytes i v b = pb at hpe hpn HPL
        have HPB := Lib.hid hpbb
        clear hpbb
        go_wp2_with fail
        refine bodyPost_ret (v := .tuple #[.agg #[.int .i64 i, .int .i64 v, .string (str b)], .int .i64 0]) (by simp [results, Try.results24, go_sem, c0, c1, c2]) rfl ?_
        unfold TookPage
        rw [HPG.out, if_pos ⟨rfl, HPB.out.trans HPL.out⟩]
        exact ⟨rfl, hbel5.set3 (Nat.le_refl _) _ _ _⟩
      · have hpe : (pageBytes i v b == l) = false := beq_eq_false_iff_ne.2 hpl
        have hpn : (pageBytes i v b != l) = true := bne_iff_ne.2 hpl
        have HPL := Lib.hid hpl
        clear hpl
        generalize hpbb : pageBytes i v b = pb at hpe hpn HPL
        have HPB := Lib.hid hpbb
        clear hpbb
        go_wp2_with fail
        refine bodyPost_ret (v := .tuple #[.agg #[.int .i64 0, .int .i64 0, .string ⟨#[]⟩], .int .i64 9]) (by simp [results, Try.results24, go_sem, c0, c1, c2]) rfl ?_
        unfold TookPage
        rw [if_neg (by intro hh; exact HPL.out (HPB.out.symm.trans hh.2))]
        exact ⟨rfl, hbel5.set3 (Nat.le_refl _) _ _ _⟩
end Go.Proofs.Ytekkmlhkcdijkaa
