/- LAYER 2: what a page's bytes are, and the laws' fixed answer. Conditions: a string lies in memory. -/
import Derived.Test.YtekkmlhkcdijkaaPageTake
import Derived.Lib.SmallJoins
import Derived.ProofKit
namespace Go.Proofs.Ytekkmlhkcdijkaa
open Go.RowKit
set_option linter.unusedVariables false

theorem open_page {H : Type} {enc : TypeId × Value → H} {w : World} {r : Reach} {base b0 : Nat} {spare : Nat → Bool} {held : Bool} {v : Value} {d : DataW H} {p : List MemPlace}
    (hv : Value.okWide Try.prog w r b0 37 v) (h : DataW.Trod enc Try.prog w base spare held 37 v d p) :
    ∃ (i n : Int) (s : ByteArray), v = .agg #[.int .i64 i, .int .i64 n, .string s] ∧ (-9223372036854775808 ≤ i ∧ i ≤ 9223372036854775807) ∧ (-9223372036854775808 ≤ n ∧ n ≤ 9223372036854775807) ∧ s.size ≤ maxLen := by
  obtain ⟨c0, c1, c2, y0, y1, y2, m, rfl, rfl, rfl, hy0, hy1, hy2⟩ := Joins.open_agg3 Try.underlying37 (by kernel_rfl) (by kernel_rfl) hv h
  obtain ⟨a, e0, rfl, wa⟩ := DataW.trod_int Try.underlying3 hy0
  obtain ⟨b, e1, rfl, wb⟩ := DataW.trod_int Try.underlying3 hy1
  obtain ⟨s, e2, rfl, hs⟩ := DataW.trod_string Try.underlying9 hy2
  simp at e0 e1 e2
  subst e0 e1 e2
  exact ⟨a, b, s, rfl, by simpa [Lit.wf, IntKind.min, IntKind.max, IntKind.signed, IntKind.bits] using wa, by simpa [Lit.wf, IntKind.min, IntKind.max, IntKind.signed, IntKind.bits] using wb, hs⟩

/-! plain facts -/
theorem pageBack_length (b : List UInt8) (h : b.length ≤ 16) : (pageBack b).length = 16 := by
  unfold pageBack; simp; omega
theorem pageBytes_length (i v : Nat) (b : List UInt8) (h : b.length ≤ 16) : (pageBytes i v b).length = 32 := by
  unfold pageBytes pageFront
  simp only [List.length_append, four_length, pageBack_length b h]
theorem partI_page (i v : Nat) (b : List UInt8) (hi : i < 4294967296) : partI (pageBytes i v b) = i := by
  unfold partI pageBytes pageFront
  rw [show (four i ++ four v ++ four b.length ++ four (Sm.sum (four i ++ four v ++ four b.length ++ pageBack b)).toNat ++ pageBack b).take 4 = four i by
    rw [show four i ++ four v ++ four b.length ++ four (Sm.sum (four i ++ four v ++ four b.length ++ pageBack b)).toNat ++ pageBack b = four i ++ (four v ++ (four b.length ++ (four (Sm.sum (four i ++ four v ++ four b.length ++ pageBack b)).toNat ++ pageBack b))) by simp only [List.append_assoc]]
    rw [List.take_left' (four_length i)]]
  exact num4_four i hi
theorem partV_page (i v : Nat) (b : List UInt8) (hv : v < 4294967296) : partV (pageBytes i v b) = v := by
  unfold partV pageBytes pageFront
  rw [show ((four i ++ four v ++ four b.length ++ four (Sm.sum (four i ++ four v ++ four b.length ++ pageBack b)).toNat ++ pageBack b).take 8).drop 4 = four v by
    rw [List.drop_take, show four i ++ four v ++ four b.length ++ four (Sm.sum (four i ++ four v ++ four b.length ++ pageBack b)).toNat ++ pageBack b = four i ++ (four v ++ (four b.length ++ (four (Sm.sum (four i ++ four v ++ four b.length ++ pageBack b)).toNat ++ pageBack b))) by simp only [List.append_assoc]]
    rw [List.drop_left' (four_length i), List.take_left' (four_length v)]]
  exact num4_four v hv
theorem partN_page (i v : Nat) (b : List UInt8) (h : b.length ≤ 16) : partN (pageBytes i v b) = b.length := by
  unfold partN pageBytes pageFront
  rw [show ((four i ++ four v ++ four b.length ++ four (Sm.sum (four i ++ four v ++ four b.length ++ pageBack b)).toNat ++ pageBack b).take 12).drop 8 = four b.length by
    rw [List.drop_take, show four i ++ four v ++ four b.length ++ four (Sm.sum (four i ++ four v ++ four b.length ++ pageBack b)).toNat ++ pageBack b = (four i ++ four v) ++ (four b.length ++ (four (Sm.sum (four i ++ four v ++ four b.length ++ pageBack b)).toNat ++ pageBack b)) by simp only [List.append_assoc]]
    rw [List.drop_left' (by simp [four_length]), List.take_left' (four_length b.length)]]
  exact num4_four _ (by omega)
theorem partB_page (i v : Nat) (b : List UInt8) (h : b.length ≤ 16) : partB (pageBytes i v b) = b := by
  unfold partB
  rw [partN_page i v b h, List.drop_take]
  unfold pageBytes pageFront pageBack
  rw [show four i ++ four v ++ four b.length ++ four (Sm.sum (four i ++ four v ++ four b.length ++ (b ++ List.replicate (16 - b.length) 0))).toNat ++ (b ++ List.replicate (16 - b.length) 0) = (four i ++ four v ++ four b.length ++ four (Sm.sum (four i ++ four v ++ four b.length ++ (b ++ List.replicate (16 - b.length) 0))).toNat) ++ (b ++ List.replicate (16 - b.length) 0) by simp only [List.append_assoc]]
  rw [List.drop_left' (by simp [four_length]), show 16 + b.length - 16 = b.length by omega, List.take_left' rfl]
theorem pageBytes_ne (i v : Nat) (b : List UInt8) (hi : i < 4294967296) (h1 : 1 ≤ i) : pageBytes i v b ≠ List.replicate 32 0 := by
  intro h
  have e := partI_page i v b hi
  rw [h] at e
  have : partI (List.replicate 32 0) = 0 := by decide
  omega

/-- what Take tells of any bytes -/
def takeE (l : List UInt8) : Int := if l.length ≠ 32 then 2 else if l = List.replicate 32 0 then 3 else if 16 < partN l then 9 else if isPage (partI l) (partV l) (str (partB l)) = true ∧ pageBytes (partI l) (partV l) (partB l) = l then 0 else 9
def takeI (l : List UInt8) : Nat := if takeE l = 0 then partI l else 0
def takeV (l : List UInt8) : Nat := if takeE l = 0 then partV l else 0
def takeB (l : List UInt8) : List UInt8 := if takeE l = 0 then partB l else []
theorem take_any (l : List UInt8) (w : World) :
    Calls Try.prog 24 #[.string (str l)] w fun en w' => en = .returned (.tuple #[pageVal (takeI l) (takeV l) (takeB l), .int .i64 (takeE l)]) ∧ Below w.heap.size w w' := by
  by_cases h : l.length ≠ 32
  · have e : takeE l = 2 := by unfold takeE; rw [if_pos h]
    have e1 : takeI l = 0 := by unfold takeI; rw [if_neg (by omega)]
    have e2 : takeV l = 0 := by unfold takeV; rw [if_neg (by omega)]
    have e3 : takeB l = [] := by unfold takeB; rw [if_neg (by omega)]
    rw [e, e1, e2, e3]
    exact take_form l w h
  have h32 : l.length = 32 := by omega
  by_cases h0 : l = List.replicate 32 0
  · have e : takeE l = 3 := by unfold takeE; rw [if_neg h, if_pos h0]
    have e1 : takeI l = 0 := by unfold takeI; rw [if_neg (by omega)]
    have e2 : takeV l = 0 := by unfold takeV; rw [if_neg (by omega)]
    have e3 : takeB l = [] := by unfold takeB; rw [if_neg (by omega)]
    rw [e, e1, e2, e3, h0]
    exact take_none w
  by_cases hn : 16 < partN l
  · have e : takeE l = 9 := by unfold takeE; rw [if_neg h, if_neg h0, if_pos hn]
    have e1 : takeI l = 0 := by unfold takeI; rw [if_neg (by omega)]
    have e2 : takeV l = 0 := by unfold takeV; rw [if_neg (by omega)]
    have e3 : takeB l = [] := by unfold takeB; rw [if_neg (by omega)]
    rw [e, e1, e2, e3]
    exact take_long l w h32 h0 hn
  refine (take_page l w h32 h0 (by omega)).mono fun en w' ht => ?_
  unfold TookPage at ht
  by_cases hp : isPage (partI l) (partV l) (str (partB l)) = true ∧ pageBytes (partI l) (partV l) (partB l) = l
  · rw [if_pos hp] at ht
    have e : takeE l = 0 := by unfold takeE; rw [if_neg h, if_neg h0, if_neg hn, if_pos hp]
    have e1 : takeI l = partI l := by unfold takeI; rw [if_pos e]
    have e2 : takeV l = partV l := by unfold takeV; rw [if_pos e]
    have e3 : takeB l = partB l := by unfold takeB; rw [if_pos e]
    rw [e, e1, e2, e3]
    exact ht
  · rw [if_neg hp] at ht
    have e : takeE l = 9 := by unfold takeE; rw [if_neg h, if_neg h0, if_neg hn, if_neg hp]
    have e1 : takeI l = 0 := by unfold takeI; rw [if_neg (by omega)]
    have e2 : takeV l = 0 := by unfold takeV; rw [if_neg (by omega)]
    have e3 : takeB l = [] := by unfold takeB; rw [if_neg (by omega)]
    rw [e, e1, e2, e3]
    exact ht
theorem takeE_page (i v : Nat) (b : List UInt8) (h : isPage i v (str b) = true) : takeE (pageBytes i v b) = 0 := by
  obtain ⟨h1, h2, h3, h4, h5⟩ := (isPage_iff _ _ _).1 h
  rw [str_size] at h5
  unfold takeE
  rw [if_neg (by rw [pageBytes_length i v b h5]; simp), if_neg (pageBytes_ne i v b (by omega) (by omega)), if_neg (by rw [partN_page i v b h5]; omega), partI_page i v b (by omega), partV_page i v b (by omega), partB_page i v b h5, if_pos ⟨h, rfl⟩]
theorem take_put (i v : Nat) (b : List UInt8) (w : World) (h : isPage i v (str b) = true) :
    Calls Try.prog 24 #[.string (str (pageBytes i v b))] w fun en w' => en = .returned (.tuple #[pageVal i v b, .int .i64 0]) ∧ Below w.heap.size w w' := by
  have ht := take_any (pageBytes i v b) w
  have e := takeE_page i v b h
  obtain ⟨h1, h2, h3, h4, h5⟩ := (isPage_iff _ _ _).1 h
  rw [str_size] at h5
  have e1 : takeI (pageBytes i v b) = i := by unfold takeI; rw [if_pos e]; exact partI_page i v b (by omega)
  have e2 : takeV (pageBytes i v b) = v := by unfold takeV; rw [if_pos e]; exact partV_page i v b (by omega)
  have e3 : takeB (pageBytes i v b) = b := by unfold takeB; rw [if_pos e]; exact partB_page i v b h5
  rw [e, e1, e2, e3] at ht
  exact ht

theorem take_short (l : List UInt8) (w : World) (h : l.length ≠ 32) :
    Calls Try.prog 24 #[.string (str l)] w fun en w' => en = .returned (.tuple #[pageVal 0 0 [], .int .i64 2]) ∧ Below w.heap.size w w' := take_form l w h
theorem page_known : pageBytes 3 7 [97, 98] = [3, 0, 0, 0, 7, 0, 0, 0, 2, 0, 0, 0, 81, 217, 233, 4, 97, 98, 0, 0, 0, 0, 0, 0, 0, 0, 0, 0, 0, 0, 0, 0] := by kernel_rfl

set_option maxRecDepth 100000 in
set_option maxHeartbeats 400000 in
theorem awake02 (w : World) :
    Calls Try.prog 20 #[] w fun e w' => e = .returned (.bool true) ∧ Below w.heap.size w w' := by
  have hp := put_yes 3 7 [97, 98]
  rw [page_known] at hp
  have HP := Lib.hid (hp · (by kernel_rfl))
  have ht := take_put 3 7 [97, 98]
  rw [page_known] at ht
  have HT := Lib.hid (ht · (by kernel_rfl))
  clear hp ht
  generalize hS : str [3, 0, 0, 0, 7, 0, 0, 0, 2, 0, 0, 0, 81, 217, 233, 4, 97, 98, 0, 0, 0, 0, 0, 0, 0, 0, 0, 0, 0, 0, 0, 0] = S at HP HT
  have hsz : (S.size : Int) = 32 := by rw [← hS]; rfl
  have hsn : S.size = 32 := by rw [← hS]; rfl
  have h0 : ∀ h : 0 < S.size, (S[0]'h).toNat = 3 := by subst hS; intro h; rfl
  have hx : S.extract 16 18 = ⟨#[97, 98]⟩ := by rw [← hS]; rfl
  clear hS
  go_enter Try.func20, Try.ntmps20
  go_wp2_with fail
  refine (HP.out _).mono ?_
  rintro e W1 ⟨rfl, hB1⟩
  go_wp2_with fail
  refine (HT.out _).mono ?_
  rintro e W2 ⟨rfl, hB2⟩
  have hB3 := hB1.trans (hB2.mono hB1.size)
  clear hB1 hB2
  unfold pageVal
  go_wp2_with fail
  refine (take_short [120] _ (by simp)).mono ?_
  rintro e W3 ⟨rfl, hB4⟩
  have hblk := (Blk.new W2 37 #[.int .i64 3, .int .i64 7, .string (str [97, 98])]).keep hB4
  obtain ⟨c0, c1, c2, _, _, _⟩ := hblk.three
  have hlt3 := hblk.lt
  clear hblk
  have htl : (str [97, 98]).toList = [97, 98] := str_list _
  have hB5 := (hB3.alloc hB3.size _).trans (hB4.mono (by have := hB3.size; simp; omega))
  clear hB3 hB4
  unfold pageVal
  go_wp2_with fail
  go_ret
  exact ⟨rfl, hB5.alloc hB5.size _⟩
end Go.Proofs.Ytekkmlhkcdijkaa
