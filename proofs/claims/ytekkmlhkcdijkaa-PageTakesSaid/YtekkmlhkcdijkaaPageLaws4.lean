/- THE LAWS of layer 2, walked: PageBit. Conditions: those of the arguments alone. -/
import Derived.Test.YtekkmlhkcdijkaaPageLaws3
namespace Go.Proofs.Ytekkmlhkcdijkaa
open Go.RowKit
set_option linter.unusedVariables false

theorem sum_set (m : List UInt8) (j : Nat) (c : UInt8) (hj : j < m.length) (hc : m[j] ≠ c) : Sm.sum (m.set j c) ≠ Sm.sum m := by
  have h1 : m = m.take j ++ m[j] :: m.drop (j + 1) := by rw [← List.drop_eq_getElem_cons hj, List.take_append_drop]
  have h2 : m.set j c = m.take j ++ c :: m.drop (j + 1) := by rw [List.set_eq_take_append_cons_drop, if_pos hj]
  rw [h2]
  conv => rhs; rw [h1]
  exact Sm.sum_one (Ne.symm hc)
/-- the 28 bytes that are summed, and the sum's four -/
def dataOf (l : List UInt8) : List UInt8 := l.take 12 ++ l.drop 16
def sumOf (l : List UInt8) : List UInt8 := (l.take 16).drop 12
theorem front_length (i v : Nat) (b : List UInt8) : (pageFront i v b).length = 12 := by unfold pageFront; simp [four_length]
theorem data_page (i v : Nat) (b : List UInt8) : dataOf (pageBytes i v b) = pageFront i v b ++ pageBack b := by
  unfold dataOf pageBytes
  rw [List.append_assoc, List.take_left' (front_length i v b), ← List.append_assoc, List.drop_left' (by rw [List.length_append, front_length, four_length])]
theorem sum_page (i v : Nat) (b : List UInt8) : sumOf (pageBytes i v b) = four (Sm.sum (dataOf (pageBytes i v b))).toNat := by
  rw [data_page]
  unfold sumOf pageBytes
  rw [List.drop_take, List.append_assoc, List.drop_left' (front_length i v b), List.take_left' (four_length _)]
theorem page_set_not (i v : Nat) (b : List UInt8) (hb : b.length ≤ 16) (j : Nat) (c : UInt8) (hj : j < 32) (hc' : ∀ h, (pageBytes i v b)[j]'h ≠ c) (i' v' : Nat) (b' : List UInt8) : pageBytes i' v' b' ≠ (pageBytes i v b).set j c := by
  intro h
  have hl := pageBytes_length i v b hb
  have s1 := sum_page i v b
  have s2 := sum_page i' v' b'
  rw [h] at s2
  generalize pageBytes i v b = l at *
  have hc : l[j]'(by omega) ≠ c := hc' _
  have hn1 := Sm.sum_nonneg (dataOf l)
  have hn2 := Sm.sum_nonneg (dataOf (l.set j c))
  by_cases h12 : j < 12
  · have e1 : sumOf (l.set j c) = sumOf l := by
      unfold sumOf
      rw [List.take_set, List.drop_set, if_pos h12]
    have e2 : dataOf (l.set j c) = (dataOf l).set j c := by
      unfold dataOf
      rw [List.take_set, List.drop_set, if_pos (by omega), List.set_append_left _ _ (by simp; omega)]
    rw [e1, s1] at s2
    have e3 := four_inj (by omega) (by omega) s2
    have e4 : Sm.sum ((dataOf l).set j c) = Sm.sum (dataOf l) := by rw [← e2]; omega
    refine sum_set (dataOf l) j c (by simp [dataOf]; omega) ?_ e4
    intro e
    apply hc
    rw [← e]
    unfold dataOf
    rw [List.getElem_append_left (by simp; omega), List.getElem_take]
  · by_cases h16 : j < 16
    · have e2 : dataOf (l.set j c) = dataOf l := by
        unfold dataOf
        rw [List.take_set, List.drop_set, if_pos h16, List.set_eq_of_length_le (by simp; omega)]
      rw [e2, ← s1] at s2
      have e3 : (sumOf (l.set j c))[j - 12]? = (sumOf l)[j - 12]? := by rw [s2]
      unfold sumOf at e3
      rw [List.getElem?_drop, List.getElem?_drop, show 12 + (j - 12) = j by omega, List.getElem?_take, List.getElem?_take, if_pos h16, if_pos h16, List.getElem?_set, if_pos rfl, if_pos (by omega), List.getElem?_eq_getElem (by omega)] at e3
      exact hc (by simpa using e3.symm)
    · have e1 : sumOf (l.set j c) = sumOf l := by
        unfold sumOf
        rw [List.take_set, List.set_eq_of_length_le (by simp; omega)]
      have e2 : dataOf (l.set j c) = (dataOf l).set (12 + (j - 16)) c := by
        unfold dataOf
        rw [List.take_set, List.drop_set, if_neg h16, List.set_eq_of_length_le (by simp; omega), List.set_append_right _ _ (by simp; omega)]
        congr 2
        simp
        omega
      rw [e1, s1] at s2
      have e3 := four_inj (by omega) (by omega) s2
      have e4 : Sm.sum ((dataOf l).set (12 + (j - 16)) c) = Sm.sum (dataOf l) := by rw [← e2]; omega
      refine sum_set (dataOf l) (12 + (j - 16)) c (by simp [dataOf]; omega) ?_ e4
      intro e
      apply hc
      rw [← e]
      unfold dataOf
      rw [List.getElem_append_right (by simp; omega), List.getElem_drop]
      congr 1
      simp
      omega
theorem take_turned (i v : Nat) (b : List UInt8) (h : isPage i v (str b) = true) (j : Nat) (c : UInt8) (hj : j < 32) (hc : ∀ h, (pageBytes i v b)[j]'h ≠ c) : takeE ((pageBytes i v b).set j c) = 9 := by
  obtain ⟨h1, h2, h3, h4, h5⟩ := (isPage_iff _ _ _).1 h
  rw [str_size] at h5
  have hl := pageBytes_length i v b h5
  have hi := partI_page i v b (by omega)
  have hv := partV_page i v b (by omega)
  unfold takeE
  rw [if_neg (by simp [hl]), if_neg ?_]
  · by_cases hn : 16 < partN ((pageBytes i v b).set j c)
    · rw [if_pos hn]
    · rw [if_neg hn, if_neg]
      intro hh
      exact page_set_not i v b h5 j c hj hc _ _ _ hh.2
  · intro e
    by_cases h4' : j < 4
    · unfold partV at hv
      have : (((pageBytes i v b).set j c).take 8).drop 4 = ((pageBytes i v b).take 8).drop 4 := by rw [List.take_set, List.drop_set, if_pos h4']
      rw [← this, e] at hv
      have h0 : num4 (((List.replicate 32 (0 : UInt8)).take 8).drop 4) = 0 := by decide
      omega
    · unfold partI at hi
      have : ((pageBytes i v b).set j c).take 4 = (pageBytes i v b).take 4 := by rw [List.take_set, List.set_eq_of_length_le (by simp; omega)]
      rw [← this, e] at hi
      have h0 : num4 ((List.replicate 32 (0 : UInt8)).take 4) = 0 := by decide
      omega

set_option maxRecDepth 100000 in
set_option maxHeartbeats 800000 in
theorem pageBit_walk (p : Value) (hp : PageArg p) (a : Int) (ha : (Lit.int .u8 a).wf = true) (b : Int) (hb : (Lit.int .u8 b).wf = true) (w : World) :
    Calls Try.prog 10 #[p, .int .u8 a, .int .u8 b] w fun e w' => e = .returned (.bool true) ∧ Below w.heap.size w w' := by
  have ha' : 0 ≤ a ∧ a ≤ 255 := by simpa [Lit.wf, IntKind.min, IntKind.max, IntKind.signed, IntKind.bits] using ha
  have hb' : 0 ≤ b ∧ b ≤ 255 := by simpa [Lit.wf, IntKind.min, IntKind.max, IntKind.signed, IntKind.bits] using hb
  clear ha hb
  obtain ⟨ha1, ha2⟩ := ha'
  obtain ⟨hb1, hb2⟩ := hb'
  have hsz := str_size
  have htl := str_list
  rcases hp.cases with ⟨i, n, l, rfl, hpg, hbl⟩ | ⟨i, n, l, rfl, hpg, hi16, hi1, hn1, hn2, hbl⟩
  · go_enter Try.func10, Try.ntmps10
    go_wp2_with fail
    refine (put_no i n (str l) _ hpg).mono ?_
    rintro e W1 ⟨rfl, hB⟩
    obtain ⟨_, hw⟩ := box3 hB
    clear hB
    go_wp2_with fail
    refine (awake02 _).mono ?_
    rintro e W2 ⟨rfl, hB⟩
    go_wp2_with fail
    go_ret
    exact ⟨rfl, hw.trans (hB.mono hw.size)⟩
  · obtain ⟨j, hj⟩ : ∃ j : Nat, a % 32 = (j : Int) := ⟨(a % 32).toNat, by omega⟩
    have hj32 : j < 32 := by omega
    have hpl := pageBytes_length i n l hbl
    have hT : ∀ c, (∀ h, (pageBytes i n l)[j]'h ≠ c) → takeE ((pageBytes i n l).set j c) = 9 := fun c hc => take_turned i n l hpg j c hj32 hc
    have PU := Lib.hid (put_yes i n l · hpg)
    generalize pageBytes i n l = x at hpl hT PU
    have HT := Lib.hid hT
    clear hT
    have hxl : (x.length : Int) = 32 := by omega
    have HPL := Lib.hid hpl
    clear hpl
    go_enter Try.func10, Try.ntmps10
    go_wp2_with fail
    refine (PU.out _).mono ?_
    rintro e W1 ⟨rfl, hB⟩
    obtain ⟨_, hw⟩ := box3 hB
    clear hB
    obtain ⟨g, cap, W2, hconv, hg, hgl, hB, hC, hF⟩ := bytesOf (str x) W1
    rw [str_size] at hconv
    have hjx : j < x.length := by rw [HPL.out]; exact hj32
    have hcell := hC j hjx
    have hfr := hF j hjx
    obtain ⟨htv, htn⟩ := turned_is (str x)[j] b
    have hb8 : 0 ≤ b % 8 ∧ b % 8 < 8 := by omega
    have hxj : (str x)[j] = x[j] := rfl
    rw [hxj] at hcell htv htn
    generalize hcc : x[j] = c at hcell htv htn
    have hback : (convert 32 9 (.slice (some ⟨g, 0, none⟩) x.length cap)).run Try.prog (W2.setCell ⟨g, j, none⟩ (.int .u8 ((turned c b).toNat : Int))) = .ok (.string (str (x.set j (turned c b)))) (W2.setCell ⟨g, j, none⟩ (.int .u8 ((turned c b).toNat : Int))) := by
      have e : strOfNums ((x.set j (turned c b)).map fun y => (y.toNat : Int)) = str (x.set j (turned c b)) := by
        rw [← str_of (strOfNums _), strOfNums_data, List.map_map, show ((fun n : Int => UInt8.ofNat n.toNat) ∘ fun x : UInt8 => (x.toNat : Int)) = id by funext x; simp, List.map_id]
      rw [← e]
      refine run_convert_bytes_arg _ 32 5 Try.underlying32 Try.underlying5 g 0 x.length cap _ (by simp) ?_ 9 Try.underlying9
      intro k hk
      rw [Nat.zero_add, List.getD_eq_getElem?_getD, List.getElem?_map, List.getElem?_set]
      by_cases e : j = k
      · subst e
        rw [World.cell?_setCell_same _ _ _ hcell, if_pos rfl, if_pos hk]
        rfl
      · rw [World.cell?_setCell_other _ _ _ _ (by simp), hC k hk, if_neg e, List.getElem?_eq_getElem hk]
        rfl
    have hw2 : Below w.heap.size w (W2.setCell ⟨g, j, none⟩ (.int .u8 ((turned c b).toNat : Int))) := (hw.trans (hB.mono hw.size)).setCell (by have := hw.size; simp; omega) _
    have hE := HT.out (turned c b) (by intro h; rw [hcc]; exact Ne.symm htn)
    have TK := take_any (x.set j (turned c b))
    have e1 : takeI (x.set j (turned c b)) = 0 := by unfold takeI; rw [if_neg (by omega)]
    have e2 : takeV (x.set j (turned c b)) = 0 := by unfold takeV; rw [if_neg (by omega)]
    have e3 : takeB (x.set j (turned c b)) = [] := by unfold takeB; rw [if_neg (by omega)]
    rw [hE, e1, e2, e3] at TK
    have TK := Lib.hid TK
    clear hE e1 e2 e3 hC hF hcc hxj hB hw
    go_wp2_with fail
    refine (TK.out _).mono ?_
    rintro e W3 ⟨rfl, hB⟩
    have hw3 := hw2.trans (hB.mono hw2.size)
    clear hB
    unfold pageVal
    go_wp2_with fail
    refine (awake02 _).mono ?_
    rintro e W4 ⟨rfl, hB⟩
    go_wp2_with fail
    go_ret
    exact ⟨rfl, (hw3.alloc hw3.size _).trans (hB.mono (by have := hw3.size; simp; omega))⟩
end Go.Proofs.Ytekkmlhkcdijkaa
