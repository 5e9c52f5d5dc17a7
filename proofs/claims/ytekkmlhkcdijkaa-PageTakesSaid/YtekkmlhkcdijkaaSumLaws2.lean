/- THE LAWS of layer 1, walked: the sum by noughts, and texts of unlike last bytes. Conditions: those of the arguments alone. -/
import Derived.Test.YtekkmlhkcdijkaaSumLaws
import Derived.BigQuiet
import Derived.Deep.QuietTactic
namespace Go.Proofs.Ytekkmlhkcdijkaa
open Go.RowKit
set_option linter.unusedVariables false

theorem Sm.feedT_zero (x : Sm.W32) (b : UInt8) : Sm.feedT (List.replicate 256 0) x b = x >>> 8 := by
  unfold Sm.feedT
  rw [List.getD_eq_getElem?_getD, List.getElem?_replicate, if_pos (Sm.and255_lt _)]
  show BitVec.ofInt 32 0 ^^^ _ = _
  rw [show BitVec.ofInt 32 0 = 0#32 by rfl, BitVec.zero_xor]
theorem Sm.feedAllT_zero (x : Sm.W32) (l : List UInt8) : Sm.feedAllT (List.replicate 256 0) x l = x >>> (8 * l.length) := by
  induction l generalizing x with
  | nil => rw [List.length_nil]; exact (BitVec.ushiftRight_zero x).symm
  | cons b l ih =>
    have h := ih (x >>> 8)
    unfold Sm.feedAllT at h ⊢
    rw [List.foldl_cons, Sm.feedT_zero, h, List.length_cons, ← BitVec.shiftRight_add]
    congr 1; omega
/-- of 32 bits those from 32 - 8 m on, when so many have been asked -/
def wantTo (m k : Nat) : Int := (((BitVec.allOnes 32 - ((BitVec.allOnes 32) >>> (8 * m))) &&& ((1#33 <<< k) - 1#33).setWidth 32).toNat : Int)
theorem wantTo_yes : ∀ m, m < 5 → ∀ k, k < 32 → 32 - 8 * m ≤ k → bits BinOp.or IntKind.i64 (wantTo m k) (wrap64 ((2 : Int) ^ k)) = wantTo m (k + 1) := by decide +kernel
theorem wantTo_no : ∀ m, m < 5 → ∀ k, k < 32 → k < 32 - 8 * m → wantTo m k = wantTo m (k + 1) := by decide +kernel
theorem wantTo_zero : ∀ m, m < 5 → wantTo m 0 = 0 := by decide +kernel
theorem wantTo_sum : ∀ m, m < 5 → wantTo m 32 = ((~~~ ((4294967295#32 : Sm.W32) >>> (8 * m))).toNat : Int) := by decide +kernel
theorem sumT_zero (l : List UInt8) : Sm.sumT (List.replicate 256 0) l = wantTo (min l.length 4) 32 := by
  unfold Sm.sumT
  rw [Sm.feedAllT_zero, wantTo_sum _ (by omega)]
  by_cases h : l.length ≤ 4
  · rw [Nat.min_eq_left h]
  · rw [Nat.min_eq_right (by omega)]
    have e : (4294967295#32 : Sm.W32) >>> (8 * l.length) = 0#32 := by
      apply BitVec.eq_of_toNat_eq
      rw [BitVec.toNat_ushiftRight, Nat.shiftRight_eq_div_pow]
      have : 2 ^ 40 ≤ 2 ^ (8 * l.length) := Nat.pow_le_pow_right (by omega) (by omega)
      rw [Nat.div_eq_of_lt (by simp; omega)]
      rfl
    rw [e]
    decide

set_option maxRecDepth 100000 in
set_option maxHeartbeats 400000 in
theorem sumNought_walk (s : ByteArray) (hs : s.size ≤ maxLen) (w : World) :
    Calls Try.prog 6 #[.string s] w fun e w' => e = .returned (.bool true) ∧ Below w.heap.size w w' := by
  by_cases hlen : (300 : Int) < (s.size : Int)
  · go_enter Try.func6, Try.ntmps6
    go_wp2_with fail
    refine (awake01 _).mono ?_
    rintro e W1 ⟨rfl, hB⟩
    go_wp2
    go_ret
    exact ⟨rfl, hB⟩
  · have hmk : ∀ w, (Instr.makeSlice 23 (.int .i64 256) (.int .i64 256)).run Try.prog w = .ok (.slice (some ⟨w.heap.size, 0, none⟩) 256 256) (w.alloc (.cells ((List.replicate 256 (Value.int .i64 0)).toArray) 3)) := fun _ => by kernel_rfl
    have HMK := Lib.hid hmk
    clear hmk
    have hsum := sumT_zero s.data.toList
    obtain ⟨m, hm, hm5⟩ : ∃ m, min s.data.toList.length 4 = m ∧ m < 5 := ⟨_, rfl, by omega⟩
    rw [hm] at hsum
    have HS := Lib.hid hsum
    clear hsum
    go_enter Try.func6, Try.ntmps6
    go_wp2_with fail
    go_loop [3, 4, 11] (fun v _ i => ∃ (k : Nat), k ≤ 32 ∧ i = .int .i64 k ∧ v = .int .i64 (wantTo m k)) (fun _ _ i => 32 - (intOf i).toNat)
    case atStart => exact ⟨0, by omega, rfl, by rw [wantTo_zero m hm5]⟩
    case round =>
      obtain ⟨k, hk, rfl, rfl⟩ := hrel
      by_cases hlt2 : k < 32
      · have hms : (m : Int) = if (4 : Int) < (s.size : Int) then 4 else (s.size : Int) := by
          have hl : s.data.toList.length = s.size := by simp
          rw [hl] at hm
          split <;> omega
        have HMS := Lib.hid hms
        clear hms
        go_wp2_with fail
        · have hle : (32 - 8 * if (4 : Int) < (s.size : Int) then (4 : Int) else (s.size : Int)) ≤ (k : Int) := by assumption
          rw [← HMS.out] at hle
          have hw := wantTo_yes m hm5 k hlt2 (by omega)
          go_round
          case rel => exact ⟨k + 1, by omega, by go_num, by rw [hw]⟩
          case measure => simp [intOf]; omega
        · have hle : (k : Int) < (32 - 8 * if (4 : Int) < (s.size : Int) then (4 : Int) else (s.size : Int)) := by assumption
          rw [← HMS.out] at hle
          have hw := wantTo_no m hm5 k hlt2 (by omega)
          go_round
          case rel => exact ⟨k + 1, by omega, by go_num, by rw [hw]⟩
          case measure => simp [intOf]; omega
      · have hge : 32 ≤ k := by omega
        clear hlt2
        have hk32 : wantTo m k = wantTo m 32 := by rw [show k = 32 by omega]
        generalize wantTo m k = v at hk32
        have HK := Lib.hid hk32
        clear hk32
        have hmk := HMK.out w
        go_wp2_with fail
        clear hmk
        have hcells : ∀ j, j < 256 → (w.alloc (.cells ((List.replicate 256 (Value.int .i64 0)).toArray) 3)).cell? ⟨w.heap.size, 0 + j, none⟩ = some (.int .i64 ((List.replicate 256 (0 : Int)).getD j 0)) := by
          intro j hj
          rw [show (w.alloc (.cells ((List.replicate 256 (Value.int .i64 0)).toArray) 3)).cell? ⟨w.heap.size, 0 + j, none⟩ = ((List.replicate 256 (Value.int .i64 0)).toArray)[0 + j]? from cell_of_row _ _ (0 + j) _ 3 (0, 0) (heap_alloc_new w _)]
          rw [Nat.zero_add, List.getElem?_toArray, List.getElem?_replicate, if_pos hj, List.getD_eq_getElem?_getD, List.getElem?_replicate, if_pos hj]
          rfl
        refine (sum_any w.heap.size 0 256 (List.replicate 256 0) s _ hs hcells).mono ?_
        rintro e w' ⟨rfl, rfl⟩
        clear hcells
        rw [HS.out, ← HK.out]
        have hvv : (v == v) = true := by simp
        go_wp2_with fail
        refine (awake01 _).mono ?_
        rintro e W2 ⟨rfl, hB2⟩
        go_wp2
        go_ret
        exact ⟨rfl, ((Below.refl _ _).alloc (Nat.le_refl _) _).trans (hB2.mono (by simp))⟩

/-- 'string([]byte{a})' -/
theorem conv1 (a : Int) (w : World) : (convert 32 9 (.slice (some ⟨w.heap.size, 0, none⟩) 1 1)).run Try.prog (w.alloc (.cells #[.int .u8 a] 5)) = .ok (.string (strOfNums [a])) (w.alloc (.cells #[.int .u8 a] 5)) := by
  refine run_convert_bytes_arg _ 32 5 Try.underlying32 Try.underlying5 w.heap.size 0 1 1 [a] rfl ?_ 9 Try.underlying9
  intro i hi
  obtain rfl : i = 0 := by omega
  rw [show (w.alloc (.cells #[.int .u8 a] 5)).cell? ⟨w.heap.size, 0 + 0, none⟩ = (#[Value.int .u8 a])[0 + 0]? from cell_of_row _ _ (0 + 0) _ 5 (0, 0) (heap_alloc_new w _)]
  rfl

theorem conv1_any (a : Int) : ∃ c : ByteArray, (∀ w : World, (convert 32 9 (.slice (some ⟨w.heap.size, 0, none⟩) 1 1)).run Try.prog (w.alloc (.cells #[.int .u8 a] 5)) = .ok (.string c) (w.alloc (.cells #[.int .u8 a] 5))) ∧ c.size = 1 ∧ c.data.toList = [UInt8.ofNat a.toNat] :=
  ⟨strOfNums [a], conv1 a, rfl, rfl⟩

set_option maxRecDepth 100000 in
set_option maxHeartbeats 400000 in
theorem sumLast_walk (s : ByteArray) (hs : s.size ≤ maxLen) (a : Int) (ha : (Lit.int .u8 a).wf = true) (b : Int) (hb : (Lit.int .u8 b).wf = true) (w : World) :
    Calls Try.prog 7 #[.string s, .int .u8 a, .int .u8 b] w fun e w' => e = .returned (.bool true) ∧ Below w.heap.size w w' := by
  have ha' : 0 ≤ a ∧ a ≤ 255 := by simpa [Lit.wf, IntKind.min, IntKind.max, IntKind.signed, IntKind.bits] using ha
  have hb' : 0 ≤ b ∧ b ≤ 255 := by simpa [Lit.wf, IntKind.min, IntKind.max, IntKind.signed, IntKind.bits] using hb
  clear ha hb
  by_cases hlen : (300 : Int) < (s.size : Int)
  · go_enter Try.func7, Try.ntmps7
    go_wp2_with fail
    refine (awake01 _).mono ?_
    rintro e W1 ⟨rfl, hB⟩
    go_wp2
    go_ret
    exact ⟨rfl, hB⟩
  · obtain ⟨ca, hca, has, had⟩ := conv1_any a
    obtain ⟨cb, hcb, hbs, hbd⟩ := conv1_any b
    have hna : ¬ 9223372036854775807 < s.size + ca.size := by omega
    have hnb : ¬ 9223372036854775807 < s.size + cb.size := by omega
    have HAS := Lib.hid has
    have HBS := Lib.hid hbs
    have HAD := Lib.hid had
    have HBD := Lib.hid hbd
    clear has hbs had hbd
    go_enter Try.func7, Try.ntmps7
    go_wp2_with fail
    refine (table_abs _).mono ?_
    rintro e W1 ⟨rfl, hT, hlt, hB⟩
    go_wp2_with fail
    have hT1 : TabAt (W1.alloc (.cells #[.int .u8 a] 5)) w.heap.size := hT.below ((Below.refl _ _).alloc (Nat.le_refl _) _) hlt
    have hB1 : Below w.heap.size w (W1.alloc (.cells #[.int .u8 a] 5)) := hB.alloc (by omega) _
    have hz1 : w.heap.size < (W1.alloc (.cells #[.int .u8 a] 5)).heap.size := by simp; omega
    refine (sum_tab _ _ _ (by rw [ByteArray.size_append, HAS.out]; unfold maxLen; omega) hT1).mono ?_
    generalize W1.alloc (.cells #[.int .u8 a] 5) = W2 at hT1 hB1 hz1
    rintro e w' ⟨rfl, rfl⟩
    generalize hsa : Sm.sum (s ++ ca).data.toList = sa
    have HSA := Lib.hid hsa
    clear hsa hT hlt hB
    go_wp2_with fail
    have hT3 : TabAt (W2.alloc (.cells #[.int .u8 b] 5)) w.heap.size := hT1.below ((Below.refl _ _).alloc (Nat.le_refl _) _) hz1
    have hB3 : Below w.heap.size w (W2.alloc (.cells #[.int .u8 b] 5)) := hB1.alloc (by omega) _
    have hz3 : w.heap.size < (W2.alloc (.cells #[.int .u8 b] 5)).heap.size := by simp; omega
    refine (sum_tab _ _ _ (by rw [ByteArray.size_append, HBS.out]; unfold maxLen; omega) hT3).mono ?_
    generalize W2.alloc (.cells #[.int .u8 b] 5) = W3 at hT3 hB3 hz3
    rintro e w' ⟨rfl, rfl⟩
    generalize hsb : Sm.sum (s ++ cb).data.toList = sb
    have hfin : ((sa == sb) == (a == b)) = true := by
      rw [← HSA.out, ← hsb]
      simp only [ByteArray.data_append, Array.toList_append, HAD.out, HBD.out]
      by_cases e : a = b
      · subst e; simp
      · have hne : UInt8.ofNat a.toNat ≠ UInt8.ofNat b.toNat := by
          intro h
          have := congrArg UInt8.toNat h
          simp only [UInt8.toNat_ofNat'] at this
          omega
        have hs2 := Sm.sum_one (p := s.data.toList) (q := []) hne
        rw [beq_iff_eq, beq_eq_false_iff_ne.2 hs2, beq_eq_false_iff_ne.2 e]
    clear hsb hT1 hB1 hz1
    go_wp2_with fail
    refine (awake01 _).mono ?_
    rintro e W4 ⟨rfl, hB4⟩
    go_wp2
    go_ret
    exact ⟨rfl, hB3.trans (hB4.mono (by omega))⟩
end Go.Proofs.Ytekkmlhkcdijkaa
