import Derived.Test.YtcbfhpnmhhnjpaaGreatZ16
import Derived.BigQuiet
import Derived.Deep.QuietTactic
import Derived.Laws.IdiomStrings
import Derived.RegionTactic
import Derived.ChangeAlike
import Derived.Deep.RegionHeld3
import Derived.Deep.RegionWith
import Derived.Lib.SmallJoins
set_option linter.unusedVariables false
set_option linter.unusedSimpArgs false
namespace Go.Proofs.YtcbfhpnmhhnjpaaGreat
open Go.RowKit
theorem i32_lt (x : Sm.W32) : 0 ≤ ((x.toNat : Nat) : Int) ∧ ((x.toNat : Nat) : Int) < 4294967296 := by have := x.isLt; omega
theorem and1 (x : Sm.W32) : bits BinOp.and IntKind.u32 ((x.toNat : Nat) : Int) 1 = if x.getLsbD 0 then 1 else 0 := by
  show IntKind.u32.wrap ((((BitVec.ofInt 32 ((x.toNat : Nat) : Int) &&& BitVec.ofInt 32 1 : BitVec 32)).toNat : Nat) : Int) = _
  rw [Sm.ofInt_toNat]
  have : (x &&& BitVec.ofInt 32 1) = if x.getLsbD 0 then 1#32 else 0#32 := by
    apply BitVec.eq_of_getLsbD_eq
    intro i hi
    rw [show BitVec.ofInt 32 1 = 1#32 by rfl]
    rw [BitVec.getLsbD_and]
    rcases Nat.eq_zero_or_pos i with rfl | hp
    · cases x.getLsbD 0 <;> simp
    · have h1 : (1#32).getLsbD i = false := by
        have : ∀ i, i < 32 → 0 < i → (1#32).getLsbD i = false := by decide
        exact this i hi hp
      rw [h1]
      cases x.getLsbD 0 <;> simp [h1]
  rw [this]
  cases x.getLsbD 0 <;> decide
theorem xor32 (x y : Sm.W32) : bits BinOp.xor IntKind.u32 ((x.toNat : Nat) : Int) ((y.toNat : Nat) : Int) = (((x ^^^ y).toNat : Nat) : Int) := by
  show IntKind.u32.wrap ((((BitVec.ofInt 32 ((x.toNat : Nat) : Int) ^^^ BitVec.ofInt 32 ((y.toNat : Nat) : Int) : BitVec 32)).toNat : Nat) : Int) = _
  rw [Sm.ofInt_toNat, Sm.ofInt_toNat]
  have := (x ^^^ y).isLt
  generalize (x ^^^ y).toNat = n at *
  simp only [IntKind.wrap, IntKind.bits, IntKind.signed]
  simp
  omega
theorem half32 (x : Sm.W32) : (x.toNat : Int) / (2 : Int) = ((x >>> 1).toNat : Int) := by
  rw [BitVec.toNat_ushiftRight, Nat.shiftRight_eq_div_pow]; omega
theorem poly_int : (3988292384 : Int) = ((Sm.poly.toNat : Nat) : Int) := by rfl
set_option maxHeartbeats 400000 in
theorem entry_any (x : Sm.W32) (w : World) :
    Calls Tryz.prog 196 #[.int .u32 x.toNat] w fun e w' => e = .returned (.int .u32 (Sm.entry x).toNat) ∧ w = w' := by
  have hx := i32_lt x
  go_enter Tryz.func196, Tryz.ntmps196
  go_wp2
  go_loop [0, 4] (fun v i => ∃ (k : Nat), k ≤ 8 ∧ i = .int .i64 k ∧ v = .int .u32 (Sm.steps k x).toNat) (fun _ i => 8 - (intOf i).toNat)
  case atStart => exact ⟨0, by omega, rfl, rfl⟩
  case round =>
    obtain ⟨k, hk, rfl, rfl⟩ := hrel
    generalize hy : Sm.steps k x = y
    have HY := Lib.hid hy
    clear hy
    have hy0 := i32_lt y
    have ha := and1 y
    by_cases hlt : k < 8
    · cases hb : y.getLsbD 0 with
      | true =>
        have hT : (bits BinOp.and IntKind.u32 ((y.toNat : Nat) : Int) 1 == 1) = true := by rw [ha, hb]; rfl
        clear ha
        have HB := Lib.hid hb
        clear hb
        go_wp2
        go_round
        case rel => exact ⟨k + 1, by omega, by go_num, by rw [half32, poly_int, xor32]; simp only [Sm.steps]; rw [HY.out]; unfold Sm.step; rw [HB.out]; rfl⟩
        case measure => simp [intOf]; omega
      | false =>
        have hT : (bits BinOp.and IntKind.u32 ((y.toNat : Nat) : Int) 1 == 1) = false := by rw [ha, hb]; rfl
        clear ha
        have HB := Lib.hid hb
        clear hb
        go_wp2
        go_round
        case rel => exact ⟨k + 1, by omega, by go_num, by rw [half32]; simp only [Sm.steps]; rw [HY.out]; unfold Sm.step; rw [HB.out]; rfl⟩
        case measure => simp [intOf]; omega
    · clear ha
      have hge : 8 ≤ k := by omega
      clear hlt
      go_wp2
      go_ret
      obtain rfl : k = 8 := by omega
      exact ⟨by unfold Sm.entry; rw [HY.out]; rfl, rfl⟩
theorem rem1 (x : Sm.W32) : ((x.toNat : Int) % (2 : Int) == 1) = x.getLsbD 0 := by
  have h : x.getLsbD 0 = decide (x.toNat % 2 = 1) := by
    simp [BitVec.getLsbD, Nat.testBit_zero]
  rw [h, Bool.eq_iff_iff]
  simp
  omega
theorem stepRef (x : Sm.W32) (h : x.getLsbD 0 = true) : bits BinOp.xor IntKind.u32 ((x.toNat : Int) / (2 : Int)) 3988292384 = ((Sm.step x).toNat : Int) := by
  rw [half32, poly_int, xor32]; unfold Sm.step; rw [h]; rfl
theorem stepRef0 (x : Sm.W32) (h : x.getLsbD 0 = false) : ((x.toNat : Int) / (2 : Int)) = ((Sm.step x).toNat : Int) := by
  rw [half32]; unfold Sm.step; rw [h]; rfl
theorem entry_nat (i : Nat) (hi : i < 4294967296) (w : World) :
    Calls Tryz.prog 196 #[.int .u32 i] w fun e w' => e = .returned (.int .u32 (Sm.entry (BitVec.ofNat 32 i)).toNat) ∧ w = w' := by
  have h := entry_any (BitVec.ofNat 32 i) w
  rw [BitVec.toNat_ofNat, Nat.mod_eq_of_lt (by omega)] at h
  exact h
def tabCells (k : Nat) : Array Value := ((List.range 256).map fun i => Value.int .i64 (if i < k then ((Sm.entry (BitVec.ofNat 32 i)).toNat : Int) else 0)).toArray
theorem tabCells_set (k : Nat) : (tabCells k).setIfInBounds k (.int .i64 ((Sm.entry (BitVec.ofNat 32 k)).toNat : Int)) = tabCells (k + 1) := by
  apply Array.ext
  · simp [tabCells]
  · intro i h1 h2
    simp only [tabCells, List.size_toArray, List.length_map, List.length_range, Array.size_setIfInBounds] at h1 h2
    rw [Array.getElem_setIfInBounds (by simpa [tabCells] using h1)]
    by_cases e : k = i
    · subst e; simp [tabCells]
    · rw [if_neg e]
      simp only [tabCells, List.getElem_toArray, List.getElem_map, List.getElem_range]
      by_cases hi : i < k
      · rw [if_pos hi, if_pos (by omega)]
      · rw [if_neg hi, if_neg (by omega)]
theorem tabCells_size (k : Nat) : (tabCells k).size = 256 := by simp [tabCells]
set_option maxRecDepth 100000 in
set_option maxHeartbeats 400000 in
theorem table_any (w : World) :
    Calls Tryz.prog 187 #[] w fun e w' => e = .returned (.slice (some ⟨w.heap.size, 0, none⟩) 256 256) ∧ w' = w.alloc (.cells (tabCells 256) 3) := by
  have hmk : ∀ w, (Instr.makeSlice 86 (.int .i64 256) (.int .i64 256)).run Tryz.prog w = .ok (.slice (some ⟨w.heap.size, 0, none⟩) 256 256) (w.alloc (.cells (tabCells 0) 3)) := fun _ => by kernel_rfl
  go_enter Tryz.func187, Tryz.ntmps187
  go_wp2
  clear hmk
  go_loopw [2, 6] (fun _ i wr => ∃ (k : Nat), k ≤ 256 ∧ i = .int .i64 k ∧ wr = w.alloc (.cells (tabCells k) 3)) (fun _ i _ => 256 - (intOf i).toNat)
  case atStart => exact ⟨0, by omega, rfl, rfl⟩
  case round =>
    obtain ⟨k, hk, rfl, rfl⟩ := hrel
    by_cases hlt : k < 256
    · have hst := tabCells_set k
      have hsz := tabCells_size k
      generalize hA : tabCells k = arr at hst hsz
      have HA := Lib.hid hA
      have HST := Lib.hid hst
      clear hst hA
      have HSZ : k < arr.size := by omega
      clear hsz
      go_wp2_with fail
      refine (entry_nat k (by omega) _).mono ?_
      rintro e w' ⟨rfl, rfl⟩
      have hy := i32_lt (Sm.entry (BitVec.ofNat 32 k))
      generalize Sm.entry (BitVec.ofNat 32 k) = y at HST hy
      go_wp2
      go_roundw
      case rel => exact ⟨k + 1, by omega, by go_num, by rw [HST.out]⟩
      case measure => simp [intOf]; omega
    · have hge : 256 ≤ k := by omega
      clear hlt
      generalize hA : tabCells k = arr
      have HA := Lib.hid hA
      clear hA
      go_wp2
      go_ret
      obtain rfl : k = 256 := by omega
      exact ⟨rfl, by rw [HA.out]⟩
theorem not32 (x : Sm.W32) : wrap64 (bits BinOp.xor IntKind.u32 IntKind.u32.max (x.toNat : Int)) = ((~~~ x).toNat : Int) := by
  have e : IntKind.u32.max = (((4294967295#32 : Sm.W32).toNat : Nat) : Int) := by decide
  have e2 : (4294967295#32 : Sm.W32) ^^^ x = ~~~ x := by
    rw [show (4294967295#32 : Sm.W32) = BitVec.allOnes 32 by decide, BitVec.allOnes_xor]
  rw [e, xor32, e2]
  have := (~~~ x).isLt
  exact IntWalk.wrap64_in _ ⟨by omega, by omega⟩
set_option maxHeartbeats 400000 in
theorem refSum_any (s : ByteArray) (w : World) (hs : s.size ≤ maxLen) :
    Calls Tryz.prog 112 #[.string s] w fun e w' => e = .returned (.int .i64 (Sm.sum s.data.toList)) ∧ w = w' := by
  unfold maxLen at hs
  go_enter Tryz.func112, Tryz.ntmps112
  go_wp2
  go_loop [3, 4, 5] (fun v i _ => ∃ (k : Nat), k ≤ s.size ∧ i = .int .i64 k ∧ v = .int .u32 (Sm.feedAll 4294967295#32 (s.data.toList.take k)).toNat) (fun _ i _ => s.size - (intOf i).toNat)
  case atStart => exact ⟨0, by omega, rfl, rfl⟩
  case round =>
    obtain ⟨k, hk, rfl, rfl⟩ := hrel
    by_cases hlt : k < s.size
    · have hts : Sm.feedAll 4294967295#32 (s.data.toList.take (k + 1)) = Sm.feed (Sm.feedAll 4294967295#32 (s.data.toList.take k)) s[k] := by
        rw [List.take_succ_eq_append_getElem (by simpa using hlt), Sm.feedAll_append]; rfl
      generalize hX : Sm.feedAll 4294967295#32 (s.data.toList.take k) = X at hts
      generalize hC : s[k] = c at hts
      have HX := Lib.hid hX
      clear hX
      have HTS := Lib.hid hts
      clear hts
      have hxor : bits BinOp.xor IntKind.u32 ((X.toNat : Nat) : Int) ((c.toNat : Int) % 4294967296) = (((X ^^^ Sm.ofB c).toNat : Nat) : Int) := by
        rw [← xor32]
        congr 1
      go_wp2
      go_loop [3, 5] (fun v i => ∃ (m : Nat), m ≤ 8 ∧ i = .int .i64 m ∧ v = .int .u32 (Sm.steps m (X ^^^ Sm.ofB c)).toNat) (fun _ i => 8 - (intOf i).toNat)
      case atStart => exact ⟨0, by omega, rfl, rfl⟩
      case round =>
        obtain ⟨m, hm, rfl, rfl⟩ := hrel
        generalize hy : Sm.steps m (X ^^^ Sm.ofB c) = y
        have HY := Lib.hid hy
        clear hy hxor hC
        have hy0 := i32_lt y
        have ha := rem1 y
        by_cases hlt2 : m < 8
        · cases hb : y.getLsbD 0 with
          | true =>
            rw [hb] at ha
            have HB := Lib.hid hb
            clear hb
            go_wp2
            go_round
            case rel => exact ⟨m + 1, by omega, by go_num, by rw [stepRef y HB.out]; simp only [Sm.steps]; rw [HY.out]⟩
            case measure => simp [intOf]; omega
          | false =>
            rw [hb] at ha
            have HB := Lib.hid hb
            clear hb
            go_wp2
            go_round
            case rel => exact ⟨m + 1, by omega, by go_num, by rw [stepRef0 y HB.out]; simp only [Sm.steps]; rw [HY.out]⟩
            case measure => simp [intOf]; omega
        · clear ha
          have hge : 8 ≤ m := by omega
          clear hlt2
          have hm8 : m = 8 := by omega
          have HM := Lib.hid hm8
          clear hm8
          go_wp2
          go_round
          case rel => exact ⟨k + 1, by omega, by go_num, by rw [HTS.out]; unfold Sm.feed; rw [← HY.out, HM.out]⟩
          case measure => simp [intOf]; omega
    · have hge : s.size ≤ k := by omega
      clear hlt
      generalize hX : Sm.feedAll 4294967295#32 (s.data.toList.take k) = X
      have HX := Lib.hid hX
      clear hX
      go_wp2
      go_ret
      rw [List.take_of_length_le (by simpa using hge)] at HX
      exact ⟨by unfold Sm.sum; rw [HX.out, ← not32]; rfl, rfl⟩
theorem idx8 (x : Sm.W32) (c : UInt8) : bits BinOp.xor IntKind.u8 ((x.toNat : Int) % 256) (c.toNat : Int) = (((x ^^^ Sm.ofB c) &&& 255#32).toNat : Int) := by
  show IntKind.u8.wrap ((((BitVec.ofInt 8 ((x.toNat : Int) % 256) ^^^ BitVec.ofInt 8 (c.toNat : Int) : BitVec 8)).toNat : Nat) : Int) = _
  have hc := c.toNat_lt
  have e : ((BitVec.ofInt 8 ((x.toNat : Int) % 256) ^^^ BitVec.ofInt 8 (c.toNat : Int) : BitVec 8)).toNat = ((x ^^^ Sm.ofB c) &&& 255#32).toNat := by
    have h1 : (BitVec.ofInt 8 ((x.toNat : Int) % 256)).toNat = x.toNat % 2 ^ 8 := by
      rw [BitVec.toNat_ofInt]; omega
    have h2 : (BitVec.ofInt 8 (c.toNat : Int)).toNat = c.toNat % 2 ^ 8 := by
      rw [BitVec.toNat_ofInt]; omega
    rw [BitVec.toNat_xor, h1, h2, BitVec.toNat_and, BitVec.toNat_xor]
    rw [show (255#32).toNat = 2 ^ 8 - 1 by rfl, Nat.and_two_pow_sub_one_eq_mod, ← Nat.xor_mod_two_pow]
    unfold Sm.ofB
    rw [BitVec.toNat_ofNat, Nat.mod_eq_of_lt (a := c.toNat) (by omega)]
  rw [e]
  have := Sm.and255_lt (x ^^^ Sm.ofB c)
  generalize ((x ^^^ Sm.ofB c) &&& 255#32).toNat = n at *
  simp only [IntKind.wrap, IntKind.bits, IntKind.signed]
  simp
  omega
theorem tabXor (z : Int) (x : Sm.W32) : bits BinOp.xor IntKind.u32 (z % 4294967296) ((x.toNat : Int) / (256 : Int)) = ((BitVec.ofInt 32 z ^^^ (x >>> 8)).toNat : Int) := by
  have e1 : z % 4294967296 = ((BitVec.ofInt 32 z).toNat : Int) := by
    rw [BitVec.toNat_ofInt]; omega
  have e2 : ((x.toNat : Int) / (256 : Int)) = ((x >>> 8).toNat : Int) := by
    rw [BitVec.toNat_ushiftRight, Nat.shiftRight_eq_div_pow]; omega
  rw [e1, e2, xor32]
set_option maxHeartbeats 400000 in
theorem sum_any (b off cap : Nat) (t : List Int) (s : ByteArray) (w : World) (hs : s.size ≤ maxLen) (hc : ∀ j, j < 256 → w.cell? ⟨b, off + j, none⟩ = some (.int .i64 (t.getD j 0))) :
    Calls Tryz.prog 186 #[.slice (some ⟨b, off, none⟩) 256 cap, .string s] w fun e w' => e = .returned (.tuple #[.int .i64 (Sm.sumT t s.data.toList), .bool true]) ∧ w = w' := by
  unfold maxLen at hs
  have HC := Lib.hid hc
  clear hc
  go_enter Tryz.func186, Tryz.ntmps186
  go_wp2
  go_loop [6, 7, 13] (fun v _ i => ∃ (k : Nat), k ≤ s.size ∧ i = .int .i64 k ∧ v = .int .u32 (Sm.feedAllT t 4294967295#32 (s.data.toList.take k)).toNat) (fun _ _ i => s.size - (intOf i).toNat)
  case atStart => exact ⟨0, by omega, rfl, rfl⟩
  case round =>
    obtain ⟨k, hk, rfl, rfl⟩ := hrel
    by_cases hlt : k < s.size
    · have hts : Sm.feedAllT t 4294967295#32 (s.data.toList.take (k + 1)) = Sm.feedT t (Sm.feedAllT t 4294967295#32 (s.data.toList.take k)) s[k] := by
        unfold Sm.feedAllT
        rw [List.take_succ_eq_append_getElem (by simpa using hlt), List.foldl_append]; rfl
      generalize hX : Sm.feedAllT t 4294967295#32 (s.data.toList.take k) = X at hts
      generalize hC : s[k] = c at hts
      have HX := Lib.hid hX
      clear hX
      unfold Sm.feedT at hts
      have hj := Sm.and255_lt (X ^^^ Sm.ofB c)
      have hix := idx8 X c
      generalize ((X ^^^ Sm.ofB c) &&& 255#32).toNat = j at hj hix hts
      have hcell := HC.out j hj
      generalize t.getD j 0 = z at hcell hts
      have hxx := tabXor z X
      rw [← hts] at hxx
      clear hts
      generalize hY : Sm.feedAllT t 4294967295#32 (s.data.toList.take (k + 1)) = Y at hxx
      have HY := Lib.hid hY
      clear hY
      have hX0 := i32_lt X
      go_wp2
      go_round
      case rel => exact ⟨k + 1, by omega, by go_num, by rw [HY.out]⟩
      case measure => simp [intOf]; omega
    · have hge : s.size ≤ k := by omega
      clear hlt
      generalize hX : Sm.feedAllT t 4294967295#32 (s.data.toList.take k) = X
      have HX := Lib.hid hX
      clear hX
      go_wp2
      go_ret2
      rw [List.take_of_length_le (by simpa using hge)] at HX
      exact ⟨by unfold Sm.sumT; rw [HX.out, ← not32]; rfl, rfl⟩
end Go.Proofs.YtcbfhpnmhhnjpaaGreat

namespace Go.Proofs.YtcbfhpnmhhnjpaaGreat
open Go.RowKit
def TabAt (W : World) (b : Nat) : Prop := ∀ j, j < 256 → W.cell? ⟨b, j, none⟩ = some (.int .i64 (Sm.table.getD j 0))
theorem TabAt.below {W W' : World} {b : Nat} (h : TabAt W b) (hb : Below W.heap.size W W') (hl : b < W.heap.size) : TabAt W' b :=
  fun j hj => (hb.cell (p := ⟨b, j, none⟩) hl).trans (h j hj)
theorem tabAt_new (w : World) : TabAt (w.alloc (.cells (tabCells 256) 3)) w.heap.size := by
  intro j hj
  rw [show (w.alloc (.cells (tabCells 256) 3)).cell? ⟨w.heap.size, j, none⟩ = (tabCells 256)[j]? from cell_of_row _ _ j _ 3 (0, 0) (heap_alloc_new w _)]
  simp only [tabCells, List.getElem?_toArray, List.getElem?_map, List.getElem?_range hj, Option.map_some, if_pos hj]
  rw [Sm.table_get j hj]
theorem table_abs (w : World) :
    Calls Tryz.prog 187 #[] w fun e w' => e = .returned (.slice (some ⟨w.heap.size, 0, none⟩) 256 256) ∧ TabAt w' w.heap.size ∧ w.heap.size < w'.heap.size ∧ Below w.heap.size w w' :=
  (table_any w).mono fun e w' ⟨he, hw⟩ => ⟨he, by rw [hw]; exact tabAt_new w, by rw [hw]; simp, by rw [hw]; exact (Below.refl _ _).alloc (Nat.le_refl _) _⟩
theorem sum_tab (b : Nat) (s : ByteArray) (w : World) (hs : s.size ≤ maxLen) (hT : TabAt w b) :
    Calls Tryz.prog 186 #[.slice (some ⟨b, 0, none⟩) 256 256, .string s] w fun e w' => e = .returned (.tuple #[.int .i64 (Sm.sum s.data.toList), .bool true]) ∧ w = w' := by
  have h := sum_any b 0 256 Sm.table s w hs (fun j hj => by rw [Nat.zero_add]; exact hT j hj)
  rw [Sm.sumT_table] at h
  exact h
end Go.Proofs.YtcbfhpnmhhnjpaaGreat

namespace Go.Proofs.YtcbfhpnmhhnjpaaGreat
open Go.RowKit
theorem conv1 (a : Int) (w : World) : (convert 168 9 (.slice (some ⟨w.heap.size, 0, none⟩) 1 1)).run Tryz.prog (w.alloc (.cells #[.int .u8 a] 5)) = .ok (.string (strOfNums [a])) (w.alloc (.cells #[.int .u8 a] 5)) := by
  refine run_convert_bytes_arg _ 168 5 Tryz.underlying168 Tryz.underlying5 w.heap.size 0 1 1 [a] rfl ?_ 9 Tryz.underlying9
  intro i hi
  obtain rfl : i = 0 := by omega
  rw [show (w.alloc (.cells #[.int .u8 a] 5)).cell? ⟨w.heap.size, 0 + 0, none⟩ = (#[Value.int .u8 a])[0 + 0]? from cell_of_row _ _ (0 + 0) _ 5 (0, 0) (heap_alloc_new w _)]
  rfl
end Go.Proofs.YtcbfhpnmhhnjpaaGreat

namespace Go.Proofs.YtcbfhpnmhhnjpaaGreat
open Go.RowKit
def four (n : Nat) : List UInt8 := [UInt8.ofNat (n % 256), UInt8.ofNat (n / 256 % 256), UInt8.ofNat (n / 65536 % 256), UInt8.ofNat (n / 16777216 % 256)]
theorem four_length (n : Nat) : (four n).length = 4 := rfl
theorem conv4 (a b c d : Int) (w : World) : (convert 168 9 (.slice (some ⟨w.heap.size, 0, none⟩) 4 4)).run Tryz.prog (w.alloc (.cells #[.int .u8 a, .int .u8 b, .int .u8 c, .int .u8 d] 5)) = .ok (.string (strOfNums [a, b, c, d])) (w.alloc (.cells #[.int .u8 a, .int .u8 b, .int .u8 c, .int .u8 d] 5)) := by
  refine run_convert_bytes_arg _ 168 5 Tryz.underlying168 Tryz.underlying5 w.heap.size 0 4 4 [a, b, c, d] rfl ?_ 9 Tryz.underlying9
  intro i hi
  rw [(Blk.new w 5 #[.int .u8 a, .int .u8 b, .int .u8 c, .int .u8 d]).cell]
  match i, hi with
  | 0, _ => rfl
  | 1, _ => rfl
  | 2, _ => rfl
  | 3, _ => rfl
def str (l : List UInt8) : ByteArray := ⟨l.toArray⟩
theorem str_toList (l : List UInt8) : (str l).data.toList = l := rfl
theorem str_size (l : List UInt8) : (str l).size = l.length := rfl
theorem str_of (s : ByteArray) : str s.data.toList = s := by cases s; rfl
theorem str_append (l r : List UInt8) : str l ++ str r = str (l ++ r) := by
  have : (str l ++ str r).data.toList = l ++ r := by simp [str]
  rw [← str_of (str l ++ str r), this]
theorem four_str (n : Nat) (h : (n : Int) < 4294967296) : strOfNums [(n : Int) % 256, (n : Int) / 256 % 256, (n : Int) / 65536 % 256, (n : Int) / 16777216] = str (four n) := by
  simp only [strOfNums, str, four, List.map_cons, List.map_nil]
  rw [show ((n : Int) % 256).toNat = n % 256 by omega, show ((n : Int) / 256 % 256).toNat = n / 256 % 256 by omega, show ((n : Int) / 65536 % 256).toNat = n / 65536 % 256 by omega, show ((n : Int) / 16777216).toNat = n / 16777216 % 256 by omega]
def numObj (n : Nat) : Obj := .cells #[.int .u8 ((n : Int) % 256), .int .u8 ((n : Int) / 256 % 256), .int .u8 ((n : Int) / 65536 % 256), .int .u8 ((n : Int) / 16777216)] 5
set_option maxHeartbeats 400000 in
theorem number_any (n : Int) (w : World) (h0 : 0 ≤ n) (h1 : n < 4294967296) :
    Calls Tryz.prog 185 #[.int .i64 n] w fun e w' => e = .returned (.string (str (four n.toNat))) ∧ w.alloc (numObj n.toNat) = w' := by
  obtain ⟨m, rfl⟩ := Int.eq_ofNat_of_zero_le h0
  rw [Int.toNat_natCast]
  have hcv := conv4
  go_enter Tryz.func185, Tryz.ntmps185
  go_wp2_with fail
  go_ret
  refine ⟨?_, rfl⟩
  rw [← four_str m h1]
  rfl
def isPage (i v : Int) (s : ByteArray) : Bool := decide (1 ≤ i ∧ i ≤ 16 ∧ 1 ≤ v ∧ v ≤ 2147483647 ∧ s.size ≤ 16)
theorem isPage_iff (i v : Int) (s : ByteArray) : isPage i v s = true ↔ 1 ≤ i ∧ i ≤ 16 ∧ 1 ≤ v ∧ v ≤ 2147483647 ∧ s.size ≤ 16 := by unfold isPage; exact decide_eq_true_iff
theorem pageRight_true {i v : Int} {s : ByteArray} (a : 1 ≤ i) (b : i ≤ 16) (c : 1 ≤ v) (d : v ≤ 2147483647) : isPage i v s = decide ((s.size : Int) ≤ 16) := by
  unfold isPage; rw [decide_eq_decide]; omega
theorem pageRight_false {i v : Int} {s : ByteArray} (h : ¬ (1 ≤ i ∧ i ≤ 16 ∧ 1 ≤ v ∧ v ≤ 2147483647)) : isPage i v s = false := by
  unfold isPage; rw [decide_eq_false_iff_not]; omega
set_option maxHeartbeats 400000 in
theorem pageRight_any (i v : Int) (s : ByteArray) (w : World) :
    Calls Tryz.prog 89 #[.agg #[.int .i64 i, .int .i64 v, .string s]] w fun e w' => e = .returned (.bool (isPage i v s)) ∧ w.alloc (.cells #[.int .i64 i, .int .i64 v, .string s] 42) = w' := by
  go_enter Tryz.func89, Tryz.ntmps89
  go_wp2_with fail
  all_goals go_ret
  all_goals refine ⟨?_, rfl⟩
  · rw [pageRight_true (by assumption) (by assumption) (by assumption) (by assumption)]; rfl
  all_goals (rw [pageRight_false (by omega)]; rfl)
set_option maxHeartbeats 400000 in
theorem refRight_any (i v : Int) (s : ByteArray) (w : World) :
    Calls Tryz.prog 71 #[.agg #[.int .i64 i, .int .i64 v, .string s]] w fun e w' => e = .returned (.bool (isPage i v s)) ∧ w.alloc (.cells #[.int .i64 i, .int .i64 v, .string s] 42) = w' := by
  go_enter Tryz.func71, Tryz.ntmps71
  go_wp2_with fail
  all_goals go_ret
  all_goals refine ⟨?_, rfl⟩
  · rw [pageRight_true (by omega) (by omega) (by omega) (by omega)]
    simp
    omega
  all_goals (rw [pageRight_false (by omega)]; rfl)
set_option maxHeartbeats 400000 in
theorem refFour_any (n : Int) (w : World) (h0 : 0 ≤ n) (h1 : n < 4294967296) :
    Calls Tryz.prog 111 #[.int .i64 n] w fun e w' => e = .returned (.string (str (four n.toNat))) ∧ w.alloc (numObj n.toNat) = w' := by
  obtain ⟨m, rfl⟩ := Int.eq_ofNat_of_zero_le h0
  rw [Int.toNat_natCast]
  have hcv := conv4
  go_enter Tryz.func111, Tryz.ntmps111
  go_wp2_with fail
  go_ret
  refine ⟨?_, rfl⟩
  rw [← four_str m h1]
  rfl
def num4 (l : List UInt8) : Nat := (l.getD 0 0).toNat + (l.getD 1 0).toNat * 256 + (l.getD 2 0).toNat * 65536 + (l.getD 3 0).toNat * 16777216
theorem num4_four (n : Nat) (h : n < 4294967296) : num4 (four n) = n := by
  simp only [num4, four, List.getD_cons_zero, List.getD_cons_succ, UInt8.toNat_ofNat']
  omega
theorem or64 (a b i : Nat) (ha : a < 2 ^ i) (hb : a + b * 2 ^ i < 9223372036854775808) : bits BinOp.or IntKind.i64 (a : Int) ((b * 2 ^ i : Nat) : Int) = ((a + b * 2 ^ i : Nat) : Int) := by
  show IntKind.i64.wrap ((((BitVec.ofInt 64 ((a : Nat) : Int) ||| BitVec.ofInt 64 ((b * 2 ^ i : Nat) : Int) : BitVec 64)).toNat : Nat) : Int) = _
  have h : (BitVec.ofInt 64 ((a : Nat) : Int) ||| BitVec.ofInt 64 ((b * 2 ^ i : Nat) : Int) : BitVec 64).toNat = a + b * 2 ^ i := by
    rw [BitVec.ofInt_natCast, BitVec.ofInt_natCast, BitVec.toNat_or, BitVec.toNat_ofNat, BitVec.toNat_ofNat, Nat.mod_eq_of_lt (by omega), Nat.mod_eq_of_lt (by omega), Nat.or_comm, ← Nat.shiftLeft_eq, ← Nat.shiftLeft_add_eq_or_of_lt ha, Nat.shiftLeft_eq]
    omega
  rw [h]
  generalize a + b * 2 ^ i = m at *
  simp only [IntKind.wrap, IntKind.bits, IntKind.signed]
  simp
  omega
theorem value_form (a b c d : UInt8) : (bits BinOp.or IntKind.i64 (bits BinOp.or IntKind.i64 (bits BinOp.or IntKind.i64 (wrap64 (a.toNat : Int)) (wrap64 (wrap64 (b.toNat : Int) * 256))) (wrap64 (wrap64 (c.toNat : Int) * 65536))) (wrap64 (wrap64 (d.toNat : Int) * 16777216))) = ((a.toNat + b.toNat * 256 + c.toNat * 65536 + d.toNat * 16777216 : Nat) : Int) := by
  have ha := a.toNat_lt
  have hb := b.toNat_lt
  have hc := c.toNat_lt
  have hd := d.toNat_lt
  rw [IntWalk.wrap64_in (a.toNat : Int) ⟨by omega, by omega⟩, IntWalk.wrap64_in (b.toNat : Int) ⟨by omega, by omega⟩, IntWalk.wrap64_in (c.toNat : Int) ⟨by omega, by omega⟩, IntWalk.wrap64_in (d.toNat : Int) ⟨by omega, by omega⟩,
    IntWalk.wrap64_in ((b.toNat : Int) * 256) ⟨by omega, by omega⟩, IntWalk.wrap64_in ((c.toNat : Int) * 65536) ⟨by omega, by omega⟩, IntWalk.wrap64_in ((d.toNat : Int) * 16777216) ⟨by omega, by omega⟩]
  rw [show (b.toNat : Int) * 256 = ((b.toNat * 2 ^ 8 : Nat) : Int) by omega, or64 _ _ _ (by omega) (by omega)]
  rw [show (c.toNat : Int) * 65536 = ((c.toNat * 2 ^ 16 : Nat) : Int) by omega, or64 _ _ _ (by omega) (by omega)]
  rw [show (d.toNat : Int) * 16777216 = ((d.toNat * 2 ^ 24 : Nat) : Int) by omega, or64 _ _ _ (by omega) (by omega)]
set_option maxHeartbeats 400000 in
theorem value_any (s : ByteArray) (w : World) (hs : s.size = 4) :
    Calls Tryz.prog 167 #[.string s] w fun e w' => e = .returned (.int .i64 (num4 s.data.toList)) ∧ ∃ n, w.drewN n = w' := by
  have h3 : (3 : Int) < (s.size : Int) := by omega
  have h0 : 0 < s.size := by omega
  have h1 : (1 : Int) < (s.size : Int) := by omega
  have h2 : (2 : Int) < (s.size : Int) := by omega
  have hv : ∀ (p0 : 0 < s.size) (p1 : 1 < s.size) (p2 : 2 < s.size) (p3 : 3 < s.size), num4 s.data.toList = s[0].toNat + s[1].toNat * 256 + s[2].toNat * 65536 + s[3].toNat * 16777216 := by
    intro p0 p1 p2 p3
    obtain ⟨⟨l⟩⟩ := s
    match l, hs with
    | [a, b, c, d], _ => rfl
  have HV := Lib.hid hv
  clear hs hv
  go_enter Tryz.func167, Tryz.ntmps167
  go_wp2_with fail
  go_quiet (fail)
  go_wp2_with fail
  go_ret
  refine ⟨?_, _, rfl⟩
  rw [HV.out h0 (by omega) (by omega) (by omega), ← value_form]
  rfl
def pageBack (body : List UInt8) : List UInt8 := body ++ List.replicate (16 - body.length) 0
def pageFront (i v : Nat) (body : List UInt8) : List UInt8 := four i ++ four v ++ four body.length
def pageBytes (i v : Nat) (body : List UInt8) : List UInt8 := pageFront i v body ++ four (Sm.sum (pageFront i v body ++ pageBack body)).toNat ++ pageBack body
theorem repeatL_zero (m : Nat) : Lib.repeatL [0] m = List.replicate m (0 : UInt8) := by
  induction m with
  | zero => rfl
  | succ m ih => rw [List.replicate_succ, ← ih]; rfl
theorem repeat_noughts (m : Nat) (w : World) (hm : m ≤ 32) :
    Calls Tryz.prog 67 #[.string ⟨#[0]⟩, .int .i64 m] w fun e w' => e = .returned (.string (str (List.replicate m 0))) ∧ Below w.heap.size w w' := by
  have h := Tryz.strings_Repeat ⟨#[0]⟩ m w (by omega) (by simp [ByteArray.size]; omega)
  rw [show (ByteArray.data ⟨#[0]⟩).toList = [0] from rfl, repeatL_zero] at h
  exact h
theorem Below3 (W : World) (A B C : Obj) : Below W.heap.size W (((W.alloc A).alloc B).alloc C).drew :=
  ((((Below.refl _ _).alloc (Nat.le_refl _) _).alloc (by simp) _).alloc (by simp; omega) _).drew
set_option maxRecDepth 100000 in
set_option maxHeartbeats 400000 in
theorem y_put_no (i v : Int) (s : ByteArray) (w : World) (h : isPage i v s = false) :
    Calls Tryz.prog 168 #[.agg #[.int .i64 i, .int .i64 v, .string s]] w fun e w' => e = .returned (.tuple #[.string ByteArray.empty, .int .i64 1]) ∧ Below w.heap.size w w' := by
  go_enter Tryz.func168, Tryz.ntmps168
  go_wp2_with fail
  refine (pageRight_any _ _ _ _).mono ?_
  rw [h]
  clear h
  rintro e W1 ⟨rfl, rfl⟩
  go_wp2_with fail
  go_ret2
  exact ⟨rfl, ((Below.refl _ _).alloc (Nat.le_refl _) _).alloc (by simp) _⟩
set_option maxRecDepth 100000 in
set_option maxHeartbeats 400000 in
theorem put_yes (i v : Nat) (l : List UInt8) (w : World) (h : isPage i v (str l) = true) :
    Calls Tryz.prog 168 #[.agg #[.int .i64 i, .int .i64 v, .string (str l)]] w fun e w' => e = .returned (.tuple #[.string (str (pageBytes i v l)), .int .i64 0]) ∧ Below w.heap.size w w' := by
  have hb := (isPage_iff i v (str l)).1 h
  go_enter Tryz.func168, Tryz.ntmps168
  go_wp2_with fail
  refine (pageRight_any _ _ _ _).mono ?_
  rw [h]
  clear h
  obtain ⟨hb1, hb2, hb3, hb4, hb5⟩ := hb
  rw [str_size] at hb5
  rintro e W1 ⟨rfl, rfl⟩
  have hap := str_append
  have hsz := str_size
  have hfl := four_length
  have hblk := (Blk.new w 42 #[.int .i64 i, .int .i64 v, .string (str l)]).alloc (.cells #[.int .i64 i, .int .i64 v, .string (str l)] 42)
  have hbel : Below w.heap.size w ((w.alloc (.cells #[.int .i64 i, .int .i64 v, .string (str l)] 42)).alloc (.cells #[.int .i64 i, .int .i64 v, .string (str l)] 42)) := ((Below.refl _ _).alloc (Nat.le_refl _) _).alloc (by simp) _
  generalize (w.alloc (.cells #[.int .i64 i, .int .i64 v, .string (str l)] 42)).alloc (.cells #[.int .i64 i, .int .i64 v, .string (str l)] 42) = W at hblk hbel
  have c0 : W.cell? ⟨w.heap.size, 0, none⟩ = some (.int .i64 i) := hblk.cell 0
  have c1 : W.cell? ⟨w.heap.size, 1, none⟩ = some (.int .i64 v) := hblk.cell 1
  have c2 : W.cell? ⟨w.heap.size, 2, none⟩ = some (.string (str l)) := hblk.cell 2
  have hlt := hblk.lt
  have hk := fun A B C => (Below3 W A B C)
  have HK := Lib.hid hk
  clear hk
  go_wp2_with fail
  go_region_held3 (fun w' => w'.cell? ⟨w.heap.size, 0, none⟩ = some (.int .i64 i) ∧ w'.cell? ⟨w.heap.size, 1, none⟩ = some (.int .i64 v) ∧ w'.cell? ⟨w.heap.size, 2, none⟩ = some (.string (str l))) (first | (go_keep; done) | (go_split_ands; refine ⟨?_, ?_, ?_⟩; (exact ((HK.out _ _ _).cell (p := ⟨w.heap.size, 0, none⟩) hlt).trans c0); (exact ((HK.out _ _ _).cell (p := ⟨w.heap.size, 1, none⟩) hlt).trans c1); (exact ((HK.out _ _ _).cell (p := ⟨w.heap.size, 2, none⟩) hlt).trans c2)))
    (first | (go_at_call 185; refine (number_any _ _ (by omega) (by omega)).mono ?_; rintro e w' ⟨rfl, rfl⟩))
  go_wp2_with fail
  have hblk2 : Blk (((W.alloc (numObj i)).alloc (numObj v)).alloc (numObj l.length)).drew w.heap.size 42 #[.int .i64 i, .int .i64 v, .string (str l)] := hblk.keep (HK.out _ _ _)
  have hbel2 : Below w.heap.size w (((W.alloc (numObj i)).alloc (numObj v)).alloc (numObj l.length)).drew := hbel.trans ((HK.out _ _ _).mono (by omega))
  generalize (((W.alloc (numObj i)).alloc (numObj v)).alloc (numObj l.length)).drew = W2 at hblk2 hbel2
  clear hblk hbel c0 c1 c2 HK hlt
  have c2 : W2.cell? ⟨w.heap.size, 2, none⟩ = some (.string (str l)) := hblk2.cell 2
  have hlt := hblk2.lt
  obtain ⟨m, hm⟩ : ∃ m, l.length + m = 16 := ⟨16 - l.length, by omega⟩
  have hsub : (16 : Int) - (l.length : Int) = (m : Int) := by omega
  have hsubw : IntKind.i64.wrap (m : Int) = (m : Int) := IntWalk.i64_in _ (by omega)
  have hm32 : m ≤ 32 := by omega
  have hlm : ¬ 9223372036854775807 < l.length + m := by omega
  have hlm2 : l.length + m ≤ 9223372036854775807 := by omega
  have HM := Lib.hid hm
  clear hm
  go_region_held3 (fun w' => w'.cell? ⟨w.heap.size, 2, none⟩ = some (.string (str l))) (first | (go_keep; done) | (exact (hBr.cell (p := ⟨w.heap.size, 2, none⟩) hlt).trans c2))
    (first | (go_at_call 67; ((with_reducible refine (repeat_noughts m _ hm32).mono ?_); rintro e wr ⟨rfl, hBr⟩)))
  go_wp2_with fail
  have hbel3 : Below w.heap.size w wr := hbel2.drew.trans (hBr.mono hbel2.size)
  clear hblk2 hbel2 hBr c2 hlt
  refine (table_abs _).mono ?_
  rintro e W3 ⟨rfl, hT, hlt3, hB3⟩
  have hbel4 : Below w.heap.size w W3 := hbel3.trans (hB3.mono hbel3.size)
  clear hB3 hbel3
  have hfl3 : ¬ 9223372036854775807 < 12 + (l.length + m) := by omega
  go_wp2_with fail
  have hall : (str (four i ++ (four v ++ (four l.length ++ (l ++ List.replicate m 0))))).size ≤ maxLen := by
    rw [str_size]; simp only [List.length_append, four_length, List.length_replicate]; unfold maxLen; omega
  refine (sum_tab _ _ _ hall hT).mono ?_
  rintro e w' ⟨rfl, rfl⟩
  rw [str_toList]
  have hn := Sm.sum_nonneg (four i ++ (four v ++ (four l.length ++ (l ++ List.replicate m 0))))
  generalize hsum : Sm.sum (four i ++ (four v ++ (four l.length ++ (l ++ List.replicate m 0)))) = n at hn
  have HSUM := Lib.hid hsum
  clear hsum hall hT hlt3
  obtain ⟨hn1, hn2⟩ := hn
  have hl3 : ¬ 9223372036854775807 < 12 + (4 + (l.length + m)) := by omega
  have hl4 : ¬ 9223372036854775807 < 4 + (4 + (4 + (4 + (l.length + m)))) := by omega
  go_wp2_with fail
  refine (number_any _ _ hn1 hn2).mono ?_
  rintro e w' ⟨rfl, rfl⟩
  go_wp2_with fail
  go_ret2
  refine ⟨?_, hbel4.alloc hbel4.size _⟩
  have hfin : pageBytes i v l = four i ++ (four v ++ (four l.length ++ (four n.toNat ++ (l ++ List.replicate m 0)))) := by
    unfold pageBytes pageFront pageBack
    rw [show 16 - l.length = m by have := HM.out; omega]
    simp only [List.append_assoc]
    rw [HSUM.out]
  rw [hfin]
  rfl
end Go.Proofs.YtcbfhpnmhhnjpaaGreat

namespace Go.Proofs.YtcbfhpnmhhnjpaaGreat
open Go.RowKit
theorem str_extract (l : List UInt8) (a b : Nat) : (str l).extract a b = str ((l.take b).drop a) := by
  have : ((str l).extract a b).data.toList = (l.take b).drop a := by
    simp [str, ByteArray.data_extract, List.extract_eq_take_drop, List.drop_take]
  rw [← str_of ((str l).extract a b), this]
theorem str_list (l : List UInt8) : (str l).toList = l := Go.ByteArray.toList_eq _
def pageVal (i v : Nat) (b : List UInt8) : Value := .agg #[.int .i64 i, .int .i64 v, .string (str b)]
def Took (i v : Nat) (b : List UInt8) (e : Int) (w : World) (en : Ending) (w' : World) : Prop :=
  en = .returned (.tuple #[pageVal i v b, .int .i64 e]) ∧ Below w.heap.size w w'
theorem Blk.three {w : World} {g t : Nat} {a b c : Value} (h : Blk w g t #[a, b, c]) : w.cell? ⟨g, 0, none⟩ = some a ∧ w.cell? ⟨g, 1, none⟩ = some b ∧ w.cell? ⟨g, 2, none⟩ = some c ∧
    w.frozen? ⟨g, 0, none⟩ = false ∧ w.frozen? ⟨g, 1, none⟩ = false ∧ w.frozen? ⟨g, 2, none⟩ = false :=
  ⟨h.cell 0, h.cell 1, h.cell 2, h.frozen 0, h.frozen 1, h.frozen 2⟩
theorem _root_.Go.RowKit.Below.set3 {B : Nat} {w W : World} (h : Below B w W) {g : Nat} (hg : B ≤ g) (a b c : Value) :
    Below B w (((W.setCell ⟨g, 0, none⟩ a).setCell ⟨g, 1, none⟩ b).setCell ⟨g, 2, none⟩ c) :=
  ((h.setCell (by exact hg) _).setCell (by exact hg) _).setCell (by exact hg) _
set_option maxRecDepth 100000 in
set_option maxHeartbeats 400000 in
theorem take_form (l : List UInt8) (w : World) (h : l.length ≠ 32) :
    Calls Tryz.prog 142 #[.string (str l)] w (Took 0 0 [] 2 w) := by
  have hsz := str_size
  have ht : ((l.length : Int) != 32) = true := by simp; omega
  go_enter Tryz.func142, Tryz.ntmps142
  go_wp2_with fail
  refine bodyPost_ret (v := .tuple #[.agg #[.int .i64 0, .int .i64 0, .string ⟨#[]⟩], .int .i64 2]) (by simp [results, Tryz.results142, go_sem]) rfl ⟨rfl, (Below.refl _ _).alloc (Nat.le_refl _) _⟩
set_option maxRecDepth 100000 in
set_option maxHeartbeats 400000 in
theorem take_none (w : World) :
    Calls Tryz.prog 142 #[.string (str (List.replicate 32 0))] w (Took 0 0 [] 3 w) := by
  have hsz := str_size
  have htl := str_list
  generalize hl : List.replicate 32 (0 : UInt8) = l
  have hln : (l.length : Int) = 32 := by rw [← hl]; rfl
  have hne : ((l.length : Int) != 32) = false := by rw [hln]; rfl
  have HL := Lib.hid hl
  clear hl hln
  go_enter Tryz.func142, Tryz.ntmps142
  go_wp2_with fail
  refine (repeat_noughts 32 _ (by omega)).mono ?_
  rw [HL.out]
  rintro e W1 ⟨rfl, hB⟩
  have hb := (Blk.new w 42 #[.int .i64 0, .int .i64 0, .string ⟨#[]⟩]).keep hB
  have hbel : Below w.heap.size w W1 := ((Below.refl _ _).alloc (Nat.le_refl _) _).trans (hB.mono (by simp))
  clear hB
  obtain ⟨c0, c1, c2, f0, f1, f2⟩ := hb.three
  go_wp2_with fail
  refine bodyPost_ret (v := .tuple #[.agg #[.int .i64 0, .int .i64 0, .string ⟨#[]⟩], .int .i64 3]) (by simp [results, Tryz.results142, go_sem, c0, c1, c2]) rfl ⟨rfl, ?_⟩
  exact hbel.set3 (Nat.le_refl _) _ _ _
set_option maxRecDepth 100000 in
set_option maxHeartbeats 400000 in
theorem take_long (l : List UInt8) (w : World) (h : l.length = 32) (h0 : l ≠ List.replicate 32 0) (hn : 16 < num4 ((l.take 12).drop 8)) :
    Calls Tryz.prog 142 #[.string (str l)] w (Took 0 0 [] 9 w) := by
  have hsz := str_size
  have hex := str_extract
  have hne : ((l.length : Int) != 32) = false := by rw [h]; rfl
  have h32 : 32 ≤ l.length := by omega
  have htl := str_list
  have hq : (l == List.replicate 32 0) = false := beq_eq_false_iff_ne.2 h0
  generalize hl : List.replicate 32 (0 : UInt8) = r at hq
  have HL := Lib.hid hl
  have hv := value_any (str ((l.take 12).drop 8))
  rw [str_toList] at hv
  have HV := Lib.hid (hv · (by simp [str_size]; omega))
  generalize num4 ((l.take 12).drop 8) = n at hn HV
  clear hl h h0 hv
  go_enter Tryz.func142, Tryz.ntmps142
  go_wp2_with fail
  refine (repeat_noughts 32 _ (by omega)).mono ?_
  rw [HL.out]
  rintro e W1 ⟨rfl, hB⟩
  have hb := (Blk.new w 42 #[.int .i64 0, .int .i64 0, .string ⟨#[]⟩]).keep hB
  have hbel : Below w.heap.size w W1 := ((Below.refl _ _).alloc (Nat.le_refl _) _).trans (hB.mono (by simp))
  clear hB
  obtain ⟨c0, c1, c2, f0, f1, f2⟩ := hb.three
  go_wp2_with fail
  refine (HV.out _).mono ?_
  rintro e W2 ⟨rfl, k, rfl⟩
  go_wp2_with fail
  refine bodyPost_ret (v := .tuple #[.agg #[.int .i64 0, .int .i64 0, .string ⟨#[]⟩], .int .i64 9]) (by simp [results, Tryz.results142, go_sem, c0, c1, c2]) rfl ⟨rfl, ?_⟩
  exact (hbel.trans (drewN_below _ _ _)).set3 (Nat.le_refl _) _ _ _
def partI (l : List UInt8) : Nat := num4 (l.take 4)
def partV (l : List UInt8) : Nat := num4 ((l.take 8).drop 4)
def partN (l : List UInt8) : Nat := num4 ((l.take 12).drop 8)
def partB (l : List UInt8) : List UInt8 := (l.take (16 + partN l)).drop 16
def TookPage (i v : Nat) (b l : List UInt8) (w : World) (en : Ending) (w' : World) : Prop :=
  if isPage i v (str b) = true ∧ pageBytes i v b = l then Took i v b 0 w en w' else Took 0 0 [] 9 w en w'
theorem put_any (i v : Nat) (b : List UInt8) (w : World) :
    Calls Tryz.prog 168 #[.agg #[.int .i64 i, .int .i64 v, .string (str b)]] w fun e w' => e = .returned (.tuple #[.string (str (if isPage i v (str b) then pageBytes i v b else [])), .int .i64 (if isPage i v (str b) then 0 else 1)]) ∧ Below w.heap.size w w' := by
  cases h : isPage i v (str b) with
  | true => exact put_yes i v b w h
  | false => exact y_put_no i v (str b) w h
def TakeWorld (w : World) (p : Nat) (i v : Nat) (b : List UInt8) (X : World) : Prop :=
  Blk X w.heap.size 42 #[.int .i64 0, .int .i64 0, .string ⟨#[]⟩] ∧ Blk X p 42 #[.int .i64 i, .int .i64 v, .string (str b)] ∧ Below w.heap.size w X
theorem TakeWorld.carry {w : World} {p : Nat} {i v : Nat} {b : List UInt8} {X Y : World} (h : TakeWorld w p i v b X) (hb : Below X.heap.size X Y) : TakeWorld w p i v b Y :=
  ⟨h.1.keep hb, h.2.1.keep hb, h.2.2.trans (hb.mono h.2.2.size)⟩
theorem TakeWorld.plain {w W : World} {i v : Nat} {b : List UInt8} (h : Blk W w.heap.size 42 #[.int .i64 0, .int .i64 0, .string ⟨#[]⟩]) (hb : Below w.heap.size w W) (k : Nat) :
    TakeWorld w W.heap.size i v b ((W.drewN k).alloc (.cells #[.int .i64 i, .int .i64 v, .string (str b)] 42)) :=
  ⟨(h.drewN k).alloc _, Blk.new (W.drewN k) _ _, (hb.trans (drewN_below _ _ _)).alloc hb.size _⟩
theorem TakeWorld.late {w W : World} {i v : Nat} {b : List UInt8} (h : Blk W w.heap.size 42 #[.int .i64 0, .int .i64 0, .string ⟨#[]⟩]) (hb : Below w.heap.size w W) (k m : Nat) :
    TakeWorld w W.heap.size i v b ((((((W.drewN k).alloc (.cells #[.int .i64 0, .int .i64 0, .string ⟨#[]⟩] 42)).drewN m).setCell ⟨W.heap.size, 0, none⟩ (.int .i64 i)).setCell ⟨W.heap.size, 1, none⟩ (.int .i64 v)).setCell ⟨W.heap.size, 2, none⟩ (.string (str b))) := by
  have hne : w.heap.size ≠ W.heap.size := by have := h.lt; omega
  refine ⟨(((((h.drewN k).alloc _).drewN m).far hne _).far hne _).far hne _, ?_, (((hb.trans (drewN_below W k _)).alloc hb.size _).trans (drewN_below _ m _)).set3 hb.size _ _ _⟩
  exact ((((Blk.new (W.drewN k) 42 #[.int .i64 0, .int .i64 0, .string ⟨#[]⟩]).drewN m).put 0 _).put 1 _).put 2 _
theorem TakeWorld.first {w W : World} {i v : Nat} {b : List UInt8} (h : Blk W w.heap.size 42 #[.int .i64 0, .int .i64 0, .string ⟨#[]⟩]) (hb : Below w.heap.size w W) (m : Nat) :
    TakeWorld w W.heap.size i v b (((((W.alloc (.cells #[.int .i64 0, .int .i64 0, .string ⟨#[]⟩] 42)).drewN m).setCell ⟨W.heap.size, 0, none⟩ (.int .i64 i)).setCell ⟨W.heap.size, 1, none⟩ (.int .i64 v)).setCell ⟨W.heap.size, 2, none⟩ (.string (str b))) := by
  have hne : w.heap.size ≠ W.heap.size := by have := h.lt; omega
  refine ⟨((((h.alloc _).drewN m).far hne _).far hne _).far hne _, ?_, ((hb.alloc hb.size _).trans (drewN_below _ m _)).set3 hb.size _ _ _⟩
  exact ((((Blk.new W 42 #[.int .i64 0, .int .i64 0, .string ⟨#[]⟩]).drewN m).put 0 _).put 1 _).put 2 _
set_option maxRecDepth 100000 in
set_option maxHeartbeats 800000 in
theorem take_page (l : List UInt8) (w : World) (h : l.length = 32) (h0 : l ≠ List.replicate 32 0) (hn : partN l ≤ 16) :
    Calls Tryz.prog 142 #[.string (str l)] w (TookPage (partI l) (partV l) (partB l) l w) := by
  have hsz := str_size
  have hex := str_extract
  have hne : ((l.length : Int) != 32) = false := by rw [h]; rfl
  have h32 : 32 ≤ l.length := by omega
  have hl4 : ¬ l.length < 4 := by omega
  have htl := str_list
  have hq : (l == List.replicate 32 0) = false := beq_eq_false_iff_ne.2 h0
  generalize hl : List.replicate 32 (0 : UInt8) = r at hq
  have HL := Lib.hid hl
  have hv := value_any (str ((l.take 12).drop 8))
  have hv1 := value_any (str (l.take 4))
  have hv2 := value_any (str ((l.take 8).drop 4))
  rw [str_toList] at hv hv1 hv2
  have HV := Lib.hid (hv · (by simp [str_size]; omega))
  have HV1 := Lib.hid (hv1 · (by simp [str_size]; omega))
  have HV2 := Lib.hid (hv2 · (by simp [str_size]; omega))
  have HP := Lib.hid (put_any (partI l) (partV l) (partB l))
  change Hid (∀ _, Calls Tryz.prog _ _ _ fun e _ => e = .returned (.int .i64 (partN l : Int)) ∧ _) at HV
  change Hid (∀ _, Calls Tryz.prog _ _ _ fun e _ => e = .returned (.int .i64 (partI l : Int)) ∧ _) at HV1
  change Hid (∀ _, Calls Tryz.prog _ _ _ fun e _ => e = .returned (.int .i64 (partV l : Int)) ∧ _) at HV2
  have hpb : (l.take (16 + partN l)).drop 16 = partB l := rfl
  generalize partN l = n at hn HV hpb
  generalize partI l = i at HV1 HP
  generalize partV l = v at HV2 HP
  generalize partB l = b at hpb HP
  clear hl h h0 hv hv1 hv2
  go_enter Tryz.func142, Tryz.ntmps142
  go_wp2_with fail
  refine (repeat_noughts 32 _ (by omega)).mono ?_
  rw [HL.out]
  rintro e W1 ⟨rfl, hB⟩
  have hb := (Blk.new w 42 #[.int .i64 0, .int .i64 0, .string ⟨#[]⟩]).keep hB
  have hbel : Below w.heap.size w W1 := ((Below.refl _ _).alloc (Nat.le_refl _) _).trans (hB.mono (by simp))
  clear hB
  go_wp2_with fail
  refine (HV.out _).mono ?_
  rintro e W2 ⟨rfl, k, rfl⟩
  have hb2 := hb.drewN k
  have hbel2 := hbel.trans (drewN_below W1 k w.heap.size)
  generalize W1.drewN k = W at hb2 hbel2
  clear hb hbel
  go_wp2_with fail
  obtain ⟨q, hqn⟩ : ∃ q, 16 + n = q := ⟨_, rfl⟩
  rw [hqn] at hpb
  have hadd : (16 : Int) + (n : Int) = (q : Int) := by omega
  have haddw : IntKind.i64.wrap (q : Int) = (q : Int) := IntWalk.i64_in _ (by omega)
  have hq16 : (16 : Int) ≤ (q : Int) := by omega
  have hq16n : 16 ≤ q := by omega
  have hb16 : (q : Int) ≤ (l.length : Int) := by omega
  have hb17 : q ≤ l.length := by omega
  have h4 : 4 ≤ l.length := by omega
  have h8 : 8 ≤ l.length := by omega
  have h4i : (4 : Int) ≤ (l.length : Int) := by omega
  have h8i : (8 : Int) ≤ (l.length : Int) := by omega
  clear hqn
  have hd1 : ∀ (W : World) (k : Nat) (p : Addr), (W.drewN k).cell? p = W.cell? p := fun _ _ _ => rfl
  have hd2 : ∀ (W : World) (k : Nat) (p : Addr), (W.drewN k).frozen? p = W.frozen? p := fun _ _ _ => rfl
  have hd3 : ∀ (W : World) (k : Nat), (W.drewN k).heap.size = W.heap.size := fun _ _ => rfl
  have hd4 : ∀ (k : Nat) (cs : Array Value) (i : Nat), ((W.drewN k).alloc (.cells cs 42)).cell? ⟨W.heap.size, i, none⟩ = cs[i]? := fun k cs i => (Blk.new (W.drewN k) 42 cs).cell i
  have hd5 : ∀ (k : Nat) (cs : Array Value) (i : Nat), ((W.drewN k).alloc (.cells cs 42)).frozen? ⟨W.heap.size, i, none⟩ = false := fun k cs i => (Blk.new (W.drewN k) 42 cs).frozen i
  have hd6 : ∀ (k : Nat) (cs : Array Value) (i : Nat) (u : Value), ((W.drewN k).alloc (.cells cs 42)).setCell ⟨W.heap.size, i, none⟩ u = (W.drewN k).alloc (.cells (cs.setIfInBounds i u) 42) := fun k cs i u => World.setCell_alloc_at _ _ _ _ _ rfl
  go_region_with (first | (go_at_call 167; ((with_reducible refine (HV1.out _).mono ?_); rintro e wr ⟨rfl, k, rfl⟩)) | (go_at_call 167; ((with_reducible refine (HV2.out _).mono ?_); rintro e wr ⟨rfl, k, rfl⟩)))
  all_goals go_wp2_with fail
  all_goals refine (HP.out _).mono ?_
  all_goals rintro e W5 ⟨rfl, hB5⟩
  all_goals have F5 := TakeWorld.carry (by first | (with_reducible exact TakeWorld.plain hb2 hbel2 _) | (with_reducible exact TakeWorld.late hb2 hbel2 _ _) | (with_reducible exact TakeWorld.first hb2 hbel2 _)) hB5
  all_goals obtain ⟨hr5, hp5, hbel5⟩ := F5
  all_goals obtain ⟨c0, c1, c2, f0, f1, f2⟩ := hr5.three
  all_goals obtain ⟨d0, d1, d2, _, _, _⟩ := hp5.three
  all_goals clear hB5 hb2 hbel2
  all_goals
    cases hpg : isPage i v (str b) with
    | false =>
      have HPG := Lib.hid hpg
      clear hpg
      simp only [Bool.false_eq_true, if_false]
      go_wp2_with fail
      refine bodyPost_ret (v := .tuple #[.agg #[.int .i64 0, .int .i64 0, .string ⟨#[]⟩], .int .i64 9]) (by simp [results, Tryz.results142, go_sem, c0, c1, c2]) rfl ?_
      unfold TookPage
      rw [HPG.out, if_neg (by simp)]
      exact ⟨rfl, hbel5.set3 (Nat.le_refl _) _ _ _⟩
    | true =>
      have HPG := Lib.hid hpg
      clear hpg
      simp only [if_true]
      by_cases hpl : pageBytes i v b = l
      · have hpe : (pageBytes i v b == l) = true := by simpa using hpl
        have hpn : (pageBytes i v b != l) = false := by simpa using hpl
        have HPL := Lib.hid hpl
        clear hpl
        generalize hpbb : pageBytes i v b = pb at hpe hpn HPL
        have HPB := Lib.hid hpbb
        clear hpbb
        go_wp2_with fail
        refine bodyPost_ret (v := .tuple #[.agg #[.int .i64 i, .int .i64 v, .string (str b)], .int .i64 0]) (by simp [results, Tryz.results142, go_sem, c0, c1, c2]) rfl ?_
        unfold TookPage
        rw [HPG.out, if_pos ⟨rfl, HPB.out.trans HPL.out⟩]
        exact ⟨rfl, hbel5.set3 (Nat.le_refl _) _ _ _⟩
      · have hpe : (pageBytes i v b == l) = false := beq_eq_false_iff_ne.2 hpl
        have hpn : (pageBytes i v b != l) = true := bne_iff_ne.2 hpl
        have HPL := Lib.hid hpl
        clear hpl
        generalize hpbb : pageBytes i v b = pb at hpe hpn HPL
        have HPB := Lib.hid hpbb
        clear hpbb
        go_wp2_with fail
        refine bodyPost_ret (v := .tuple #[.agg #[.int .i64 0, .int .i64 0, .string ⟨#[]⟩], .int .i64 9]) (by simp [results, Tryz.results142, go_sem, c0, c1, c2]) rfl ?_
        unfold TookPage
        rw [if_neg (by intro hh; exact HPL.out (HPB.out.symm.trans hh.2))]
        exact ⟨rfl, hbel5.set3 (Nat.le_refl _) _ _ _⟩
end Go.Proofs.YtcbfhpnmhhnjpaaGreat

namespace Go.Proofs.YtcbfhpnmhhnjpaaGreat
open Go.RowKit
theorem pageBack_length (b : List UInt8) (h : b.length ≤ 16) : (pageBack b).length = 16 := by
  unfold pageBack; simp; omega
theorem pageBytes_length (i v : Nat) (b : List UInt8) (h : b.length ≤ 16) : (pageBytes i v b).length = 32 := by
  unfold pageBytes pageFront
  simp only [List.length_append, four_length, pageBack_length b h]
theorem partI_page (i v : Nat) (b : List UInt8) (hi : i < 4294967296) : partI (pageBytes i v b) = i := by
  unfold partI pageBytes pageFront
  rw [show (four i ++ four v ++ four b.length ++ four (Sm.sum (four i ++ four v ++ four b.length ++ pageBack b)).toNat ++ pageBack b).take 4 = four i by
    rw [show four i ++ four v ++ four b.length ++ four (Sm.sum (four i ++ four v ++ four b.length ++ pageBack b)).toNat ++ pageBack b = four i ++ (four v ++ (four b.length ++ (four (Sm.sum (four i ++ four v ++ four b.length ++ pageBack b)).toNat ++ pageBack b))) by simp only [List.append_assoc]]
    rw [List.take_left' (four_length i)]]
  exact num4_four i hi
theorem partV_page (i v : Nat) (b : List UInt8) (hv : v < 4294967296) : partV (pageBytes i v b) = v := by
  unfold partV pageBytes pageFront
  rw [show ((four i ++ four v ++ four b.length ++ four (Sm.sum (four i ++ four v ++ four b.length ++ pageBack b)).toNat ++ pageBack b).take 8).drop 4 = four v by
    rw [List.drop_take, show four i ++ four v ++ four b.length ++ four (Sm.sum (four i ++ four v ++ four b.length ++ pageBack b)).toNat ++ pageBack b = four i ++ (four v ++ (four b.length ++ (four (Sm.sum (four i ++ four v ++ four b.length ++ pageBack b)).toNat ++ pageBack b))) by simp only [List.append_assoc]]
    rw [List.drop_left' (four_length i), List.take_left' (four_length v)]]
  exact num4_four v hv
theorem partN_page (i v : Nat) (b : List UInt8) (h : b.length ≤ 16) : partN (pageBytes i v b) = b.length := by
  unfold partN pageBytes pageFront
  rw [show ((four i ++ four v ++ four b.length ++ four (Sm.sum (four i ++ four v ++ four b.length ++ pageBack b)).toNat ++ pageBack b).take 12).drop 8 = four b.length by
    rw [List.drop_take, show four i ++ four v ++ four b.length ++ four (Sm.sum (four i ++ four v ++ four b.length ++ pageBack b)).toNat ++ pageBack b = (four i ++ four v) ++ (four b.length ++ (four (Sm.sum (four i ++ four v ++ four b.length ++ pageBack b)).toNat ++ pageBack b)) by simp only [List.append_assoc]]
    rw [List.drop_left' (by simp [four_length]), List.take_left' (four_length b.length)]]
  exact num4_four _ (by omega)
theorem partB_page (i v : Nat) (b : List UInt8) (h : b.length ≤ 16) : partB (pageBytes i v b) = b := by
  unfold partB
  rw [partN_page i v b h, List.drop_take]
  unfold pageBytes pageFront pageBack
  rw [show four i ++ four v ++ four b.length ++ four (Sm.sum (four i ++ four v ++ four b.length ++ (b ++ List.replicate (16 - b.length) 0))).toNat ++ (b ++ List.replicate (16 - b.length) 0) = (four i ++ four v ++ four b.length ++ four (Sm.sum (four i ++ four v ++ four b.length ++ (b ++ List.replicate (16 - b.length) 0))).toNat) ++ (b ++ List.replicate (16 - b.length) 0) by simp only [List.append_assoc]]
  rw [List.drop_left' (by simp [four_length]), show 16 + b.length - 16 = b.length by omega, List.take_left' rfl]
theorem pageBytes_ne (i v : Nat) (b : List UInt8) (hi : i < 4294967296) (h1 : 1 ≤ i) : pageBytes i v b ≠ List.replicate 32 0 := by
  intro h
  have e := partI_page i v b hi
  rw [h] at e
  have : partI (List.replicate 32 0) = 0 := by decide
  omega
def takeE (l : List UInt8) : Int := if l.length ≠ 32 then 2 else if l = List.replicate 32 0 then 3 else if 16 < partN l then 9 else if isPage (partI l) (partV l) (str (partB l)) = true ∧ pageBytes (partI l) (partV l) (partB l) = l then 0 else 9
def takeI (l : List UInt8) : Nat := if takeE l = 0 then partI l else 0
def takeV (l : List UInt8) : Nat := if takeE l = 0 then partV l else 0
def takeB (l : List UInt8) : List UInt8 := if takeE l = 0 then partB l else []
theorem take_any (l : List UInt8) (w : World) :
    Calls Tryz.prog 142 #[.string (str l)] w fun en w' => en = .returned (.tuple #[pageVal (takeI l) (takeV l) (takeB l), .int .i64 (takeE l)]) ∧ Below w.heap.size w w' := by
  by_cases h : l.length ≠ 32
  · have e : takeE l = 2 := by unfold takeE; rw [if_pos h]
    have e1 : takeI l = 0 := by unfold takeI; rw [if_neg (by omega)]
    have e2 : takeV l = 0 := by unfold takeV; rw [if_neg (by omega)]
    have e3 : takeB l = [] := by unfold takeB; rw [if_neg (by omega)]
    rw [e, e1, e2, e3]
    exact take_form l w h
  have h32 : l.length = 32 := by omega
  by_cases h0 : l = List.replicate 32 0
  · have e : takeE l = 3 := by unfold takeE; rw [if_neg h, if_pos h0]
    have e1 : takeI l = 0 := by unfold takeI; rw [if_neg (by omega)]
    have e2 : takeV l = 0 := by unfold takeV; rw [if_neg (by omega)]
    have e3 : takeB l = [] := by unfold takeB; rw [if_neg (by omega)]
    rw [e, e1, e2, e3, h0]
    exact take_none w
  by_cases hn : 16 < partN l
  · have e : takeE l = 9 := by unfold takeE; rw [if_neg h, if_neg h0, if_pos hn]
    have e1 : takeI l = 0 := by unfold takeI; rw [if_neg (by omega)]
    have e2 : takeV l = 0 := by unfold takeV; rw [if_neg (by omega)]
    have e3 : takeB l = [] := by unfold takeB; rw [if_neg (by omega)]
    rw [e, e1, e2, e3]
    exact take_long l w h32 h0 hn
  refine (take_page l w h32 h0 (by omega)).mono fun en w' ht => ?_
  unfold TookPage at ht
  by_cases hp : isPage (partI l) (partV l) (str (partB l)) = true ∧ pageBytes (partI l) (partV l) (partB l) = l
  · rw [if_pos hp] at ht
    have e : takeE l = 0 := by unfold takeE; rw [if_neg h, if_neg h0, if_neg hn, if_pos hp]
    have e1 : takeI l = partI l := by unfold takeI; rw [if_pos e]
    have e2 : takeV l = partV l := by unfold takeV; rw [if_pos e]
    have e3 : takeB l = partB l := by unfold takeB; rw [if_pos e]
    rw [e, e1, e2, e3]
    exact ht
  · rw [if_neg hp] at ht
    have e : takeE l = 9 := by unfold takeE; rw [if_neg h, if_neg h0, if_neg hn, if_neg hp]
    have e1 : takeI l = 0 := by unfold takeI; rw [if_neg (by omega)]
    have e2 : takeV l = 0 := by unfold takeV; rw [if_neg (by omega)]
    have e3 : takeB l = [] := by unfold takeB; rw [if_neg (by omega)]
    rw [e, e1, e2, e3]
    exact ht
theorem takeE_page (i v : Nat) (b : List UInt8) (h : isPage i v (str b) = true) : takeE (pageBytes i v b) = 0 := by
  obtain ⟨h1, h2, h3, h4, h5⟩ := (isPage_iff _ _ _).1 h
  rw [str_size] at h5
  unfold takeE
  rw [if_neg (by rw [pageBytes_length i v b h5]; simp), if_neg (pageBytes_ne i v b (by omega) (by omega)), if_neg (by rw [partN_page i v b h5]; omega), partI_page i v b (by omega), partV_page i v b (by omega), partB_page i v b h5, if_pos ⟨h, rfl⟩]
end Go.Proofs.YtcbfhpnmhhnjpaaGreat

namespace Go.Proofs.YtcbfhpnmhhnjpaaGreat
open Go.RowKit
set_option maxHeartbeats 400000 in
theorem noughts_any (l : List UInt8) (hl : l.length ≤ 1000) (w : World) :
    Calls Tryz.prog 96 #[.string (str l)] w fun e w' => e = .returned (.bool (l.all (· == 0))) ∧ w = w' := by
  have hsz := str_size
  go_enter Tryz.func96, Tryz.ntmps96
  go_wp2
  go_loop [3] (fun i => ∃ k : Nat, k ≤ l.length ∧ i = .int .i64 k ∧ (l.take k).all (· == 0) = true) (fun i => l.length - (intOf i).toNat)
  case atStart => exact ⟨0, by omega, rfl, rfl⟩
  case round =>
    obtain ⟨k, hk, rfl, hz⟩ := hrel
    have HZ := Lib.hid hz
    clear hz
    by_cases hlt : k < l.length
    · have hts : l.take (k + 1) = l.take k ++ [l[k]] := List.take_succ_eq_append_getElem hlt
      have HTS := Lib.hid hts
      clear hts
      by_cases hc0 : l[k] = 0
      · have h0 : ((l[k].toNat : Int) != 0) = false := by rw [hc0]; rfl
        have h1 : ∀ h : k < (str l).size, ((((str l)[k]'h).toNat : Int) != 0) = false := fun _ => h0
        have HC0 := Lib.hid hc0
        clear hc0
        go_wp2_with fail
        go_round
        case rel => exact ⟨k + 1, by omega, by go_num, by rw [HTS.out, List.all_append, HZ.out, HC0.out]; rfl⟩
        case measure => simp [intOf]; omega
      · have h0 : ((l[k].toNat : Int) != 0) = true := by
          rw [bne_iff_ne]; intro h
          exact hc0 (UInt8.toNat_inj.1 (by simpa using h))
        have h1 : ∀ h : k < (str l).size, ((((str l)[k]'h).toNat : Int) != 0) = true := fun _ => h0
        have hall : l.all (· == 0) = false := by
          rw [Bool.eq_false_iff]
          intro h
          exact hc0 (by simpa using List.all_eq_true.1 h l[k] (List.getElem_mem hlt))
        have HALL := Lib.hid hall
        clear hall hc0
        go_wp2_with fail
        go_ret
        exact ⟨by rw [HALL.out]; rfl, rfl⟩
    · have hge : l.length ≤ k := by omega
      clear hlt
      go_wp2_with fail
      go_ret
      have h := HZ.out
      rw [List.take_of_length_le hge] at h
      exact ⟨by rw [h]; rfl, rfl⟩
end Go.Proofs.YtcbfhpnmhhnjpaaGreat

