/- THE WALKS of layer 1: the entry of a byte, the table, the sum by a table, and the document's own. Conditions: an int is one of 32 bits where the program has uint32; a table of 256 numbers lies in memory. -/
import Derived.Test.YtekkmlhkcdijkaaProg
import Derived.Test.YtekkmlhkcdijkaaSumPlain
import Derived.WalkKit
import Derived.WalkSpells
import Derived.WalkLawsBesides
import Derived.Lib.Hide
namespace Go.Proofs.Ytekkmlhkcdijkaa
open Go.RowKit
set_option linter.unusedVariables false

theorem i32_lt (x : Sm.W32) : 0 ≤ ((x.toNat : Nat) : Int) ∧ ((x.toNat : Nat) : Int) < 4294967296 := by have := x.isLt; omega
theorem and1 (x : Sm.W32) : bits BinOp.and IntKind.u32 ((x.toNat : Nat) : Int) 1 = if x.getLsbD 0 then 1 else 0 := by
  show IntKind.u32.wrap ((((BitVec.ofInt 32 ((x.toNat : Nat) : Int) &&& BitVec.ofInt 32 1 : BitVec 32)).toNat : Nat) : Int) = _
  rw [Sm.ofInt_toNat]
  have : (x &&& BitVec.ofInt 32 1) = if x.getLsbD 0 then 1#32 else 0#32 := by
    apply BitVec.eq_of_getLsbD_eq
    intro i hi
    rw [show BitVec.ofInt 32 1 = 1#32 by rfl]
    rw [BitVec.getLsbD_and]
    rcases Nat.eq_zero_or_pos i with rfl | hp
    · cases x.getLsbD 0 <;> simp
    · have h1 : (1#32).getLsbD i = false := by
        have : ∀ i, i < 32 → 0 < i → (1#32).getLsbD i = false := by decide
        exact this i hi hp
      rw [h1]
      cases x.getLsbD 0 <;> simp [h1]
  rw [this]
  cases x.getLsbD 0 <;> decide
theorem xor32 (x y : Sm.W32) : bits BinOp.xor IntKind.u32 ((x.toNat : Nat) : Int) ((y.toNat : Nat) : Int) = (((x ^^^ y).toNat : Nat) : Int) := by
  show IntKind.u32.wrap ((((BitVec.ofInt 32 ((x.toNat : Nat) : Int) ^^^ BitVec.ofInt 32 ((y.toNat : Nat) : Int) : BitVec 32)).toNat : Nat) : Int) = _
  rw [Sm.ofInt_toNat, Sm.ofInt_toNat]
  have := (x ^^^ y).isLt
  generalize (x ^^^ y).toNat = n at *
  simp only [IntKind.wrap, IntKind.bits, IntKind.signed]
  simp
  omega
theorem half32 (x : Sm.W32) : (x.toNat : Int) / (2 : Int) = ((x >>> 1).toNat : Int) := by
  rw [BitVec.toNat_ushiftRight, Nat.shiftRight_eq_div_pow]; omega
theorem poly_int : (3988292384 : Int) = ((Sm.poly.toNat : Nat) : Int) := by rfl

set_option maxHeartbeats 400000 in
theorem entry_any (x : Sm.W32) (w : World) :
    Calls Try.prog 28 #[.int .u32 x.toNat] w fun e w' => e = .returned (.int .u32 (Sm.entry x).toNat) ∧ w = w' := by
  have hx := i32_lt x
  go_enter Try.func28, Try.ntmps28
  go_wp2
  go_loop [0, 4] (fun v i => ∃ (k : Nat), k ≤ 8 ∧ i = .int .i64 k ∧ v = .int .u32 (Sm.steps k x).toNat) (fun _ i => 8 - (intOf i).toNat)
  case atStart => exact ⟨0, by omega, rfl, rfl⟩
  case round =>
    obtain ⟨k, hk, rfl, rfl⟩ := hrel
    generalize hy : Sm.steps k x = y
    have HY := Lib.hid hy
    clear hy
    have hy0 := i32_lt y
    have ha := and1 y
    by_cases hlt : k < 8
    · cases hb : y.getLsbD 0 with
      | true =>
        have hT : (bits BinOp.and IntKind.u32 ((y.toNat : Nat) : Int) 1 == 1) = true := by rw [ha, hb]; rfl
        clear ha
        have HB := Lib.hid hb
        clear hb
        go_wp2
        go_round
        case rel => exact ⟨k + 1, by omega, by go_num, by rw [half32, poly_int, xor32]; simp only [Sm.steps]; rw [HY.out]; unfold Sm.step; rw [HB.out]; rfl⟩
        case measure => simp [intOf]; omega
      | false =>
        have hT : (bits BinOp.and IntKind.u32 ((y.toNat : Nat) : Int) 1 == 1) = false := by rw [ha, hb]; rfl
        clear ha
        have HB := Lib.hid hb
        clear hb
        go_wp2
        go_round
        case rel => exact ⟨k + 1, by omega, by go_num, by rw [half32]; simp only [Sm.steps]; rw [HY.out]; unfold Sm.step; rw [HB.out]; rfl⟩
        case measure => simp [intOf]; omega
    · clear ha
      have hge : 8 ≤ k := by omega
      clear hlt
      go_wp2
      go_ret
      obtain rfl : k = 8 := by omega
      exact ⟨by unfold Sm.entry; rw [HY.out]; rfl, rfl⟩

theorem rem1 (x : Sm.W32) : ((x.toNat : Int) % (2 : Int) == 1) = x.getLsbD 0 := by
  have h : x.getLsbD 0 = decide (x.toNat % 2 = 1) := by
    simp [BitVec.getLsbD, Nat.testBit_zero]
  rw [h, Bool.eq_iff_iff]
  simp
  omega
/-- the document's step, in the walk's own words -/
theorem stepRef (x : Sm.W32) (h : x.getLsbD 0 = true) : bits BinOp.xor IntKind.u32 ((x.toNat : Int) / (2 : Int)) 3988292384 = ((Sm.step x).toNat : Int) := by
  rw [half32, poly_int, xor32]; unfold Sm.step; rw [h]; rfl
theorem stepRef0 (x : Sm.W32) (h : x.getLsbD 0 = false) : ((x.toNat : Int) / (2 : Int)) = ((Sm.step x).toNat : Int) := by
  rw [half32]; unfold Sm.step; rw [h]; rfl

set_option maxHeartbeats 400000 in
theorem refEntry_any (i : Nat) (hi : i < 4294967296) (w : World) :
    Calls Try.prog 17 #[.int .i64 i] w fun e w' => e = .returned (.int .u32 (Sm.entry (BitVec.ofNat 32 i)).toNat) ∧ w = w' := by
  have hin : i = (BitVec.ofNat 32 i).toNat := by rw [BitVec.toNat_ofNat]; omega
  generalize hx : BitVec.ofNat 32 i = x at hin
  have hxi := i32_lt x
  obtain rfl : x.toNat = i := hin.symm
  clear hx hin
  go_enter Try.func17, Try.ntmps17
  go_wp2
  go_loop [3, 4] (fun v i => ∃ (k : Nat), k ≤ 8 ∧ i = .int .i64 k ∧ v = .int .u32 (Sm.steps k x).toNat) (fun _ i => 8 - (intOf i).toNat)
  case atStart => exact ⟨0, by omega, rfl, rfl⟩
  case round =>
    obtain ⟨k, hk, rfl, rfl⟩ := hrel
    generalize hy : Sm.steps k x = y
    have HY := Lib.hid hy
    clear hy
    have hy0 := i32_lt y
    have ha := rem1 y
    by_cases hlt : k < 8
    · cases hb : y.getLsbD 0 with
      | true =>
        rw [hb] at ha
        have HB := Lib.hid hb
        clear hb
        go_wp2
        go_round
        case rel => exact ⟨k + 1, by omega, by go_num, by rw [stepRef y HB.out]; simp only [Sm.steps]; rw [HY.out]⟩
        case measure => simp [intOf]; omega
      | false =>
        rw [hb] at ha
        have HB := Lib.hid hb
        clear hb
        go_wp2
        go_round
        case rel => exact ⟨k + 1, by omega, by go_num, by rw [stepRef0 y HB.out]; simp only [Sm.steps]; rw [HY.out]⟩
        case measure => simp [intOf]; omega
    · clear ha
      have hge : 8 ≤ k := by omega
      clear hlt
      go_wp2
      go_ret
      obtain rfl : k = 8 := by omega
      exact ⟨by unfold Sm.entry; rw [HY.out]; rfl, rfl⟩

theorem entry_nat (i : Nat) (hi : i < 4294967296) (w : World) :
    Calls Try.prog 28 #[.int .u32 i] w fun e w' => e = .returned (.int .u32 (Sm.entry (BitVec.ofNat 32 i)).toNat) ∧ w = w' := by
  have h := entry_any (BitVec.ofNat 32 i) w
  rw [BitVec.toNat_ofNat, Nat.mod_eq_of_lt (by omega)] at h
  exact h
/-- the table's cells when so many of them are filled -/
def tabCells (k : Nat) : Array Value := ((List.range 256).map fun i => Value.int .i64 (if i < k then ((Sm.entry (BitVec.ofNat 32 i)).toNat : Int) else 0)).toArray

theorem tabCells_set (k : Nat) : (tabCells k).setIfInBounds k (.int .i64 ((Sm.entry (BitVec.ofNat 32 k)).toNat : Int)) = tabCells (k + 1) := by
  apply Array.ext
  · simp [tabCells]
  · intro i h1 h2
    simp only [tabCells, List.size_toArray, List.length_map, List.length_range, Array.size_setIfInBounds] at h1 h2
    rw [Array.getElem_setIfInBounds (by simpa [tabCells] using h1)]
    by_cases e : k = i
    · subst e; simp [tabCells]
    · rw [if_neg e]
      simp only [tabCells, List.getElem_toArray, List.getElem_map, List.getElem_range]
      by_cases hi : i < k
      · rw [if_pos hi, if_pos (by omega)]
      · rw [if_neg hi, if_neg (by omega)]
theorem tabCells_size (k : Nat) : (tabCells k).size = 256 := by simp [tabCells]

set_option maxRecDepth 100000 in
set_option maxHeartbeats 400000 in
theorem table_any (w : World) :
    Calls Try.prog 16 #[] w fun e w' => e = .returned (.slice (some ⟨w.heap.size, 0, none⟩) 256 256) ∧ w' = w.alloc (.cells (tabCells 256) 3) := by
  have hmk : ∀ w, (Instr.makeSlice 23 (.int .i64 256) (.int .i64 256)).run Try.prog w = .ok (.slice (some ⟨w.heap.size, 0, none⟩) 256 256) (w.alloc (.cells (tabCells 0) 3)) := fun _ => by kernel_rfl
  go_enter Try.func16, Try.ntmps16
  go_wp2
  clear hmk
  go_loopw [2, 6] (fun _ i wr => ∃ (k : Nat), k ≤ 256 ∧ i = .int .i64 k ∧ wr = w.alloc (.cells (tabCells k) 3)) (fun _ i _ => 256 - (intOf i).toNat)
  case atStart => exact ⟨0, by omega, rfl, rfl⟩
  case round =>
    obtain ⟨k, hk, rfl, rfl⟩ := hrel
    by_cases hlt : k < 256
    · have hst := tabCells_set k
      have hsz := tabCells_size k
      generalize hA : tabCells k = arr at hst hsz
      have HA := Lib.hid hA
      have HST := Lib.hid hst
      clear hst hA
      have HSZ : k < arr.size := by omega
      clear hsz
      go_wp2_with fail
      refine (entry_nat k (by omega) _).mono ?_
      rintro e w' ⟨rfl, rfl⟩
      have hy := i32_lt (Sm.entry (BitVec.ofNat 32 k))
      generalize Sm.entry (BitVec.ofNat 32 k) = y at HST hy
      go_wp2
      go_roundw
      case rel => exact ⟨k + 1, by omega, by go_num, by rw [HST.out]⟩
      case measure => simp [intOf]; omega
    · have hge : 256 ≤ k := by omega
      clear hlt
      generalize hA : tabCells k = arr
      have HA := Lib.hid hA
      clear hA
      go_wp2
      go_ret
      obtain rfl : k = 256 := by omega
      exact ⟨rfl, by rw [HA.out]⟩

theorem not32 (x : Sm.W32) : wrap64 (bits BinOp.xor IntKind.u32 IntKind.u32.max (x.toNat : Int)) = ((~~~ x).toNat : Int) := by
  have e : IntKind.u32.max = (((4294967295#32 : Sm.W32).toNat : Nat) : Int) := by decide
  have e2 : (4294967295#32 : Sm.W32) ^^^ x = ~~~ x := by
    rw [show (4294967295#32 : Sm.W32) = BitVec.allOnes 32 by decide, BitVec.allOnes_xor]
  rw [e, xor32, e2]
  have := (~~~ x).isLt
  exact IntWalk.wrap64_in _ ⟨by omega, by omega⟩

set_option maxHeartbeats 400000 in
theorem refSum_any (s : ByteArray) (w : World) (hs : s.size ≤ maxLen) :
    Calls Try.prog 19 #[.string s] w fun e w' => e = .returned (.int .i64 (Sm.sum s.data.toList)) ∧ w = w' := by
  unfold maxLen at hs
  go_enter Try.func19, Try.ntmps19
  go_wp2
  go_loop [3, 4, 5] (fun v i _ => ∃ (k : Nat), k ≤ s.size ∧ i = .int .i64 k ∧ v = .int .u32 (Sm.feedAll 4294967295#32 (s.data.toList.take k)).toNat) (fun _ i _ => s.size - (intOf i).toNat)
  case atStart => exact ⟨0, by omega, rfl, rfl⟩
  case round =>
    obtain ⟨k, hk, rfl, rfl⟩ := hrel
    by_cases hlt : k < s.size
    · have hts : Sm.feedAll 4294967295#32 (s.data.toList.take (k + 1)) = Sm.feed (Sm.feedAll 4294967295#32 (s.data.toList.take k)) s[k] := by
        rw [List.take_succ_eq_append_getElem (by simpa using hlt), Sm.feedAll_append]; rfl
      generalize hX : Sm.feedAll 4294967295#32 (s.data.toList.take k) = X at hts
      generalize hC : s[k] = c at hts
      have HX := Lib.hid hX
      clear hX
      have HTS := Lib.hid hts
      clear hts
      have hxor : bits BinOp.xor IntKind.u32 ((X.toNat : Nat) : Int) ((c.toNat : Int) % 4294967296) = (((X ^^^ Sm.ofB c).toNat : Nat) : Int) := by
        rw [← xor32]
        congr 1
      go_wp2
      go_loop [3, 5] (fun v i => ∃ (m : Nat), m ≤ 8 ∧ i = .int .i64 m ∧ v = .int .u32 (Sm.steps m (X ^^^ Sm.ofB c)).toNat) (fun _ i => 8 - (intOf i).toNat)
      case atStart => exact ⟨0, by omega, rfl, rfl⟩
      case round =>
        obtain ⟨m, hm, rfl, rfl⟩ := hrel
        generalize hy : Sm.steps m (X ^^^ Sm.ofB c) = y
        have HY := Lib.hid hy
        clear hy hxor hC
        have hy0 := i32_lt y
        have ha := rem1 y
        by_cases hlt2 : m < 8
        · cases hb : y.getLsbD 0 with
          | true =>
            rw [hb] at ha
            have HB := Lib.hid hb
            clear hb
            go_wp2
            go_round
            case rel => exact ⟨m + 1, by omega, by go_num, by rw [stepRef y HB.out]; simp only [Sm.steps]; rw [HY.out]⟩
            case measure => simp [intOf]; omega
          | false =>
            rw [hb] at ha
            have HB := Lib.hid hb
            clear hb
            go_wp2
            go_round
            case rel => exact ⟨m + 1, by omega, by go_num, by rw [stepRef0 y HB.out]; simp only [Sm.steps]; rw [HY.out]⟩
            case measure => simp [intOf]; omega
        · clear ha
          have hge : 8 ≤ m := by omega
          clear hlt2
          have hm8 : m = 8 := by omega
          have HM := Lib.hid hm8
          clear hm8
          go_wp2
          go_round
          case rel => exact ⟨k + 1, by omega, by go_num, by rw [HTS.out]; unfold Sm.feed; rw [← HY.out, HM.out]⟩
          case measure => simp [intOf]; omega
    · have hge : s.size ≤ k := by omega
      clear hlt
      generalize hX : Sm.feedAll 4294967295#32 (s.data.toList.take k) = X
      have HX := Lib.hid hX
      clear hX
      go_wp2
      go_ret
      rw [List.take_of_length_le (by simpa using hge)] at HX
      exact ⟨by unfold Sm.sum; rw [HX.out, ← not32]; rfl, rfl⟩

theorem idx8 (x : Sm.W32) (c : UInt8) : bits BinOp.xor IntKind.u8 ((x.toNat : Int) % 256) (c.toNat : Int) = (((x ^^^ Sm.ofB c) &&& 255#32).toNat : Int) := by
  show IntKind.u8.wrap ((((BitVec.ofInt 8 ((x.toNat : Int) % 256) ^^^ BitVec.ofInt 8 (c.toNat : Int) : BitVec 8)).toNat : Nat) : Int) = _
  have hc := c.toNat_lt
  have e : ((BitVec.ofInt 8 ((x.toNat : Int) % 256) ^^^ BitVec.ofInt 8 (c.toNat : Int) : BitVec 8)).toNat = ((x ^^^ Sm.ofB c) &&& 255#32).toNat := by
    have h1 : (BitVec.ofInt 8 ((x.toNat : Int) % 256)).toNat = x.toNat % 2 ^ 8 := by
      rw [BitVec.toNat_ofInt]; omega
    have h2 : (BitVec.ofInt 8 (c.toNat : Int)).toNat = c.toNat % 2 ^ 8 := by
      rw [BitVec.toNat_ofInt]; omega
    rw [BitVec.toNat_xor, h1, h2, BitVec.toNat_and, BitVec.toNat_xor]
    rw [show (255#32).toNat = 2 ^ 8 - 1 by rfl, Nat.and_two_pow_sub_one_eq_mod, ← Nat.xor_mod_two_pow]
    unfold Sm.ofB
    rw [BitVec.toNat_ofNat, Nat.mod_eq_of_lt (a := c.toNat) (by omega)]
  rw [e]
  have := Sm.and255_lt (x ^^^ Sm.ofB c)
  generalize ((x ^^^ Sm.ofB c) &&& 255#32).toNat = n at *
  simp only [IntKind.wrap, IntKind.bits, IntKind.signed]
  simp
  omega
theorem tabXor (z : Int) (x : Sm.W32) : bits BinOp.xor IntKind.u32 (z % 4294967296) ((x.toNat : Int) / (256 : Int)) = ((BitVec.ofInt 32 z ^^^ (x >>> 8)).toNat : Int) := by
  have e1 : z % 4294967296 = ((BitVec.ofInt 32 z).toNat : Int) := by
    rw [BitVec.toNat_ofInt]; omega
  have e2 : ((x.toNat : Int) / (256 : Int)) = ((x >>> 8).toNat : Int) := by
    rw [BitVec.toNat_ushiftRight, Nat.shiftRight_eq_div_pow]; omega
  rw [e1, e2, xor32]

set_option maxHeartbeats 400000 in
theorem sum_any (b off cap : Nat) (t : List Int) (s : ByteArray) (w : World) (hs : s.size ≤ maxLen) (hc : ∀ j, j < 256 → w.cell? ⟨b, off + j, none⟩ = some (.int .i64 (t.getD j 0))) :
    Calls Try.prog 18 #[.slice (some ⟨b, off, none⟩) 256 cap, .string s] w fun e w' => e = .returned (.tuple #[.int .i64 (Sm.sumT t s.data.toList), .bool true]) ∧ w = w' := by
  unfold maxLen at hs
  have HC := Lib.hid hc
  clear hc
  go_enter Try.func18, Try.ntmps18
  go_wp2
  go_loop [6, 7, 13] (fun v _ i => ∃ (k : Nat), k ≤ s.size ∧ i = .int .i64 k ∧ v = .int .u32 (Sm.feedAllT t 4294967295#32 (s.data.toList.take k)).toNat) (fun _ _ i => s.size - (intOf i).toNat)
  case atStart => exact ⟨0, by omega, rfl, rfl⟩
  case round =>
    obtain ⟨k, hk, rfl, rfl⟩ := hrel
    by_cases hlt : k < s.size
    · have hts : Sm.feedAllT t 4294967295#32 (s.data.toList.take (k + 1)) = Sm.feedT t (Sm.feedAllT t 4294967295#32 (s.data.toList.take k)) s[k] := by
        unfold Sm.feedAllT
        rw [List.take_succ_eq_append_getElem (by simpa using hlt), List.foldl_append]; rfl
      generalize hX : Sm.feedAllT t 4294967295#32 (s.data.toList.take k) = X at hts
      generalize hC : s[k] = c at hts
      have HX := Lib.hid hX
      clear hX
      unfold Sm.feedT at hts
      have hj := Sm.and255_lt (X ^^^ Sm.ofB c)
      have hix := idx8 X c
      generalize ((X ^^^ Sm.ofB c) &&& 255#32).toNat = j at hj hix hts
      have hcell := HC.out j hj
      generalize t.getD j 0 = z at hcell hts
      have hxx := tabXor z X
      rw [← hts] at hxx
      clear hts
      generalize hY : Sm.feedAllT t 4294967295#32 (s.data.toList.take (k + 1)) = Y at hxx
      have HY := Lib.hid hY
      clear hY
      have hX0 := i32_lt X
      go_wp2
      go_round
      case rel => exact ⟨k + 1, by omega, by go_num, by rw [HY.out]⟩
      case measure => simp [intOf]; omega
    · have hge : s.size ≤ k := by omega
      clear hlt
      generalize hX : Sm.feedAllT t 4294967295#32 (s.data.toList.take k) = X
      have HX := Lib.hid hX
      clear hX
      go_wp2
      go_ret2
      rw [List.take_of_length_le (by simpa using hge)] at HX
      exact ⟨by unfold Sm.sumT; rw [HX.out, ← not32]; rfl, rfl⟩
end Go.Proofs.Ytekkmlhkcdijkaa
