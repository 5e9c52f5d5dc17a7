/- PLAIN FACTS of the check sum: the step by a bit, the entry of a byte, the sum by a table, over 32 bits. No program is named here; no condition. -/
import Derived.WalkKit
import Derived.Test.YtlloeinlfhnegaaProg
import Derived.WalkSpells
import Derived.WalkLawsBesides
import Derived.Lib.Hide
import Derived.Below
import Derived.BigQuiet
import Derived.Deep.QuietTactic
import Derived.Laws.IdiomStrings
import Derived.Test.YtlloeinlfhnegaaMem
import Derived.RegionTactic
import Derived.ChangeAlike
namespace Go.Proofs.Ytlloeinlfhnegaa
namespace Sm
open Go

abbrev W32 := BitVec 32
def poly : W32 := 3988292384#32
def step (x : W32) : W32 := if x.getLsbD 0 then (x >>> 1) ^^^ poly else x >>> 1
def steps : Nat → W32 → W32
  | 0, x => x
  | k + 1, x => step (steps k x)
def entry (x : W32) : W32 := steps 8 x

theorem step_xor (x y : W32) : step (x ^^^ y) = step x ^^^ step y := by
  unfold step
  rw [BitVec.getLsbD_xor]
  cases hx : x.getLsbD 0 <;> cases hy : y.getLsbD 0 <;> simp [BitVec.ushiftRight_xor_distrib]
  · rw [BitVec.xor_assoc]
  · rw [BitVec.xor_assoc, BitVec.xor_assoc, BitVec.xor_comm poly]
  · rw [BitVec.xor_assoc, ← BitVec.xor_assoc poly, BitVec.xor_comm poly, BitVec.xor_assoc, BitVec.xor_self, BitVec.xor_zero]
theorem steps_xor (k : Nat) (x y : W32) : steps k (x ^^^ y) = steps k x ^^^ steps k y := by
  induction k with
  | zero => rfl
  | succ k ih => simp only [steps, ih, step_xor]
theorem step_zero : step 0#32 = 0#32 := by decide
theorem steps_zero (k : Nat) : steps k 0#32 = 0#32 := by
  induction k with
  | zero => rfl
  | succ k ih => simp only [steps, ih, step_zero]
/-- the top bit tells whether the bit that left was set -/
theorem poly_msb : poly.getLsbD 31 = true := by decide
theorem step_top (x : W32) : (step x).getLsbD 31 = x.getLsbD 0 := by
  unfold step
  cases hx : x.getLsbD 0 with
  | false => simp
  | true => simp [poly_msb]
theorem step_ne {x : W32} (h : step x = 0#32) : x = 0#32 := by
  have h0 : x.getLsbD 0 = false := by rw [← step_top, h]; simp
  unfold step at h
  rw [h0] at h
  simp only [Bool.false_eq_true, if_false] at h
  apply BitVec.eq_of_getLsbD_eq
  intro i hi
  rcases Nat.eq_zero_or_pos i with rfl | hp
  · simpa using h0
  · have := congrArg (fun z : W32 => z.getLsbD (i - 1)) h
    simp only [BitVec.getLsbD_ushiftRight] at this
    rw [show 1 + (i - 1) = i by omega] at this
    simpa using this
theorem steps_ne (k : Nat) {x : W32} (h : steps k x = 0#32) : x = 0#32 := by
  induction k with
  | zero => exact h
  | succ k ih => exact ih (step_ne h)
theorem xor_eq_zero {x y : W32} (h : x ^^^ y = 0#32) : x = y := by
  have : x ^^^ (x ^^^ y) = x := by rw [h, BitVec.xor_zero]
  rw [← BitVec.xor_assoc, BitVec.xor_self, BitVec.zero_xor] at this
  exact this.symm
theorem steps_inj (k : Nat) {x y : W32} (h : steps k x = steps k y) : x = y := by
  apply xor_eq_zero
  apply steps_ne k
  rw [steps_xor, h, BitVec.xor_self]
theorem step_even {x : W32} (h : x.getLsbD 0 = false) : step x = x >>> 1 := by
  unfold step; rw [h]; rfl
theorem steps_high (k : Nat) {x : W32} (h : ∀ i, i < k → x.getLsbD i = false) : steps k x = x >>> k := by
  induction k with
  | zero => simp [steps]
  | succ k ih =>
    rw [steps, ih (fun i hi => h i (by omega)), step_even (by rw [BitVec.getLsbD_ushiftRight]; exact h _ (by omega)), BitVec.shiftRight_add]
/-- eight bits at once: what leaves goes by the entry, the rest moves down -/
theorem steps_split (x : W32) : steps 8 x = entry (x &&& 255#32) ^^^ (x >>> 8) := by
  have e : x = (x &&& 255#32) ^^^ (x &&& ~~~255#32) := by
    apply BitVec.eq_of_getLsbD_eq
    intro i hi
    simp only [BitVec.getLsbD_xor, BitVec.getLsbD_and, BitVec.getLsbD_not]
    cases x.getLsbD i <;> cases (255#32).getLsbD i <;> simp [hi]
  have h255 : ∀ i, i < 8 → (255#32).getLsbD i = true := by decide
  have hh : ∀ i, i < 8 → (x &&& ~~~255#32).getLsbD i = false := by
    intro i hi
    simp only [BitVec.getLsbD_and, BitVec.getLsbD_not, h255 i hi]
    simp
  have hl : ∀ i, 8 ≤ i → (255#32).getLsbD i = false := by
    intro i hi
    by_cases h : i < 32
    · have : ∀ i, i < 32 → 8 ≤ i → (255#32).getLsbD i = false := by decide
      exact this i h hi
    · exact BitVec.getLsbD_of_ge _ _ (by omega)
  have hs : (x &&& ~~~255#32) >>> 8 = x >>> 8 := by
    apply BitVec.eq_of_getLsbD_eq
    intro i hi
    simp only [BitVec.getLsbD_ushiftRight, BitVec.getLsbD_and, BitVec.getLsbD_not]
    rw [hl (8 + i) (by omega)]
    by_cases h : 8 + i < 32
    · simp [h]
    · rw [BitVec.getLsbD_of_ge _ _ (by omega)]; simp
  conv => lhs; rw [e]
  rw [steps_xor, steps_high 8 hh, hs]
  rfl

/-- a byte's bits, as 32 -/
def ofB (b : UInt8) : W32 := BitVec.ofNat 32 b.toNat
/-- one byte, by the definition -/
def feed (x : W32) (b : UInt8) : W32 := steps 8 (x ^^^ ofB b)
def feedAll (x : W32) (l : List UInt8) : W32 := l.foldl feed x
/-- one byte, by a table of numbers -/
def feedT (t : List Int) (x : W32) (b : UInt8) : W32 := BitVec.ofInt 32 (t.getD ((x ^^^ ofB b) &&& 255#32).toNat 0) ^^^ (x >>> 8)
def feedAllT (t : List Int) (x : W32) (l : List UInt8) : W32 := l.foldl (feedT t) x
def sum (l : List UInt8) : Int := ((~~~ feedAll 4294967295#32 l).toNat : Int)
def sumT (t : List Int) (l : List UInt8) : Int := ((~~~ feedAllT t 4294967295#32 l).toNat : Int)
def table : List Int := (List.range 256).map fun i => ((entry (BitVec.ofNat 32 i)).toNat : Int)

theorem ofB_shift (b : UInt8) : ofB b >>> 8 = 0#32 := by
  apply BitVec.eq_of_toNat_eq
  have := b.toNat_lt
  simp only [ofB, BitVec.toNat_ushiftRight, BitVec.toNat_ofNat, Nat.shiftRight_eq_div_pow]
  omega
theorem and255_lt (x : W32) : (x &&& 255#32).toNat < 256 := by
  rw [BitVec.toNat_and]
  exact Nat.lt_of_le_of_lt Nat.and_le_right (by decide)
theorem table_length : table.length = 256 := by simp [table]
theorem table_get (i : Nat) (h : i < 256) : table.getD i 0 = ((entry (BitVec.ofNat 32 i)).toNat : Int) := by
  unfold table
  rw [List.getD_eq_getElem?_getD, List.getElem?_map, List.getElem?_range h]
  rfl
theorem ofInt_toNat (x : W32) : BitVec.ofInt 32 ((x.toNat : Nat) : Int) = x := by
  rw [BitVec.ofInt_natCast]; simp
theorem feedT_table (x : W32) (b : UInt8) : feedT table x b = feed x b := by
  unfold feedT feed
  rw [table_get _ (and255_lt _), ofInt_toNat, steps_split, BitVec.ofNat_toNat, BitVec.setWidth_eq, BitVec.ushiftRight_xor_distrib, ofB_shift, BitVec.xor_zero]
theorem feedAllT_table (x : W32) (l : List UInt8) : feedAllT table x l = feedAll x l := by
  induction l generalizing x with
  | nil => rfl
  | cons b l ih => simp only [feedAllT, feedAll, List.foldl_cons, feedT_table] at ih ⊢; exact ih _
theorem sumT_table (l : List UInt8) : sumT table l = sum l := by unfold sumT sum; rw [feedAllT_table]

theorem sum_nonneg (l : List UInt8) : 0 ≤ sum l ∧ sum l < 4294967296 := by
  unfold sum; have := (~~~ feedAll 4294967295#32 l).isLt; omega
theorem sumT_nonneg (t : List Int) (l : List UInt8) : 0 ≤ sumT t l ∧ sumT t l < 4294967296 := by
  unfold sumT; have := (~~~ feedAllT t 4294967295#32 l).isLt; omega

theorem feed_inj {x y : W32} {b : UInt8} (h : feed x b = feed y b) : x = y := by
  have := steps_inj 8 h
  have e := congrArg (· ^^^ ofB b) this
  simpa [BitVec.xor_assoc] using e
theorem feedAll_inj (l : List UInt8) {x y : W32} (h : feedAll x l = feedAll y l) : x = y := by
  induction l generalizing x y with
  | nil => exact h
  | cons b l ih => exact feed_inj (ih h)
theorem ofB_inj {a b : UInt8} (h : ofB a = ofB b) : a = b := by
  have e := congrArg BitVec.toNat h
  have ha := a.toNat_lt
  have hb := b.toNat_lt
  simp only [ofB, BitVec.toNat_ofNat] at e
  apply UInt8.toNat_inj.1
  omega
theorem feed_byte_inj {x : W32} {a b : UInt8} (h : feed x a = feed x b) : a = b := by
  have := steps_inj 8 h
  have e := congrArg (x ^^^ ·) this
  simp only [← BitVec.xor_assoc, BitVec.xor_self, BitVec.zero_xor] at e
  exact ofB_inj e
theorem feedAll_append (x : W32) (l r : List UInt8) : feedAll x (l ++ r) = feedAll (feedAll x l) r := by
  unfold feedAll; rw [List.foldl_append]
theorem sum_eq {l r : List UInt8} : sum l = sum r ↔ feedAll 4294967295#32 l = feedAll 4294967295#32 r := by
  constructor
  · intro h
    have h' : (~~~ feedAll 4294967295#32 l).toNat = (~~~ feedAll 4294967295#32 r).toNat := by unfold sum at h; omega
    have := congrArg (~~~ ·) (BitVec.eq_of_toNat_eq h')
    simpa using this
  · intro h; unfold sum; rw [h]
/-- one byte turned turns the sum -/
theorem sum_one {p q : List UInt8} {a b : UInt8} (h : a ≠ b) : sum (p ++ a :: q) ≠ sum (p ++ b :: q) := by
  intro e
  have e := sum_eq.1 e
  rw [feedAll_append, feedAll_append] at e
  exact h (feed_byte_inj (feedAll_inj q e))
/-- three texts laid over one another -/
theorem feed_three (x y z : W32) (a b c : UInt8) : feed (x ^^^ y ^^^ z) (a ^^^ b ^^^ c) = feed x a ^^^ feed y b ^^^ feed z c := by
  have e : ofB (a ^^^ b ^^^ c) = ofB a ^^^ ofB b ^^^ ofB c := by
    apply BitVec.eq_of_toNat_eq
    have ha := a.toNat_lt
    have hb := b.toNat_lt
    have hc := c.toNat_lt
    simp only [ofB, BitVec.toNat_xor, BitVec.toNat_ofNat, UInt8.toNat_xor]
    rw [Nat.mod_eq_of_lt (a := a.toNat) (by omega), Nat.mod_eq_of_lt (a := b.toNat) (by omega), Nat.mod_eq_of_lt (a := c.toNat) (by omega)]
    apply Nat.mod_eq_of_lt
    exact Nat.xor_lt_two_pow (n := 32) (Nat.xor_lt_two_pow (n := 32) (by omega) (by omega)) (by omega)
  unfold feed
  rw [← steps_xor, ← steps_xor, e]
  congr 1
  ac_rfl
end Sm
end Go.Proofs.Ytlloeinlfhnegaa
namespace Go.Proofs.Ytlloeinlfhnegaa
open Go.RowKit
set_option linter.unusedVariables false

theorem i32_lt (x : Sm.W32) : 0 ≤ ((x.toNat : Nat) : Int) ∧ ((x.toNat : Nat) : Int) < 4294967296 := by have := x.isLt; omega
theorem and1 (x : Sm.W32) : bits BinOp.and IntKind.u32 ((x.toNat : Nat) : Int) 1 = if x.getLsbD 0 then 1 else 0 := by
  show IntKind.u32.wrap ((((BitVec.ofInt 32 ((x.toNat : Nat) : Int) &&& BitVec.ofInt 32 1 : BitVec 32)).toNat : Nat) : Int) = _
  rw [Sm.ofInt_toNat]
  have : (x &&& BitVec.ofInt 32 1) = if x.getLsbD 0 then 1#32 else 0#32 := by
    apply BitVec.eq_of_getLsbD_eq
    intro i hi
    rw [show BitVec.ofInt 32 1 = 1#32 by rfl]
    rw [BitVec.getLsbD_and]
    rcases Nat.eq_zero_or_pos i with rfl | hp
    · cases x.getLsbD 0 <;> simp
    · have h1 : (1#32).getLsbD i = false := by
        have : ∀ i, i < 32 → 0 < i → (1#32).getLsbD i = false := by decide
        exact this i hi hp
      rw [h1]
      cases x.getLsbD 0 <;> simp [h1]
  rw [this]
  cases x.getLsbD 0 <;> decide
theorem xor32 (x y : Sm.W32) : bits BinOp.xor IntKind.u32 ((x.toNat : Nat) : Int) ((y.toNat : Nat) : Int) = (((x ^^^ y).toNat : Nat) : Int) := by
  show IntKind.u32.wrap ((((BitVec.ofInt 32 ((x.toNat : Nat) : Int) ^^^ BitVec.ofInt 32 ((y.toNat : Nat) : Int) : BitVec 32)).toNat : Nat) : Int) = _
  rw [Sm.ofInt_toNat, Sm.ofInt_toNat]
  have := (x ^^^ y).isLt
  generalize (x ^^^ y).toNat = n at *
  simp only [IntKind.wrap, IntKind.bits, IntKind.signed]
  simp
  omega
theorem half32 (x : Sm.W32) : (x.toNat : Int) / (2 : Int) = ((x >>> 1).toNat : Int) := by
  rw [BitVec.toNat_ushiftRight, Nat.shiftRight_eq_div_pow]; omega
theorem poly_int : (3988292384 : Int) = ((Sm.poly.toNat : Nat) : Int) := by rfl

set_option maxHeartbeats 400000 in
theorem entry_any (x : Sm.W32) (w : World) :
    Calls Try.prog 78 #[.int .u32 x.toNat] w fun e w' => e = .returned (.int .u32 (Sm.entry x).toNat) ∧ w = w' := by
  have hx := i32_lt x
  go_enter Try.func78, Try.ntmps78
  go_wp2
  go_loop [0, 4] (fun v i => ∃ (k : Nat), k ≤ 8 ∧ i = .int .i64 k ∧ v = .int .u32 (Sm.steps k x).toNat) (fun _ i => 8 - (intOf i).toNat)
  case atStart => exact ⟨0, by omega, rfl, rfl⟩
  case round =>
    obtain ⟨k, hk, rfl, rfl⟩ := hrel
    generalize hy : Sm.steps k x = y
    have HY := Lib.hid hy
    clear hy
    have hy0 := i32_lt y
    have ha := and1 y
    by_cases hlt : k < 8
    · cases hb : y.getLsbD 0 with
      | true =>
        have hT : (bits BinOp.and IntKind.u32 ((y.toNat : Nat) : Int) 1 == 1) = true := by rw [ha, hb]; rfl
        clear ha
        have HB := Lib.hid hb
        clear hb
        go_wp2
        go_round
        case rel => exact ⟨k + 1, by omega, by go_num, by rw [half32, poly_int, xor32]; simp only [Sm.steps]; rw [HY.out]; unfold Sm.step; rw [HB.out]; rfl⟩
        case measure => simp [intOf]; omega
      | false =>
        have hT : (bits BinOp.and IntKind.u32 ((y.toNat : Nat) : Int) 1 == 1) = false := by rw [ha, hb]; rfl
        clear ha
        have HB := Lib.hid hb
        clear hb
        go_wp2
        go_round
        case rel => exact ⟨k + 1, by omega, by go_num, by rw [half32]; simp only [Sm.steps]; rw [HY.out]; unfold Sm.step; rw [HB.out]; rfl⟩
        case measure => simp [intOf]; omega
    · clear ha
      have hge : 8 ≤ k := by omega
      clear hlt
      go_wp2
      go_ret
      obtain rfl : k = 8 := by omega
      exact ⟨by unfold Sm.entry; rw [HY.out]; rfl, rfl⟩

theorem rem1 (x : Sm.W32) : ((x.toNat : Int) % (2 : Int) == 1) = x.getLsbD 0 := by
  have h : x.getLsbD 0 = decide (x.toNat % 2 = 1) := by
    simp [BitVec.getLsbD, Nat.testBit_zero]
  rw [h, Bool.eq_iff_iff]
  simp
  omega
/-- the document's step, in the walk's own words -/
theorem stepRef (x : Sm.W32) (h : x.getLsbD 0 = true) : bits BinOp.xor IntKind.u32 ((x.toNat : Int) / (2 : Int)) 3988292384 = ((Sm.step x).toNat : Int) := by
  rw [half32, poly_int, xor32]; unfold Sm.step; rw [h]; rfl
theorem stepRef0 (x : Sm.W32) (h : x.getLsbD 0 = false) : ((x.toNat : Int) / (2 : Int)) = ((Sm.step x).toNat : Int) := by
  rw [half32]; unfold Sm.step; rw [h]; rfl

theorem entry_nat (i : Nat) (hi : i < 4294967296) (w : World) :
    Calls Try.prog 78 #[.int .u32 i] w fun e w' => e = .returned (.int .u32 (Sm.entry (BitVec.ofNat 32 i)).toNat) ∧ w = w' := by
  have h := entry_any (BitVec.ofNat 32 i) w
  rw [BitVec.toNat_ofNat, Nat.mod_eq_of_lt (by omega)] at h
  exact h
/-- the table's cells when so many of them are filled -/
def tabCells (k : Nat) : Array Value := ((List.range 256).map fun i => Value.int .i64 (if i < k then ((Sm.entry (BitVec.ofNat 32 i)).toNat : Int) else 0)).toArray

theorem tabCells_set (k : Nat) : (tabCells k).setIfInBounds k (.int .i64 ((Sm.entry (BitVec.ofNat 32 k)).toNat : Int)) = tabCells (k + 1) := by
  apply Array.ext
  · simp [tabCells]
  · intro i h1 h2
    simp only [tabCells, List.size_toArray, List.length_map, List.length_range, Array.size_setIfInBounds] at h1 h2
    rw [Array.getElem_setIfInBounds (by simpa [tabCells] using h1)]
    by_cases e : k = i
    · subst e; simp [tabCells]
    · rw [if_neg e]
      simp only [tabCells, List.getElem_toArray, List.getElem_map, List.getElem_range]
      by_cases hi : i < k
      · rw [if_pos hi, if_pos (by omega)]
      · rw [if_neg hi, if_neg (by omega)]
theorem tabCells_size (k : Nat) : (tabCells k).size = 256 := by simp [tabCells]

set_option maxRecDepth 100000 in
set_option maxHeartbeats 400000 in
theorem table_any (w : World) :
    Calls Try.prog 62 #[] w fun e w' => e = .returned (.slice (some ⟨w.heap.size, 0, none⟩) 256 256) ∧ w' = w.alloc (.cells (tabCells 256) 3) := by
  have hmk : ∀ w, (Instr.makeSlice 53 (.int .i64 256) (.int .i64 256)).run Try.prog w = .ok (.slice (some ⟨w.heap.size, 0, none⟩) 256 256) (w.alloc (.cells (tabCells 0) 3)) := fun _ => by kernel_rfl
  go_enter Try.func62, Try.ntmps62
  go_wp2
  clear hmk
  go_loopw [2, 6] (fun _ i wr => ∃ (k : Nat), k ≤ 256 ∧ i = .int .i64 k ∧ wr = w.alloc (.cells (tabCells k) 3)) (fun _ i _ => 256 - (intOf i).toNat)
  case atStart => exact ⟨0, by omega, rfl, rfl⟩
  case round =>
    obtain ⟨k, hk, rfl, rfl⟩ := hrel
    by_cases hlt : k < 256
    · have hst := tabCells_set k
      have hsz := tabCells_size k
      generalize hA : tabCells k = arr at hst hsz
      have HA := Lib.hid hA
      have HST := Lib.hid hst
      clear hst hA
      have HSZ : k < arr.size := by omega
      clear hsz
      go_wp2_with fail
      refine (entry_nat k (by omega) _).mono ?_
      rintro e w' ⟨rfl, rfl⟩
      have hy := i32_lt (Sm.entry (BitVec.ofNat 32 k))
      generalize Sm.entry (BitVec.ofNat 32 k) = y at HST hy
      go_wp2
      go_roundw
      case rel => exact ⟨k + 1, by omega, by go_num, by rw [HST.out]⟩
      case measure => simp [intOf]; omega
    · have hge : 256 ≤ k := by omega
      clear hlt
      generalize hA : tabCells k = arr
      have HA := Lib.hid hA
      clear hA
      go_wp2
      go_ret
      obtain rfl : k = 256 := by omega
      exact ⟨rfl, by rw [HA.out]⟩

theorem not32 (x : Sm.W32) : wrap64 (bits BinOp.xor IntKind.u32 IntKind.u32.max (x.toNat : Int)) = ((~~~ x).toNat : Int) := by
  have e : IntKind.u32.max = (((4294967295#32 : Sm.W32).toNat : Nat) : Int) := by decide
  have e2 : (4294967295#32 : Sm.W32) ^^^ x = ~~~ x := by
    rw [show (4294967295#32 : Sm.W32) = BitVec.allOnes 32 by decide, BitVec.allOnes_xor]
  rw [e, xor32, e2]
  have := (~~~ x).isLt
  exact IntWalk.wrap64_in _ ⟨by omega, by omega⟩

set_option maxHeartbeats 400000 in
theorem refSum_any (s : ByteArray) (w : World) (hs : s.size ≤ maxLen) :
    Calls Try.prog 58 #[.string s] w fun e w' => e = .returned (.int .i64 (Sm.sum s.data.toList)) ∧ w = w' := by
  unfold maxLen at hs
  go_enter Try.func58, Try.ntmps58
  go_wp2
  go_loop [3, 4, 5] (fun v i _ => ∃ (k : Nat), k ≤ s.size ∧ i = .int .i64 k ∧ v = .int .u32 (Sm.feedAll 4294967295#32 (s.data.toList.take k)).toNat) (fun _ i _ => s.size - (intOf i).toNat)
  case atStart => exact ⟨0, by omega, rfl, rfl⟩
  case round =>
    obtain ⟨k, hk, rfl, rfl⟩ := hrel
    by_cases hlt : k < s.size
    · have hts : Sm.feedAll 4294967295#32 (s.data.toList.take (k + 1)) = Sm.feed (Sm.feedAll 4294967295#32 (s.data.toList.take k)) s[k] := by
        rw [List.take_succ_eq_append_getElem (by simpa using hlt), Sm.feedAll_append]; rfl
      generalize hX : Sm.feedAll 4294967295#32 (s.data.toList.take k) = X at hts
      generalize hC : s[k] = c at hts
      have HX := Lib.hid hX
      clear hX
      have HTS := Lib.hid hts
      clear hts
      have hxor : bits BinOp.xor IntKind.u32 ((X.toNat : Nat) : Int) ((c.toNat : Int) % 4294967296) = (((X ^^^ Sm.ofB c).toNat : Nat) : Int) := by
        rw [← xor32]
        congr 1
      go_wp2
      go_loop [3, 5] (fun v i => ∃ (m : Nat), m ≤ 8 ∧ i = .int .i64 m ∧ v = .int .u32 (Sm.steps m (X ^^^ Sm.ofB c)).toNat) (fun _ i => 8 - (intOf i).toNat)
      case atStart => exact ⟨0, by omega, rfl, rfl⟩
      case round =>
        obtain ⟨m, hm, rfl, rfl⟩ := hrel
        generalize hy : Sm.steps m (X ^^^ Sm.ofB c) = y
        have HY := Lib.hid hy
        clear hy hxor hC
        have hy0 := i32_lt y
        have ha := rem1 y
        by_cases hlt2 : m < 8
        · cases hb : y.getLsbD 0 with
          | true =>
            rw [hb] at ha
            have HB := Lib.hid hb
            clear hb
            go_wp2
            go_round
            case rel => exact ⟨m + 1, by omega, by go_num, by rw [stepRef y HB.out]; simp only [Sm.steps]; rw [HY.out]⟩
            case measure => simp [intOf]; omega
          | false =>
            rw [hb] at ha
            have HB := Lib.hid hb
            clear hb
            go_wp2
            go_round
            case rel => exact ⟨m + 1, by omega, by go_num, by rw [stepRef0 y HB.out]; simp only [Sm.steps]; rw [HY.out]⟩
            case measure => simp [intOf]; omega
        · clear ha
          have hge : 8 ≤ m := by omega
          clear hlt2
          have hm8 : m = 8 := by omega
          have HM := Lib.hid hm8
          clear hm8
          go_wp2
          go_round
          case rel => exact ⟨k + 1, by omega, by go_num, by rw [HTS.out]; unfold Sm.feed; rw [← HY.out, HM.out]⟩
          case measure => simp [intOf]; omega
    · have hge : s.size ≤ k := by omega
      clear hlt
      generalize hX : Sm.feedAll 4294967295#32 (s.data.toList.take k) = X
      have HX := Lib.hid hX
      clear hX
      go_wp2
      go_ret
      rw [List.take_of_length_le (by simpa using hge)] at HX
      exact ⟨by unfold Sm.sum; rw [HX.out, ← not32]; rfl, rfl⟩

theorem idx8 (x : Sm.W32) (c : UInt8) : bits BinOp.xor IntKind.u8 ((x.toNat : Int) % 256) (c.toNat : Int) = (((x ^^^ Sm.ofB c) &&& 255#32).toNat : Int) := by
  show IntKind.u8.wrap ((((BitVec.ofInt 8 ((x.toNat : Int) % 256) ^^^ BitVec.ofInt 8 (c.toNat : Int) : BitVec 8)).toNat : Nat) : Int) = _
  have hc := c.toNat_lt
  have e : ((BitVec.ofInt 8 ((x.toNat : Int) % 256) ^^^ BitVec.ofInt 8 (c.toNat : Int) : BitVec 8)).toNat = ((x ^^^ Sm.ofB c) &&& 255#32).toNat := by
    have h1 : (BitVec.ofInt 8 ((x.toNat : Int) % 256)).toNat = x.toNat % 2 ^ 8 := by
      rw [BitVec.toNat_ofInt]; omega
    have h2 : (BitVec.ofInt 8 (c.toNat : Int)).toNat = c.toNat % 2 ^ 8 := by
      rw [BitVec.toNat_ofInt]; omega
    rw [BitVec.toNat_xor, h1, h2, BitVec.toNat_and, BitVec.toNat_xor]
    rw [show (255#32).toNat = 2 ^ 8 - 1 by rfl, Nat.and_two_pow_sub_one_eq_mod, ← Nat.xor_mod_two_pow]
    unfold Sm.ofB
    rw [BitVec.toNat_ofNat, Nat.mod_eq_of_lt (a := c.toNat) (by omega)]
  rw [e]
  have := Sm.and255_lt (x ^^^ Sm.ofB c)
  generalize ((x ^^^ Sm.ofB c) &&& 255#32).toNat = n at *
  simp only [IntKind.wrap, IntKind.bits, IntKind.signed]
  simp
  omega
theorem tabXor (z : Int) (x : Sm.W32) : bits BinOp.xor IntKind.u32 (z % 4294967296) ((x.toNat : Int) / (256 : Int)) = ((BitVec.ofInt 32 z ^^^ (x >>> 8)).toNat : Int) := by
  have e1 : z % 4294967296 = ((BitVec.ofInt 32 z).toNat : Int) := by
    rw [BitVec.toNat_ofInt]; omega
  have e2 : ((x.toNat : Int) / (256 : Int)) = ((x >>> 8).toNat : Int) := by
    rw [BitVec.toNat_ushiftRight, Nat.shiftRight_eq_div_pow]; omega
  rw [e1, e2, xor32]

set_option maxHeartbeats 400000 in
theorem sum_any (b off cap : Nat) (t : List Int) (s : ByteArray) (w : World) (hs : s.size ≤ maxLen) (hc : ∀ j, j < 256 → w.cell? ⟨b, off + j, none⟩ = some (.int .i64 (t.getD j 0))) :
    Calls Try.prog 61 #[.slice (some ⟨b, off, none⟩) 256 cap, .string s] w fun e w' => e = .returned (.tuple #[.int .i64 (Sm.sumT t s.data.toList), .bool true]) ∧ w = w' := by
  unfold maxLen at hs
  have HC := Lib.hid hc
  clear hc
  go_enter Try.func61, Try.ntmps61
  go_wp2
  go_loop [6, 7, 13] (fun v _ i => ∃ (k : Nat), k ≤ s.size ∧ i = .int .i64 k ∧ v = .int .u32 (Sm.feedAllT t 4294967295#32 (s.data.toList.take k)).toNat) (fun _ _ i => s.size - (intOf i).toNat)
  case atStart => exact ⟨0, by omega, rfl, rfl⟩
  case round =>
    obtain ⟨k, hk, rfl, rfl⟩ := hrel
    by_cases hlt : k < s.size
    · have hts : Sm.feedAllT t 4294967295#32 (s.data.toList.take (k + 1)) = Sm.feedT t (Sm.feedAllT t 4294967295#32 (s.data.toList.take k)) s[k] := by
        unfold Sm.feedAllT
        rw [List.take_succ_eq_append_getElem (by simpa using hlt), List.foldl_append]; rfl
      generalize hX : Sm.feedAllT t 4294967295#32 (s.data.toList.take k) = X at hts
      generalize hC : s[k] = c at hts
      have HX := Lib.hid hX
      clear hX
      unfold Sm.feedT at hts
      have hj := Sm.and255_lt (X ^^^ Sm.ofB c)
      have hix := idx8 X c
      generalize ((X ^^^ Sm.ofB c) &&& 255#32).toNat = j at hj hix hts
      have hcell := HC.out j hj
      generalize t.getD j 0 = z at hcell hts
      have hxx := tabXor z X
      rw [← hts] at hxx
      clear hts
      generalize hY : Sm.feedAllT t 4294967295#32 (s.data.toList.take (k + 1)) = Y at hxx
      have HY := Lib.hid hY
      clear hY
      have hX0 := i32_lt X
      go_wp2
      go_round
      case rel => exact ⟨k + 1, by omega, by go_num, by rw [HY.out]⟩
      case measure => simp [intOf]; omega
    · have hge : s.size ≤ k := by omega
      clear hlt
      generalize hX : Sm.feedAllT t 4294967295#32 (s.data.toList.take k) = X
      have HX := Lib.hid hX
      clear hX
      go_wp2
      go_ret2
      rw [List.take_of_length_le (by simpa using hge)] at HX
      exact ⟨by unfold Sm.sumT; rw [HX.out, ← not32]; rfl, rfl⟩
end Go.Proofs.Ytlloeinlfhnegaa
namespace Go.Proofs.Ytlloeinlfhnegaa
open Go.RowKit
set_option linter.unusedVariables false

/-- the table lies at block b -/
def TabAt (W : World) (b : Nat) : Prop := ∀ j, j < 256 → W.cell? ⟨b, j, none⟩ = some (.int .i64 (Sm.table.getD j 0))
theorem TabAt.below {W W' : World} {b : Nat} (h : TabAt W b) (hb : Below W.heap.size W W') (hl : b < W.heap.size) : TabAt W' b :=
  fun j hj => (hb.cell (p := ⟨b, j, none⟩) hl).trans (h j hj)

theorem tabAt_new (w : World) : TabAt (w.alloc (.cells (tabCells 256) 3)) w.heap.size := by
  intro j hj
  rw [show (w.alloc (.cells (tabCells 256) 3)).cell? ⟨w.heap.size, j, none⟩ = (tabCells 256)[j]? from cell_of_row _ _ j _ 3 (0, 0) (heap_alloc_new w _)]
  simp only [tabCells, List.getElem?_toArray, List.getElem?_map, List.getElem?_range hj, Option.map_some, if_pos hj]
  rw [Sm.table_get j hj]

theorem table_abs (w : World) :
    Calls Try.prog 62 #[] w fun e w' => e = .returned (.slice (some ⟨w.heap.size, 0, none⟩) 256 256) ∧ TabAt w' w.heap.size ∧ w.heap.size < w'.heap.size ∧ Below w.heap.size w w' :=
  (table_any w).mono fun e w' ⟨he, hw⟩ => ⟨he, by rw [hw]; exact tabAt_new w, by rw [hw]; simp, by rw [hw]; exact (Below.refl _ _).alloc (Nat.le_refl _) _⟩

theorem sum_tab (b : Nat) (s : ByteArray) (w : World) (hs : s.size ≤ maxLen) (hT : TabAt w b) :
    Calls Try.prog 61 #[.slice (some ⟨b, 0, none⟩) 256 256, .string s] w fun e w' => e = .returned (.tuple #[.int .i64 (Sm.sum s.data.toList), .bool true]) ∧ w = w' := by
  have h := sum_any b 0 256 Sm.table s w hs (fun j hj => by rw [Nat.zero_add]; exact hT j hj)
  rw [Sm.sumT_table] at h
  exact h

set_option maxHeartbeats 400000 in
theorem sum_nil (s : ByteArray) (w : World) :
    Calls Try.prog 61 #[.slice none 0 0, .string s] w fun e w' => e = .returned (.tuple #[.int .i64 0, .bool false]) ∧ w = w' := by
  go_enter Try.func61, Try.ntmps61
  go_wp2
  go_ret2
  exact ⟨rfl, rfl⟩

theorem sum_known : Sm.sum [49, 50, 51, 52, 53, 54, 55, 56, 57] = 3421780262 := by kernel_rfl

theorem sum_awake (b : Nat) (w : World) (hT : TabAt w b) :
    Calls Try.prog 61 #[.slice (some ⟨b, 0, none⟩) 256 256, .string ⟨#[49, 50, 51, 52, 53, 54, 55, 56, 57]⟩] w fun e w' => e = .returned (.tuple #[.int .i64 3421780262, .bool true]) ∧ w = w' := by
  have h := sum_tab b ⟨#[49, 50, 51, 52, 53, 54, 55, 56, 57]⟩ w (by unfold maxLen; simp [ByteArray.size]) hT
  rw [show (ByteArray.data ⟨#[49, 50, 51, 52, 53, 54, 55, 56, 57]⟩).toList = [49, 50, 51, 52, 53, 54, 55, 56, 57] from rfl, sum_known] at h
  exact h

end Go.Proofs.Ytlloeinlfhnegaa
namespace Go.Proofs.Ytlloeinlfhnegaa
open Go.RowKit
set_option linter.unusedVariables false

theorem Sm.feedT_zero (x : Sm.W32) (b : UInt8) : Sm.feedT (List.replicate 256 0) x b = x >>> 8 := by
  unfold Sm.feedT
  rw [List.getD_eq_getElem?_getD, List.getElem?_replicate, if_pos (Sm.and255_lt _)]
  show BitVec.ofInt 32 0 ^^^ _ = _
  rw [show BitVec.ofInt 32 0 = 0#32 by rfl, BitVec.zero_xor]
theorem Sm.feedAllT_zero (x : Sm.W32) (l : List UInt8) : Sm.feedAllT (List.replicate 256 0) x l = x >>> (8 * l.length) := by
  induction l generalizing x with
  | nil => rw [List.length_nil]; exact (BitVec.ushiftRight_zero x).symm
  | cons b l ih =>
    have h := ih (x >>> 8)
    unfold Sm.feedAllT at h ⊢
    rw [List.foldl_cons, Sm.feedT_zero, h, List.length_cons, ← BitVec.shiftRight_add]
    congr 1; omega
/-- of 32 bits those from 32 - 8 m on, when so many have been asked -/
def wantTo (m k : Nat) : Int := (((BitVec.allOnes 32 - ((BitVec.allOnes 32) >>> (8 * m))) &&& ((1#33 <<< k) - 1#33).setWidth 32).toNat : Int)
theorem wantTo_yes : ∀ m, m < 5 → ∀ k, k < 32 → 32 - 8 * m ≤ k → bits BinOp.or IntKind.i64 (wantTo m k) (wrap64 ((2 : Int) ^ k)) = wantTo m (k + 1) := by decide +kernel
theorem wantTo_no : ∀ m, m < 5 → ∀ k, k < 32 → k < 32 - 8 * m → wantTo m k = wantTo m (k + 1) := by decide +kernel
theorem wantTo_zero : ∀ m, m < 5 → wantTo m 0 = 0 := by decide +kernel
theorem wantTo_sum : ∀ m, m < 5 → wantTo m 32 = ((~~~ ((4294967295#32 : Sm.W32) >>> (8 * m))).toNat : Int) := by decide +kernel
theorem sumT_zero (l : List UInt8) : Sm.sumT (List.replicate 256 0) l = wantTo (min l.length 4) 32 := by
  unfold Sm.sumT
  rw [Sm.feedAllT_zero, wantTo_sum _ (by omega)]
  by_cases h : l.length ≤ 4
  · rw [Nat.min_eq_left h]
  · rw [Nat.min_eq_right (by omega)]
    have e : (4294967295#32 : Sm.W32) >>> (8 * l.length) = 0#32 := by
      apply BitVec.eq_of_toNat_eq
      rw [BitVec.toNat_ushiftRight, Nat.shiftRight_eq_div_pow]
      have : 2 ^ 40 ≤ 2 ^ (8 * l.length) := Nat.pow_le_pow_right (by omega) (by omega)
      rw [Nat.div_eq_of_lt (by simp; omega)]
      rfl
    rw [e]
    decide

/-- 'string([]byte{a})' -/
theorem conv1 (a : Int) (w : World) : (convert 89 9 (.slice (some ⟨w.heap.size, 0, none⟩) 1 1)).run Try.prog (w.alloc (.cells #[.int .u8 a] 5)) = .ok (.string (strOfNums [a])) (w.alloc (.cells #[.int .u8 a] 5)) := by
  refine run_convert_bytes_arg _ 89 5 Try.underlying89 Try.underlying5 w.heap.size 0 1 1 [a] rfl ?_ 9 Try.underlying9
  intro i hi
  obtain rfl : i = 0 := by omega
  rw [show (w.alloc (.cells #[.int .u8 a] 5)).cell? ⟨w.heap.size, 0 + 0, none⟩ = (#[Value.int .u8 a])[0 + 0]? from cell_of_row _ _ (0 + 0) _ 5 (0, 0) (heap_alloc_new w _)]
  rfl

theorem conv1_any (a : Int) : ∃ c : ByteArray, (∀ w : World, (convert 89 9 (.slice (some ⟨w.heap.size, 0, none⟩) 1 1)).run Try.prog (w.alloc (.cells #[.int .u8 a] 5)) = .ok (.string c) (w.alloc (.cells #[.int .u8 a] 5))) ∧ c.size = 1 ∧ c.data.toList = [UInt8.ofNat a.toNat] :=
  ⟨strOfNums [a], conv1 a, rfl, rfl⟩

end Go.Proofs.Ytlloeinlfhnegaa
namespace Go.Proofs.Ytlloeinlfhnegaa
open Go.RowKit
set_option linter.unusedVariables false

/-- '[]byte(s)': a new block that bears the bytes -/
theorem bytesOf (s : ByteArray) (w : World) : ∃ (g cap : Nat) (W1 : World), (convert 9 89 (.string s)).run Try.prog w = .ok (.slice (some ⟨g, 0, none⟩) s.size cap) W1 ∧
    w.heap.size ≤ g ∧ g < W1.heap.size ∧ Below w.heap.size w W1 ∧ (∀ j (h : j < s.size), W1.cell? ⟨g, j, none⟩ = some (.int .u8 (s[j].toNat : Int))) ∧ (∀ j, j < s.size → W1.frozen? ⟨g, j, none⟩ = false) := by
  refine ⟨_, _, _, run_bytes_of_string w 9 89 5 s Try.underlying9 Try.underlying89 Try.underlying5, Nat.le_refl _, by simp, ((Below.refl _ _).drew).alloc (by simp) _, ?_, ?_⟩
  · intro j h
    exact (cell_of_row _ w.drew.heap.size j _ 5 _ (heap_alloc_new w.drew _)).trans (bytesRow_at s _ j h)
  · intro j h
    have hs : s.size ≤ (bytesRow s (grownCap w s.size 0 5)).size := by
      rw [bytesRow, Array.size_append, Array.size_map]
      show s.data.size ≤ _
      omega
    generalize bytesRow s (grownCap w s.size 0 5) = C at hs
    have hh := heap_alloc_new w.drew (.cells C 5 (C.size, C.size + 1))
    simp only [World.frozen?]
    rw [show (w.drew.alloc (.cells C 5 (C.size, C.size + 1))).heap[w.heap.size]? = _ from hh]
    simp
    omega

/-- the byte with one bit turned -/
def turned (c : UInt8) (b : Int) : UInt8 := UInt8.ofNat (bits BinOp.xor IntKind.u8 (c.toNat : Int) (2 ^ (b % 8).toNat % 256)).toNat
theorem turned_all : ∀ c : Fin 256, ∀ k : Fin 8, 0 ≤ bits BinOp.xor IntKind.u8 (c.val : Int) (2 ^ k.val % 256) ∧ bits BinOp.xor IntKind.u8 (c.val : Int) (2 ^ k.val % 256) ≤ 255 ∧ bits BinOp.xor IntKind.u8 (c.val : Int) (2 ^ k.val % 256) ≠ c.val := by decide +kernel
theorem turned_is (c : UInt8) (b : Int) : bits BinOp.xor IntKind.u8 (c.toNat : Int) (2 ^ (b % 8).toNat % 256) = ((turned c b).toNat : Int) ∧ turned c b ≠ c := by
  have h := turned_all ⟨c.toNat, c.toNat_lt⟩ ⟨(b % 8).toNat, by omega⟩
  simp only at h
  unfold turned
  generalize bits BinOp.xor IntKind.u8 (c.toNat : Int) (2 ^ (b % 8).toNat % 256) = z at h
  constructor
  · rw [UInt8.toNat_ofNat']; omega
  · intro e
    have := congrArg UInt8.toNat e
    rw [UInt8.toNat_ofNat'] at this
    omega

end Go.Proofs.Ytlloeinlfhnegaa
namespace Go.Proofs.Ytlloeinlfhnegaa
open Go.RowKit
set_option linter.unusedVariables false

theorem min2_nat (p q : Nat) (w : World) : (Builtin.min2 (.int .i64 p) (.int .i64 q)).run Try.prog w = .ok (.int .i64 ((min p q : Nat) : Int)) w := by
  have h2 : (if (q : Int) < (p : Int) then (q : Int) else (p : Int)) = ((min p q : Nat) : Int) := by split <;> omega
  rw [← h2]
  simp [Builtin.min2]
theorem min4 (ts : Array TypeId) (t : TypeId) (x y z : Nat) : ∃ n : Nat, n ≤ x ∧ n ≤ y ∧ n ≤ z ∧ n ≤ 300 ∧ ∀ w : World, (Builtin.min_ ts t #[.int .i64 x, .int .i64 y, .int .i64 z, .int .i64 300]).run Try.prog w = .ok (.int .i64 n) w := by
  refine ⟨min (min (min x y) z) 300, by omega, by omega, by omega, by omega, fun w => ?_⟩
  have h3 := fun p => min2_nat p 300 w
  simp only [Builtin.min_]
  simp only [show ((300 : Nat) : Int) = 300 from rfl] at h3
  simp [min2_nat, h3]

theorem info8 : (Try.prog.info? 5).map (fun i => (i.zero, i.size, i.bytes)) = some (some (.int .u8 0), 1, 1) := by kernel_rfl
def xor3 : List UInt8 → List UInt8 → List UInt8 → List UInt8
  | x :: xs, y :: ys, z :: zs => (x ^^^ y ^^^ z) :: xor3 xs ys zs
  | _, _, _ => []
theorem xor3_length (n : Nat) : ∀ x y z : List UInt8, x.length = n → y.length = n → z.length = n → (xor3 x y z).length = n := by
  induction n with
  | zero => intro x y z hx hy hz; obtain rfl := List.eq_nil_of_length_eq_zero hx; rfl
  | succ n ih =>
    intro x y z hx hy hz
    match x, y, z, hx, hy, hz with
    | a :: x, b :: y, c :: z, hx, hy, hz =>
      simp only [xor3, List.length_cons]
      rw [ih x y z (by simpa using hx) (by simpa using hy) (by simpa using hz)]
theorem xor3_get (i : Nat) : ∀ x y z : List UInt8, (hx : i < x.length) → (hy : i < y.length) → (hz : i < z.length) → (xor3 x y z).getD i 0 = x[i] ^^^ y[i] ^^^ z[i] := by
  induction i with
  | zero =>
    intro x y z hx hy hz
    match x, y, z, hx, hy, hz with
    | a :: x, b :: y, c :: z, hx, hy, hz => rfl
  | succ i ih =>
    intro x y z hx hy hz
    match x, y, z, hx, hy, hz with
    | a :: x, b :: y, c :: z, hx, hy, hz =>
      have h := ih x y z (by simpa using hx) (by simpa using hy) (by simpa using hz)
      simpa [xor3] using h
theorem feedAll_three (n : Nat) : ∀ (x y z : List UInt8) (p q r : Sm.W32), x.length = n → y.length = n → z.length = n → Sm.feedAll (p ^^^ q ^^^ r) (xor3 x y z) = Sm.feedAll p x ^^^ Sm.feedAll q y ^^^ Sm.feedAll r z := by
  induction n with
  | zero =>
    intro x y z p q r hx hy hz
    obtain rfl := List.eq_nil_of_length_eq_zero hx
    obtain rfl := List.eq_nil_of_length_eq_zero hy
    obtain rfl := List.eq_nil_of_length_eq_zero hz
    rfl
  | succ n ih =>
    intro x y z p q r hx hy hz
    match x, y, z, hx, hy, hz with
    | a :: x, b :: y, c :: z, hx, hy, hz =>
      have h := ih x y z (Sm.feed p a) (Sm.feed q b) (Sm.feed r c) (by simpa using hx) (by simpa using hy) (by simpa using hz)
      simp only [xor3, Sm.feedAll, List.foldl_cons, Sm.feed_three] at h ⊢
      exact h
theorem xor64 (x y : Sm.W32) : bits BinOp.xor IntKind.i64 (x.toNat : Int) (y.toNat : Int) = ((x ^^^ y).toNat : Int) := by
  show IntKind.i64.wrap ((((BitVec.ofInt 64 ((x.toNat : Nat) : Int) ^^^ BitVec.ofInt 64 ((y.toNat : Nat) : Int) : BitVec 64)).toNat : Nat) : Int) = _
  have hx := x.isLt
  have hy := y.isLt
  have h : (BitVec.ofInt 64 ((x.toNat : Nat) : Int) ^^^ BitVec.ofInt 64 ((y.toNat : Nat) : Int) : BitVec 64).toNat = (x ^^^ y).toNat := by
    rw [BitVec.ofInt_natCast, BitVec.ofInt_natCast, BitVec.toNat_xor, BitVec.toNat_xor, BitVec.toNat_ofNat, BitVec.toNat_ofNat, Nat.mod_eq_of_lt (by omega), Nat.mod_eq_of_lt (by omega)]
  rw [h]
  have := (x ^^^ y).isLt
  generalize (x ^^^ y).toNat = m at *
  simp only [IntKind.wrap, IntKind.bits, IntKind.signed]
  simp
  omega
theorem xor8 (x y : UInt8) : bits BinOp.xor IntKind.u8 (x.toNat : Int) (y.toNat : Int) = ((x ^^^ y).toNat : Int) := by
  show IntKind.u8.wrap ((((BitVec.ofInt 8 ((x.toNat : Nat) : Int) ^^^ BitVec.ofInt 8 ((y.toNat : Nat) : Int) : BitVec 8)).toNat : Nat) : Int) = _
  have hx := x.toNat_lt
  have hy := y.toNat_lt
  have h : (BitVec.ofInt 8 ((x.toNat : Nat) : Int) ^^^ BitVec.ofInt 8 ((y.toNat : Nat) : Int) : BitVec 8).toNat = (x ^^^ y).toNat := by
    rw [BitVec.ofInt_natCast, BitVec.ofInt_natCast, BitVec.toNat_xor, UInt8.toNat_xor, BitVec.toNat_ofNat, BitVec.toNat_ofNat, Nat.mod_eq_of_lt (by omega), Nat.mod_eq_of_lt (by omega)]
  rw [h]
  have := (x ^^^ y).toNat_lt
  generalize (x ^^^ y).toNat = m at *
  simp only [IntKind.wrap, IntKind.bits, IntKind.signed]
  simp
  omega
theorem sum_three (n : Nat) (x y z : List UInt8) (hx : x.length = n) (hy : y.length = n) (hz : z.length = n) :
    bits BinOp.xor IntKind.i64 (bits BinOp.xor IntKind.i64 (Sm.sum x) (Sm.sum y)) (Sm.sum z) = Sm.sum (xor3 x y z) := by
  unfold Sm.sum
  rw [xor64, xor64]
  have h := feedAll_three n x y z 4294967295#32 4294967295#32 4294967295#32 hx hy hz
  rw [BitVec.xor_self, BitVec.zero_xor] at h
  rw [h]
  congr 2
  generalize Sm.feedAll 4294967295#32 x = p
  generalize Sm.feedAll 4294967295#32 y = q
  generalize Sm.feedAll 4294967295#32 z = r
  apply BitVec.eq_of_getLsbD_eq
  intro i hi
  simp only [BitVec.getLsbD_xor, BitVec.getLsbD_not]
  cases p.getLsbD i <;> cases q.getLsbD i <;> cases r.getLsbD i <;> simp [hi]

end Go.Proofs.Ytlloeinlfhnegaa
