/- PLAIN FACTS of the check sum: the step by a bit, the entry of a byte, the sum by a table, over 32 bits. No program is named here; no condition. -/
import Derived.WalkKit
namespace Go.Proofs.Ytekkmlhkcdijkaa
namespace Sm
open Go

abbrev W32 := BitVec 32
def poly : W32 := 3988292384#32
def step (x : W32) : W32 := if x.getLsbD 0 then (x >>> 1) ^^^ poly else x >>> 1
def steps : Nat → W32 → W32
  | 0, x => x
  | k + 1, x => step (steps k x)
def entry (x : W32) : W32 := steps 8 x

theorem step_xor (x y : W32) : step (x ^^^ y) = step x ^^^ step y := by
  unfold step
  rw [BitVec.getLsbD_xor]
  cases hx : x.getLsbD 0 <;> cases hy : y.getLsbD 0 <;> simp [BitVec.ushiftRight_xor_distrib]
  · rw [BitVec.xor_assoc]
  · rw [BitVec.xor_assoc, BitVec.xor_assoc, BitVec.xor_comm poly]
  · rw [BitVec.xor_assoc, ← BitVec.xor_assoc poly, BitVec.xor_comm poly, BitVec.xor_assoc, BitVec.xor_self, BitVec.xor_zero]
theorem steps_xor (k : Nat) (x y : W32) : steps k (x ^^^ y) = steps k x ^^^ steps k y := by
  induction k with
  | zero => rfl
  | succ k ih => simp only [steps, ih, step_xor]
theorem step_zero : step 0#32 = 0#32 := by decide
theorem steps_zero (k : Nat) : steps k 0#32 = 0#32 := by
  induction k with
  | zero => rfl
  | succ k ih => simp only [steps, ih, step_zero]
/-- the top bit tells whether the bit that left was set -/
theorem poly_msb : poly.getLsbD 31 = true := by decide
theorem step_top (x : W32) : (step x).getLsbD 31 = x.getLsbD 0 := by
  unfold step
  cases hx : x.getLsbD 0 with
  | false => simp
  | true => simp [poly_msb]
theorem step_ne {x : W32} (h : step x = 0#32) : x = 0#32 := by
  have h0 : x.getLsbD 0 = false := by rw [← step_top, h]; simp
  unfold step at h
  rw [h0] at h
  simp only [Bool.false_eq_true, if_false] at h
  apply BitVec.eq_of_getLsbD_eq
  intro i hi
  rcases Nat.eq_zero_or_pos i with rfl | hp
  · simpa using h0
  · have := congrArg (fun z : W32 => z.getLsbD (i - 1)) h
    simp only [BitVec.getLsbD_ushiftRight] at this
    rw [show 1 + (i - 1) = i by omega] at this
    simpa using this
theorem steps_ne (k : Nat) {x : W32} (h : steps k x = 0#32) : x = 0#32 := by
  induction k with
  | zero => exact h
  | succ k ih => exact ih (step_ne h)
theorem xor_eq_zero {x y : W32} (h : x ^^^ y = 0#32) : x = y := by
  have : x ^^^ (x ^^^ y) = x := by rw [h, BitVec.xor_zero]
  rw [← BitVec.xor_assoc, BitVec.xor_self, BitVec.zero_xor] at this
  exact this.symm
theorem steps_inj (k : Nat) {x y : W32} (h : steps k x = steps k y) : x = y := by
  apply xor_eq_zero
  apply steps_ne k
  rw [steps_xor, h, BitVec.xor_self]
theorem step_even {x : W32} (h : x.getLsbD 0 = false) : step x = x >>> 1 := by
  unfold step; rw [h]; rfl
theorem steps_high (k : Nat) {x : W32} (h : ∀ i, i < k → x.getLsbD i = false) : steps k x = x >>> k := by
  induction k with
  | zero => simp [steps]
  | succ k ih =>
    rw [steps, ih (fun i hi => h i (by omega)), step_even (by rw [BitVec.getLsbD_ushiftRight]; exact h _ (by omega)), BitVec.shiftRight_add]
/-- eight bits at once: what leaves goes by the entry, the rest moves down -/
theorem steps_split (x : W32) : steps 8 x = entry (x &&& 255#32) ^^^ (x >>> 8) := by
  have e : x = (x &&& 255#32) ^^^ (x &&& ~~~255#32) := by
    apply BitVec.eq_of_getLsbD_eq
    intro i hi
    simp only [BitVec.getLsbD_xor, BitVec.getLsbD_and, BitVec.getLsbD_not]
    cases x.getLsbD i <;> cases (255#32).getLsbD i <;> simp [hi]
  have h255 : ∀ i, i < 8 → (255#32).getLsbD i = true := by decide
  have hh : ∀ i, i < 8 → (x &&& ~~~255#32).getLsbD i = false := by
    intro i hi
    simp only [BitVec.getLsbD_and, BitVec.getLsbD_not, h255 i hi]
    simp
  have hl : ∀ i, 8 ≤ i → (255#32).getLsbD i = false := by
    intro i hi
    by_cases h : i < 32
    · have : ∀ i, i < 32 → 8 ≤ i → (255#32).getLsbD i = false := by decide
      exact this i h hi
    · exact BitVec.getLsbD_of_ge _ _ (by omega)
  have hs : (x &&& ~~~255#32) >>> 8 = x >>> 8 := by
    apply BitVec.eq_of_getLsbD_eq
    intro i hi
    simp only [BitVec.getLsbD_ushiftRight, BitVec.getLsbD_and, BitVec.getLsbD_not]
    rw [hl (8 + i) (by omega)]
    by_cases h : 8 + i < 32
    · simp [h]
    · rw [BitVec.getLsbD_of_ge _ _ (by omega)]; simp
  conv => lhs; rw [e]
  rw [steps_xor, steps_high 8 hh, hs]
  rfl

/-- a byte's bits, as 32 -/
def ofB (b : UInt8) : W32 := BitVec.ofNat 32 b.toNat
/-- one byte, by the definition -/
def feed (x : W32) (b : UInt8) : W32 := steps 8 (x ^^^ ofB b)
def feedAll (x : W32) (l : List UInt8) : W32 := l.foldl feed x
/-- one byte, by a table of numbers -/
def feedT (t : List Int) (x : W32) (b : UInt8) : W32 := BitVec.ofInt 32 (t.getD ((x ^^^ ofB b) &&& 255#32).toNat 0) ^^^ (x >>> 8)
def feedAllT (t : List Int) (x : W32) (l : List UInt8) : W32 := l.foldl (feedT t) x
def sum (l : List UInt8) : Int := ((~~~ feedAll 4294967295#32 l).toNat : Int)
def sumT (t : List Int) (l : List UInt8) : Int := ((~~~ feedAllT t 4294967295#32 l).toNat : Int)
def table : List Int := (List.range 256).map fun i => ((entry (BitVec.ofNat 32 i)).toNat : Int)

theorem ofB_shift (b : UInt8) : ofB b >>> 8 = 0#32 := by
  apply BitVec.eq_of_toNat_eq
  have := b.toNat_lt
  simp only [ofB, BitVec.toNat_ushiftRight, BitVec.toNat_ofNat, Nat.shiftRight_eq_div_pow]
  omega
theorem and255_lt (x : W32) : (x &&& 255#32).toNat < 256 := by
  rw [BitVec.toNat_and]
  exact Nat.lt_of_le_of_lt Nat.and_le_right (by decide)
theorem table_length : table.length = 256 := by simp [table]
theorem table_get (i : Nat) (h : i < 256) : table.getD i 0 = ((entry (BitVec.ofNat 32 i)).toNat : Int) := by
  unfold table
  rw [List.getD_eq_getElem?_getD, List.getElem?_map, List.getElem?_range h]
  rfl
theorem ofInt_toNat (x : W32) : BitVec.ofInt 32 ((x.toNat : Nat) : Int) = x := by
  rw [BitVec.ofInt_natCast]; simp
theorem feedT_table (x : W32) (b : UInt8) : feedT table x b = feed x b := by
  unfold feedT feed
  rw [table_get _ (and255_lt _), ofInt_toNat, steps_split, BitVec.ofNat_toNat, BitVec.setWidth_eq, BitVec.ushiftRight_xor_distrib, ofB_shift, BitVec.xor_zero]
theorem feedAllT_table (x : W32) (l : List UInt8) : feedAllT table x l = feedAll x l := by
  induction l generalizing x with
  | nil => rfl
  | cons b l ih => simp only [feedAllT, feedAll, List.foldl_cons, feedT_table] at ih ⊢; exact ih _
theorem sumT_table (l : List UInt8) : sumT table l = sum l := by unfold sumT sum; rw [feedAllT_table]

theorem sum_nonneg (l : List UInt8) : 0 ≤ sum l ∧ sum l < 4294967296 := by
  unfold sum; have := (~~~ feedAll 4294967295#32 l).isLt; omega
theorem sumT_nonneg (t : List Int) (l : List UInt8) : 0 ≤ sumT t l ∧ sumT t l < 4294967296 := by
  unfold sumT; have := (~~~ feedAllT t 4294967295#32 l).isLt; omega

theorem feed_inj {x y : W32} {b : UInt8} (h : feed x b = feed y b) : x = y := by
  have := steps_inj 8 h
  have e := congrArg (· ^^^ ofB b) this
  simpa [BitVec.xor_assoc] using e
theorem feedAll_inj (l : List UInt8) {x y : W32} (h : feedAll x l = feedAll y l) : x = y := by
  induction l generalizing x y with
  | nil => exact h
  | cons b l ih => exact feed_inj (ih h)
theorem ofB_inj {a b : UInt8} (h : ofB a = ofB b) : a = b := by
  have e := congrArg BitVec.toNat h
  have ha := a.toNat_lt
  have hb := b.toNat_lt
  simp only [ofB, BitVec.toNat_ofNat] at e
  apply UInt8.toNat_inj.1
  omega
theorem feed_byte_inj {x : W32} {a b : UInt8} (h : feed x a = feed x b) : a = b := by
  have := steps_inj 8 h
  have e := congrArg (x ^^^ ·) this
  simp only [← BitVec.xor_assoc, BitVec.xor_self, BitVec.zero_xor] at e
  exact ofB_inj e
theorem feedAll_append (x : W32) (l r : List UInt8) : feedAll x (l ++ r) = feedAll (feedAll x l) r := by
  unfold feedAll; rw [List.foldl_append]
theorem sum_eq {l r : List UInt8} : sum l = sum r ↔ feedAll 4294967295#32 l = feedAll 4294967295#32 r := by
  constructor
  · intro h
    have h' : (~~~ feedAll 4294967295#32 l).toNat = (~~~ feedAll 4294967295#32 r).toNat := by unfold sum at h; omega
    have := congrArg (~~~ ·) (BitVec.eq_of_toNat_eq h')
    simpa using this
  · intro h; unfold sum; rw [h]
/-- one byte turned turns the sum -/
theorem sum_one {p q : List UInt8} {a b : UInt8} (h : a ≠ b) : sum (p ++ a :: q) ≠ sum (p ++ b :: q) := by
  intro e
  have e := sum_eq.1 e
  rw [feedAll_append, feedAll_append] at e
  exact h (feed_byte_inj (feedAll_inj q e))
/-- three texts laid over one another -/
theorem feed_three (x y z : W32) (a b c : UInt8) : feed (x ^^^ y ^^^ z) (a ^^^ b ^^^ c) = feed x a ^^^ feed y b ^^^ feed z c := by
  have e : ofB (a ^^^ b ^^^ c) = ofB a ^^^ ofB b ^^^ ofB c := by
    apply BitVec.eq_of_toNat_eq
    have ha := a.toNat_lt
    have hb := b.toNat_lt
    have hc := c.toNat_lt
    simp only [ofB, BitVec.toNat_xor, BitVec.toNat_ofNat, UInt8.toNat_xor]
    rw [Nat.mod_eq_of_lt (a := a.toNat) (by omega), Nat.mod_eq_of_lt (a := b.toNat) (by omega), Nat.mod_eq_of_lt (a := c.toNat) (by omega)]
    apply Nat.mod_eq_of_lt
    exact Nat.xor_lt_two_pow (n := 32) (Nat.xor_lt_two_pow (n := 32) (by omega) (by omega)) (by omega)
  unfold feed
  rw [← steps_xor, ← steps_xor, e]
  congr 1
  ac_rfl
end Sm
end Go.Proofs.Ytekkmlhkcdijkaa
