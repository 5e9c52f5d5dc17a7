/- THE LAWS of layer 2, walked: PageForm, PageVersions. Conditions: those of the arguments alone. -/
import Derived.Test.YtekkmlhkcdijkaaPageLaws
namespace Go.Proofs.Ytekkmlhkcdijkaa
open Go.RowKit
set_option linter.unusedVariables false

theorem takeE_short (l : List UInt8) : (takeE l = 2) ↔ l.length ≠ 32 := by
  unfold takeE
  by_cases h : l.length ≠ 32
  · rw [if_pos h]; simp [h]
  · rw [if_neg h]
    constructor
    · intro h2
      split at h2
      · omega
      · split at h2
        · omega
        · split at h2 <;> omega
    · intro h2; exact absurd h2 h

/-- a page by its parts: the walk's argument, opened -/
def PageArg (p : Value) : Prop := ∃ (i n : Int) (s : ByteArray), p = .agg #[.int .i64 i, .int .i64 n, .string s] ∧ (-9223372036854775808 ≤ i ∧ i ≤ 9223372036854775807) ∧ (-9223372036854775808 ≤ n ∧ n ≤ 9223372036854775807) ∧ s.size ≤ maxLen
theorem PageArg.cases {p : Value} (h : PageArg p) : (∃ (i n : Int) (l : List UInt8), p = .agg #[.int .i64 i, .int .i64 n, .string (str l)] ∧ isPage i n (str l) = false ∧ l.length ≤ maxLen) ∨
    (∃ (i n : Nat) (l : List UInt8), p = .agg #[.int .i64 i, .int .i64 n, .string (str l)] ∧ isPage i n (str l) = true ∧ i ≤ 16 ∧ 1 ≤ i ∧ 1 ≤ n ∧ n ≤ 2147483647 ∧ l.length ≤ 16) := by
  obtain ⟨i, n, s, rfl, hi, hn, hs⟩ := h
  rw [← str_of s]
  cases hp : isPage i n s with
  | false => exact .inl ⟨i, n, s.data.toList, rfl, by rw [str_of]; exact hp, hs⟩
  | true =>
    obtain ⟨h1, h2, h3, h4, h5⟩ := (isPage_iff _ _ _).1 hp
    obtain ⟨a, rfl⟩ := Int.eq_ofNat_of_zero_le (show 0 ≤ i by omega)
    obtain ⟨b, rfl⟩ := Int.eq_ofNat_of_zero_le (show 0 ≤ n by omega)
    exact .inr ⟨a, b, s.data.toList, rfl, by rw [str_of]; exact hp, by omega, by omega, by omega, by omega, h5⟩

theorem box3 {w W : World} {a b c : Value} {t : TypeId} (h : Below (w.alloc (.cells #[a, b, c] t)).heap.size (w.alloc (.cells #[a, b, c] t)) W) : Blk W w.heap.size t #[a, b, c] ∧ Below w.heap.size w W :=
  ⟨(Blk.new w t _).keep h, ((Below.refl _ _).alloc (Nat.le_refl _) _).trans (h.mono (by simp))⟩

set_option maxRecDepth 100000 in
set_option maxHeartbeats 800000 in
theorem pageForm_walk (s : ByteArray) (hs : s.size ≤ maxLen) (p : Value) (hp : PageArg p) (w : World) :
    Calls Try.prog 13 #[.string s, p] w fun e w' => e = .returned (.bool true) ∧ Below w.heap.size w w' := by
  have hss := str_of s
  generalize s.data.toList = l at hss
  subst hss
  rw [str_size] at hs
  unfold maxLen at hs
  have hsz := str_size
  have htl := str_list
  have hap := str_append
  have hex := str_extract
  by_cases hlen : (100 : Int) < (l.length : Int)
  · obtain ⟨i, n, b, rfl, hi, hn, hb⟩ := hp
    go_enter Try.func13, Try.ntmps13
    go_wp2_with fail
    refine (awake02 _).mono ?_
    rintro e W1 ⟨rfl, hB⟩
    go_wp2_with fail
    go_ret
    exact ⟨rfl, ((Below.refl _ _).alloc (Nat.le_refl _) _).trans (hB.mono (by simp))⟩
  have hE := takeE_short l
  have HT := Lib.hid (take_any l)
  generalize takeE l = E at hE HT
  have h01 : str [0] = ⟨#[0]⟩ := rfl
  have H01 := Lib.hid h01
  clear h01
  have hE32 : ((l.length : Int) != 32) = (E == 2) := by
    rw [Bool.eq_iff_iff, beq_iff_eq, hE, bne_iff_ne]; omega
  rcases hp.cases with ⟨i, n, b, rfl, hpg, hbl⟩ | ⟨i, n, b, rfl, hpg, hi16, hi1, hn1, hn2, hbl⟩
  · go_enter Try.func13, Try.ntmps13
    go_wp2_with fail
    refine (HT.out _).mono ?_
    rintro e W1 ⟨rfl, hB1⟩
    obtain ⟨hb1, hbel1⟩ := box3 hB1
    clear hB1
    obtain ⟨c0, c1, c2, _, _, _⟩ := hb1.three
    have hlt := hb1.lt
    unfold pageVal
    go_wp2_with fail
    refine (put_no i n (str b) _ hpg).mono ?_
    rintro e W2 ⟨rfl, hB2⟩
    have hbel2 := (hbel1.alloc hbel1.size _).trans (hB2.mono (by have := hbel1.size; simp; omega))
    clear hB2 hbel1 hb1
    have he0 : ByteArray.empty ++ ⟨#[0]⟩ = str [0] := rfl
    have he1 : ¬ 9223372036854775807 < ByteArray.empty.size + (ByteArray.mk #[0]).size := by simp [ByteArray.size]
    go_wp2_with fail
    refine (take_short [0] _ (by simp)).mono ?_
    rintro e W3 ⟨rfl, hB3⟩
    have hbel3 := hbel2.trans (hB3.mono hbel2.size)
    clear hB3 hbel2
    unfold pageVal
    have hE2 : (((l.length : Int) != 32) != (E == 2)) = false := by rw [hE32]; cases (E == 2) <;> rfl
    have HE := Lib.hid hE
    have HE32 := Lib.hid hE32
    clear hE hE32
    go_wp2_with fail
    refine (awake02 _).mono ?_
    rintro e W4 ⟨rfl, hB4⟩
    go_wp2_with fail
    go_ret
    exact ⟨rfl, (hbel3.alloc hbel3.size _).trans (hB4.mono (by have := hbel3.size; simp; omega))⟩
  · go_enter Try.func13, Try.ntmps13
    go_wp2_with fail
    refine (HT.out _).mono ?_
    rintro e W1 ⟨rfl, hB1⟩
    obtain ⟨hb1, hbel1⟩ := box3 hB1
    clear hB1
    obtain ⟨c0, c1, c2, _, _, _⟩ := hb1.three
    have hlt := hb1.lt
    unfold pageVal
    go_wp2_with fail
    refine (put_yes i n b _ hpg).mono ?_
    rintro e W2 ⟨rfl, hB2⟩
    have hbel2 := (hbel1.alloc hbel1.size _).trans (hB2.mono (by have := hbel1.size; simp; omega))
    clear hB2 hbel1 hb1
    have hpl := pageBytes_length i n b hbl
    generalize pageBytes i n b = t at hpl
    have ht0 : str t ++ ⟨#[0]⟩ = str (t ++ [0]) := str_append t [0]
    have he1 : ¬ 9223372036854775807 < t.length + (ByteArray.mk #[0]).size := by rw [hpl]; simp [ByteArray.size]
    have hpi : (t.length : Int) = 32 := by omega
    have hne : ((t.length : Int) != 32) = false := by rw [hpi]; rfl
    have h31 : (31 : Int) ≤ (t.length : Int) := by omega
    have HPL := Lib.hid hpl
    clear hpl hpi
    go_wp2_with fail
    refine (take_short (t ++ [0]) _ (by simp [HPL.out])).mono ?_
    rintro e W3 ⟨rfl, hB3⟩
    have hbel3 := hbel2.trans (hB3.mono hbel2.size)
    clear hB3 hbel2
    unfold pageVal
    have hE2 : (((l.length : Int) != 32) != (E == 2)) = false := by rw [hE32]; cases (E == 2) <;> rfl
    have HE := Lib.hid hE
    have HE32 := Lib.hid hE32
    clear hE hE32
    go_wp2_with fail
    refine (take_short (t.take 31) _ (by simp [HPL.out])).mono ?_
    rintro e W4 ⟨rfl, hB4⟩
    have hbel4 := (hbel3.alloc hbel3.size _).trans (hB4.mono (by have := hbel3.size; simp; omega))
    unfold pageVal
    go_wp2_with fail
    refine (awake02 _).mono ?_
    rintro e W5 ⟨rfl, hB5⟩
    go_wp2_with fail
    go_ret
    exact ⟨rfl, (hbel4.alloc hbel4.size _).trans (hB5.mono (by have := hbel4.size; simp; omega))⟩
end Go.Proofs.Ytekkmlhkcdijkaa
