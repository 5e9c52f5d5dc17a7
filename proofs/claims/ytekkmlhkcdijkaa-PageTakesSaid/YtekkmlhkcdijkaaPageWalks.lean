/- THE WALKS of layer 2: the numbers of four bytes; what is a page. Conditions: an int is one of 64 bits, a string lies in memory. -/
import Derived.Test.YtekkmlhkcdijkaaSumLaws4
import Derived.Deep.RegionHeld3
import Derived.Test.YtekkmlhkcdijkaaShelf
namespace Go.Proofs.Ytekkmlhkcdijkaa
open Go.RowKit
set_option linter.unusedVariables false

/-- the four bytes of a number -/
def four (n : Nat) : List UInt8 := [UInt8.ofNat (n % 256), UInt8.ofNat (n / 256 % 256), UInt8.ofNat (n / 65536 % 256), UInt8.ofNat (n / 16777216 % 256)]
theorem four_length (n : Nat) : (four n).length = 4 := rfl
theorem conv4 (a b c d : Int) (w : World) : (convert 32 9 (.slice (some ⟨w.heap.size, 0, none⟩) 4 4)).run Try.prog (w.alloc (.cells #[.int .u8 a, .int .u8 b, .int .u8 c, .int .u8 d] 5)) = .ok (.string (strOfNums [a, b, c, d])) (w.alloc (.cells #[.int .u8 a, .int .u8 b, .int .u8 c, .int .u8 d] 5)) := by
  refine run_convert_bytes_arg _ 32 5 Try.underlying32 Try.underlying5 w.heap.size 0 4 4 [a, b, c, d] rfl ?_ 9 Try.underlying9
  intro i hi
  rw [(Blk.new w 5 #[.int .u8 a, .int .u8 b, .int .u8 c, .int .u8 d]).cell]
  match i, hi with
  | 0, _ => rfl
  | 1, _ => rfl
  | 2, _ => rfl
  | 3, _ => rfl

/-- a text by its bytes -/
def str (l : List UInt8) : ByteArray := ⟨l.toArray⟩
theorem str_toList (l : List UInt8) : (str l).data.toList = l := rfl
theorem str_size (l : List UInt8) : (str l).size = l.length := rfl
theorem str_of (s : ByteArray) : str s.data.toList = s := by cases s; rfl
theorem str_append (l r : List UInt8) : str l ++ str r = str (l ++ r) := by
  have : (str l ++ str r).data.toList = l ++ r := by simp [str]
  rw [← str_of (str l ++ str r), this]
theorem four_str (n : Nat) (h : (n : Int) < 4294967296) : strOfNums [(n : Int) % 256, (n : Int) / 256 % 256, (n : Int) / 65536 % 256, (n : Int) / 16777216] = str (four n) := by
  simp only [strOfNums, str, four, List.map_cons, List.map_nil]
  rw [show ((n : Int) % 256).toNat = n % 256 by omega, show ((n : Int) / 256 % 256).toNat = n / 256 % 256 by omega, show ((n : Int) / 65536 % 256).toNat = n / 65536 % 256 by omega, show ((n : Int) / 16777216).toNat = n / 16777216 % 256 by omega]

/-- the new block of a number's bytes -/
def numObj (n : Nat) : Obj := .cells #[.int .u8 ((n : Int) % 256), .int .u8 ((n : Int) / 256 % 256), .int .u8 ((n : Int) / 65536 % 256), .int .u8 ((n : Int) / 16777216)] 5
set_option maxHeartbeats 400000 in
theorem number_any (n : Int) (w : World) (h0 : 0 ≤ n) (h1 : n < 4294967296) :
    Calls Try.prog 29 #[.int .i64 n] w fun e w' => e = .returned (.string (str (four n.toNat))) ∧ w.alloc (numObj n.toNat) = w' := by
  obtain ⟨m, rfl⟩ := Int.eq_ofNat_of_zero_le h0
  rw [Int.toNat_natCast]
  have hcv := conv4
  go_enter Try.func29, Try.ntmps29
  go_wp2_with fail
  go_ret
  refine ⟨?_, rfl⟩
  rw [← four_str m h1]
  rfl

def isPage (i v : Int) (s : ByteArray) : Bool := decide (1 ≤ i ∧ i ≤ 16 ∧ 1 ≤ v ∧ v ≤ 2147483647 ∧ s.size ≤ 16)
theorem isPage_iff (i v : Int) (s : ByteArray) : isPage i v s = true ↔ 1 ≤ i ∧ i ≤ 16 ∧ 1 ≤ v ∧ v ≤ 2147483647 ∧ s.size ≤ 16 := by unfold isPage; exact decide_eq_true_iff

theorem pageRight_true {i v : Int} {s : ByteArray} (a : 1 ≤ i) (b : i ≤ 16) (c : 1 ≤ v) (d : v ≤ 2147483647) : isPage i v s = decide ((s.size : Int) ≤ 16) := by
  unfold isPage; rw [decide_eq_decide]; omega
theorem pageRight_false {i v : Int} {s : ByteArray} (h : ¬ (1 ≤ i ∧ i ≤ 16 ∧ 1 ≤ v ∧ v ≤ 2147483647)) : isPage i v s = false := by
  unfold isPage; rw [decide_eq_false_iff_not]; omega

set_option maxHeartbeats 400000 in
theorem pageRight_any (i v : Int) (s : ByteArray) (w : World) :
    Calls Try.prog 23 #[.agg #[.int .i64 i, .int .i64 v, .string s]] w fun e w' => e = .returned (.bool (isPage i v s)) ∧ w.alloc (.cells #[.int .i64 i, .int .i64 v, .string s] 37) = w' := by
  go_enter Try.func23, Try.ntmps23
  go_wp2_with fail
  all_goals go_ret
  all_goals refine ⟨?_, rfl⟩
  · rw [pageRight_true (by assumption) (by assumption) (by assumption) (by assumption)]; rfl
  all_goals (rw [pageRight_false (by omega)]; rfl)

set_option maxHeartbeats 400000 in
theorem refRight_any (i v : Int) (s : ByteArray) (w : World) :
    Calls Try.prog 22 #[.agg #[.int .i64 i, .int .i64 v, .string s]] w fun e w' => e = .returned (.bool (isPage i v s)) ∧ w.alloc (.cells #[.int .i64 i, .int .i64 v, .string s] 37) = w' := by
  go_enter Try.func22, Try.ntmps22
  go_wp2_with fail
  all_goals go_ret
  all_goals refine ⟨?_, rfl⟩
  · rw [pageRight_true (by omega) (by omega) (by omega) (by omega)]
    simp
    omega
  all_goals (rw [pageRight_false (by omega)]; rfl)

set_option maxHeartbeats 400000 in
theorem refFour_any (n : Int) (w : World) (h0 : 0 ≤ n) (h1 : n < 4294967296) :
    Calls Try.prog 32 #[.int .i64 n] w fun e w' => e = .returned (.string (str (four n.toNat))) ∧ w.alloc (numObj n.toNat) = w' := by
  obtain ⟨m, rfl⟩ := Int.eq_ofNat_of_zero_le h0
  rw [Int.toNat_natCast]
  have hcv := conv4
  go_enter Try.func32, Try.ntmps32
  go_wp2_with fail
  go_ret
  refine ⟨?_, rfl⟩
  rw [← four_str m h1]
  rfl

/-- the number of four bytes -/
def num4 (l : List UInt8) : Nat := (l.getD 0 0).toNat + (l.getD 1 0).toNat * 256 + (l.getD 2 0).toNat * 65536 + (l.getD 3 0).toNat * 16777216
theorem num4_lt (l : List UInt8) : num4 l < 4294967296 := by
  unfold num4
  have a := (l.getD 0 0).toNat_lt
  have b := (l.getD 1 0).toNat_lt
  have c := (l.getD 2 0).toNat_lt
  have d := (l.getD 3 0).toNat_lt
  omega
theorem num4_four (n : Nat) (h : n < 4294967296) : num4 (four n) = n := by
  simp only [num4, four, List.getD_cons_zero, List.getD_cons_succ, UInt8.toNat_ofNat']
  omega
theorem four_num4 (l : List UInt8) (h : l.length = 4) : four (num4 l) = l := by
  match l, h with
  | [a, b, c, d], _ =>
    have ha := a.toNat_lt
    have hb := b.toNat_lt
    have hc := c.toNat_lt
    have hd := d.toNat_lt
    simp only [num4, four, List.getD_cons_zero, List.getD_cons_succ, List.cons.injEq, and_true]
    refine ⟨?_, ?_, ?_, ?_⟩
    all_goals (apply UInt8.toNat_inj.1; rw [UInt8.toNat_ofNat']; omega)
theorem four_inj {m n : Nat} (hm : m < 4294967296) (hn : n < 4294967296) (h : four m = four n) : m = n := by
  rw [← num4_four m hm, h, num4_four n hn]

theorem or64 (a b i : Nat) (ha : a < 2 ^ i) (hb : a + b * 2 ^ i < 9223372036854775808) : bits BinOp.or IntKind.i64 (a : Int) ((b * 2 ^ i : Nat) : Int) = ((a + b * 2 ^ i : Nat) : Int) := by
  show IntKind.i64.wrap ((((BitVec.ofInt 64 ((a : Nat) : Int) ||| BitVec.ofInt 64 ((b * 2 ^ i : Nat) : Int) : BitVec 64)).toNat : Nat) : Int) = _
  have h : (BitVec.ofInt 64 ((a : Nat) : Int) ||| BitVec.ofInt 64 ((b * 2 ^ i : Nat) : Int) : BitVec 64).toNat = a + b * 2 ^ i := by
    rw [BitVec.ofInt_natCast, BitVec.ofInt_natCast, BitVec.toNat_or, BitVec.toNat_ofNat, BitVec.toNat_ofNat, Nat.mod_eq_of_lt (by omega), Nat.mod_eq_of_lt (by omega), Nat.or_comm, ← Nat.shiftLeft_eq, ← Nat.shiftLeft_add_eq_or_of_lt ha, Nat.shiftLeft_eq]
    omega
  rw [h]
  generalize a + b * 2 ^ i = m at *
  simp only [IntKind.wrap, IntKind.bits, IntKind.signed]
  simp
  omega
theorem value_form (a b c d : UInt8) : (bits BinOp.or IntKind.i64 (bits BinOp.or IntKind.i64 (bits BinOp.or IntKind.i64 (wrap64 (a.toNat : Int)) (wrap64 (wrap64 (b.toNat : Int) * 256))) (wrap64 (wrap64 (c.toNat : Int) * 65536))) (wrap64 (wrap64 (d.toNat : Int) * 16777216))) = ((a.toNat + b.toNat * 256 + c.toNat * 65536 + d.toNat * 16777216 : Nat) : Int) := by
  have ha := a.toNat_lt
  have hb := b.toNat_lt
  have hc := c.toNat_lt
  have hd := d.toNat_lt
  rw [IntWalk.wrap64_in (a.toNat : Int) ⟨by omega, by omega⟩, IntWalk.wrap64_in (b.toNat : Int) ⟨by omega, by omega⟩, IntWalk.wrap64_in (c.toNat : Int) ⟨by omega, by omega⟩, IntWalk.wrap64_in (d.toNat : Int) ⟨by omega, by omega⟩,
    IntWalk.wrap64_in ((b.toNat : Int) * 256) ⟨by omega, by omega⟩, IntWalk.wrap64_in ((c.toNat : Int) * 65536) ⟨by omega, by omega⟩, IntWalk.wrap64_in ((d.toNat : Int) * 16777216) ⟨by omega, by omega⟩]
  rw [show (b.toNat : Int) * 256 = ((b.toNat * 2 ^ 8 : Nat) : Int) by omega, or64 _ _ _ (by omega) (by omega)]
  rw [show (c.toNat : Int) * 65536 = ((c.toNat * 2 ^ 16 : Nat) : Int) by omega, or64 _ _ _ (by omega) (by omega)]
  rw [show (d.toNat : Int) * 16777216 = ((d.toNat * 2 ^ 24 : Nat) : Int) by omega, or64 _ _ _ (by omega) (by omega)]

set_option maxHeartbeats 400000 in
theorem value_any (s : ByteArray) (w : World) (hs : s.size = 4) :
    Calls Try.prog 31 #[.string s] w fun e w' => e = .returned (.int .i64 (num4 s.data.toList)) ∧ ∃ n, w.drewN n = w' := by
  have h3 : (3 : Int) < (s.size : Int) := by omega
  have h0 : 0 < s.size := by omega
  have h1 : (1 : Int) < (s.size : Int) := by omega
  have h2 : (2 : Int) < (s.size : Int) := by omega
  have hv : ∀ (p0 : 0 < s.size) (p1 : 1 < s.size) (p2 : 2 < s.size) (p3 : 3 < s.size), num4 s.data.toList = s[0].toNat + s[1].toNat * 256 + s[2].toNat * 65536 + s[3].toNat * 16777216 := by
    intro p0 p1 p2 p3
    obtain ⟨⟨l⟩⟩ := s
    match l, hs with
    | [a, b, c, d], _ => rfl
  have HV := Lib.hid hv
  clear hs hv
  go_enter Try.func31, Try.ntmps31
  go_wp2_with fail
  go_quiet (fail)
  go_wp2_with fail
  go_ret
  refine ⟨?_, _, rfl⟩
  rw [HV.out h0 (by omega) (by omega) (by omega), ← value_form]
  rfl

/-- the bytes of a page: three numbers, the sum, the body, and noughts -/
def pageBack (body : List UInt8) : List UInt8 := body ++ List.replicate (16 - body.length) 0
def pageFront (i v : Nat) (body : List UInt8) : List UInt8 := four i ++ four v ++ four body.length
def pageBytes (i v : Nat) (body : List UInt8) : List UInt8 := pageFront i v body ++ four (Sm.sum (pageFront i v body ++ pageBack body)).toNat ++ pageBack body

theorem repeatL_zero (m : Nat) : Lib.repeatL [0] m = List.replicate m (0 : UInt8) := by
  induction m with
  | zero => rfl
  | succ m ih => rw [List.replicate_succ, ← ih]; rfl
theorem repeat_noughts (m : Nat) (w : World) (hm : m ≤ 32) :
    Calls Try.prog 30 #[.string ⟨#[0]⟩, .int .i64 m] w fun e w' => e = .returned (.string (str (List.replicate m 0))) ∧ Below w.heap.size w w' := by
  have h := Try.strings_Repeat ⟨#[0]⟩ m w (by omega) (by simp [ByteArray.size]; omega)
  rw [show (ByteArray.data ⟨#[0]⟩).toList = [0] from rfl, repeatL_zero] at h
  exact h

theorem Below3 (W : World) (A B C : Obj) : Below W.heap.size W (((W.alloc A).alloc B).alloc C).drew :=
  ((((Below.refl _ _).alloc (Nat.le_refl _) _).alloc (by simp) _).alloc (by simp; omega) _).drew

set_option maxRecDepth 100000 in
set_option maxHeartbeats 400000 in
theorem put_no (i v : Int) (s : ByteArray) (w : World) (h : isPage i v s = false) :
    Calls Try.prog 21 #[.agg #[.int .i64 i, .int .i64 v, .string s]] w fun e w' => e = .returned (.tuple #[.string ByteArray.empty, .int .i64 1]) ∧ Below w.heap.size w w' := by
  go_enter Try.func21, Try.ntmps21
  go_wp2_with fail
  refine (pageRight_any _ _ _ _).mono ?_
  rw [h]
  clear h
  rintro e W1 ⟨rfl, rfl⟩
  go_wp2_with fail
  go_ret2
  exact ⟨rfl, ((Below.refl _ _).alloc (Nat.le_refl _) _).alloc (by simp) _⟩

set_option maxRecDepth 100000 in
set_option maxHeartbeats 400000 in
theorem put_yes (i v : Nat) (l : List UInt8) (w : World) (h : isPage i v (str l) = true) :
    Calls Try.prog 21 #[.agg #[.int .i64 i, .int .i64 v, .string (str l)]] w fun e w' => e = .returned (.tuple #[.string (str (pageBytes i v l)), .int .i64 0]) ∧ Below w.heap.size w w' := by
  have hb := (isPage_iff i v (str l)).1 h
  go_enter Try.func21, Try.ntmps21
  go_wp2_with fail
  refine (pageRight_any _ _ _ _).mono ?_
  rw [h]
  clear h
  obtain ⟨hb1, hb2, hb3, hb4, hb5⟩ := hb
  rw [str_size] at hb5
  rintro e W1 ⟨rfl, rfl⟩
  have hap := str_append
  have hsz := str_size
  have hfl := four_length
  have hblk := (Blk.new w 37 #[.int .i64 i, .int .i64 v, .string (str l)]).alloc (.cells #[.int .i64 i, .int .i64 v, .string (str l)] 37)
  have hbel : Below w.heap.size w ((w.alloc (.cells #[.int .i64 i, .int .i64 v, .string (str l)] 37)).alloc (.cells #[.int .i64 i, .int .i64 v, .string (str l)] 37)) := ((Below.refl _ _).alloc (Nat.le_refl _) _).alloc (by simp) _
  generalize (w.alloc (.cells #[.int .i64 i, .int .i64 v, .string (str l)] 37)).alloc (.cells #[.int .i64 i, .int .i64 v, .string (str l)] 37) = W at hblk hbel
  have c0 : W.cell? ⟨w.heap.size, 0, none⟩ = some (.int .i64 i) := hblk.cell 0
  have c1 : W.cell? ⟨w.heap.size, 1, none⟩ = some (.int .i64 v) := hblk.cell 1
  have c2 : W.cell? ⟨w.heap.size, 2, none⟩ = some (.string (str l)) := hblk.cell 2
  have hlt := hblk.lt
  have hk := fun A B C => (Below3 W A B C)
  have HK := Lib.hid hk
  clear hk
  go_wp2_with fail
  go_region_held3 (fun w' => w'.cell? ⟨w.heap.size, 0, none⟩ = some (.int .i64 i) ∧ w'.cell? ⟨w.heap.size, 1, none⟩ = some (.int .i64 v) ∧ w'.cell? ⟨w.heap.size, 2, none⟩ = some (.string (str l))) (first | (go_keep; done) | (go_split_ands; refine ⟨?_, ?_, ?_⟩; (exact ((HK.out _ _ _).cell (p := ⟨w.heap.size, 0, none⟩) hlt).trans c0); (exact ((HK.out _ _ _).cell (p := ⟨w.heap.size, 1, none⟩) hlt).trans c1); (exact ((HK.out _ _ _).cell (p := ⟨w.heap.size, 2, none⟩) hlt).trans c2)))
    (first | (go_at_call 29; refine (number_any _ _ (by omega) (by omega)).mono ?_; rintro e w' ⟨rfl, rfl⟩))
  go_wp2_with fail
  have hblk2 : Blk (((W.alloc (numObj i)).alloc (numObj v)).alloc (numObj l.length)).drew w.heap.size 37 #[.int .i64 i, .int .i64 v, .string (str l)] := hblk.keep (HK.out _ _ _)
  have hbel2 : Below w.heap.size w (((W.alloc (numObj i)).alloc (numObj v)).alloc (numObj l.length)).drew := hbel.trans ((HK.out _ _ _).mono (by omega))
  generalize (((W.alloc (numObj i)).alloc (numObj v)).alloc (numObj l.length)).drew = W2 at hblk2 hbel2
  clear hblk hbel c0 c1 c2 HK hlt
  have c2 : W2.cell? ⟨w.heap.size, 2, none⟩ = some (.string (str l)) := hblk2.cell 2
  have hlt := hblk2.lt
  obtain ⟨m, hm⟩ : ∃ m, l.length + m = 16 := ⟨16 - l.length, by omega⟩
  have hsub : (16 : Int) - (l.length : Int) = (m : Int) := by omega
  have hsubw : IntKind.i64.wrap (m : Int) = (m : Int) := IntWalk.i64_in _ (by omega)
  have hm32 : m ≤ 32 := by omega
  have hlm : ¬ 9223372036854775807 < l.length + m := by omega
  have hlm2 : l.length + m ≤ 9223372036854775807 := by omega
  have HM := Lib.hid hm
  clear hm
  go_region_held3 (fun w' => w'.cell? ⟨w.heap.size, 2, none⟩ = some (.string (str l))) (first | (go_keep; done) | (exact (hBr.cell (p := ⟨w.heap.size, 2, none⟩) hlt).trans c2))
    (first | (go_at_call 30; ((with_reducible refine (repeat_noughts m _ hm32).mono ?_); rintro e wr ⟨rfl, hBr⟩)))
  go_wp2_with fail
  have hbel3 : Below w.heap.size w wr := hbel2.drew.trans (hBr.mono hbel2.size)
  clear hblk2 hbel2 hBr c2 hlt
  refine (table_abs _).mono ?_
  rintro e W3 ⟨rfl, hT, hlt3, hB3⟩
  have hbel4 : Below w.heap.size w W3 := hbel3.trans (hB3.mono hbel3.size)
  clear hB3 hbel3
  have hfl3 : ¬ 9223372036854775807 < 12 + (l.length + m) := by omega
  go_wp2_with fail
  have hall : (str (four i ++ (four v ++ (four l.length ++ (l ++ List.replicate m 0))))).size ≤ maxLen := by
    rw [str_size]; simp only [List.length_append, four_length, List.length_replicate]; unfold maxLen; omega
  refine (sum_tab _ _ _ hall hT).mono ?_
  rintro e w' ⟨rfl, rfl⟩
  rw [str_toList]
  have hn := Sm.sum_nonneg (four i ++ (four v ++ (four l.length ++ (l ++ List.replicate m 0))))
  generalize hsum : Sm.sum (four i ++ (four v ++ (four l.length ++ (l ++ List.replicate m 0)))) = n at hn
  have HSUM := Lib.hid hsum
  clear hsum hall hT hlt3
  obtain ⟨hn1, hn2⟩ := hn
  have hl3 : ¬ 9223372036854775807 < 12 + (4 + (l.length + m)) := by omega
  have hl4 : ¬ 9223372036854775807 < 4 + (4 + (4 + (4 + (l.length + m)))) := by omega
  go_wp2_with fail
  refine (number_any _ _ hn1 hn2).mono ?_
  rintro e w' ⟨rfl, rfl⟩
  go_wp2_with fail
  go_ret2
  refine ⟨?_, hbel4.alloc hbel4.size _⟩
  have hfin : pageBytes i v l = four i ++ (four v ++ (four l.length ++ (four n.toNat ++ (l ++ List.replicate m 0)))) := by
    unfold pageBytes pageFront pageBack
    rw [show 16 - l.length = m by have := HM.out; omega]
    simp only [List.append_assoc]
    rw [HSUM.out]
  rw [hfin]
  rfl
end Go.Proofs.Ytekkmlhkcdijkaa
