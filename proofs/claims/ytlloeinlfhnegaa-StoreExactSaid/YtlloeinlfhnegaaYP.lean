/- THE WALKS of layer 2: the numbers of four bytes; what is a page. Conditions: an int is one of 64 bits, a string lies in memory. -/
import Derived.Test.YtlloeinlfhnegaaYS
import Derived.Deep.RegionHeld3
import Derived.Test.YtlloeinlfhnegaaShelf
import Derived.Deep.RegionWith
import Derived.Lib.SmallJoins
import Derived.ProofKit
import Derived.BigRegion
namespace Go.Proofs.Ytlloeinlfhnegaa
open Go.RowKit
set_option linter.unusedVariables false

/-- the four bytes of a number -/
def four (n : Nat) : List UInt8 := [UInt8.ofNat (n % 256), UInt8.ofNat (n / 256 % 256), UInt8.ofNat (n / 65536 % 256), UInt8.ofNat (n / 16777216 % 256)]
theorem four_length (n : Nat) : (four n).length = 4 := rfl
theorem conv4 (a b c d : Int) (w : World) : (convert 89 9 (.slice (some ⟨w.heap.size, 0, none⟩) 4 4)).run Try.prog (w.alloc (.cells #[.int .u8 a, .int .u8 b, .int .u8 c, .int .u8 d] 5)) = .ok (.string (strOfNums [a, b, c, d])) (w.alloc (.cells #[.int .u8 a, .int .u8 b, .int .u8 c, .int .u8 d] 5)) := by
  refine run_convert_bytes_arg _ 89 5 Try.underlying89 Try.underlying5 w.heap.size 0 4 4 [a, b, c, d] rfl ?_ 9 Try.underlying9
  intro i hi
  rw [(Blk.new w 5 #[.int .u8 a, .int .u8 b, .int .u8 c, .int .u8 d]).cell]
  match i, hi with
  | 0, _ => rfl
  | 1, _ => rfl
  | 2, _ => rfl
  | 3, _ => rfl

/-- a text by its bytes -/
def str (l : List UInt8) : ByteArray := ⟨l.toArray⟩
theorem str_toList (l : List UInt8) : (str l).data.toList = l := rfl
theorem str_size (l : List UInt8) : (str l).size = l.length := rfl
theorem str_of (s : ByteArray) : str s.data.toList = s := by cases s; rfl
theorem str_append (l r : List UInt8) : str l ++ str r = str (l ++ r) := by
  have : (str l ++ str r).data.toList = l ++ r := by simp [str]
  rw [← str_of (str l ++ str r), this]
theorem four_str (n : Nat) (h : (n : Int) < 4294967296) : strOfNums [(n : Int) % 256, (n : Int) / 256 % 256, (n : Int) / 65536 % 256, (n : Int) / 16777216] = str (four n) := by
  simp only [strOfNums, str, four, List.map_cons, List.map_nil]
  rw [show ((n : Int) % 256).toNat = n % 256 by omega, show ((n : Int) / 256 % 256).toNat = n / 256 % 256 by omega, show ((n : Int) / 65536 % 256).toNat = n / 65536 % 256 by omega, show ((n : Int) / 16777216).toNat = n / 16777216 % 256 by omega]

/-- the new block of a number's bytes -/
def numObj (n : Nat) : Obj := .cells #[.int .u8 ((n : Int) % 256), .int .u8 ((n : Int) / 256 % 256), .int .u8 ((n : Int) / 65536 % 256), .int .u8 ((n : Int) / 16777216)] 5
set_option maxHeartbeats 400000 in
theorem number_any (n : Int) (w : World) (h0 : 0 ≤ n) (h1 : n < 4294967296) :
    Calls Try.prog 60 #[.int .i64 n] w fun e w' => e = .returned (.string (str (four n.toNat))) ∧ w.alloc (numObj n.toNat) = w' := by
  obtain ⟨m, rfl⟩ := Int.eq_ofNat_of_zero_le h0
  rw [Int.toNat_natCast]
  have hcv := conv4
  go_enter Try.func60, Try.ntmps60
  go_wp2_with fail
  go_ret
  refine ⟨?_, rfl⟩
  rw [← four_str m h1]
  rfl

def isPage (i v : Int) (s : ByteArray) : Bool := decide (1 ≤ i ∧ i ≤ 16 ∧ 1 ≤ v ∧ v ≤ 2147483647 ∧ s.size ≤ 16)
theorem isPage_iff (i v : Int) (s : ByteArray) : isPage i v s = true ↔ 1 ≤ i ∧ i ≤ 16 ∧ 1 ≤ v ∧ v ≤ 2147483647 ∧ s.size ≤ 16 := by unfold isPage; exact decide_eq_true_iff

theorem pageRight_true {i v : Int} {s : ByteArray} (a : 1 ≤ i) (b : i ≤ 16) (c : 1 ≤ v) (d : v ≤ 2147483647) : isPage i v s = decide ((s.size : Int) ≤ 16) := by
  unfold isPage; rw [decide_eq_decide]; omega
theorem pageRight_false {i v : Int} {s : ByteArray} (h : ¬ (1 ≤ i ∧ i ≤ 16 ∧ 1 ≤ v ∧ v ≤ 2147483647)) : isPage i v s = false := by
  unfold isPage; rw [decide_eq_false_iff_not]; omega

set_option maxHeartbeats 400000 in
theorem pageRight_any (i v : Int) (s : ByteArray) (w : World) :
    Calls Try.prog 59 #[.agg #[.int .i64 i, .int .i64 v, .string s]] w fun e w' => e = .returned (.bool (isPage i v s)) ∧ w.alloc (.cells #[.int .i64 i, .int .i64 v, .string s] 27) = w' := by
  go_enter Try.func59, Try.ntmps59
  go_wp2_with fail
  all_goals go_ret
  all_goals refine ⟨?_, rfl⟩
  · rw [pageRight_true (by assumption) (by assumption) (by assumption) (by assumption)]; rfl
  all_goals (rw [pageRight_false (by omega)]; rfl)

set_option maxHeartbeats 400000 in
theorem refRight_any (i v : Int) (s : ByteArray) (w : World) :
    Calls Try.prog 19 #[.agg #[.int .i64 i, .int .i64 v, .string s]] w fun e w' => e = .returned (.bool (isPage i v s)) ∧ w.alloc (.cells #[.int .i64 i, .int .i64 v, .string s] 27) = w' := by
  go_enter Try.func19, Try.ntmps19
  go_wp2_with fail
  all_goals go_ret
  all_goals refine ⟨?_, rfl⟩
  · rw [pageRight_true (by omega) (by omega) (by omega) (by omega)]
    simp
    omega
  all_goals (rw [pageRight_false (by omega)]; rfl)

set_option maxHeartbeats 400000 in
theorem refFour_any (n : Int) (w : World) (h0 : 0 ≤ n) (h1 : n < 4294967296) :
    Calls Try.prog 57 #[.int .i64 n] w fun e w' => e = .returned (.string (str (four n.toNat))) ∧ w.alloc (numObj n.toNat) = w' := by
  obtain ⟨m, rfl⟩ := Int.eq_ofNat_of_zero_le h0
  rw [Int.toNat_natCast]
  have hcv := conv4
  go_enter Try.func57, Try.ntmps57
  go_wp2_with fail
  go_ret
  refine ⟨?_, rfl⟩
  rw [← four_str m h1]
  rfl

/-- the number of four bytes -/
def num4 (l : List UInt8) : Nat := (l.getD 0 0).toNat + (l.getD 1 0).toNat * 256 + (l.getD 2 0).toNat * 65536 + (l.getD 3 0).toNat * 16777216
theorem num4_lt (l : List UInt8) : num4 l < 4294967296 := by
  unfold num4
  have a := (l.getD 0 0).toNat_lt
  have b := (l.getD 1 0).toNat_lt
  have c := (l.getD 2 0).toNat_lt
  have d := (l.getD 3 0).toNat_lt
  omega
theorem num4_four (n : Nat) (h : n < 4294967296) : num4 (four n) = n := by
  simp only [num4, four, List.getD_cons_zero, List.getD_cons_succ, UInt8.toNat_ofNat']
  omega
theorem four_num4 (l : List UInt8) (h : l.length = 4) : four (num4 l) = l := by
  match l, h with
  | [a, b, c, d], _ =>
    have ha := a.toNat_lt
    have hb := b.toNat_lt
    have hc := c.toNat_lt
    have hd := d.toNat_lt
    simp only [num4, four, List.getD_cons_zero, List.getD_cons_succ, List.cons.injEq, and_true]
    refine ⟨?_, ?_, ?_, ?_⟩
    all_goals (apply UInt8.toNat_inj.1; rw [UInt8.toNat_ofNat']; omega)
theorem four_inj {m n : Nat} (hm : m < 4294967296) (hn : n < 4294967296) (h : four m = four n) : m = n := by
  rw [← num4_four m hm, h, num4_four n hn]

theorem or64 (a b i : Nat) (ha : a < 2 ^ i) (hb : a + b * 2 ^ i < 9223372036854775808) : bits BinOp.or IntKind.i64 (a : Int) ((b * 2 ^ i : Nat) : Int) = ((a + b * 2 ^ i : Nat) : Int) := by
  show IntKind.i64.wrap ((((BitVec.ofInt 64 ((a : Nat) : Int) ||| BitVec.ofInt 64 ((b * 2 ^ i : Nat) : Int) : BitVec 64)).toNat : Nat) : Int) = _
  have h : (BitVec.ofInt 64 ((a : Nat) : Int) ||| BitVec.ofInt 64 ((b * 2 ^ i : Nat) : Int) : BitVec 64).toNat = a + b * 2 ^ i := by
    rw [BitVec.ofInt_natCast, BitVec.ofInt_natCast, BitVec.toNat_or, BitVec.toNat_ofNat, BitVec.toNat_ofNat, Nat.mod_eq_of_lt (by omega), Nat.mod_eq_of_lt (by omega), Nat.or_comm, ← Nat.shiftLeft_eq, ← Nat.shiftLeft_add_eq_or_of_lt ha, Nat.shiftLeft_eq]
    omega
  rw [h]
  generalize a + b * 2 ^ i = m at *
  simp only [IntKind.wrap, IntKind.bits, IntKind.signed]
  simp
  omega
theorem value_form (a b c d : UInt8) : (bits BinOp.or IntKind.i64 (bits BinOp.or IntKind.i64 (bits BinOp.or IntKind.i64 (wrap64 (a.toNat : Int)) (wrap64 (wrap64 (b.toNat : Int) * 256))) (wrap64 (wrap64 (c.toNat : Int) * 65536))) (wrap64 (wrap64 (d.toNat : Int) * 16777216))) = ((a.toNat + b.toNat * 256 + c.toNat * 65536 + d.toNat * 16777216 : Nat) : Int) := by
  have ha := a.toNat_lt
  have hb := b.toNat_lt
  have hc := c.toNat_lt
  have hd := d.toNat_lt
  rw [IntWalk.wrap64_in (a.toNat : Int) ⟨by omega, by omega⟩, IntWalk.wrap64_in (b.toNat : Int) ⟨by omega, by omega⟩, IntWalk.wrap64_in (c.toNat : Int) ⟨by omega, by omega⟩, IntWalk.wrap64_in (d.toNat : Int) ⟨by omega, by omega⟩,
    IntWalk.wrap64_in ((b.toNat : Int) * 256) ⟨by omega, by omega⟩, IntWalk.wrap64_in ((c.toNat : Int) * 65536) ⟨by omega, by omega⟩, IntWalk.wrap64_in ((d.toNat : Int) * 16777216) ⟨by omega, by omega⟩]
  rw [show (b.toNat : Int) * 256 = ((b.toNat * 2 ^ 8 : Nat) : Int) by omega, or64 _ _ _ (by omega) (by omega)]
  rw [show (c.toNat : Int) * 65536 = ((c.toNat * 2 ^ 16 : Nat) : Int) by omega, or64 _ _ _ (by omega) (by omega)]
  rw [show (d.toNat : Int) * 16777216 = ((d.toNat * 2 ^ 24 : Nat) : Int) by omega, or64 _ _ _ (by omega) (by omega)]

set_option maxHeartbeats 400000 in
theorem value_any (s : ByteArray) (w : World) (hs : s.size = 4) :
    Calls Try.prog 52 #[.string s] w fun e w' => e = .returned (.int .i64 (num4 s.data.toList)) ∧ ∃ n, w.drewN n = w' := by
  have h3 : (3 : Int) < (s.size : Int) := by omega
  have h0 : 0 < s.size := by omega
  have h1 : (1 : Int) < (s.size : Int) := by omega
  have h2 : (2 : Int) < (s.size : Int) := by omega
  have hv : ∀ (p0 : 0 < s.size) (p1 : 1 < s.size) (p2 : 2 < s.size) (p3 : 3 < s.size), num4 s.data.toList = s[0].toNat + s[1].toNat * 256 + s[2].toNat * 65536 + s[3].toNat * 16777216 := by
    intro p0 p1 p2 p3
    obtain ⟨⟨l⟩⟩ := s
    match l, hs with
    | [a, b, c, d], _ => rfl
  have HV := Lib.hid hv
  clear hs hv
  go_enter Try.func52, Try.ntmps52
  go_wp2_with fail
  go_quiet (fail)
  go_wp2_with fail
  go_ret
  refine ⟨?_, _, rfl⟩
  rw [HV.out h0 (by omega) (by omega) (by omega), ← value_form]
  rfl

/-- the bytes of a page: three numbers, the sum, the body, and noughts -/
def pageBack (body : List UInt8) : List UInt8 := body ++ List.replicate (16 - body.length) 0
def pageFront (i v : Nat) (body : List UInt8) : List UInt8 := four i ++ four v ++ four body.length
def pageBytes (i v : Nat) (body : List UInt8) : List UInt8 := pageFront i v body ++ four (Sm.sum (pageFront i v body ++ pageBack body)).toNat ++ pageBack body

theorem repeatL_zero (m : Nat) : Lib.repeatL [0] m = List.replicate m (0 : UInt8) := by
  induction m with
  | zero => rfl
  | succ m ih => rw [List.replicate_succ, ← ih]; rfl
theorem repeat_noughts (m : Nat) (w : World) (hm : m ≤ 32) :
    Calls Try.prog 41 #[.string ⟨#[0]⟩, .int .i64 m] w fun e w' => e = .returned (.string (str (List.replicate m 0))) ∧ Below w.heap.size w w' := by
  have h := Try.strings_Repeat ⟨#[0]⟩ m w (by omega) (by simp [ByteArray.size]; omega)
  rw [show (ByteArray.data ⟨#[0]⟩).toList = [0] from rfl, repeatL_zero] at h
  exact h

theorem Below3 (W : World) (A B C : Obj) : Below W.heap.size W (((W.alloc A).alloc B).alloc C).drew :=
  ((((Below.refl _ _).alloc (Nat.le_refl _) _).alloc (by simp) _).alloc (by simp; omega) _).drew

set_option maxRecDepth 100000 in
set_option maxHeartbeats 400000 in
theorem y_put_no (i v : Int) (s : ByteArray) (w : World) (h : isPage i v s = false) :
    Calls Try.prog 36 #[.agg #[.int .i64 i, .int .i64 v, .string s]] w fun e w' => e = .returned (.tuple #[.string ByteArray.empty, .int .i64 1]) ∧ Below w.heap.size w w' := by
  go_enter Try.func36, Try.ntmps36
  go_wp2_with fail
  refine (pageRight_any _ _ _ _).mono ?_
  rw [h]
  clear h
  rintro e W1 ⟨rfl, rfl⟩
  go_wp2_with fail
  go_ret2
  exact ⟨rfl, ((Below.refl _ _).alloc (Nat.le_refl _) _).alloc (by simp) _⟩

set_option maxRecDepth 100000 in
set_option maxHeartbeats 400000 in
theorem put_yes (i v : Nat) (l : List UInt8) (w : World) (h : isPage i v (str l) = true) :
    Calls Try.prog 36 #[.agg #[.int .i64 i, .int .i64 v, .string (str l)]] w fun e w' => e = .returned (.tuple #[.string (str (pageBytes i v l)), .int .i64 0]) ∧ Below w.heap.size w w' := by
  have hb := (isPage_iff i v (str l)).1 h
  go_enter Try.func36, Try.ntmps36
  go_wp2_with fail
  refine (pageRight_any _ _ _ _).mono ?_
  rw [h]
  clear h
  obtain ⟨hb1, hb2, hb3, hb4, hb5⟩ := hb
  rw [str_size] at hb5
  rintro e W1 ⟨rfl, rfl⟩
  have hap := str_append
  have hsz := str_size
  have hfl := four_length
  have hblk := (Blk.new w 27 #[.int .i64 i, .int .i64 v, .string (str l)]).alloc (.cells #[.int .i64 i, .int .i64 v, .string (str l)] 27)
  have hbel : Below w.heap.size w ((w.alloc (.cells #[.int .i64 i, .int .i64 v, .string (str l)] 27)).alloc (.cells #[.int .i64 i, .int .i64 v, .string (str l)] 27)) := ((Below.refl _ _).alloc (Nat.le_refl _) _).alloc (by simp) _
  generalize (w.alloc (.cells #[.int .i64 i, .int .i64 v, .string (str l)] 27)).alloc (.cells #[.int .i64 i, .int .i64 v, .string (str l)] 27) = W at hblk hbel
  have c0 : W.cell? ⟨w.heap.size, 0, none⟩ = some (.int .i64 i) := hblk.cell 0
  have c1 : W.cell? ⟨w.heap.size, 1, none⟩ = some (.int .i64 v) := hblk.cell 1
  have c2 : W.cell? ⟨w.heap.size, 2, none⟩ = some (.string (str l)) := hblk.cell 2
  have hlt := hblk.lt
  have hk := fun A B C => (Below3 W A B C)
  have HK := Lib.hid hk
  clear hk
  go_wp2_with fail
  go_region_held3 (fun w' => w'.cell? ⟨w.heap.size, 0, none⟩ = some (.int .i64 i) ∧ w'.cell? ⟨w.heap.size, 1, none⟩ = some (.int .i64 v) ∧ w'.cell? ⟨w.heap.size, 2, none⟩ = some (.string (str l))) (first | (go_keep; done) | (go_split_ands; refine ⟨?_, ?_, ?_⟩; (exact ((HK.out _ _ _).cell (p := ⟨w.heap.size, 0, none⟩) hlt).trans c0); (exact ((HK.out _ _ _).cell (p := ⟨w.heap.size, 1, none⟩) hlt).trans c1); (exact ((HK.out _ _ _).cell (p := ⟨w.heap.size, 2, none⟩) hlt).trans c2)))
    (first | (go_at_call 60; refine (number_any _ _ (by omega) (by omega)).mono ?_; rintro e w' ⟨rfl, rfl⟩))
  go_wp2_with fail
  have hblk2 : Blk (((W.alloc (numObj i)).alloc (numObj v)).alloc (numObj l.length)).drew w.heap.size 27 #[.int .i64 i, .int .i64 v, .string (str l)] := hblk.keep (HK.out _ _ _)
  have hbel2 : Below w.heap.size w (((W.alloc (numObj i)).alloc (numObj v)).alloc (numObj l.length)).drew := hbel.trans ((HK.out _ _ _).mono (by omega))
  generalize (((W.alloc (numObj i)).alloc (numObj v)).alloc (numObj l.length)).drew = W2 at hblk2 hbel2
  clear hblk hbel c0 c1 c2 HK hlt
  have c2 : W2.cell? ⟨w.heap.size, 2, none⟩ = some (.string (str l)) := hblk2.cell 2
  have hlt := hblk2.lt
  obtain ⟨m, hm⟩ : ∃ m, l.length + m = 16 := ⟨16 - l.length, by omega⟩
  have hsub : (16 : Int) - (l.length : Int) = (m : Int) := by omega
  have hsubw : IntKind.i64.wrap (m : Int) = (m : Int) := IntWalk.i64_in _ (by omega)
  have hm32 : m ≤ 32 := by omega
  have hlm : ¬ 9223372036854775807 < l.length + m := by omega
  have hlm2 : l.length + m ≤ 9223372036854775807 := by omega
  have HM := Lib.hid hm
  clear hm
  go_region_held3 (fun w' => w'.cell? ⟨w.heap.size, 2, none⟩ = some (.string (str l))) (first | (go_keep; done) | (exact (hBr.cell (p := ⟨w.heap.size, 2, none⟩) hlt).trans c2))
    (first | (go_at_call 41; ((with_reducible refine (repeat_noughts m _ hm32).mono ?_); rintro e wr ⟨rfl, hBr⟩)))
  go_wp2_with fail
  have hbel3 : Below w.heap.size w wr := hbel2.drew.trans (hBr.mono hbel2.size)
  clear hblk2 hbel2 hBr c2 hlt
  refine (table_abs _).mono ?_
  rintro e W3 ⟨rfl, hT, hlt3, hB3⟩
  have hbel4 : Below w.heap.size w W3 := hbel3.trans (hB3.mono hbel3.size)
  clear hB3 hbel3
  have hfl3 : ¬ 9223372036854775807 < 12 + (l.length + m) := by omega
  go_wp2_with fail
  have hall : (str (four i ++ (four v ++ (four l.length ++ (l ++ List.replicate m 0))))).size ≤ maxLen := by
    rw [str_size]; simp only [List.length_append, four_length, List.length_replicate]; unfold maxLen; omega
  refine (sum_tab _ _ _ hall hT).mono ?_
  rintro e w' ⟨rfl, rfl⟩
  rw [str_toList]
  have hn := Sm.sum_nonneg (four i ++ (four v ++ (four l.length ++ (l ++ List.replicate m 0))))
  generalize hsum : Sm.sum (four i ++ (four v ++ (four l.length ++ (l ++ List.replicate m 0)))) = n at hn
  have HSUM := Lib.hid hsum
  clear hsum hall hT hlt3
  obtain ⟨hn1, hn2⟩ := hn
  have hl3 : ¬ 9223372036854775807 < 12 + (4 + (l.length + m)) := by omega
  have hl4 : ¬ 9223372036854775807 < 4 + (4 + (4 + (4 + (l.length + m)))) := by omega
  go_wp2_with fail
  refine (number_any _ _ hn1 hn2).mono ?_
  rintro e w' ⟨rfl, rfl⟩
  go_wp2_with fail
  go_ret2
  refine ⟨?_, hbel4.alloc hbel4.size _⟩
  have hfin : pageBytes i v l = four i ++ (four v ++ (four l.length ++ (four n.toNat ++ (l ++ List.replicate m 0)))) := by
    unfold pageBytes pageFront pageBack
    rw [show 16 - l.length = m by have := HM.out; omega]
    simp only [List.append_assoc]
    rw [HSUM.out]
  rw [hfin]
  rfl
end Go.Proofs.Ytlloeinlfhnegaa
namespace Go.Proofs.Ytlloeinlfhnegaa
open Go.RowKit
set_option linter.unusedVariables false

theorem str_extract (l : List UInt8) (a b : Nat) : (str l).extract a b = str ((l.take b).drop a) := by
  have : ((str l).extract a b).data.toList = (l.take b).drop a := by
    simp [str, ByteArray.data_extract, List.extract_eq_take_drop, List.drop_take]
  rw [← str_of ((str l).extract a b), this]
theorem str_list (l : List UInt8) : (str l).toList = l := Go.ByteArray.toList_eq _

/-- what a Take tells: a page's three parts, and an error -/
def pageVal (i v : Nat) (b : List UInt8) : Value := .agg #[.int .i64 i, .int .i64 v, .string (str b)]
/-- the walk's post of Take -/
def Took (i v : Nat) (b : List UInt8) (e : Int) (w : World) (en : Ending) (w' : World) : Prop :=
  en = .returned (.tuple #[pageVal i v b, .int .i64 e]) ∧ Below w.heap.size w w'

/-- three cells of a block of the call's own -/
theorem Blk.three {w : World} {g t : Nat} {a b c : Value} (h : Blk w g t #[a, b, c]) : w.cell? ⟨g, 0, none⟩ = some a ∧ w.cell? ⟨g, 1, none⟩ = some b ∧ w.cell? ⟨g, 2, none⟩ = some c ∧
    w.frozen? ⟨g, 0, none⟩ = false ∧ w.frozen? ⟨g, 1, none⟩ = false ∧ w.frozen? ⟨g, 2, none⟩ = false :=
  ⟨h.cell 0, h.cell 1, h.cell 2, h.frozen 0, h.frozen 1, h.frozen 2⟩

theorem _root_.Go.RowKit.Below.set3 {B : Nat} {w W : World} (h : Below B w W) {g : Nat} (hg : B ≤ g) (a b c : Value) :
    Below B w (((W.setCell ⟨g, 0, none⟩ a).setCell ⟨g, 1, none⟩ b).setCell ⟨g, 2, none⟩ c) :=
  ((h.setCell (by exact hg) _).setCell (by exact hg) _).setCell (by exact hg) _

set_option maxRecDepth 100000 in
set_option maxHeartbeats 400000 in
theorem take_form (l : List UInt8) (w : World) (h : l.length ≠ 32) :
    Calls Try.prog 29 #[.string (str l)] w (Took 0 0 [] 2 w) := by
  have hsz := str_size
  have ht : ((l.length : Int) != 32) = true := by simp; omega
  go_enter Try.func29, Try.ntmps29
  go_wp2_with fail
  refine bodyPost_ret (v := .tuple #[.agg #[.int .i64 0, .int .i64 0, .string ⟨#[]⟩], .int .i64 2]) (by simp [results, Try.results29, go_sem]) rfl ⟨rfl, (Below.refl _ _).alloc (Nat.le_refl _) _⟩

set_option maxRecDepth 100000 in
set_option maxHeartbeats 400000 in
theorem take_none (w : World) :
    Calls Try.prog 29 #[.string (str (List.replicate 32 0))] w (Took 0 0 [] 3 w) := by
  have hsz := str_size
  have htl := str_list
  generalize hl : List.replicate 32 (0 : UInt8) = l
  have hln : (l.length : Int) = 32 := by rw [← hl]; rfl
  have hne : ((l.length : Int) != 32) = false := by rw [hln]; rfl
  have HL := Lib.hid hl
  clear hl hln
  go_enter Try.func29, Try.ntmps29
  go_wp2_with fail
  refine (repeat_noughts 32 _ (by omega)).mono ?_
  rw [HL.out]
  rintro e W1 ⟨rfl, hB⟩
  have hb := (Blk.new w 27 #[.int .i64 0, .int .i64 0, .string ⟨#[]⟩]).keep hB
  have hbel : Below w.heap.size w W1 := ((Below.refl _ _).alloc (Nat.le_refl _) _).trans (hB.mono (by simp))
  clear hB
  obtain ⟨c0, c1, c2, f0, f1, f2⟩ := hb.three
  go_wp2_with fail
  refine bodyPost_ret (v := .tuple #[.agg #[.int .i64 0, .int .i64 0, .string ⟨#[]⟩], .int .i64 3]) (by simp [results, Try.results29, go_sem, c0, c1, c2]) rfl ⟨rfl, ?_⟩
  exact hbel.set3 (Nat.le_refl _) _ _ _

set_option maxRecDepth 100000 in
set_option maxHeartbeats 400000 in
theorem take_long (l : List UInt8) (w : World) (h : l.length = 32) (h0 : l ≠ List.replicate 32 0) (hn : 16 < num4 ((l.take 12).drop 8)) :
    Calls Try.prog 29 #[.string (str l)] w (Took 0 0 [] 9 w) := by
  have hsz := str_size
  have hex := str_extract
  have hne : ((l.length : Int) != 32) = false := by rw [h]; rfl
  have h32 : 32 ≤ l.length := by omega
  have htl := str_list
  have hq : (l == List.replicate 32 0) = false := beq_eq_false_iff_ne.2 h0
  generalize hl : List.replicate 32 (0 : UInt8) = r at hq
  have HL := Lib.hid hl
  have hv := value_any (str ((l.take 12).drop 8))
  rw [str_toList] at hv
  have HV := Lib.hid (hv · (by simp [str_size]; omega))
  generalize num4 ((l.take 12).drop 8) = n at hn HV
  clear hl h h0 hv
  go_enter Try.func29, Try.ntmps29
  go_wp2_with fail
  refine (repeat_noughts 32 _ (by omega)).mono ?_
  rw [HL.out]
  rintro e W1 ⟨rfl, hB⟩
  have hb := (Blk.new w 27 #[.int .i64 0, .int .i64 0, .string ⟨#[]⟩]).keep hB
  have hbel : Below w.heap.size w W1 := ((Below.refl _ _).alloc (Nat.le_refl _) _).trans (hB.mono (by simp))
  clear hB
  obtain ⟨c0, c1, c2, f0, f1, f2⟩ := hb.three
  go_wp2_with fail
  refine (HV.out _).mono ?_
  rintro e W2 ⟨rfl, k, rfl⟩
  go_wp2_with fail
  refine bodyPost_ret (v := .tuple #[.agg #[.int .i64 0, .int .i64 0, .string ⟨#[]⟩], .int .i64 9]) (by simp [results, Try.results29, go_sem, c0, c1, c2]) rfl ⟨rfl, ?_⟩
  exact (hbel.trans (drewN_below _ _ _)).set3 (Nat.le_refl _) _ _ _

/-- the three parts that the bytes name -/
def partI (l : List UInt8) : Nat := num4 (l.take 4)
def partV (l : List UInt8) : Nat := num4 ((l.take 8).drop 4)
def partN (l : List UInt8) : Nat := num4 ((l.take 12).drop 8)
def partB (l : List UInt8) : List UInt8 := (l.take (16 + partN l)).drop 16
def TookPage (i v : Nat) (b l : List UInt8) (w : World) (en : Ending) (w' : World) : Prop :=
  if isPage i v (str b) = true ∧ pageBytes i v b = l then Took i v b 0 w en w' else Took 0 0 [] 9 w en w'
theorem put_any (i v : Nat) (b : List UInt8) (w : World) :
    Calls Try.prog 36 #[.agg #[.int .i64 i, .int .i64 v, .string (str b)]] w fun e w' => e = .returned (.tuple #[.string (str (if isPage i v (str b) then pageBytes i v b else [])), .int .i64 (if isPage i v (str b) then 0 else 1)]) ∧ Below w.heap.size w w' := by
  cases h : isPage i v (str b) with
  | true => exact put_yes i v b w h
  | false => exact y_put_no i v (str b) w h

/-- the world behind the page that was taken apart: the result's block, the page's block, and what was there -/
def TakeWorld (w : World) (p : Nat) (i v : Nat) (b : List UInt8) (X : World) : Prop :=
  Blk X w.heap.size 27 #[.int .i64 0, .int .i64 0, .string ⟨#[]⟩] ∧ Blk X p 27 #[.int .i64 i, .int .i64 v, .string (str b)] ∧ Below w.heap.size w X
theorem TakeWorld.carry {w : World} {p : Nat} {i v : Nat} {b : List UInt8} {X Y : World} (h : TakeWorld w p i v b X) (hb : Below X.heap.size X Y) : TakeWorld w p i v b Y :=
  ⟨h.1.keep hb, h.2.1.keep hb, h.2.2.trans (hb.mono h.2.2.size)⟩
theorem TakeWorld.plain {w W : World} {i v : Nat} {b : List UInt8} (h : Blk W w.heap.size 27 #[.int .i64 0, .int .i64 0, .string ⟨#[]⟩]) (hb : Below w.heap.size w W) (k : Nat) :
    TakeWorld w W.heap.size i v b ((W.drewN k).alloc (.cells #[.int .i64 i, .int .i64 v, .string (str b)] 27)) :=
  ⟨(h.drewN k).alloc _, Blk.new (W.drewN k) _ _, (hb.trans (drewN_below _ _ _)).alloc hb.size _⟩
theorem TakeWorld.late {w W : World} {i v : Nat} {b : List UInt8} (h : Blk W w.heap.size 27 #[.int .i64 0, .int .i64 0, .string ⟨#[]⟩]) (hb : Below w.heap.size w W) (k m : Nat) :
    TakeWorld w W.heap.size i v b ((((((W.drewN k).alloc (.cells #[.int .i64 0, .int .i64 0, .string ⟨#[]⟩] 27)).drewN m).setCell ⟨W.heap.size, 0, none⟩ (.int .i64 i)).setCell ⟨W.heap.size, 1, none⟩ (.int .i64 v)).setCell ⟨W.heap.size, 2, none⟩ (.string (str b))) := by
  have hne : w.heap.size ≠ W.heap.size := by have := h.lt; omega
  refine ⟨(((((h.drewN k).alloc _).drewN m).far hne _).far hne _).far hne _, ?_, (((hb.trans (drewN_below W k _)).alloc hb.size _).trans (drewN_below _ m _)).set3 hb.size _ _ _⟩
  exact ((((Blk.new (W.drewN k) 27 #[.int .i64 0, .int .i64 0, .string ⟨#[]⟩]).drewN m).put 0 _).put 1 _).put 2 _

theorem TakeWorld.first {w W : World} {i v : Nat} {b : List UInt8} (h : Blk W w.heap.size 27 #[.int .i64 0, .int .i64 0, .string ⟨#[]⟩]) (hb : Below w.heap.size w W) (m : Nat) :
    TakeWorld w W.heap.size i v b (((((W.alloc (.cells #[.int .i64 0, .int .i64 0, .string ⟨#[]⟩] 27)).drewN m).setCell ⟨W.heap.size, 0, none⟩ (.int .i64 i)).setCell ⟨W.heap.size, 1, none⟩ (.int .i64 v)).setCell ⟨W.heap.size, 2, none⟩ (.string (str b))) := by
  have hne : w.heap.size ≠ W.heap.size := by have := h.lt; omega
  refine ⟨((((h.alloc _).drewN m).far hne _).far hne _).far hne _, ?_, ((hb.alloc hb.size _).trans (drewN_below _ m _)).set3 hb.size _ _ _⟩
  exact ((((Blk.new W 27 #[.int .i64 0, .int .i64 0, .string ⟨#[]⟩]).drewN m).put 0 _).put 1 _).put 2 _

set_option maxRecDepth 100000 in
set_option maxHeartbeats 800000 in
theorem take_page (l : List UInt8) (w : World) (h : l.length = 32) (h0 : l ≠ List.replicate 32 0) (hn : partN l ≤ 16) :
    Calls Try.prog 29 #[.string (str l)] w (TookPage (partI l) (partV l) (partB l) l w) := by
  have hsz := str_size
  have hex := str_extract
  have hne : ((l.length : Int) != 32) = false := by rw [h]; rfl
  have h32 : 32 ≤ l.length := by omega
  have hl4 : ¬ l.length < 4 := by omega
  have htl := str_list
  have hq : (l == List.replicate 32 0) = false := beq_eq_false_iff_ne.2 h0
  generalize hl : List.replicate 32 (0 : UInt8) = r at hq
  have HL := Lib.hid hl
  have hv := value_any (str ((l.take 12).drop 8))
  have hv1 := value_any (str (l.take 4))
  have hv2 := value_any (str ((l.take 8).drop 4))
  rw [str_toList] at hv hv1 hv2
  have HV := Lib.hid (hv · (by simp [str_size]; omega))
  have HV1 := Lib.hid (hv1 · (by simp [str_size]; omega))
  have HV2 := Lib.hid (hv2 · (by simp [str_size]; omega))
  have HP := Lib.hid (put_any (partI l) (partV l) (partB l))
  change Hid (∀ _, Calls Try.prog _ _ _ fun e _ => e = .returned (.int .i64 (partN l : Int)) ∧ _) at HV
  change Hid (∀ _, Calls Try.prog _ _ _ fun e _ => e = .returned (.int .i64 (partI l : Int)) ∧ _) at HV1
  change Hid (∀ _, Calls Try.prog _ _ _ fun e _ => e = .returned (.int .i64 (partV l : Int)) ∧ _) at HV2
  have hpb : (l.take (16 + partN l)).drop 16 = partB l := rfl
  generalize partN l = n at hn HV hpb
  generalize partI l = i at HV1 HP
  generalize partV l = v at HV2 HP
  generalize partB l = b at hpb HP
  clear hl h h0 hv hv1 hv2
  go_enter Try.func29, Try.ntmps29
  go_wp2_with fail
  refine (repeat_noughts 32 _ (by omega)).mono ?_
  rw [HL.out]
  rintro e W1 ⟨rfl, hB⟩
  have hb := (Blk.new w 27 #[.int .i64 0, .int .i64 0, .string ⟨#[]⟩]).keep hB
  have hbel : Below w.heap.size w W1 := ((Below.refl _ _).alloc (Nat.le_refl _) _).trans (hB.mono (by simp))
  clear hB
  go_wp2_with fail
  refine (HV.out _).mono ?_
  rintro e W2 ⟨rfl, k, rfl⟩
  have hb2 := hb.drewN k
  have hbel2 := hbel.trans (drewN_below W1 k w.heap.size)
  generalize W1.drewN k = W at hb2 hbel2
  clear hb hbel
  go_wp2_with fail
  obtain ⟨q, hqn⟩ : ∃ q, 16 + n = q := ⟨_, rfl⟩
  rw [hqn] at hpb
  have hadd : (16 : Int) + (n : Int) = (q : Int) := by omega
  have haddw : IntKind.i64.wrap (q : Int) = (q : Int) := IntWalk.i64_in _ (by omega)
  have hq16 : (16 : Int) ≤ (q : Int) := by omega
  have hq16n : 16 ≤ q := by omega
  have hb16 : (q : Int) ≤ (l.length : Int) := by omega
  have hb17 : q ≤ l.length := by omega
  have h4 : 4 ≤ l.length := by omega
  have h8 : 8 ≤ l.length := by omega
  have h4i : (4 : Int) ≤ (l.length : Int) := by omega
  have h8i : (8 : Int) ≤ (l.length : Int) := by omega
  clear hqn
  have hd1 : ∀ (W : World) (k : Nat) (p : Addr), (W.drewN k).cell? p = W.cell? p := fun _ _ _ => rfl
  have hd2 : ∀ (W : World) (k : Nat) (p : Addr), (W.drewN k).frozen? p = W.frozen? p := fun _ _ _ => rfl
  have hd3 : ∀ (W : World) (k : Nat), (W.drewN k).heap.size = W.heap.size := fun _ _ => rfl
  have hd4 : ∀ (k : Nat) (cs : Array Value) (i : Nat), ((W.drewN k).alloc (.cells cs 27)).cell? ⟨W.heap.size, i, none⟩ = cs[i]? := fun k cs i => (Blk.new (W.drewN k) 27 cs).cell i
  have hd5 : ∀ (k : Nat) (cs : Array Value) (i : Nat), ((W.drewN k).alloc (.cells cs 27)).frozen? ⟨W.heap.size, i, none⟩ = false := fun k cs i => (Blk.new (W.drewN k) 27 cs).frozen i
  have hd6 : ∀ (k : Nat) (cs : Array Value) (i : Nat) (u : Value), ((W.drewN k).alloc (.cells cs 27)).setCell ⟨W.heap.size, i, none⟩ u = (W.drewN k).alloc (.cells (cs.setIfInBounds i u) 27) := fun k cs i u => World.setCell_alloc_at _ _ _ _ _ rfl
  go_region_with (first | (go_at_call 52; ((with_reducible refine (HV1.out _).mono ?_); rintro e wr ⟨rfl, k, rfl⟩)) | (go_at_call 52; ((with_reducible refine (HV2.out _).mono ?_); rintro e wr ⟨rfl, k, rfl⟩)))
  all_goals go_wp2_with fail
  all_goals refine (HP.out _).mono ?_
  all_goals rintro e W5 ⟨rfl, hB5⟩
  all_goals have F5 := TakeWorld.carry (by first | (with_reducible exact TakeWorld.plain hb2 hbel2 _) | (with_reducible exact TakeWorld.late hb2 hbel2 _ _) | (with_reducible exact TakeWorld.first hb2 hbel2 _)) hB5
  all_goals obtain ⟨hr5, hp5, hbel5⟩ := F5
  all_goals obtain ⟨c0, c1, c2, f0, f1, f2⟩ := hr5.three
  all_goals obtain ⟨d0, d1, d2, _, _, _⟩ := hp5.three
  all_goals clear hB5 hb2 hbel2
  all_goals
    cases hpg : isPage i v (str b) with
    | false =>
      have HPG := Lib.hid hpg
      clear hpg
      simp only [Bool.false_eq_true, if_false]
      go_wp2_with fail
      refine bodyPost_ret (v := .tuple #[.agg #[.int .i64 0, .int .i64 0, .string ⟨#[]⟩], .int .i64 9]) (by simp [results, Try.results29, go_sem, c0, c1, c2]) rfl ?_
      unfold TookPage
      rw [HPG.out, if_neg (by simp)]
      exact ⟨rfl, hbel5.set3 (Nat.le_refl _) _ _ _⟩
    | true =>
      have HPG := Lib.hid hpg
      clear hpg
      simp only [if_true]
      by_cases hpl : pageBytes i v b = l
      · have hpe : (pageBytes i v b == l) = true := by simpa using hpl
        have hpn : (pageBytes i v b != l) = false := by simpa using hpl
        have HPL := Lib.hid hpl
        clear hpl
        generalize hpbb : pageBytes i v b = pb at hpe hpn HPL
        have HPB := Lib.hid hpbb
        clear hpbb
        go_wp2_with fail
        refine bodyPost_ret (v := .tuple #[.agg #[.int .i64 i, .int .i64 v, .string (str b)], .int .i64 0]) (by simp [results, Try.results29, go_sem, c0, c1, c2]) rfl ?_
        unfold TookPage
        rw [HPG.out, if_pos ⟨rfl, HPB.out.trans HPL.out⟩]
        exact ⟨rfl, hbel5.set3 (Nat.le_refl _) _ _ _⟩
      · have hpe : (pageBytes i v b == l) = false := beq_eq_false_iff_ne.2 hpl
        have hpn : (pageBytes i v b != l) = true := bne_iff_ne.2 hpl
        have HPL := Lib.hid hpl
        clear hpl
        generalize hpbb : pageBytes i v b = pb at hpe hpn HPL
        have HPB := Lib.hid hpbb
        clear hpbb
        go_wp2_with fail
        refine bodyPost_ret (v := .tuple #[.agg #[.int .i64 0, .int .i64 0, .string ⟨#[]⟩], .int .i64 9]) (by simp [results, Try.results29, go_sem, c0, c1, c2]) rfl ?_
        unfold TookPage
        rw [if_neg (by intro hh; exact HPL.out (HPB.out.symm.trans hh.2))]
        exact ⟨rfl, hbel5.set3 (Nat.le_refl _) _ _ _⟩
end Go.Proofs.Ytlloeinlfhnegaa
namespace Go.Proofs.Ytlloeinlfhnegaa
open Go.RowKit
set_option linter.unusedVariables false

/-! plain facts -/
theorem pageBack_length (b : List UInt8) (h : b.length ≤ 16) : (pageBack b).length = 16 := by
  unfold pageBack; simp; omega
theorem pageBytes_length (i v : Nat) (b : List UInt8) (h : b.length ≤ 16) : (pageBytes i v b).length = 32 := by
  unfold pageBytes pageFront
  simp only [List.length_append, four_length, pageBack_length b h]
theorem partI_page (i v : Nat) (b : List UInt8) (hi : i < 4294967296) : partI (pageBytes i v b) = i := by
  unfold partI pageBytes pageFront
  rw [show (four i ++ four v ++ four b.length ++ four (Sm.sum (four i ++ four v ++ four b.length ++ pageBack b)).toNat ++ pageBack b).take 4 = four i by
    rw [show four i ++ four v ++ four b.length ++ four (Sm.sum (four i ++ four v ++ four b.length ++ pageBack b)).toNat ++ pageBack b = four i ++ (four v ++ (four b.length ++ (four (Sm.sum (four i ++ four v ++ four b.length ++ pageBack b)).toNat ++ pageBack b))) by simp only [List.append_assoc]]
    rw [List.take_left' (four_length i)]]
  exact num4_four i hi
theorem partV_page (i v : Nat) (b : List UInt8) (hv : v < 4294967296) : partV (pageBytes i v b) = v := by
  unfold partV pageBytes pageFront
  rw [show ((four i ++ four v ++ four b.length ++ four (Sm.sum (four i ++ four v ++ four b.length ++ pageBack b)).toNat ++ pageBack b).take 8).drop 4 = four v by
    rw [List.drop_take, show four i ++ four v ++ four b.length ++ four (Sm.sum (four i ++ four v ++ four b.length ++ pageBack b)).toNat ++ pageBack b = four i ++ (four v ++ (four b.length ++ (four (Sm.sum (four i ++ four v ++ four b.length ++ pageBack b)).toNat ++ pageBack b))) by simp only [List.append_assoc]]
    rw [List.drop_left' (four_length i), List.take_left' (four_length v)]]
  exact num4_four v hv
theorem partN_page (i v : Nat) (b : List UInt8) (h : b.length ≤ 16) : partN (pageBytes i v b) = b.length := by
  unfold partN pageBytes pageFront
  rw [show ((four i ++ four v ++ four b.length ++ four (Sm.sum (four i ++ four v ++ four b.length ++ pageBack b)).toNat ++ pageBack b).take 12).drop 8 = four b.length by
    rw [List.drop_take, show four i ++ four v ++ four b.length ++ four (Sm.sum (four i ++ four v ++ four b.length ++ pageBack b)).toNat ++ pageBack b = (four i ++ four v) ++ (four b.length ++ (four (Sm.sum (four i ++ four v ++ four b.length ++ pageBack b)).toNat ++ pageBack b)) by simp only [List.append_assoc]]
    rw [List.drop_left' (by simp [four_length]), List.take_left' (four_length b.length)]]
  exact num4_four _ (by omega)
theorem partB_page (i v : Nat) (b : List UInt8) (h : b.length ≤ 16) : partB (pageBytes i v b) = b := by
  unfold partB
  rw [partN_page i v b h, List.drop_take]
  unfold pageBytes pageFront pageBack
  rw [show four i ++ four v ++ four b.length ++ four (Sm.sum (four i ++ four v ++ four b.length ++ (b ++ List.replicate (16 - b.length) 0))).toNat ++ (b ++ List.replicate (16 - b.length) 0) = (four i ++ four v ++ four b.length ++ four (Sm.sum (four i ++ four v ++ four b.length ++ (b ++ List.replicate (16 - b.length) 0))).toNat) ++ (b ++ List.replicate (16 - b.length) 0) by simp only [List.append_assoc]]
  rw [List.drop_left' (by simp [four_length]), show 16 + b.length - 16 = b.length by omega, List.take_left' rfl]
theorem pageBytes_ne (i v : Nat) (b : List UInt8) (hi : i < 4294967296) (h1 : 1 ≤ i) : pageBytes i v b ≠ List.replicate 32 0 := by
  intro h
  have e := partI_page i v b hi
  rw [h] at e
  have : partI (List.replicate 32 0) = 0 := by decide
  omega

/-- what Take tells of any bytes -/
def takeE (l : List UInt8) : Int := if l.length ≠ 32 then 2 else if l = List.replicate 32 0 then 3 else if 16 < partN l then 9 else if isPage (partI l) (partV l) (str (partB l)) = true ∧ pageBytes (partI l) (partV l) (partB l) = l then 0 else 9
def takeI (l : List UInt8) : Nat := if takeE l = 0 then partI l else 0
def takeV (l : List UInt8) : Nat := if takeE l = 0 then partV l else 0
def takeB (l : List UInt8) : List UInt8 := if takeE l = 0 then partB l else []
theorem take_any (l : List UInt8) (w : World) :
    Calls Try.prog 29 #[.string (str l)] w fun en w' => en = .returned (.tuple #[pageVal (takeI l) (takeV l) (takeB l), .int .i64 (takeE l)]) ∧ Below w.heap.size w w' := by
  by_cases h : l.length ≠ 32
  · have e : takeE l = 2 := by unfold takeE; rw [if_pos h]
    have e1 : takeI l = 0 := by unfold takeI; rw [if_neg (by omega)]
    have e2 : takeV l = 0 := by unfold takeV; rw [if_neg (by omega)]
    have e3 : takeB l = [] := by unfold takeB; rw [if_neg (by omega)]
    rw [e, e1, e2, e3]
    exact take_form l w h
  have h32 : l.length = 32 := by omega
  by_cases h0 : l = List.replicate 32 0
  · have e : takeE l = 3 := by unfold takeE; rw [if_neg h, if_pos h0]
    have e1 : takeI l = 0 := by unfold takeI; rw [if_neg (by omega)]
    have e2 : takeV l = 0 := by unfold takeV; rw [if_neg (by omega)]
    have e3 : takeB l = [] := by unfold takeB; rw [if_neg (by omega)]
    rw [e, e1, e2, e3, h0]
    exact take_none w
  by_cases hn : 16 < partN l
  · have e : takeE l = 9 := by unfold takeE; rw [if_neg h, if_neg h0, if_pos hn]
    have e1 : takeI l = 0 := by unfold takeI; rw [if_neg (by omega)]
    have e2 : takeV l = 0 := by unfold takeV; rw [if_neg (by omega)]
    have e3 : takeB l = [] := by unfold takeB; rw [if_neg (by omega)]
    rw [e, e1, e2, e3]
    exact take_long l w h32 h0 hn
  refine (take_page l w h32 h0 (by omega)).mono fun en w' ht => ?_
  unfold TookPage at ht
  by_cases hp : isPage (partI l) (partV l) (str (partB l)) = true ∧ pageBytes (partI l) (partV l) (partB l) = l
  · rw [if_pos hp] at ht
    have e : takeE l = 0 := by unfold takeE; rw [if_neg h, if_neg h0, if_neg hn, if_pos hp]
    have e1 : takeI l = partI l := by unfold takeI; rw [if_pos e]
    have e2 : takeV l = partV l := by unfold takeV; rw [if_pos e]
    have e3 : takeB l = partB l := by unfold takeB; rw [if_pos e]
    rw [e, e1, e2, e3]
    exact ht
  · rw [if_neg hp] at ht
    have e : takeE l = 9 := by unfold takeE; rw [if_neg h, if_neg h0, if_neg hn, if_neg hp]
    have e1 : takeI l = 0 := by unfold takeI; rw [if_neg (by omega)]
    have e2 : takeV l = 0 := by unfold takeV; rw [if_neg (by omega)]
    have e3 : takeB l = [] := by unfold takeB; rw [if_neg (by omega)]
    rw [e, e1, e2, e3]
    exact ht
theorem takeE_page (i v : Nat) (b : List UInt8) (h : isPage i v (str b) = true) : takeE (pageBytes i v b) = 0 := by
  obtain ⟨h1, h2, h3, h4, h5⟩ := (isPage_iff _ _ _).1 h
  rw [str_size] at h5
  unfold takeE
  rw [if_neg (by rw [pageBytes_length i v b h5]; simp), if_neg (pageBytes_ne i v b (by omega) (by omega)), if_neg (by rw [partN_page i v b h5]; omega), partI_page i v b (by omega), partV_page i v b (by omega), partB_page i v b h5, if_pos ⟨h, rfl⟩]
theorem take_put (i v : Nat) (b : List UInt8) (w : World) (h : isPage i v (str b) = true) :
    Calls Try.prog 29 #[.string (str (pageBytes i v b))] w fun en w' => en = .returned (.tuple #[pageVal i v b, .int .i64 0]) ∧ Below w.heap.size w w' := by
  have ht := take_any (pageBytes i v b) w
  have e := takeE_page i v b h
  obtain ⟨h1, h2, h3, h4, h5⟩ := (isPage_iff _ _ _).1 h
  rw [str_size] at h5
  have e1 : takeI (pageBytes i v b) = i := by unfold takeI; rw [if_pos e]; exact partI_page i v b (by omega)
  have e2 : takeV (pageBytes i v b) = v := by unfold takeV; rw [if_pos e]; exact partV_page i v b (by omega)
  have e3 : takeB (pageBytes i v b) = b := by unfold takeB; rw [if_pos e]; exact partB_page i v b h5
  rw [e, e1, e2, e3] at ht
  exact ht

theorem take_short (l : List UInt8) (w : World) (h : l.length ≠ 32) :
    Calls Try.prog 29 #[.string (str l)] w fun en w' => en = .returned (.tuple #[pageVal 0 0 [], .int .i64 2]) ∧ Below w.heap.size w w' := take_form l w h
theorem page_known : pageBytes 3 7 [97, 98] = [3, 0, 0, 0, 7, 0, 0, 0, 2, 0, 0, 0, 81, 217, 233, 4, 97, 98, 0, 0, 0, 0, 0, 0, 0, 0, 0, 0, 0, 0, 0, 0] := by kernel_rfl

end Go.Proofs.Ytlloeinlfhnegaa
namespace Go.Proofs.Ytlloeinlfhnegaa
open Go.RowKit
set_option linter.unusedVariables false

set_option maxHeartbeats 400000 in
theorem noughts_any (l : List UInt8) (hl : l.length ≤ 1000) (w : World) :
    Calls Try.prog 53 #[.string (str l)] w fun e w' => e = .returned (.bool (l.all (· == 0))) ∧ w = w' := by
  have hsz := str_size
  go_enter Try.func53, Try.ntmps53
  go_wp2
  go_loop [3] (fun i => ∃ k : Nat, k ≤ l.length ∧ i = .int .i64 k ∧ (l.take k).all (· == 0) = true) (fun i => l.length - (intOf i).toNat)
  case atStart => exact ⟨0, by omega, rfl, rfl⟩
  case round =>
    obtain ⟨k, hk, rfl, hz⟩ := hrel
    have HZ := Lib.hid hz
    clear hz
    by_cases hlt : k < l.length
    · have hts : l.take (k + 1) = l.take k ++ [l[k]] := List.take_succ_eq_append_getElem hlt
      have HTS := Lib.hid hts
      clear hts
      by_cases hc0 : l[k] = 0
      · have h0 : ((l[k].toNat : Int) != 0) = false := by rw [hc0]; rfl
        have h1 : ∀ h : k < (str l).size, ((((str l)[k]'h).toNat : Int) != 0) = false := fun _ => h0
        have HC0 := Lib.hid hc0
        clear hc0
        go_wp2_with fail
        go_round
        case rel => exact ⟨k + 1, by omega, by go_num, by rw [HTS.out, List.all_append, HZ.out, HC0.out]; rfl⟩
        case measure => simp [intOf]; omega
      · have h0 : ((l[k].toNat : Int) != 0) = true := by
          rw [bne_iff_ne]; intro h
          exact hc0 (UInt8.toNat_inj.1 (by simpa using h))
        have h1 : ∀ h : k < (str l).size, ((((str l)[k]'h).toNat : Int) != 0) = true := fun _ => h0
        have hall : l.all (· == 0) = false := by
          rw [Bool.eq_false_iff]
          intro h
          exact hc0 (by simpa using List.all_eq_true.1 h l[k] (List.getElem_mem hlt))
        have HALL := Lib.hid hall
        clear hall hc0
        go_wp2_with fail
        go_ret
        exact ⟨by rw [HALL.out]; rfl, rfl⟩
    · have hge : l.length ≤ k := by omega
      clear hlt
      go_wp2_with fail
      go_ret
      have h := HZ.out
      rw [List.take_of_length_le hge] at h
      exact ⟨by rw [h]; rfl, rfl⟩

theorem page_inj {i v j u : Nat} {b c : List UInt8} (hi : i < 4294967296) (hj : j < 4294967296) (hv : v < 4294967296) (hu : u < 4294967296) (hb : b.length ≤ 16) (hc : c.length ≤ 16) : pageBytes i v b = pageBytes j u c ↔ (i = j ∧ v = u ∧ b = c) := by
  constructor
  · intro h
    exact ⟨by rw [← partI_page i v b hi, h, partI_page j u c hj], by rw [← partV_page i v b hv, h, partV_page j u c hu], by rw [← partB_page i v b hb, h, partB_page j u c hc]⟩
  · rintro ⟨rfl, rfl, rfl⟩; rfl

end Go.Proofs.Ytlloeinlfhnegaa
namespace Go.Proofs.Ytlloeinlfhnegaa
open Go.RowKit
set_option linter.unusedVariables false

set_option maxRecDepth 100000 in
set_option maxHeartbeats 400000 in
theorem refPut_yes (i v : Nat) (l : List UInt8) (w : World) (h : isPage i v (str l) = true) :
    Calls Try.prog 34 #[.agg #[.int .i64 i, .int .i64 v, .string (str l)]] w fun e w' => e = .returned (.string (str (pageBytes i v l))) ∧ Below w.heap.size w w' := by
  obtain ⟨hb1, hb2, hb3, hb4, hb5⟩ := (isPage_iff i v (str l)).1 h
  rw [str_size] at hb5
  clear h
  have hap := str_append
  have hsz := str_size
  have hfl := four_length
  go_enter Try.func34, Try.ntmps34
  go_wp2_with fail
  have hblk := Blk.new w 27 #[.int .i64 i, .int .i64 v, .string (str l)]
  have hbel : Below w.heap.size w (w.alloc (.cells #[.int .i64 i, .int .i64 v, .string (str l)] 27)) := (Below.refl _ _).alloc (Nat.le_refl _) _
  generalize w.alloc (.cells #[.int .i64 i, .int .i64 v, .string (str l)] 27) = W at hblk hbel
  have c0 : W.cell? ⟨w.heap.size, 0, none⟩ = some (.int .i64 i) := hblk.cell 0
  have c1 : W.cell? ⟨w.heap.size, 1, none⟩ = some (.int .i64 v) := hblk.cell 1
  have c2 : W.cell? ⟨w.heap.size, 2, none⟩ = some (.string (str l)) := hblk.cell 2
  have hlt := hblk.lt
  have hk := fun A B C => (Below3 W A B C)
  have HK := Lib.hid hk
  clear hk
  go_region_held3 (fun w' => w'.cell? ⟨w.heap.size, 0, none⟩ = some (.int .i64 i) ∧ w'.cell? ⟨w.heap.size, 1, none⟩ = some (.int .i64 v) ∧ w'.cell? ⟨w.heap.size, 2, none⟩ = some (.string (str l))) (first | (go_keep; done) | (go_split_ands; refine ⟨?_, ?_, ?_⟩; (exact ((HK.out _ _ _).cell (p := ⟨w.heap.size, 0, none⟩) hlt).trans c0); (exact ((HK.out _ _ _).cell (p := ⟨w.heap.size, 1, none⟩) hlt).trans c1); (exact ((HK.out _ _ _).cell (p := ⟨w.heap.size, 2, none⟩) hlt).trans c2)))
    (first | (go_at_call 57; refine (refFour_any _ _ (by omega) (by omega)).mono ?_; rintro e w' ⟨rfl, rfl⟩))
  have hblk2 : Blk (((W.alloc (numObj i)).alloc (numObj v)).alloc (numObj l.length)).drew w.heap.size 27 #[.int .i64 i, .int .i64 v, .string (str l)] := hblk.keep (HK.out _ _ _)
  have hbel2 : Below w.heap.size w (((W.alloc (numObj i)).alloc (numObj v)).alloc (numObj l.length)).drew := hbel.trans ((HK.out _ _ _).mono (by omega))
  generalize (((W.alloc (numObj i)).alloc (numObj v)).alloc (numObj l.length)).drew = W2 at hblk2 hbel2
  clear hblk hbel c0 c1 c2 HK hlt
  have c2 : W2.cell? ⟨w.heap.size, 2, none⟩ = some (.string (str l)) := hblk2.cell 2
  go_wp2_with fail
  clear hblk2 c2
  obtain ⟨m, hm⟩ : ∃ m, l.length + m = 16 := ⟨16 - l.length, by omega⟩
  have HM := Lib.hid hm
  clear hm
  go_loopw [4] (fun b wr => ∃ k : Nat, k ≤ m ∧ b = .string (str (l ++ List.replicate k 0)) ∧ Below w.heap.size w wr) (fun b _ => match b with | .string s => 16 - s.size | _ => 0)
  case atStart => exact ⟨0, by omega, by simp, hbel2⟩
  case round =>
    obtain ⟨k, hk, rfl, hB⟩ := hrel
    have hmm := HM.out
    have hln : (l ++ List.replicate k (0 : UInt8)).length = l.length + k := by simp
    have hrep : l ++ List.replicate k (0 : UInt8) ++ [0] = l ++ List.replicate (k + 1) 0 := by
      rw [List.append_assoc]; congr 1; rw [List.replicate_succ']
    have hln2 : (l ++ List.replicate (k + 1) (0 : UInt8)).length = l.length + (k + 1) := by simp
    generalize hx : l ++ List.replicate k (0 : UInt8) = x at hln hrep
    have HX := Lib.hid hx
    have HREP := Lib.hid hrep
    have HLN2 := Lib.hid hln2
    clear hx hrep hln2
    by_cases hlt : k < m
    · have hx16 : (x.length : Int) < 16 := by omega
      have hcv := conv1 0
      have h0 : strOfNums [(0 : Int)] = str [0] := rfl
      rw [h0] at hcv
      have hcat : ¬ 9223372036854775807 < x.length + 1 := by omega
      have HLN := Lib.hid hln
      have HMM := Lib.hid hmm
      clear hln hmm
      go_wp2_with fail
      go_roundw
      case rel => exact ⟨k + 1, by omega, by rw [HREP.out], hB.alloc hB.size _⟩
      case measure =>
        have h1 := HLN.out
        rw [HREP.out]
        simp only [str_size, HLN2.out, h1]
        omega
    · have hx16 : (16 : Int) ≤ (x.length : Int) := by omega
      obtain rfl : k = m := by omega
      have hl4 : ¬ 9223372036854775807 < 12 + x.length := by omega
      have hl5 : ¬ 9223372036854775807 < 4 + (4 + (4 + x.length)) := by omega
      have hl6 : ¬ 9223372036854775807 < 12 + (4 + x.length) := by omega
      have hl7 : ¬ 9223372036854775807 < 16 + x.length := by omega
      have hl8 : ¬ 9223372036854775807 < 4 + (4 + (4 + 4)) + x.length := by omega
      have hl9 : ¬ 9223372036854775807 < 4 + (4 + (4 + (4 + x.length))) := by omega
      have hall : (str (four i ++ (four v ++ (four l.length ++ x)))).size ≤ maxLen := by
        rw [str_size]; simp only [List.length_append, four_length]; unfold maxLen; omega
      have HLN := Lib.hid hln
      have HMM := Lib.hid hmm
      clear hln hmm
      have hn := Sm.sum_nonneg (four i ++ (four v ++ (four l.length ++ x)))
      have hsumc := fun W => refSum_any (str (four i ++ (four v ++ (four l.length ++ x)))) W hall
      simp only [str_toList] at hsumc
      have hfin : pageBytes i v l = four i ++ (four v ++ (four l.length ++ (four (Sm.sum (four i ++ (four v ++ (four l.length ++ x)))).toNat ++ x))) := by
        unfold pageBytes pageFront pageBack
        rw [show 16 - l.length = k by have := HMM.out; omega, HX.out]
        simp only [List.append_assoc]
      generalize Sm.sum (four i ++ (four v ++ (four l.length ++ x))) = n at hn hsumc hfin
      have HS := Lib.hid hsumc
      have HF := Lib.hid hfin
      clear hsumc hfin hall
      obtain ⟨hn1, hn2⟩ := hn
      go_wp2_with fail
      refine (HS.out _).mono ?_
      rintro e w' ⟨rfl, rfl⟩
      go_wp2_with fail
      refine (refFour_any _ _ hn1 hn2).mono ?_
      rintro e w' ⟨rfl, rfl⟩
      go_wp2_with fail
      go_ret
      exact ⟨by rw [HF.out]; rfl, hB.alloc hB.size _⟩
end Go.Proofs.Ytlloeinlfhnegaa
namespace Go.Proofs.Ytlloeinlfhnegaa
open Go.RowKit
set_option linter.unusedVariables false

theorem all_noughts (l : List UInt8) (h : l.length = 32) : (l.all (· == 0) = true) ↔ l = List.replicate 32 0 := by
  rw [List.eq_replicate_iff, List.all_eq_true]
  constructor
  · intro hh; exact ⟨h, fun b hb => by simpa using hh b hb⟩
  · intro hh b hb; simpa using hh.2 b hb
/-- the number of the four bytes from 4 k on -/
def numAt (l : List UInt8) (k : Nat) : Nat := num4 (l.drop (4 * k))
theorem num4_take (l : List UInt8) : num4 (l.take 4) = num4 l := by
  unfold num4
  match l with
  | [] => rfl
  | [a] => rfl
  | [a, b] => rfl
  | [a, b, c] => rfl
  | a :: b :: c :: d :: l => rfl
theorem numAt_0 (l : List UInt8) : numAt l 0 = partI l := by unfold numAt partI; rw [num4_take]; rfl
theorem numAt_1 (l : List UInt8) : numAt l 1 = partV l := by
  unfold numAt partV; rw [List.drop_take, num4_take]
theorem numAt_2 (l : List UInt8) : numAt l 2 = partN l := by
  unfold numAt partN; rw [List.drop_take, num4_take]
theorem numAt_sum (l : List UInt8) (k : Nat) (h : 4 * k + 3 < l.length) : (numAt l k : Int) = (l[4 * k].toNat : Int) + 256 * (l[4 * k + 1].toNat : Int) + 65536 * (l[4 * k + 2].toNat : Int) + 16777216 * (l[4 * k + 3].toNat : Int) := by
  unfold numAt num4
  have g : ∀ j, j < 4 → (l.drop (4 * k)).getD j 0 = l.getD (4 * k + j) 0 := by
    intro j hj
    rw [List.getD_eq_getElem?_getD, List.getElem?_drop, List.getD_eq_getElem?_getD]
  rw [g 0 (by omega), g 1 (by omega), g 2 (by omega), g 3 (by omega)]
  simp only [List.getD_eq_getElem?_getD, Nat.add_zero]
  rw [List.getElem?_eq_getElem (by omega), List.getElem?_eq_getElem (by omega), List.getElem?_eq_getElem (by omega), List.getElem?_eq_getElem (by omega)]
  simp only [Option.getD_some]
  omega

theorem refNum_form (a b c d : UInt8) : wrap64 (wrap64 (wrap64 (wrap64 (a.toNat : Int) + wrap64 (256 * wrap64 (b.toNat : Int))) + wrap64 (65536 * wrap64 (c.toNat : Int))) + wrap64 (16777216 * wrap64 (d.toNat : Int))) = (a.toNat : Int) + 256 * (b.toNat : Int) + 65536 * (c.toNat : Int) + 16777216 * (d.toNat : Int) := by
  have ha := a.toNat_lt
  have hb := b.toNat_lt
  have hc := c.toNat_lt
  have hd := d.toNat_lt
  rw [IntWalk.wrap64_in (a.toNat : Int) ⟨by omega, by omega⟩, IntWalk.wrap64_in (b.toNat : Int) ⟨by omega, by omega⟩, IntWalk.wrap64_in (c.toNat : Int) ⟨by omega, by omega⟩, IntWalk.wrap64_in (d.toNat : Int) ⟨by omega, by omega⟩]
  rw [IntWalk.wrap64_in (256 * (b.toNat : Int)) ⟨by omega, by omega⟩, IntWalk.wrap64_in (65536 * (c.toNat : Int)) ⟨by omega, by omega⟩, IntWalk.wrap64_in (16777216 * (d.toNat : Int)) ⟨by omega, by omega⟩]
  rw [IntWalk.wrap64_in ((a.toNat : Int) + 256 * (b.toNat : Int)) ⟨by omega, by omega⟩, IntWalk.wrap64_in ((a.toNat : Int) + 256 * (b.toNat : Int) + 65536 * (c.toNat : Int)) ⟨by omega, by omega⟩, IntWalk.wrap64_in _ ⟨by omega, by omega⟩]

set_option maxRecDepth 100000 in
set_option maxHeartbeats 800000 in
theorem refTake_page (l : List UInt8) (w : World) (h : l.length = 32) (h0 : l ≠ List.replicate 32 0) :
    Calls Try.prog 30 #[.string (str l)] w (fun en w' => en = .returned (.tuple #[pageVal (takeI l) (takeV l) (takeB l), .int .i64 (takeE l)]) ∧ Below w.heap.size w w') := by
  have hsz := str_size
  have hex := str_extract
  have htl := str_list
  have hne : ((l.length : Int) != 32) = false := by rw [h]; rfl
  have hno : l.all (· == 0) = false := by rw [Bool.eq_false_iff]; intro hh; exact h0 ((all_noughts l h).1 hh)
  have NO := noughts_any l (by omega)
  rw [hno] at NO
  have NO := Lib.hid NO
  have H32 := Lib.hid h
  clear h hno
  go_enter Try.func30, Try.ntmps30
  go_wp2_with fail
  refine (NO.out _).mono ?_
  rintro e W1 ⟨rfl, rfl⟩
  go_wp2_with fail
  have b1 := (Blk.new w 27 #[.int .i64 0, .int .i64 0, .string ⟨#[]⟩]).alloc (.cells #[.int .i64 0, .int .i64 0, .int .i64 0] 86)
  have b2 := Blk.new (w.alloc (.cells #[.int .i64 0, .int .i64 0, .string ⟨#[]⟩] 27)) 86 #[.int .i64 0, .int .i64 0, .int .i64 0]
  rw [show (w.alloc (.cells #[.int .i64 0, .int .i64 0, .string ⟨#[]⟩] 27)).heap.size = w.heap.size + 1 by simp] at b2
  have hw : Below w.heap.size w ((w.alloc (.cells #[.int .i64 0, .int .i64 0, .string ⟨#[]⟩] 27)).alloc (.cells #[.int .i64 0, .int .i64 0, .int .i64 0] 86)) := ((Below.refl _ _).alloc (Nat.le_refl _) _).alloc (by simp) _
  generalize (w.alloc (.cells #[.int .i64 0, .int .i64 0, .string ⟨#[]⟩] 27)).alloc (.cells #[.int .i64 0, .int .i64 0, .int .i64 0] 86) = W at b1 b2 hw
  go_loopw [5] (fun i wr => ∃ (k : Nat) (cs : Array Value), k ≤ 3 ∧ i = .int .i64 k ∧ Blk wr w.heap.size 27 #[.int .i64 0, .int .i64 0, .string ⟨#[]⟩] ∧ Blk wr (w.heap.size + 1) 86 cs ∧ cs.size = 3 ∧ (∀ j, j < k → cs[j]? = some (.int .i64 (numAt l j))) ∧ Below w.heap.size w wr) (fun i _ => 3 - (intOf i).toNat)
  case atStart => exact ⟨0, _, by omega, rfl, b1, b2, rfl, fun j hj => by omega, hw⟩
  case round =>
    obtain ⟨k, cs, hk, rfl, hb1, hb2, hcs, hd, hB⟩ := hrel
    have HCS := Lib.hid hcs
    have HD := Lib.hid hd
    clear hcs hd b1 b2 hw
    by_cases hlt : k < 3
    · have h32 := H32.out
      have i0 : (4 : Int) * (k : Int) < (l.length : Int) := by omega
      have i1 : (4 : Int) * (k : Int) + 1 < (l.length : Int) := by omega
      have i2 : (4 : Int) * (k : Int) + 2 < (l.length : Int) := by omega
      have i3 : (4 : Int) * (k : Int) + 3 < (l.length : Int) := by omega
      have i0n : 4 * k < l.length := by omega
      have hq3 : 4 * k + 3 < l.length := by omega
      clear h32
      have hsum := numAt_sum l k hq3
      have HSUM := Lib.hid hsum
      clear hsum
      have hcell : wr.cell? ⟨w.heap.size + 1, k, none⟩ = some (cs[k]'(by have := HCS.out; omega)) := by rw [hb2.cell, Array.getElem?_eq_getElem]
      generalize (cs[k]'(by have := HCS.out; omega)) = u at hcell
      have hfr := hb2.frozen k
      have wa0 : IntKind.i64.wrap ((4 : Int) * (k : Int)) = (4 : Int) * (k : Int) := IntWalk.i64_in _ (by omega)
      have wb0 : 0 ≤ (4 : Int) * (k : Int) := by omega
      have wc0 : ((4 : Int) * (k : Int)).toNat = 4 * k := by omega
      have wa1 : IntKind.i64.wrap ((4 : Int) * (k : Int) + 1) = (4 : Int) * (k : Int) + 1 := IntWalk.i64_in _ (by omega)
      have wb1 : 0 ≤ (4 : Int) * (k : Int) + 1 := by omega
      have wc1 : ((4 : Int) * (k : Int) + 1).toNat = 4 * k + 1 := by omega
      have wa2 : IntKind.i64.wrap ((4 : Int) * (k : Int) + 2) = (4 : Int) * (k : Int) + 2 := IntWalk.i64_in _ (by omega)
      have wb2 : 0 ≤ (4 : Int) * (k : Int) + 2 := by omega
      have wc2 : ((4 : Int) * (k : Int) + 2).toNat = 4 * k + 2 := by omega
      have wa3 : IntKind.i64.wrap ((4 : Int) * (k : Int) + 3) = (4 : Int) * (k : Int) + 3 := IntWalk.i64_in _ (by omega)
      have wb3 : 0 ≤ (4 : Int) * (k : Int) + 3 := by omega
      have wc3 : ((4 : Int) * (k : Int) + 3).toNat = 4 * k + 3 := by omega
      go_wp2_with fail
      go_region
      all_goals go_wp2_with fail
      all_goals
        go_roundw
        case rel =>
          rw [refNum_form]
          refine ⟨k + 1, cs.setIfInBounds k (.int .i64 (numAt l k)), by omega, by go_num, ?_, ?_, ?_, ?_, ?_⟩
          · exact (hb1.far (by simp) _).drew
          · rw [HSUM.out]; exact (hb2.put k _).drew
          · rw [Array.size_setIfInBounds]; exact HCS.out
          · intro j hj
            rw [Array.getElem?_setIfInBounds]
            by_cases e : k = j
            · subst e; rw [if_pos rfl, if_pos (by rw [HCS.out]; exact hlt)]
            · rw [if_neg e]; exact HD.out j (by omega)
          · exact (hB.setCell (by simp) _).drew
        case measure => simp [intOf]; omega
    · obtain rfl : k = 3 := by omega
      have hcse : cs = #[.int .i64 (partI l), .int .i64 (partV l), .int .i64 (partN l)] := by
        rw [← numAt_0, ← numAt_1, ← numAt_2]
        apply Array.ext_getElem?
        intro j
        match j with
        | 0 => rw [HD.out 0 (by omega)]; rfl
        | 1 => rw [HD.out 1 (by omega)]; rfl
        | 2 => rw [HD.out 2 (by omega)]; rfl
        | j + 3 => rw [Array.getElem?_eq_none (by rw [HCS.out]; omega)]; rfl
      subst hcse
      clear HCS HD hlt hk
      have hge : ¬ (((3 : Nat) : Int) < 3) := by omega
      by_cases hn : 16 < partN l
      · have e : takeE l = 9 := by unfold takeE; rw [if_neg (by rw [H32.out]; simp), if_neg h0, if_pos hn]
        have e1 : takeI l = 0 := by unfold takeI; rw [if_neg (by omega)]
        have e2 : takeV l = 0 := by unfold takeV; rw [if_neg (by omega)]
        have e3 : takeB l = [] := by unfold takeB; rw [if_neg (by omega)]
        have E := Lib.hid (And.intro e (And.intro e1 (And.intro e2 e3)))
        clear e e1 e2 e3
        obtain ⟨c0, c1, c2, f0, f1, f2⟩ := hb1.three
        obtain ⟨d0, d1, d2, g0, g1, g2⟩ := hb2.three
        generalize partN l = n at *
        go_wp2_with fail
        refine bodyPost_ret (v := .tuple #[.agg #[.int .i64 0, .int .i64 0, .string ⟨#[]⟩], .int .i64 9]) (by simp [results, Try.results30, go_sem, c0, c1, c2]) rfl ?_
        rw [E.out.1, E.out.2.1, E.out.2.2.1, E.out.2.2.2]
        exact ⟨rfl, hB.set3 (Nat.le_refl _) _ _ _⟩
      · have hTE : takeE l = if isPage (partI l) (partV l) (str (partB l)) = true ∧ pageBytes (partI l) (partV l) (partB l) = l then 0 else 9 := by unfold takeE; rw [if_neg (by rw [H32.out]; simp), if_neg h0, if_neg hn]
        have hTI : takeI l = if takeE l = 0 then partI l else 0 := rfl
        have hTV : takeV l = if takeE l = 0 then partV l else 0 := rfl
        have hTB : takeB l = if takeE l = 0 then partB l else [] := rfl
        have T := Lib.hid (And.intro hTE (And.intro hTI (And.intro hTV hTB)))
        clear hTE hTI hTV hTB
        have hpb : (l.take (16 + partN l)).drop 16 = partB l := rfl
        have h32 := H32.out
        obtain ⟨q, hqn⟩ : ∃ q, 16 + partN l = q := ⟨_, rfl⟩
        rw [hqn] at hpb
        have hadd : (16 : Int) + (partN l : Int) = (q : Int) := by omega
        have haddw : IntKind.i64.wrap (q : Int) = (q : Int) := IntWalk.i64_in _ (by omega)
        have hq16 : (16 : Int) ≤ (q : Int) := by omega
        have hq16n : 16 ≤ q := by omega
        have hb16 : (q : Int) ≤ (l.length : Int) := by omega
        have hb17 : q ≤ l.length := by omega
        clear hqn h32
        obtain ⟨d0, d1, d2, _, _, _⟩ := hb2.three
        have lt2 := hb2.lt
        have lt1 := hb1.lt
        generalize partN l = n at *
        generalize partI l = i at *
        generalize partV l = v at *
        generalize partB l = b at *
        go_wp2_with fail
        go_region
        go_wp2_with fail
        have br := (hb1.alloc (.cells #[.int .i64 i, .int .i64 v, .string (str b)] 27)).drew
        have bp := (Blk.new wr 27 #[.int .i64 i, .int .i64 v, .string (str b)]).drew
        have hw := (hB.alloc hB.size (.cells #[.int .i64 i, .int .i64 v, .string (str b)] 27)).drew
        generalize (wr.alloc (.cells #[.int .i64 i, .int .i64 v, .string (str b)] 27)).drew = X at br bp hw
        clear hb1 hb2 hB d0 d1 d2 lt1 lt2
        refine (refRight_any i v (str b) _).mono ?_
        rintro e W2 ⟨rfl, rfl⟩
        have br := br.alloc (.cells #[.int .i64 i, .int .i64 v, .string (str b)] 27)
        have bp := bp.alloc (.cells #[.int .i64 i, .int .i64 v, .string (str b)] 27)
        have hw := hw.alloc hw.size (.cells #[.int .i64 i, .int .i64 v, .string (str b)] 27)
        generalize X.alloc (.cells #[.int .i64 i, .int .i64 v, .string (str b)] 27) = Y at br bp hw
        cases hpg : isPage i v (str b) with
        | false =>
          have T2 := T.out
          rw [hpg] at T2
          simp only [Bool.false_eq_true, false_and, if_false] at T2
          obtain ⟨t1, t2, t3, t4⟩ := T2
          rw [t1] at t2 t3 t4
          simp only [show ((9 : Int) = 0) = False by simp, if_false] at t2 t3 t4
          have E := Lib.hid (And.intro t1 (And.intro t2 (And.intro t3 t4)))
          clear t1 t2 t3 t4 hpg
          obtain ⟨c0, c1, c2, f0, f1, f2⟩ := br.three
          obtain ⟨d0, d1, d2, _, _, _⟩ := bp.three
          go_wp2_with fail
          refine bodyPost_ret (v := .tuple #[.agg #[.int .i64 0, .int .i64 0, .string ⟨#[]⟩], .int .i64 9]) (by simp [results, Try.results30, go_sem, c0, c1, c2]) rfl ?_
          rw [E.out.1, E.out.2.1, E.out.2.2.1, E.out.2.2.2]
          exact ⟨rfl, hw.set3 (Nat.le_refl _) _ _ _⟩
        | true =>
          have PU := Lib.hid (refPut_yes i v b · hpg)
          have T2 := T.out
          rw [hpg] at T2
          simp only [true_and] at T2
          clear hpg T
          generalize hpbb : pageBytes i v b = pb at PU T2
          clear hpbb
          obtain ⟨c0, c1, c2, f0, f1, f2⟩ := br.three
          obtain ⟨d0, d1, d2, _, _, _⟩ := bp.three
          have T3 := Lib.hid T2
          clear T2
          go_wp2_with fail
          refine (PU.out _).mono ?_
          rintro e W3 ⟨rfl, hBz⟩
          have br := br.keep hBz
          have bp := bp.keep hBz
          have hw := hw.trans (hBz.mono hw.size)
          clear hBz c0 c1 c2 f0 f1 f2 d0 d1 d2
          obtain ⟨c0, c1, c2, f0, f1, f2⟩ := br.three
          obtain ⟨d0, d1, d2, _, _, _⟩ := bp.three
          by_cases hpl : pb = l
          · have T2 := T3.out
            rw [if_pos hpl] at T2
            obtain ⟨t1, t2, t3, t4⟩ := T2
            rw [t1] at t2 t3 t4
            simp only [if_true] at t2 t3 t4
            have E := Lib.hid (And.intro t1 (And.intro t2 (And.intro t3 t4)))
            clear t1 t2 t3 t4
            have hpe : (pb == l) = true := by simpa using hpl
            have hpn : (pb != l) = false := by simpa using hpl
            clear hpl
            go_wp2_with fail
            refine bodyPost_ret (v := .tuple #[.agg #[.int .i64 i, .int .i64 v, .string (str b)], .int .i64 0]) (by simp [results, Try.results30, go_sem, c0, c1, c2]) rfl ?_
            rw [E.out.1, E.out.2.1, E.out.2.2.1, E.out.2.2.2]
            exact ⟨rfl, hw.set3 (Nat.le_refl _) _ _ _⟩
          · have T2 := T3.out
            rw [if_neg hpl] at T2
            obtain ⟨t1, t2, t3, t4⟩ := T2
            rw [t1] at t2 t3 t4
            simp only [show ((9 : Int) = 0) = False by simp, if_false] at t2 t3 t4
            have E := Lib.hid (And.intro t1 (And.intro t2 (And.intro t3 t4)))
            clear t1 t2 t3 t4
            have hpe : (pb == l) = false := beq_eq_false_iff_ne.2 hpl
            have hpn : (pb != l) = true := bne_iff_ne.2 hpl
            have HPL := Lib.hid hpl
            clear hpl
            go_wp2_with fail
            refine bodyPost_ret (v := .tuple #[.agg #[.int .i64 0, .int .i64 0, .string ⟨#[]⟩], .int .i64 9]) (by simp [results, Try.results30, go_sem, c0, c1, c2]) rfl ?_
            rw [E.out.1, E.out.2.1, E.out.2.2.1, E.out.2.2.2]
            exact ⟨rfl, hw.set3 (Nat.le_refl _) _ _ _⟩
end Go.Proofs.Ytlloeinlfhnegaa
namespace Go.Proofs.Ytlloeinlfhnegaa
open Go.RowKit
set_option linter.unusedVariables false

set_option maxRecDepth 100000 in
set_option maxHeartbeats 400000 in
theorem refTake_form (l : List UInt8) (w : World) (h : l.length ≠ 32) :
    Calls Try.prog 30 #[.string (str l)] w (fun en w' => en = .returned (.tuple #[pageVal 0 0 [], .int .i64 2]) ∧ Below w.heap.size w w') := by
  have hsz := str_size
  have ht : ((l.length : Int) != 32) = true := by simp; omega
  go_enter Try.func30, Try.ntmps30
  go_wp2_with fail
  refine bodyPost_ret (v := .tuple #[.agg #[.int .i64 0, .int .i64 0, .string ⟨#[]⟩], .int .i64 2]) (by simp [results, Try.results30, go_sem]) rfl ⟨rfl, (Below.refl _ _).alloc (Nat.le_refl _) _⟩
set_option maxRecDepth 100000 in
set_option maxHeartbeats 400000 in
theorem refTake_none (l : List UInt8) (w : World) (h : l.length = 32) (hz : l = List.replicate 32 0) :
    Calls Try.prog 30 #[.string (str l)] w (fun en w' => en = .returned (.tuple #[pageVal 0 0 [], .int .i64 3]) ∧ Below w.heap.size w w') := by
  have hsz := str_size
  have hne : ((l.length : Int) != 32) = false := by rw [h]; rfl
  have hno : l.all (· == 0) = true := (all_noughts l h).2 hz
  have NO := noughts_any l (by omega)
  rw [hno] at NO
  have NO := Lib.hid NO
  clear h hno hz
  go_enter Try.func30, Try.ntmps30
  go_wp2_with fail
  refine (NO.out _).mono ?_
  rintro e W1 ⟨rfl, rfl⟩
  go_wp2_with fail
  refine bodyPost_ret (v := .tuple #[.agg #[.int .i64 0, .int .i64 0, .string ⟨#[]⟩], .int .i64 3]) (by simp [results, Try.results30, go_sem]) rfl ⟨rfl, (Below.refl _ _).alloc (Nat.le_refl _) _⟩
theorem refTake_any (l : List UInt8) (w : World) :
    Calls Try.prog 30 #[.string (str l)] w fun en w' => en = .returned (.tuple #[pageVal (takeI l) (takeV l) (takeB l), .int .i64 (takeE l)]) ∧ Below w.heap.size w w' := by
  by_cases h : l.length ≠ 32
  · have e : takeE l = 2 := by unfold takeE; rw [if_pos h]
    have e1 : takeI l = 0 := by unfold takeI; rw [if_neg (by omega)]
    have e2 : takeV l = 0 := by unfold takeV; rw [if_neg (by omega)]
    have e3 : takeB l = [] := by unfold takeB; rw [if_neg (by omega)]
    rw [e, e1, e2, e3]
    exact refTake_form l w h
  have h32 : l.length = 32 := by omega
  by_cases h0 : l = List.replicate 32 0
  · have e : takeE l = 3 := by unfold takeE; rw [if_neg h, if_pos h0]
    have e1 : takeI l = 0 := by unfold takeI; rw [if_neg (by omega)]
    have e2 : takeV l = 0 := by unfold takeV; rw [if_neg (by omega)]
    have e3 : takeB l = [] := by unfold takeB; rw [if_neg (by omega)]
    rw [e, e1, e2, e3]
    exact refTake_none l w h32 h0
  exact refTake_page l w h32 h0

end Go.Proofs.Ytlloeinlfhnegaa
