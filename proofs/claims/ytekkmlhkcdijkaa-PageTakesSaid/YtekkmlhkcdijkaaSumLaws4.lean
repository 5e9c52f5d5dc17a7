/- THE LAWS of layer 1, walked: three texts laid over one another. Conditions: those of the arguments alone. -/
import Derived.Test.YtekkmlhkcdijkaaSumLaws3
import Derived.Test.YtekkmlhkcdijkaaMem
import Derived.RegionTactic
import Derived.ChangeAlike
namespace Go.Proofs.Ytekkmlhkcdijkaa
open Go.RowKit
set_option linter.unusedVariables false

theorem min2_nat (p q : Nat) (w : World) : (Builtin.min2 (.int .i64 p) (.int .i64 q)).run Try.prog w = .ok (.int .i64 ((min p q : Nat) : Int)) w := by
  have h2 : (if (q : Int) < (p : Int) then (q : Int) else (p : Int)) = ((min p q : Nat) : Int) := by split <;> omega
  rw [← h2]
  simp [Builtin.min2]
theorem min4 (ts : Array TypeId) (t : TypeId) (x y z : Nat) : ∃ n : Nat, n ≤ x ∧ n ≤ y ∧ n ≤ z ∧ n ≤ 300 ∧ ∀ w : World, (Builtin.min_ ts t #[.int .i64 x, .int .i64 y, .int .i64 z, .int .i64 300]).run Try.prog w = .ok (.int .i64 n) w := by
  refine ⟨min (min (min x y) z) 300, by omega, by omega, by omega, by omega, fun w => ?_⟩
  have h3 := fun p => min2_nat p 300 w
  simp only [Builtin.min_]
  simp only [show ((300 : Nat) : Int) = 300 from rfl] at h3
  simp [min2_nat, h3]

theorem info8 : (Try.prog.info? 5).map (fun i => (i.zero, i.size, i.bytes)) = some (some (.int .u8 0), 1, 1) := by kernel_rfl
theorem made8 (n : Nat) (hn : n ≤ 281474976710656) (w : World) : (Instr.makeSlice 32 (.int .i64 n) (.int .i64 n)).run Try.prog w = .ok (.slice (some ⟨w.heap.size, 0, none⟩) n n) (w.alloc (.cells (Array.replicate n (.int .u8 0)) 5)) := by
  obtain ⟨i0, hi, hz0, hz1, hz2⟩ := info_parts info8
  have h := run_make w 32 5 i0 (.int .u8 0) Try.underlying32 hi hz0 .i64 .i64 n n (by omega) (by omega) (by rw [hz2]; omega) (by omega)
  simp only [hz1, Nat.mul_one, Int.toNat_natCast] at h
  rw [h]
  congr 4
  apply Array.toList_inj.1
  rw [show (Value.int IntKind.u8 0).cells = #[Value.int IntKind.u8 0] from rfl, toList_madeCells_one]
  simp

def xor3 : List UInt8 → List UInt8 → List UInt8 → List UInt8
  | x :: xs, y :: ys, z :: zs => (x ^^^ y ^^^ z) :: xor3 xs ys zs
  | _, _, _ => []
theorem xor3_length (n : Nat) : ∀ x y z : List UInt8, x.length = n → y.length = n → z.length = n → (xor3 x y z).length = n := by
  induction n with
  | zero => intro x y z hx hy hz; obtain rfl := List.eq_nil_of_length_eq_zero hx; rfl
  | succ n ih =>
    intro x y z hx hy hz
    match x, y, z, hx, hy, hz with
    | a :: x, b :: y, c :: z, hx, hy, hz =>
      simp only [xor3, List.length_cons]
      rw [ih x y z (by simpa using hx) (by simpa using hy) (by simpa using hz)]
theorem xor3_get (i : Nat) : ∀ x y z : List UInt8, (hx : i < x.length) → (hy : i < y.length) → (hz : i < z.length) → (xor3 x y z).getD i 0 = x[i] ^^^ y[i] ^^^ z[i] := by
  induction i with
  | zero =>
    intro x y z hx hy hz
    match x, y, z, hx, hy, hz with
    | a :: x, b :: y, c :: z, hx, hy, hz => rfl
  | succ i ih =>
    intro x y z hx hy hz
    match x, y, z, hx, hy, hz with
    | a :: x, b :: y, c :: z, hx, hy, hz =>
      have h := ih x y z (by simpa using hx) (by simpa using hy) (by simpa using hz)
      simpa [xor3] using h
theorem feedAll_three (n : Nat) : ∀ (x y z : List UInt8) (p q r : Sm.W32), x.length = n → y.length = n → z.length = n → Sm.feedAll (p ^^^ q ^^^ r) (xor3 x y z) = Sm.feedAll p x ^^^ Sm.feedAll q y ^^^ Sm.feedAll r z := by
  induction n with
  | zero =>
    intro x y z p q r hx hy hz
    obtain rfl := List.eq_nil_of_length_eq_zero hx
    obtain rfl := List.eq_nil_of_length_eq_zero hy
    obtain rfl := List.eq_nil_of_length_eq_zero hz
    rfl
  | succ n ih =>
    intro x y z p q r hx hy hz
    match x, y, z, hx, hy, hz with
    | a :: x, b :: y, c :: z, hx, hy, hz =>
      have h := ih x y z (Sm.feed p a) (Sm.feed q b) (Sm.feed r c) (by simpa using hx) (by simpa using hy) (by simpa using hz)
      simp only [xor3, Sm.feedAll, List.foldl_cons, Sm.feed_three] at h ⊢
      exact h
theorem xor64 (x y : Sm.W32) : bits BinOp.xor IntKind.i64 (x.toNat : Int) (y.toNat : Int) = ((x ^^^ y).toNat : Int) := by
  show IntKind.i64.wrap ((((BitVec.ofInt 64 ((x.toNat : Nat) : Int) ^^^ BitVec.ofInt 64 ((y.toNat : Nat) : Int) : BitVec 64)).toNat : Nat) : Int) = _
  have hx := x.isLt
  have hy := y.isLt
  have h : (BitVec.ofInt 64 ((x.toNat : Nat) : Int) ^^^ BitVec.ofInt 64 ((y.toNat : Nat) : Int) : BitVec 64).toNat = (x ^^^ y).toNat := by
    rw [BitVec.ofInt_natCast, BitVec.ofInt_natCast, BitVec.toNat_xor, BitVec.toNat_xor, BitVec.toNat_ofNat, BitVec.toNat_ofNat, Nat.mod_eq_of_lt (by omega), Nat.mod_eq_of_lt (by omega)]
  rw [h]
  have := (x ^^^ y).isLt
  generalize (x ^^^ y).toNat = m at *
  simp only [IntKind.wrap, IntKind.bits, IntKind.signed]
  simp
  omega
theorem xor8 (x y : UInt8) : bits BinOp.xor IntKind.u8 (x.toNat : Int) (y.toNat : Int) = ((x ^^^ y).toNat : Int) := by
  show IntKind.u8.wrap ((((BitVec.ofInt 8 ((x.toNat : Nat) : Int) ^^^ BitVec.ofInt 8 ((y.toNat : Nat) : Int) : BitVec 8)).toNat : Nat) : Int) = _
  have hx := x.toNat_lt
  have hy := y.toNat_lt
  have h : (BitVec.ofInt 8 ((x.toNat : Nat) : Int) ^^^ BitVec.ofInt 8 ((y.toNat : Nat) : Int) : BitVec 8).toNat = (x ^^^ y).toNat := by
    rw [BitVec.ofInt_natCast, BitVec.ofInt_natCast, BitVec.toNat_xor, UInt8.toNat_xor, BitVec.toNat_ofNat, BitVec.toNat_ofNat, Nat.mod_eq_of_lt (by omega), Nat.mod_eq_of_lt (by omega)]
  rw [h]
  have := (x ^^^ y).toNat_lt
  generalize (x ^^^ y).toNat = m at *
  simp only [IntKind.wrap, IntKind.bits, IntKind.signed]
  simp
  omega
theorem sum_three (n : Nat) (x y z : List UInt8) (hx : x.length = n) (hy : y.length = n) (hz : z.length = n) :
    bits BinOp.xor IntKind.i64 (bits BinOp.xor IntKind.i64 (Sm.sum x) (Sm.sum y)) (Sm.sum z) = Sm.sum (xor3 x y z) := by
  unfold Sm.sum
  rw [xor64, xor64]
  have h := feedAll_three n x y z 4294967295#32 4294967295#32 4294967295#32 hx hy hz
  rw [BitVec.xor_self, BitVec.zero_xor] at h
  rw [h]
  congr 2
  generalize Sm.feedAll 4294967295#32 x = p
  generalize Sm.feedAll 4294967295#32 y = q
  generalize Sm.feedAll 4294967295#32 z = r
  apply BitVec.eq_of_getLsbD_eq
  intro i hi
  simp only [BitVec.getLsbD_xor, BitVec.getLsbD_not]
  cases p.getLsbD i <;> cases q.getLsbD i <;> cases r.getLsbD i <;> simp [hi]

set_option maxRecDepth 100000 in
set_option maxHeartbeats 400000 in
theorem sumThree_walk (a : ByteArray) (ha : a.size ≤ maxLen) (b : ByteArray) (hb : b.size ≤ maxLen) (c : ByteArray) (hc : c.size ≤ maxLen) (w : World) :
    Calls Try.prog 5 #[.string a, .string b, .string c] w fun e w' => e = .returned (.bool true) ∧ Below w.heap.size w w' := by
  obtain ⟨n, hna, hnb, hnc, hn3, hmin⟩ := min4 #[3, 3, 3, 3] 3 a.size b.size c.size
  have hmk := made8 n (by omega)
  go_enter Try.func5, Try.ntmps5
  go_wp2_with fail
  go_quiet (fail)
  go_wp2_with fail
  clear hmk hmin
  generalize hx : a.extract 0 n = x
  generalize hy : b.extract 0 n = y
  generalize hz : c.extract 0 n = z
  have hxs : x.size = n := by rw [← hx, ByteArray.size_extract]; omega
  have hys : y.size = n := by rw [← hy, ByteArray.size_extract]; omega
  have hzs : z.size = n := by rw [← hz, ByteArray.size_extract]; omega
  clear hx hy hz hna hnb hnc
  have HXS := Lib.hid hxs
  have HYS := Lib.hid hys
  have HZS := Lib.hid hzs
  clear hxs hys hzs
  go_loopw [12, 42] (fun _ i wr => ∃ (k : Nat) (cs : Array Value), k ≤ n ∧ i = .int .i64 k ∧ Blk wr w.heap.size 5 cs ∧ cs.size = n ∧ Below w.heap.size w wr ∧ ∀ j, j < k → cs[j]? = some (.int .u8 (((xor3 x.data.toList y.data.toList z.data.toList).getD j 0).toNat : Int))) (fun _ i _ => n - (intOf i).toNat)
  case atStart => exact ⟨0, _, by omega, rfl, Blk.new _ _ _, by simp, (drewN_below _ _ _).alloc (by simp) _, fun j hj => by omega⟩
  case round =>
    obtain ⟨k, cs, hk, rfl, hblk, hcs, hB, hd⟩ := hrel
    have HCS := Lib.hid hcs
    have HD := Lib.hid hd
    clear hcs hd
    by_cases hlt : k < n
    · have hkx : k < x.size := by have := HXS.out; omega
      have hky : k < y.size := by have := HYS.out; omega
      have hkz : k < z.size := by have := HZS.out; omega
      have hcell : wr.cell? ⟨w.heap.size, k, none⟩ = some (cs[k]'(by have := HCS.out; omega)) := by rw [hblk.cell, Array.getElem?_eq_getElem]
      generalize (cs[k]'(by have := HCS.out; omega)) = u at hcell
      have hfr := hblk.frozen k
      go_wp2_with fail
      go_region
      all_goals go_wp2_with fail
      all_goals
        go_roundw
        case rel =>
          refine ⟨k + 1, cs.setIfInBounds k (.int .u8 (((x[k] ^^^ y[k] ^^^ z[k]).toNat : Nat) : Int)), by omega, by go_num, ?_, ?_, ?_, ?_⟩
          · rw [xor8, xor8]; exact (hblk.put k _).drew
          · rw [Array.size_setIfInBounds]; exact HCS.out
          · exact (hB.setCell (by exact Nat.le_refl _) _).drew
          · intro j hj
            rw [Array.getElem?_setIfInBounds]
            by_cases e : k = j
            · subst e
              rw [if_pos rfl, if_pos (by rw [HCS.out]; exact hlt), xor3_get _ _ _ _ hkx hky hkz]
              rfl
            · rw [if_neg e]
              exact HD.out j (by omega)
        case measure => simp [intOf]; omega
    · have hge : n ≤ k := by omega
      clear hlt
      go_wp2_with fail
      refine (table_abs _).mono ?_
      rintro e W3 ⟨rfl, hT, hlt, hB3⟩
      have hgl := hblk.lt
      have hback : (convert 32 9 (.slice (some ⟨w.heap.size, 0, none⟩) n n)).run Try.prog W3 = .ok (.string (strOfNums ((xor3 x.data.toList y.data.toList z.data.toList).map fun x => (x.toNat : Int)))) W3 := by
        refine run_convert_bytes_arg _ 32 5 Try.underlying32 Try.underlying5 w.heap.size 0 n n _ (by rw [List.length_map]; exact xor3_length n _ _ _ (by exact HXS.out) (by exact HYS.out) (by exact HZS.out)) ?_ 9 Try.underlying9
        intro i hi
        rw [Nat.zero_add, hB3.cell (p := ⟨w.heap.size, i, none⟩) hgl, hblk.cell, HD.out i (by omega)]
        rw [List.getD_eq_getElem?_getD, List.getD_eq_getElem?_getD, List.getElem?_map, List.getElem?_eq_getElem (by rw [xor3_length n _ _ _ (by exact HXS.out) (by exact HYS.out) (by exact HZS.out)]; exact hi)]
        rfl
      have hr : (strOfNums ((xor3 x.data.toList y.data.toList z.data.toList).map fun x => (x.toNat : Int))).data.toList = xor3 x.data.toList y.data.toList z.data.toList := by
        rw [strOfNums_data, List.map_map]
        rw [show ((fun n : Int => UInt8.ofNat n.toNat) ∘ fun x : UInt8 => (x.toNat : Int)) = id by funext x; simp, List.map_id]
      have hrs : (strOfNums ((xor3 x.data.toList y.data.toList z.data.toList).map fun x => (x.toNat : Int))).size = n := by
        rw [strOfNums_size, List.length_map, xor3_length n _ _ _ (by exact HXS.out) (by exact HYS.out) (by exact HZS.out)]
      generalize strOfNums ((xor3 x.data.toList y.data.toList z.data.toList).map fun x => (x.toNat : Int)) = r at hback hr hrs
      have hsum := sum_three n x.data.toList y.data.toList z.data.toList (by exact HXS.out) (by exact HYS.out) (by exact HZS.out)
      rw [← hr] at hsum
      clear hr
      have HRS := Lib.hid hrs
      clear hrs
      have hW := hB.trans (hB3.mono hB.size)
      have hsz : w.heap.size ≤ wr.heap.size := hB.size
      clear hblk hB hB3
      generalize hp : Sm.sum x.data.toList = p at hsum
      generalize hq : Sm.sum y.data.toList = q at hsum
      generalize ht : Sm.sum z.data.toList = t at hsum
      generalize hv : Sm.sum r.data.toList = v at hsum
      have HP := Lib.hid hp
      have HQ := Lib.hid hq
      have HT := Lib.hid ht
      have HV := Lib.hid hv
      clear hp hq ht hv
      have hvv : (v == v) = true := by simp
      go_wp2_with fail
      refine (sum_tab _ _ _ (by rw [HXS.out]; unfold maxLen; omega) hT).mono ?_
      rintro e w' ⟨rfl, rfl⟩
      rw [HP.out]
      go_wp2_with fail
      refine (sum_tab _ _ _ (by rw [HYS.out]; unfold maxLen; omega) hT).mono ?_
      rintro e w' ⟨rfl, rfl⟩
      rw [HQ.out]
      go_wp2_with fail
      refine (sum_tab _ _ _ (by rw [HZS.out]; unfold maxLen; omega) hT).mono ?_
      rintro e w' ⟨rfl, rfl⟩
      rw [HT.out]
      go_wp2_with fail
      refine (sum_tab _ _ _ (by rw [HRS.out]; unfold maxLen; omega) hT).mono ?_
      rintro e w' ⟨rfl, rfl⟩
      rw [HV.out]
      go_wp2_with fail
      refine (awake01 _).mono ?_
      rintro e W4 ⟨rfl, hB4⟩
      go_wp2
      go_ret
      exact ⟨rfl, hW.trans (hB4.mono (by omega))⟩
end Go.Proofs.Ytekkmlhkcdijkaa
