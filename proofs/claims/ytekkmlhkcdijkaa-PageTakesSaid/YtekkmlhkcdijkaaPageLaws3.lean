/- THE LAWS of layer 2, walked: PageVersions, PageNoughts. Conditions: those of the arguments alone. -/
import Derived.Test.YtekkmlhkcdijkaaPageLaws2
namespace Go.Proofs.Ytekkmlhkcdijkaa
open Go.RowKit
set_option linter.unusedVariables false

theorem isPage_nat {i v : Nat} {b : List UInt8} (h1 : 1 ≤ i) (h2 : i ≤ 16) (h3 : 1 ≤ v) (h4 : v ≤ 2147483647) (h5 : b.length ≤ 16) : isPage i v (str b) = true :=
  (isPage_iff _ _ _).2 ⟨by omega, by omega, by omega, by omega, h5⟩
theorem pageBytes_ver {i v u : Nat} {b : List UInt8} (hv : v < 4294967296) (hu : u < 4294967296) : (pageBytes i v b = pageBytes i u b) ↔ v = u :=
  ⟨fun h => by rw [← partV_page i v b hv, h, partV_page i u b hu], fun h => by rw [h]⟩

set_option maxRecDepth 100000 in
set_option maxHeartbeats 800000 in
theorem pageVersions_walk (d : Int) (hd : (Lit.int .u8 d).wf = true) (a : Int) (ha : (Lit.int .u32 a).wf = true) (b : Int) (hb : (Lit.int .u32 b).wf = true) (s : ByteArray) (hs : s.size ≤ maxLen) (w : World) :
    Calls Try.prog 14 #[.int .u8 d, .int .u32 a, .int .u32 b, .string s] w fun e w' => e = .returned (.bool true) ∧ Below w.heap.size w w' := by
  have hd' : 0 ≤ d ∧ d ≤ 255 := by simpa [Lit.wf, IntKind.min, IntKind.max, IntKind.signed, IntKind.bits] using hd
  have ha' : 0 ≤ a ∧ a ≤ 4294967295 := by simpa [Lit.wf, IntKind.min, IntKind.max, IntKind.signed, IntKind.bits] using ha
  have hb' : 0 ≤ b ∧ b ≤ 4294967295 := by simpa [Lit.wf, IntKind.min, IntKind.max, IntKind.signed, IntKind.bits] using hb
  clear hd ha hb
  obtain ⟨hd1, hd2⟩ := hd'
  obtain ⟨ha1, ha2⟩ := ha'
  obtain ⟨hb1, hb2⟩ := hb'
  have hss := str_of s
  generalize s.data.toList = l at hss
  subst hss
  rw [str_size] at hs
  unfold maxLen at hs
  have hsz := str_size
  have htl := str_list
  by_cases hlen : (16 : Int) < (l.length : Int)
  · go_enter Try.func14, Try.ntmps14
    go_wp2_with fail
    refine (awake02 _).mono ?_
    rintro e W1 ⟨rfl, hB⟩
    go_wp2_with fail
    go_ret
    exact ⟨rfl, hB⟩
  obtain ⟨i, hi⟩ : ∃ i : Nat, 1 + d % 16 = (i : Int) := ⟨(1 + d % 16).toNat, by omega⟩
  obtain ⟨u, hu⟩ : ∃ u : Nat, 1 + a % 1073741824 = (u : Int) := ⟨(1 + a % 1073741824).toNat, by omega⟩
  obtain ⟨v, hv⟩ : ∃ v : Nat, 1 + b % 1073741824 = (v : Int) := ⟨(1 + b % 1073741824).toNat, by omega⟩
  have hpu : isPage i u (str l) = true := isPage_nat (by omega) (by omega) (by omega) (by omega) (by omega)
  have hpv : isPage i v (str l) = true := isPage_nat (by omega) (by omega) (by omega) (by omega) (by omega)
  have hver := pageBytes_ver (i := i) (v := u) (u := v) (b := l) (by omega) (by omega)
  have PU := Lib.hid (put_yes i u l · hpu)
  have PV := Lib.hid (put_yes i v l · hpv)
  have TU := Lib.hid (take_put i u l · hpu)
  have TV := Lib.hid (take_put i v l · hpv)
  generalize pageBytes i u l = x at hver PU TU
  generalize pageBytes i v l = y at hver PV TV
  have hfin : ((x == y) == ((u : Int) == (v : Int))) = true := by
    by_cases e : u = v
    · have := hver.2 e
      subst this; subst e; simp
    · have h1 : (x == y) = false := beq_eq_false_iff_ne.2 (fun h => e (hver.1 h))
      have h2 : ((u : Int) == (v : Int)) = false := beq_eq_false_iff_ne.2 (by omega)
      rw [h1, h2]; rfl
  clear hpu hpv hver
  go_enter Try.func14, Try.ntmps14
  go_wp2_with fail
  have bp := (Blk.new w 37 #[.int .i64 i, .int .i64 u, .string (str l)]).alloc (.cells #[.int .i64 i, .int .i64 v, .string (str l)] 37)
  have bq := Blk.new (w.alloc (.cells #[.int .i64 i, .int .i64 u, .string (str l)] 37)) 37 #[.int .i64 i, .int .i64 v, .string (str l)]
  have hw : Below w.heap.size w ((w.alloc (.cells #[.int .i64 i, .int .i64 u, .string (str l)] 37)).alloc (.cells #[.int .i64 i, .int .i64 v, .string (str l)] 37)) := ((Below.refl _ _).alloc (Nat.le_refl _) _).alloc (by simp) _
  rw [show (w.alloc (.cells #[.int .i64 i, .int .i64 u, .string (str l)] 37)).heap.size = w.heap.size + 1 by simp] at bq
  generalize (w.alloc (.cells #[.int .i64 i, .int .i64 u, .string (str l)] 37)).alloc (.cells #[.int .i64 i, .int .i64 v, .string (str l)] 37) = W0 at bp bq hw
  refine (PU.out _).mono ?_
  rintro e W1 ⟨rfl, hB⟩
  have bp := bp.keep hB
  have bq := bq.keep hB
  have hw := hw.trans (hB.mono hw.size)
  clear hB
  obtain ⟨c0, c1, c2, _, _, _⟩ := bp.three
  obtain ⟨d0, d1, d2, _, _, _⟩ := bq.three
  go_wp2_with fail
  refine (PV.out _).mono ?_
  rintro e W2 ⟨rfl, hB⟩
  have bp := bp.keep hB
  have bq := bq.keep hB
  have hw := hw.trans (hB.mono hw.size)
  clear hB
  clear c0 c1 c2 d0 d1 d2
  go_wp2_with fail
  refine (TU.out _).mono ?_
  rintro e W3 ⟨rfl, hB⟩
  have bp := bp.keep hB
  have bq := bq.keep hB
  have hw := hw.trans (hB.mono hw.size)
  clear hB
  unfold pageVal
  go_wp2_with fail
  have bx := Blk.new W3 37 #[.int .i64 i, .int .i64 u, .string (str l)]
  have bp := bp.alloc (.cells #[.int .i64 i, .int .i64 u, .string (str l)] 37)
  have bq := bq.alloc (.cells #[.int .i64 i, .int .i64 u, .string (str l)] 37)
  have hw := hw.alloc hw.size (.cells #[.int .i64 i, .int .i64 u, .string (str l)] 37)
  generalize W3.alloc (.cells #[.int .i64 i, .int .i64 u, .string (str l)] 37) = W4 at bp bq bx hw
  refine (TV.out _).mono ?_
  rintro e W5 ⟨rfl, hB⟩
  have bp := bp.keep hB
  have bq := bq.keep hB
  have bx := bx.keep hB
  have hw := hw.trans (hB.mono hw.size)
  clear hB
  unfold pageVal
  obtain ⟨c0, c1, c2, _, _, _⟩ := bp.three
  obtain ⟨d0, d1, d2, _, _, _⟩ := bq.three
  obtain ⟨x0, x1, x2, _, _, _⟩ := bx.three
  have l1 := bp.lt
  have l2 := bq.lt
  have l3 := bx.lt
  go_wp2_with fail
  refine (awake02 _).mono ?_
  rintro e W6 ⟨rfl, hB⟩
  go_wp2_with fail
  go_ret
  exact ⟨rfl, (hw.alloc hw.size _).trans (hB.mono (by have := hw.size; simp; omega))⟩

theorem made8u (n : Nat) (hn : n ≤ 281474976710656) (w : World) : (Instr.makeSlice 32 (.int .u8 n) (.int .u8 n)).run Try.prog w = .ok (.slice (some ⟨w.heap.size, 0, none⟩) n n) (w.alloc (.cells (Array.replicate n (.int .u8 0)) 5)) := by
  obtain ⟨i0, hi, hz0, hz1, hz2⟩ := info_parts info8
  have h := run_make w 32 5 i0 (.int .u8 0) Try.underlying32 hi hz0 .u8 .u8 n n (by omega) (by omega) (by rw [hz2]; omega) (by omega)
  simp only [hz1, Nat.mul_one, Int.toNat_natCast] at h
  rw [h]
  congr 4
  apply Array.toList_inj.1
  rw [show (Value.int IntKind.u8 0).cells = #[Value.int IntKind.u8 0] from rfl, toList_madeCells_one]
  simp
theorem convNoughts (n : Nat) (w : World) : (convert 32 9 (.slice (some ⟨w.heap.size, 0, none⟩) n n)).run Try.prog (w.alloc (.cells (Array.replicate n (.int .u8 0)) 5)) = .ok (.string (str (List.replicate n 0))) (w.alloc (.cells (Array.replicate n (.int .u8 0)) 5)) := by
  have e : strOfNums (List.replicate n 0) = str (List.replicate n 0) := by simp [strOfNums, str]
  rw [← e]
  refine run_convert_bytes_arg _ 32 5 Try.underlying32 Try.underlying5 w.heap.size 0 n n (List.replicate n 0) (by simp) ?_ 9 Try.underlying9
  intro i hi
  rw [(Blk.new w 5 (Array.replicate n (.int .u8 0))).cell, Nat.zero_add, List.getD_eq_getElem?_getD, List.getElem?_replicate, if_pos hi, Array.getElem?_replicate, if_pos hi]
  rfl
theorem pageBytes_len {i v u : Nat} {b c : List UInt8} (hb : b.length ≤ 16) (hc : c.length ≤ 16) (h : pageBytes i v b = pageBytes i v c) : b.length = c.length := by
  rw [← partN_page i v b hb, h, partN_page i v c hc]

set_option maxRecDepth 100000 in
set_option maxHeartbeats 800000 in
theorem pageNoughts_walk (d : Int) (hd : (Lit.int .u8 d).wf = true) (m : Int) (hm : (Lit.int .u8 m).wf = true) (b : Int) (hb : (Lit.int .u32 b).wf = true) (w : World) :
    Calls Try.prog 12 #[.int .u8 d, .int .u8 m, .int .u32 b] w fun e w' => e = .returned (.bool true) ∧ Below w.heap.size w w' := by
  have hd' : 0 ≤ d ∧ d ≤ 255 := by simpa [Lit.wf, IntKind.min, IntKind.max, IntKind.signed, IntKind.bits] using hd
  have hm' : 0 ≤ m ∧ m ≤ 255 := by simpa [Lit.wf, IntKind.min, IntKind.max, IntKind.signed, IntKind.bits] using hm
  have hb' : 0 ≤ b ∧ b ≤ 4294967295 := by simpa [Lit.wf, IntKind.min, IntKind.max, IntKind.signed, IntKind.bits] using hb
  clear hd hm hb
  obtain ⟨hd1, hd2⟩ := hd'
  obtain ⟨hm1, hm2⟩ := hm'
  obtain ⟨hb1, hb2⟩ := hb'
  have hsz := str_size
  have htl := str_list
  obtain ⟨i, hi⟩ : ∃ i : Nat, 1 + d % 16 = (i : Int) := ⟨(1 + d % 16).toNat, by omega⟩
  obtain ⟨n, hn⟩ : ∃ n : Nat, m % 17 = (n : Int) := ⟨(m % 17).toNat, by omega⟩
  obtain ⟨v, hv⟩ : ∃ v : Nat, 1 + b % 1073741824 = (v : Int) := ⟨(1 + b % 1073741824).toNat, by omega⟩
  have hn17 : n < 17 := by omega
  have hmk := made8u n (by omega)
  have hcv := convNoughts n
  have hpu : isPage i v (str (List.replicate n 0)) = true := isPage_nat (by omega) (by omega) (by omega) (by omega) (by simp; omega)
  have PU := Lib.hid (put_yes i v _ · hpu)
  have TU := Lib.hid (take_put i v _ · hpu)
  have hlen : (List.replicate n (0 : UInt8)).length = n := by simp
  have P2 := Lib.hid (put_any i v (List.replicate n 0 ++ [0]))
  have hp2 : isPage i v (str (List.replicate n 0 ++ [0])) = decide ((n : Int) < 16) := by
    unfold isPage
    rw [str_size, decide_eq_decide]
    simp
    omega
  rw [hp2] at P2
  have hST : (pageBytes i v (List.replicate n 0) != if decide ((n : Int) < 16) = true then pageBytes i v (List.replicate n 0 ++ [0]) else []) = true := by
    rw [bne_iff_ne]
    by_cases h16 : (n : Int) < 16
    · rw [if_pos (by simpa using h16)]
      intro h
      have := pageBytes_len (u := v) (by simp; omega) (by simp; omega) h
      simp at this
    · rw [if_neg (by simpa using h16)]
      intro h
      have e := congrArg List.length h
      rw [pageBytes_length i v _ (by simp; omega)] at e
      simp at e
  have hEn : (((if decide ((n : Int) < 16) = true then (0 : Int) else 1) == 0) == decide ((n : Int) < 16)) = true := by
    by_cases h16 : (n : Int) < 16
    · simp [h16]
    · simp [h16]
  generalize (if decide ((n : Int) < 16) = true then pageBytes i v (List.replicate n 0 ++ [0]) else []) = T at P2 hST
  generalize (if decide ((n : Int) < 16) = true then (0 : Int) else 1) = E at P2 hEn
  generalize pageBytes i v (List.replicate n 0) = x at PU TU hST
  have hST2 : (x == T) = false := beq_eq_false_iff_ne.2 (bne_iff_ne.1 hST)
  clear hp2
  generalize hl : List.replicate n (0 : UInt8) = l at hpu PU TU hlen hcv P2
  have HL := Lib.hid hl
  have HLEN := Lib.hid hlen
  clear hl hlen hpu
  have hcat : str l ++ ⟨#[0]⟩ = str (l ++ [0]) := str_append l [0]
  have hcats : ¬ 9223372036854775807 < l.length + (ByteArray.mk #[0]).size := by rw [HLEN.out]; simp [ByteArray.size]; omega
  go_enter Try.func12, Try.ntmps12
  go_wp2_with fail
  have bp := Blk.new (w.alloc (.cells (Array.replicate n (.int .u8 0)) 5)) 37 #[.int .i64 i, .int .i64 v, .string (str l)]
  have hw : Below w.heap.size w ((w.alloc (.cells (Array.replicate n (.int .u8 0)) 5)).alloc (.cells #[.int .i64 i, .int .i64 v, .string (str l)] 37)) := ((Below.refl _ _).alloc (Nat.le_refl _) _).alloc (by simp) _
  rw [show (w.alloc (.cells (Array.replicate n (.int .u8 0)) 5)).heap.size = w.heap.size + 1 by simp] at bp
  generalize (w.alloc (.cells (Array.replicate n (.int .u8 0)) 5)).alloc (.cells #[.int .i64 i, .int .i64 v, .string (str l)] 37) = W0 at bp hw
  clear hmk hcv
  refine (PU.out _).mono ?_
  rintro e W1 ⟨rfl, hB⟩
  have bp := bp.keep hB
  have hw := hw.trans (hB.mono hw.size)
  clear hB
  go_wp2_with fail
  refine (TU.out _).mono ?_
  rintro e W2 ⟨rfl, hB⟩
  have bp := bp.keep hB
  have hw := hw.trans (hB.mono hw.size)
  clear hB
  obtain ⟨c0, c1, c2, f0, f1, f2⟩ := bp.three
  have l1 := bp.lt
  unfold pageVal
  go_wp2_with fail
  have bq := Blk.new (W2.setCell ⟨w.heap.size + 1, 2, none⟩ (.string (str (l ++ [0])))) 37 #[.int .i64 i, .int .i64 v, .string (str l)]
  have hw := (hw.setCell (p := ⟨w.heap.size + 1, 2, none⟩) (by simp) (.string (str (l ++ [0])))).alloc (by have := hw.size; simp; omega) (.cells #[.int .i64 i, .int .i64 v, .string (str l)] 37)
  rw [show (W2.setCell ⟨w.heap.size + 1, 2, none⟩ (.string (str (l ++ [0])))).heap.size = W2.heap.size by simp] at bq
  generalize (W2.setCell ⟨w.heap.size + 1, 2, none⟩ (.string (str (l ++ [0])))).alloc (.cells #[.int .i64 i, .int .i64 v, .string (str l)] 37) = W3 at bq hw
  clear bp c0 c1 c2 f0 f1 f2 l1
  refine (P2.out _).mono ?_
  rintro e W4 ⟨rfl, hB⟩
  have bq := bq.keep hB
  have hw := hw.trans (hB.mono hw.size)
  clear hB
  obtain ⟨c0, c1, c2, _, _, _⟩ := bq.three
  have hln : (l.length : Int) = (n : Int) := by rw [HLEN.out]
  go_wp2_with fail
  refine (awake02 _).mono ?_
  rintro e W5 ⟨rfl, hB⟩
  go_wp2_with fail
  go_ret
  exact ⟨rfl, hw.trans (hB.mono (by have := hw.size; omega))⟩
end Go.Proofs.Ytekkmlhkcdijkaa
