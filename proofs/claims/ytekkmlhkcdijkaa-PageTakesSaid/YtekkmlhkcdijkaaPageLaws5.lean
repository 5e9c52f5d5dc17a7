/- THE LAWS of layer 2, walked: PageApart. Conditions: those of the arguments alone. -/
import Derived.Test.YtekkmlhkcdijkaaPageLaws4
namespace Go.Proofs.Ytekkmlhkcdijkaa
open Go.RowKit
set_option linter.unusedVariables false

set_option maxHeartbeats 400000 in
theorem noughts_any (l : List UInt8) (hl : l.length ≤ 1000) (w : World) :
    Calls Try.prog 27 #[.string (str l)] w fun e w' => e = .returned (.bool (l.all (· == 0))) ∧ w = w' := by
  have hsz := str_size
  go_enter Try.func27, Try.ntmps27
  go_wp2
  go_loop [3] (fun i => ∃ k : Nat, k ≤ l.length ∧ i = .int .i64 k ∧ (l.take k).all (· == 0) = true) (fun i => l.length - (intOf i).toNat)
  case atStart => exact ⟨0, by omega, rfl, rfl⟩
  case round =>
    obtain ⟨k, hk, rfl, hz⟩ := hrel
    have HZ := Lib.hid hz
    clear hz
    by_cases hlt : k < l.length
    · have hts : l.take (k + 1) = l.take k ++ [l[k]] := List.take_succ_eq_append_getElem hlt
      have HTS := Lib.hid hts
      clear hts
      by_cases hc0 : l[k] = 0
      · have h0 : ((l[k].toNat : Int) != 0) = false := by rw [hc0]; rfl
        have h1 : ∀ h : k < (str l).size, ((((str l)[k]'h).toNat : Int) != 0) = false := fun _ => h0
        have HC0 := Lib.hid hc0
        clear hc0
        go_wp2_with fail
        go_round
        case rel => exact ⟨k + 1, by omega, by go_num, by rw [HTS.out, List.all_append, HZ.out, HC0.out]; rfl⟩
        case measure => simp [intOf]; omega
      · have h0 : ((l[k].toNat : Int) != 0) = true := by
          rw [bne_iff_ne]; intro h
          exact hc0 (UInt8.toNat_inj.1 (by simpa using h))
        have h1 : ∀ h : k < (str l).size, ((((str l)[k]'h).toNat : Int) != 0) = true := fun _ => h0
        have hall : l.all (· == 0) = false := by
          rw [Bool.eq_false_iff]
          intro h
          exact hc0 (by simpa using List.all_eq_true.1 h l[k] (List.getElem_mem hlt))
        have HALL := Lib.hid hall
        clear hall hc0
        go_wp2_with fail
        go_ret
        exact ⟨by rw [HALL.out]; rfl, rfl⟩
    · have hge : l.length ≤ k := by omega
      clear hlt
      go_wp2_with fail
      go_ret
      have h := HZ.out
      rw [List.take_of_length_le hge] at h
      exact ⟨by rw [h]; rfl, rfl⟩

theorem page_inj {i v j u : Nat} {b c : List UInt8} (hi : i < 4294967296) (hj : j < 4294967296) (hv : v < 4294967296) (hu : u < 4294967296) (hb : b.length ≤ 16) (hc : c.length ≤ 16) : pageBytes i v b = pageBytes j u c ↔ (i = j ∧ v = u ∧ b = c) := by
  constructor
  · intro h
    exact ⟨by rw [← partI_page i v b hi, h, partI_page j u c hj], by rw [← partV_page i v b hv, h, partV_page j u c hu], by rw [← partB_page i v b hb, h, partB_page j u c hc]⟩
  · rintro ⟨rfl, rfl, rfl⟩; rfl

set_option maxRecDepth 100000 in
set_option maxHeartbeats 800000 in
theorem pageApart_walk (p : Value) (hp : PageArg p) (q : Value) (hq : PageArg q) (w : World) :
    Calls Try.prog 11 #[p, q] w fun e w' => e = .returned (.bool true) ∧ Below w.heap.size w w' := by
  have hsz := str_size
  have htl := str_list
  rcases hp.cases with ⟨i, n, l, rfl, hpg, hbl⟩ | ⟨i, n, l, rfl, hpg, hi16, hi1, hn1, hn2, hbl⟩
  all_goals rcases hq.cases with ⟨j, m, r, rfl, hqg, hbr⟩ | ⟨j, m, r, rfl, hqg, hj16, hj1, hm1, hm2, hbr⟩
  all_goals clear hp hq
  ·
    by_cases hgl : (100 : Int) < (l.length : Int)
    · go_enter Try.func11, Try.ntmps11
      go_wp2_with fail
      refine (awake02 _).mono ?_
      rintro e W1 ⟨rfl, hB⟩
      go_wp2_with fail
      go_ret
      exact ⟨rfl, (((Below.refl _ _).alloc (Nat.le_refl _) _).alloc (by simp) _).trans (hB.mono (by simp; omega))⟩
    by_cases hgr : (100 : Int) < (r.length : Int)
    · go_enter Try.func11, Try.ntmps11
      go_wp2_with fail
      refine (awake02 _).mono ?_
      rintro e W1 ⟨rfl, hB⟩
      go_wp2_with fail
      go_ret
      exact ⟨rfl, (((Below.refl _ _).alloc (Nat.le_refl _) _).alloc (by simp) _).trans (hB.mono (by simp; omega))⟩
    go_enter Try.func11, Try.ntmps11
    go_wp2_with fail
    have bp := (Blk.new w 37 #[.int .i64 i, .int .i64 n, .string (str l)]).alloc (.cells #[.int .i64 j, .int .i64 m, .string (str r)] 37)
    have bq := Blk.new (w.alloc (.cells #[.int .i64 i, .int .i64 n, .string (str l)] 37)) 37 #[.int .i64 j, .int .i64 m, .string (str r)]
    have hw : Below w.heap.size w ((w.alloc (.cells #[.int .i64 i, .int .i64 n, .string (str l)] 37)).alloc (.cells #[.int .i64 j, .int .i64 m, .string (str r)] 37)) := ((Below.refl _ _).alloc (Nat.le_refl _) _).alloc (by simp) _
    rw [show (w.alloc (.cells #[.int .i64 i, .int .i64 n, .string (str l)] 37)).heap.size = w.heap.size + 1 by simp] at bq
    generalize (w.alloc (.cells #[.int .i64 i, .int .i64 n, .string (str l)] 37)).alloc (.cells #[.int .i64 j, .int .i64 m, .string (str r)] 37) = W0 at bp bq hw
    refine (put_no i n (str l) _ hpg).mono ?_
    rintro e W1 ⟨rfl, hB⟩
    have bp := bp.keep hB
    have bq := bq.keep hB
    have hw := hw.trans (hB.mono hw.size)
    clear hB
    obtain ⟨d0, d1, d2, _, _, _⟩ := bq.three
    go_wp2_with fail
    refine (put_no j m (str r) _ hqg).mono ?_
    rintro e W2 ⟨rfl, hB⟩
    have bp := bp.keep hB
    have bq := bq.keep hB
    have hw := hw.trans (hB.mono hw.size)
    clear hB d0 d1 d2
    obtain ⟨c0, c1, c2, _, _, _⟩ := bp.three
    obtain ⟨d0, d1, d2, _, _, _⟩ := bq.three
    have l1 := bp.lt
    have l2 := bq.lt
    clear bp bq
    go_wp2_with fail
    refine (awake02 _).mono ?_
    rintro e W3 ⟨rfl, hB⟩
    go_wp2_with fail
    go_ret
    exact ⟨rfl, hw.trans (hB.mono hw.size)⟩
  ·
    by_cases hgl : (100 : Int) < (l.length : Int)
    · go_enter Try.func11, Try.ntmps11
      go_wp2_with fail
      refine (awake02 _).mono ?_
      rintro e W1 ⟨rfl, hB⟩
      go_wp2_with fail
      go_ret
      exact ⟨rfl, (((Below.refl _ _).alloc (Nat.le_refl _) _).alloc (by simp) _).trans (hB.mono (by simp; omega))⟩
    have PV := Lib.hid (put_yes j m r · hqg)
    have hneq : ¬ pageBytes j m r = [] := by intro h; have := congrArg List.length h; rw [pageBytes_length j m r hbr] at this; simp at this
    generalize pageBytes j m r = y at PV hneq
    go_enter Try.func11, Try.ntmps11
    go_wp2_with fail
    have bp := (Blk.new w 37 #[.int .i64 i, .int .i64 n, .string (str l)]).alloc (.cells #[.int .i64 j, .int .i64 m, .string (str r)] 37)
    have bq := Blk.new (w.alloc (.cells #[.int .i64 i, .int .i64 n, .string (str l)] 37)) 37 #[.int .i64 j, .int .i64 m, .string (str r)]
    have hw : Below w.heap.size w ((w.alloc (.cells #[.int .i64 i, .int .i64 n, .string (str l)] 37)).alloc (.cells #[.int .i64 j, .int .i64 m, .string (str r)] 37)) := ((Below.refl _ _).alloc (Nat.le_refl _) _).alloc (by simp) _
    rw [show (w.alloc (.cells #[.int .i64 i, .int .i64 n, .string (str l)] 37)).heap.size = w.heap.size + 1 by simp] at bq
    generalize (w.alloc (.cells #[.int .i64 i, .int .i64 n, .string (str l)] 37)).alloc (.cells #[.int .i64 j, .int .i64 m, .string (str r)] 37) = W0 at bp bq hw
    refine (put_no i n (str l) _ hpg).mono ?_
    rintro e W1 ⟨rfl, hB⟩
    have bp := bp.keep hB
    have bq := bq.keep hB
    have hw := hw.trans (hB.mono hw.size)
    clear hB
    obtain ⟨d0, d1, d2, _, _, _⟩ := bq.three
    go_wp2_with fail
    refine (PV.out _).mono ?_
    rintro e W2 ⟨rfl, hB⟩
    have bp := bp.keep hB
    have bq := bq.keep hB
    have hw := hw.trans (hB.mono hw.size)
    clear hB d0 d1 d2
    obtain ⟨c0, c1, c2, _, _, _⟩ := bp.three
    obtain ⟨d0, d1, d2, _, _, _⟩ := bq.three
    have l1 := bp.lt
    have l2 := bq.lt
    clear bp bq
    go_wp2_with fail
    refine (awake02 _).mono ?_
    rintro e W3 ⟨rfl, hB⟩
    go_wp2_with fail
    go_ret
    exact ⟨rfl, hw.trans (hB.mono hw.size)⟩
  ·
    by_cases hgr : (100 : Int) < (r.length : Int)
    · go_enter Try.func11, Try.ntmps11
      go_wp2_with fail
      refine (awake02 _).mono ?_
      rintro e W1 ⟨rfl, hB⟩
      go_wp2_with fail
      go_ret
      exact ⟨rfl, (((Below.refl _ _).alloc (Nat.le_refl _) _).alloc (by simp) _).trans (hB.mono (by simp; omega))⟩
    have PU := Lib.hid (put_yes i n l · hpg)
    have hnep : ¬ pageBytes i n l = [] := by intro h; have := congrArg List.length h; rw [pageBytes_length i n l hbl] at this; simp at this
    generalize pageBytes i n l = x at PU hnep
    go_enter Try.func11, Try.ntmps11
    go_wp2_with fail
    have bp := (Blk.new w 37 #[.int .i64 i, .int .i64 n, .string (str l)]).alloc (.cells #[.int .i64 j, .int .i64 m, .string (str r)] 37)
    have bq := Blk.new (w.alloc (.cells #[.int .i64 i, .int .i64 n, .string (str l)] 37)) 37 #[.int .i64 j, .int .i64 m, .string (str r)]
    have hw : Below w.heap.size w ((w.alloc (.cells #[.int .i64 i, .int .i64 n, .string (str l)] 37)).alloc (.cells #[.int .i64 j, .int .i64 m, .string (str r)] 37)) := ((Below.refl _ _).alloc (Nat.le_refl _) _).alloc (by simp) _
    rw [show (w.alloc (.cells #[.int .i64 i, .int .i64 n, .string (str l)] 37)).heap.size = w.heap.size + 1 by simp] at bq
    generalize (w.alloc (.cells #[.int .i64 i, .int .i64 n, .string (str l)] 37)).alloc (.cells #[.int .i64 j, .int .i64 m, .string (str r)] 37) = W0 at bp bq hw
    refine (PU.out _).mono ?_
    rintro e W1 ⟨rfl, hB⟩
    have bp := bp.keep hB
    have bq := bq.keep hB
    have hw := hw.trans (hB.mono hw.size)
    clear hB
    obtain ⟨d0, d1, d2, _, _, _⟩ := bq.three
    go_wp2_with fail
    refine (put_no j m (str r) _ hqg).mono ?_
    rintro e W2 ⟨rfl, hB⟩
    have bp := bp.keep hB
    have bq := bq.keep hB
    have hw := hw.trans (hB.mono hw.size)
    clear hB d0 d1 d2
    obtain ⟨c0, c1, c2, _, _, _⟩ := bp.three
    obtain ⟨d0, d1, d2, _, _, _⟩ := bq.three
    have l1 := bp.lt
    have l2 := bq.lt
    clear bp bq
    go_wp2_with fail
    refine (awake02 _).mono ?_
    rintro e W3 ⟨rfl, hB⟩
    go_wp2_with fail
    go_ret
    exact ⟨rfl, hw.trans (hB.mono hw.size)⟩
  · have PU := Lib.hid (put_yes i n l · hpg)
    have PV := Lib.hid (put_yes j m r · hqg)
    have hne := pageBytes_ne i n l (by omega) (by omega)
    have hlx := pageBytes_length i n l hbl
    have hinj := page_inj (i := i) (v := n) (j := j) (u := m) (b := l) (c := r) (by omega) (by omega) (by omega) (by omega) hbl hbr
    generalize pageBytes i n l = x at PU hne hlx hinj
    generalize pageBytes j m r = y at PV hinj
    have hno : x.all (· == 0) = false := by
      rw [Bool.eq_false_iff]; intro h
      apply hne
      rw [List.eq_replicate_iff]
      exact ⟨hlx, fun b hb => by simpa using List.all_eq_true.1 h b hb⟩
    have NO := noughts_any x (by omega)
    rw [hno] at NO
    have NO := Lib.hid NO
    clear hne hlx hno hpg hqg
    by_cases e1 : i = j
    · by_cases e2 : n = m
      · by_cases e3 : l = r
        · subst e1 e2 e3
          obtain rfl := hinj.2 ⟨rfl, rfl, rfl⟩
          clear hinj
          go_enter Try.func11, Try.ntmps11
          go_wp2_with fail
          have bp := (Blk.new w 37 #[.int .i64 i, .int .i64 n, .string (str l)]).alloc (.cells #[.int .i64 i, .int .i64 n, .string (str l)] 37)
          have bq := Blk.new (w.alloc (.cells #[.int .i64 i, .int .i64 n, .string (str l)] 37)) 37 #[.int .i64 i, .int .i64 n, .string (str l)]
          have hw : Below w.heap.size w ((w.alloc (.cells #[.int .i64 i, .int .i64 n, .string (str l)] 37)).alloc (.cells #[.int .i64 i, .int .i64 n, .string (str l)] 37)) := ((Below.refl _ _).alloc (Nat.le_refl _) _).alloc (by simp) _
          rw [show (w.alloc (.cells #[.int .i64 i, .int .i64 n, .string (str l)] 37)).heap.size = w.heap.size + 1 by simp] at bq
          generalize (w.alloc (.cells #[.int .i64 i, .int .i64 n, .string (str l)] 37)).alloc (.cells #[.int .i64 i, .int .i64 n, .string (str l)] 37) = W0 at bp bq hw
          refine (PU.out _).mono ?_
          rintro e W1 ⟨rfl, hB⟩
          have bp := bp.keep hB
          have bq := bq.keep hB
          have hw := hw.trans (hB.mono hw.size)
          clear hB
          obtain ⟨d0, d1, d2, _, _, _⟩ := bq.three
          go_wp2_with fail
          refine (PV.out _).mono ?_
          rintro e W2 ⟨rfl, hB⟩
          have bp := bp.keep hB
          have bq := bq.keep hB
          have hw := hw.trans (hB.mono hw.size)
          clear hB d0 d1 d2
          obtain ⟨c0, c1, c2, _, _, _⟩ := bp.three
          obtain ⟨d0, d1, d2, _, _, _⟩ := bq.three
          have l1 := bp.lt
          have l2 := bq.lt
          clear bp bq
          go_wp2_with fail
          refine (NO.out _).mono ?_
          rintro e W3 ⟨rfl, rfl⟩
          go_wp2_with fail
          refine (awake02 _).mono ?_
          rintro e W3 ⟨rfl, hB⟩
          go_wp2_with fail
          go_ret
          exact ⟨rfl, hw.trans (hB.mono hw.size)⟩
        ·
          have q0 : (x == y) = false := beq_eq_false_iff_ne.2 (fun h => e3 (hinj.1 h).2.2)
          have HINJ := Lib.hid hinj
          clear hinj
          subst e1 e2
          have q3 : (l == r) = false := beq_eq_false_iff_ne.2 e3
          go_enter Try.func11, Try.ntmps11
          go_wp2_with fail
          have bp := (Blk.new w 37 #[.int .i64 i, .int .i64 n, .string (str l)]).alloc (.cells #[.int .i64 i, .int .i64 n, .string (str r)] 37)
          have bq := Blk.new (w.alloc (.cells #[.int .i64 i, .int .i64 n, .string (str l)] 37)) 37 #[.int .i64 i, .int .i64 n, .string (str r)]
          have hw : Below w.heap.size w ((w.alloc (.cells #[.int .i64 i, .int .i64 n, .string (str l)] 37)).alloc (.cells #[.int .i64 i, .int .i64 n, .string (str r)] 37)) := ((Below.refl _ _).alloc (Nat.le_refl _) _).alloc (by simp) _
          rw [show (w.alloc (.cells #[.int .i64 i, .int .i64 n, .string (str l)] 37)).heap.size = w.heap.size + 1 by simp] at bq
          generalize (w.alloc (.cells #[.int .i64 i, .int .i64 n, .string (str l)] 37)).alloc (.cells #[.int .i64 i, .int .i64 n, .string (str r)] 37) = W0 at bp bq hw
          refine (PU.out _).mono ?_
          rintro e W1 ⟨rfl, hB⟩
          have bp := bp.keep hB
          have bq := bq.keep hB
          have hw := hw.trans (hB.mono hw.size)
          clear hB
          obtain ⟨d0, d1, d2, _, _, _⟩ := bq.three
          go_wp2_with fail
          refine (PV.out _).mono ?_
          rintro e W2 ⟨rfl, hB⟩
          have bp := bp.keep hB
          have bq := bq.keep hB
          have hw := hw.trans (hB.mono hw.size)
          clear hB d0 d1 d2
          obtain ⟨c0, c1, c2, _, _, _⟩ := bp.three
          obtain ⟨d0, d1, d2, _, _, _⟩ := bq.three
          have l1 := bp.lt
          have l2 := bq.lt
          clear bp bq
          go_wp2_with fail
          refine (NO.out _).mono ?_
          rintro e W3 ⟨rfl, rfl⟩
          go_wp2_with fail
          refine (awake02 _).mono ?_
          rintro e W3 ⟨rfl, hB⟩
          go_wp2_with fail
          go_ret
          exact ⟨rfl, hw.trans (hB.mono hw.size)⟩
      ·
          have q0 : (x == y) = false := beq_eq_false_iff_ne.2 (fun h => e2 (hinj.1 h).2.1)
          have HINJ := Lib.hid hinj
          clear hinj
          subst e1
          have q2 : ((n : Int) == (m : Int)) = false := beq_eq_false_iff_ne.2 (by omega)
          go_enter Try.func11, Try.ntmps11
          go_wp2_with fail
          have bp := (Blk.new w 37 #[.int .i64 i, .int .i64 n, .string (str l)]).alloc (.cells #[.int .i64 i, .int .i64 m, .string (str r)] 37)
          have bq := Blk.new (w.alloc (.cells #[.int .i64 i, .int .i64 n, .string (str l)] 37)) 37 #[.int .i64 i, .int .i64 m, .string (str r)]
          have hw : Below w.heap.size w ((w.alloc (.cells #[.int .i64 i, .int .i64 n, .string (str l)] 37)).alloc (.cells #[.int .i64 i, .int .i64 m, .string (str r)] 37)) := ((Below.refl _ _).alloc (Nat.le_refl _) _).alloc (by simp) _
          rw [show (w.alloc (.cells #[.int .i64 i, .int .i64 n, .string (str l)] 37)).heap.size = w.heap.size + 1 by simp] at bq
          generalize (w.alloc (.cells #[.int .i64 i, .int .i64 n, .string (str l)] 37)).alloc (.cells #[.int .i64 i, .int .i64 m, .string (str r)] 37) = W0 at bp bq hw
          refine (PU.out _).mono ?_
          rintro e W1 ⟨rfl, hB⟩
          have bp := bp.keep hB
          have bq := bq.keep hB
          have hw := hw.trans (hB.mono hw.size)
          clear hB
          obtain ⟨d0, d1, d2, _, _, _⟩ := bq.three
          go_wp2_with fail
          refine (PV.out _).mono ?_
          rintro e W2 ⟨rfl, hB⟩
          have bp := bp.keep hB
          have bq := bq.keep hB
          have hw := hw.trans (hB.mono hw.size)
          clear hB d0 d1 d2
          obtain ⟨c0, c1, c2, _, _, _⟩ := bp.three
          obtain ⟨d0, d1, d2, _, _, _⟩ := bq.three
          have l1 := bp.lt
          have l2 := bq.lt
          clear bp bq
          go_wp2_with fail
          refine (NO.out _).mono ?_
          rintro e W3 ⟨rfl, rfl⟩
          go_wp2_with fail
          refine (awake02 _).mono ?_
          rintro e W3 ⟨rfl, hB⟩
          go_wp2_with fail
          go_ret
          exact ⟨rfl, hw.trans (hB.mono hw.size)⟩
    ·
          have q0 : (x == y) = false := beq_eq_false_iff_ne.2 (fun h => e1 (hinj.1 h).1)
          have HINJ := Lib.hid hinj
          clear hinj
          have q1 : ((i : Int) == (j : Int)) = false := beq_eq_false_iff_ne.2 (by omega)
          go_enter Try.func11, Try.ntmps11
          go_wp2_with fail
          have bp := (Blk.new w 37 #[.int .i64 i, .int .i64 n, .string (str l)]).alloc (.cells #[.int .i64 j, .int .i64 m, .string (str r)] 37)
          have bq := Blk.new (w.alloc (.cells #[.int .i64 i, .int .i64 n, .string (str l)] 37)) 37 #[.int .i64 j, .int .i64 m, .string (str r)]
          have hw : Below w.heap.size w ((w.alloc (.cells #[.int .i64 i, .int .i64 n, .string (str l)] 37)).alloc (.cells #[.int .i64 j, .int .i64 m, .string (str r)] 37)) := ((Below.refl _ _).alloc (Nat.le_refl _) _).alloc (by simp) _
          rw [show (w.alloc (.cells #[.int .i64 i, .int .i64 n, .string (str l)] 37)).heap.size = w.heap.size + 1 by simp] at bq
          generalize (w.alloc (.cells #[.int .i64 i, .int .i64 n, .string (str l)] 37)).alloc (.cells #[.int .i64 j, .int .i64 m, .string (str r)] 37) = W0 at bp bq hw
          refine (PU.out _).mono ?_
          rintro e W1 ⟨rfl, hB⟩
          have bp := bp.keep hB
          have bq := bq.keep hB
          have hw := hw.trans (hB.mono hw.size)
          clear hB
          obtain ⟨d0, d1, d2, _, _, _⟩ := bq.three
          go_wp2_with fail
          refine (PV.out _).mono ?_
          rintro e W2 ⟨rfl, hB⟩
          have bp := bp.keep hB
          have bq := bq.keep hB
          have hw := hw.trans (hB.mono hw.size)
          clear hB d0 d1 d2
          obtain ⟨c0, c1, c2, _, _, _⟩ := bp.three
          obtain ⟨d0, d1, d2, _, _, _⟩ := bq.three
          have l1 := bp.lt
          have l2 := bq.lt
          clear bp bq
          go_wp2_with fail
          refine (NO.out _).mono ?_
          rintro e W3 ⟨rfl, rfl⟩
          go_wp2_with fail
          refine (awake02 _).mono ?_
          rintro e W3 ⟨rfl, hB⟩
          go_wp2_with fail
          go_ret
          exact ⟨rfl, hw.trans (hB.mono hw.size)⟩
end Go.Proofs.Ytekkmlhkcdijkaa
