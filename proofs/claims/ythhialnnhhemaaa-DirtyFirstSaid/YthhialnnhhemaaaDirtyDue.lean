/- LAYER 14, walked: since when, how many, what is due; equal lists of numbers. Conditions: the slices lead to the items, and to the numbers. -/
import Derived.Test.YthhialnnhhemaaaDirtyRef2
namespace Go.Proofs.Ythhialnnhhemaaa
open Go.RowKit
set_option linter.unusedVariables false

def intE : Enc Int := ⟨fun a => [.int .i64 a], 1, fun _ => rfl, by decide, by intro a u hu; simp at hu; subst hu; rfl⟩
theorem int_at {w : World} {b off : Nat} {l : List Int} (h : intE.At w b off l) (i : Nat) (hi : i < l.length) : w.cell? ⟨b, off + i, none⟩ = some (.int .i64 l[i]) := by
  have := h i hi 0 (by decide)
  simpa [intE] using this
theorem Dy.hasPage_at {l : List It} {p : Int} : Dy.hasPage l p = decide (0 ≤ Dy.at' l p) := by
  rw [Bool.eq_iff_iff, decide_eq_true_iff]; exact (Dy.at_has l p).symm

set_option maxRecDepth 100000 in
set_option maxHeartbeats 400000 in
theorem since_any (v : Value) (l : List It) (p : Int) (w : World) (h : itE.Sl w v l) :
    Calls Try.prog 28 #[v, .int .i64 p] w fun e w' => e = .returned (.tuple #[.int .i64 (if Dy.right l then Dy.sinceOf l p else 0), .bool (Dy.right l && Dy.hasPage l p)]) ∧ Below w.heap.size w w' := by
  have S := dright_any v l w h
  have HS := Lib.hid h
  obtain ⟨A, cap, rfl, h1, h2, h0, h3⟩ := h
  unfold maxLen at h2
  have H3 := Lib.hid h3
  clear h3 h0
  cases hr : Dy.right l with
  | false =>
    rw [hr] at S
    have S := Lib.hid S
    clear hr
    go_enter Try.func28, Try.ntmps28
    go_wp2_with fail
    refine S.out.mono ?_
    rintro e W1 ⟨rfl, hB1⟩
    go_wp2_with fail
    go_ret2
    exact ⟨by rfl, hB1⟩
  | true =>
    rw [hr] at S
    have S := Lib.hid S
    rw [if_pos rfl, Bool.true_and, Dy.hasPage_at]
    have P := fun W hw => place_any (.slice A l.length cap) l p W hw
    rcases Dy.at_cases l p with ⟨e, hno⟩ | ⟨k, hk, e, _, _⟩
    · have hs0 := Dy.sinceOf_none hno
      rw [e] at P ⊢
      rw [hs0]
      have P := Lib.hid P
      clear hno hs0 e hr
      go_enter Try.func28, Try.ntmps28
      go_wp2_with fail
      refine S.out.mono ?_
      rintro e W1 ⟨rfl, hB1⟩
      go_wp2_with fail
      refine (P.out W1 (HS.out.below hB1)).mono ?_
      rintro e W2 ⟨rfl, hB2⟩
      go_wp2_with fail
      go_ret2
      exact ⟨by rfl, hB1.trans (hB2.mono hB1.size)⟩
    · have hs := Dy.sinceOf_at hk e
      rw [e] at P ⊢
      obtain ⟨sv, hsv⟩ : ∃ sv, sv = l[k].since := ⟨_, rfl⟩
      rw [hs, ← hsv, decide_eq_true (by omega : (0 : Int) ≤ (k : Int))]
      have HSV := Lib.hid hsv
      clear hsv
      have P := Lib.hid P
      obtain ⟨b, off, rfl, hbl, hc⟩ := H3.out (by omega)
      have hki : (k : Int) < (l.length : Int) := by omega
      have hk0 : (0 : Int) ≤ (k : Int) := by omega
      have HC := Lib.hid hc
      clear hs e hr hc
      go_enter Try.func28, Try.ntmps28
      go_wp2_with fail
      refine S.out.mono ?_
      rintro e W1 ⟨rfl, hB1⟩
      go_wp2_with fail
      refine (P.out W1 (HS.out.below hB1)).mono ?_
      rintro e W2 ⟨rfl, hB2⟩
      have hB := hB1.trans (hB2.mono hB1.size)
      obtain ⟨c0, c1⟩ := it_at (HC.out.below hB hbl) k hk
      have hblt : b < W2.heap.size := Nat.lt_of_lt_of_le hbl hB.size
      rw [← HSV.out] at c1
      clear hB1 hB2
      go_wp2_with fail
      go_ret2
      exact ⟨by rfl, hB⟩

set_option maxRecDepth 100000 in
set_option maxHeartbeats 400000 in
theorem over_any (v : Value) (l : List It) (n : Int) (w : World) (h : itE.Sl w v l) :
    Calls Try.prog 33 #[v, .int .i64 n] w fun e w' => e = .returned (.bool (Dy.right l && decide (n ≤ (l.length : Int)))) ∧ Below w.heap.size w w' := by
  have S := dright_any v l w h
  obtain ⟨A, cap, rfl, h1, h2, h0, h3⟩ := h
  unfold maxLen at h2
  clear h3 h0
  cases hr : Dy.right l with
  | false =>
    rw [hr] at S
    have S := Lib.hid S
    clear hr
    go_enter Try.func33, Try.ntmps33
    go_wp2_with fail
    refine S.out.mono ?_
    rintro e W1 ⟨rfl, hB1⟩
    go_wp2_with fail
    go_ret
    exact ⟨by rfl, hB1⟩
  | true =>
    rw [hr] at S
    have S := Lib.hid S
    rw [Bool.true_and]
    clear hr
    by_cases hn : n ≤ (l.length : Int)
    · rw [decide_eq_true hn]
      go_enter Try.func33, Try.ntmps33
      go_wp2_with fail
      refine S.out.mono ?_
      rintro e W1 ⟨rfl, hB1⟩
      go_wp2_with fail
      go_ret
      exact ⟨by rfl, hB1⟩
    · rw [decide_eq_false hn]
      have hn2 : (l.length : Int) < n := by omega
      have hn3 : decide (n ≤ (l.length : Int)) = false := decide_eq_false hn
      clear hn
      go_enter Try.func33, Try.ntmps33
      go_wp2_with fail
      refine S.out.mono ?_
      rintro e W1 ⟨rfl, hB1⟩
      go_wp2_with fail
      go_ret
      exact ⟨by first | rfl | (rw [hn3]; rfl), hB1⟩

theorem infoInt : (Try.prog.info? 3).map (fun i => (i.zero, i.size, i.bytes)) = some (some (.int .i64 0), 1, 8) := by kernel_rfl
/-- these numbers, in a row of the call's own -/
def OwnsInts (B : Nat) (l : List Int) (e : Ending) (w' : World) : Prop := ∃ u, e = .returned u ∧ intE.Own w' B 3 u l
theorem news1 (w : World) (t : TypeId) (a : Value) : ∀ (j : Nat) (u : Value), [a][j]? = some u → (w.alloc (.cells #[a] t)).cell? ((⟨w.heap.size, 0, none⟩ : Addr).add j) = some u := by
  intro j u h
  have hb := Blk.new w t #[a]
  rw [Enc.add_none, hb.cell, Nat.zero_add]
  simpa using h
theorem Dy.dueOf_snoc (l : List It) (a : It) (now age : Int) : Dy.dueOf (l ++ [a]) now age = if Dy.isDue now age a then Dy.dueOf l now age ++ [a.page] else Dy.dueOf l now age := by
  rw [Dy.dueOf_eq, Dy.dueOf_eq, List.filter_append, List.map_append]
  by_cases h : Dy.isDue now age a = true
  · rw [if_pos h, List.filter_cons, if_pos h]; rfl
  · rw [if_neg h, List.filter_cons, if_neg h]; simp
theorem Dy.dueOf_le (l : List It) (now age : Int) : (Dy.dueOf l now age).length ≤ l.length := by
  rw [Dy.dueOf_eq, List.length_map]; exact List.length_filter_le _ _

set_option maxRecDepth 100000 in
set_option maxHeartbeats 800000 in
theorem due_any (v : Value) (l : List It) (now age : Int) (w : World) (h : itE.Sl w v l) (hn : Dy.fits now) (ha : Dy.fits age) :
    Calls Try.prog 32 #[v, .int .i64 now, .int .i64 age] w fun e w' => OwnsInts w.heap.size (Dy.due l now age) e w' ∧ Below w.heap.size w w' := by
  have S := dright_any v l w h
  have HS := Lib.hid h
  obtain ⟨A, cap, rfl, h1, h2, h0, h3⟩ := h
  unfold maxLen at h2
  unfold Dy.fits at hn ha
  obtain ⟨n1, n2⟩ := hn
  obtain ⟨a1, a2⟩ := ha
  have H3 := Lib.hid h3
  clear h3 h0
  unfold Dy.due
  cases hr : Dy.right l with
  | false =>
    rw [hr] at S
    have S := Lib.hid S
    rw [Bool.false_and, if_neg (by decide)]
    clear hr
    go_enter Try.func32, Try.ntmps32
    go_wp2_with fail
    refine S.out.mono ?_
    rintro e W1 ⟨rfl, hB1⟩
    go_wp2_with fail
    go_ret
    exact ⟨⟨_, rfl, Enc.Own.nil _ _ _⟩, hB1⟩
  | true =>
    rw [hr] at S
    have S := Lib.hid S
    rw [Bool.true_and]
    by_cases hage : 0 ≤ age
    · rw [decide_eq_true hage, if_pos rfl]
      have HOK := Lib.hid ((Dy.right_iff l).1 hr)
      obtain ⟨i0, hi, hz0, hz1, hz2⟩ := info_parts infoInt
      have HI := Lib.hid (And.intro hi (And.intro hz0 (And.intro hz1 hz2)))
      have hl16 : l.length ≤ 16 := HOK.out.short
      clear hr hi hz0 hz1 hz2
      go_enter Try.func32, Try.ntmps32
      go_wp2_with fail
      refine S.out.mono ?_
      rintro e W1 ⟨rfl, hB1⟩
      have hB1' := hB1
      clear S
      go_wp2_with fail
      go_loopw [7, 9, 19] (fun u _ i wr => ∃ (m : Nat) (A : Option Addr) (n c : Nat), m ≤ l.length ∧ i = .int .i64 m ∧ u = .slice A n c ∧ n = (Dy.dueOf (l.take m) now age).length ∧ wr.ownsRow w.heap.size 3 1 (.slice A n c) n (intE.flat (Dy.dueOf (l.take m) now age)) ∧ Below w.heap.size w wr) (fun _ _ i _ => l.length - (intOf i).toNat)
      case atStart => exact ⟨0, none, 0, 0, by omega, rfl, rfl, rfl, ⟨rfl, .inl ⟨rfl, rfl⟩⟩, hB1'⟩
      case round =>
        obtain ⟨m, A2, n, c, hm, rfl, rfl, hnl, hown, hB⟩ := hrel
        by_cases hlt : m < l.length
        · obtain ⟨b, off, rfl, hbl, hc⟩ := H3.out (by omega)
          obtain ⟨c0, c1⟩ := it_at (hc.below hB hbl) m hlt
          have hblt : b < wr.heap.size := Nat.lt_of_lt_of_le hbl hB.size
          have hsn := HOK.out.since l[m] (List.getElem_mem hlt)
          have hcl := Dy.dueOf_snoc (l.take m) l[m] now age
          rw [← List.take_succ_eq_append_getElem hlt] at hcl
          have hn16 : n ≤ 16 := by
            have := Dy.dueOf_le (l.take m) now age
            rw [List.length_take] at this
            omega
          clear hc
          generalize l[m] = d at c0 c1 hcl hsn
          obtain ⟨s1, s2⟩ := hsn
          by_cases hd : d.since ≤ now ∧ age ≤ now - d.since
          · obtain ⟨d1, d2⟩ := hd
            have hdd : Dy.isDue now age d = true := by unfold Dy.isDue; rw [decide_eq_true_iff]; omega
            rw [if_pos hdd] at hcl
            have hfl : intE.flat (Dy.dueOf (l.take (m + 1)) now age) = intE.flat (Dy.dueOf (l.take m) now age) ++ intE.enc d.page := by rw [hcl, Enc.flat_append, Enc.flat_single]
            have hln : (Dy.dueOf (l.take (m + 1)) now age).length = n + 1 := by rw [hcl, List.length_append, hnl]; rfl
            have HCL := Lib.hid (And.intro hfl hln)
            clear hcl hfl hln hnl hdd
            obtain ⟨hi, hz0, hz1, hz2⟩ := HI.out
            have hm7 : n + 1 ≤ maxLen := by unfold maxLen; omega
            have hm8 : (n + 1) * 8 ≤ 140737488355328 := by omega
            have hcb := Blk.new wr 61 #[.int .i64 d.page, .int .i64 d.since]
            go_wp2_with (at_builtin; go_must (refine wpList_append_own _ rfl _ _ 64 rfl w.heap.size 3 i0 (.int .i64 0) 1 8 Try.underlying64 hi hz0 hz1 hz2 rfl (by decide) _ _ _ rfl ((hown.alloc _).alloc _) ⟨wr.heap.size + 1, 0, none⟩ 1 1 (intE.enc d.page) rfl rfl ?c1 ?c2 hm7 hm8 ?c5 ?_))
            case c1 => have := news1 (wr.alloc (.cells #[.int .i64 d.page, .int .i64 d.since] 61)) 3 (.int .i64 d.page); simpa [intE] using this
            case c2 => exact intE.one d.page
            case c5 => have := hB.size; simp; omega
            intro v' w1 hown1 hgrow _
            have hB1 : Below w.heap.size w w1 := ((hB.alloc hB.size _).alloc (by have := hB.size; simp; omega) _).grown hgrow (by have := hB.size; simp; omega) (own_base hown)
            obtain ⟨A', c', rfl⟩ := own_form hown1
            rw [← HCL.out.1] at hown1
            clear hi hz0 hz1 hz2 hown hgrow c0 c1 hB hcb
            go_wp2_with fail
            go_roundw
            case rel => exact ⟨m + 1, A', n + 1, c', by omega, by go_num, rfl, HCL.out.2.symm, hown1, hB1⟩
            case measure => simp only [intOf]; omega
          · have hdd : Dy.isDue now age d = false := by unfold Dy.isDue; rw [decide_eq_false_iff_not]; exact hd
            rw [if_neg (by rw [hdd]; decide)] at hcl
            rw [← hcl] at hnl hown
            have HN := Lib.hid hnl
            clear hcl hdd hnl
            by_cases hd1 : d.since ≤ now
            · have hd2 : now - d.since < age := by omega
              clear hd
              go_wp2_with fail
              go_roundw
              case rel => exact ⟨m + 1, A2, n, c, by omega, by go_num, rfl, HN.out, hown.alloc _, hB.alloc hB.size _⟩
              case measure => simp only [intOf]; omega
            · have hd1' : now < d.since := by omega
              clear hd hd1
              go_wp2_with fail
              go_roundw
              case rel => exact ⟨m + 1, A2, n, c, by omega, by go_num, rfl, HN.out, hown.alloc _, hB.alloc hB.size _⟩
              case measure => simp only [intOf]; omega
        · obtain rfl : m = l.length := by omega
          rw [List.take_length] at hown hnl
          subst hnl
          go_wp2_with fail
          go_ret
          exact ⟨⟨_, rfl, hown⟩, hB⟩
    · rw [decide_eq_false hage, if_neg (by decide)]
      have hage2 : age < 0 := by omega
      clear hage hr
      go_enter Try.func32, Try.ntmps32
      go_wp2_with fail
      refine S.out.mono ?_
      rintro e W1 ⟨rfl, hB1⟩
      go_wp2_with fail
      go_ret
      exact ⟨⟨_, rfl, Enc.Own.nil _ _ _⟩, hB1⟩

set_option maxRecDepth 100000 in
set_option maxHeartbeats 800000 in
theorem equal_any (u v : Value) (a b : List Int) (w : World) (ha : intE.Sl w u a) (hb : intE.Sl w v b) :
    Calls Try.prog 31 #[u, v] w fun e w' => e = .returned (.bool (decide (a = b))) ∧ Below w.heap.size w w' := by
  obtain ⟨A, cap, rfl, h1, h2, h0, h3⟩ := ha
  obtain ⟨B, cap', rfl, k1, k2, k0, k3⟩ := hb
  unfold maxLen at h2 k2
  have H3 := Lib.hid h3
  have K3 := Lib.hid k3
  clear h3 h0 k3 k0
  by_cases hne : a.length = b.length
  · have hne1 : ((a.length : Int) != (b.length : Int)) = false := by rw [hne]; simp
    have HNE := Lib.hid hne
    clear hne
    go_enter Try.func31, Try.ntmps31
    go_wp2_with fail
    go_loopw [5] (fun i wr => ∃ k : Nat, k ≤ a.length ∧ i = .int .i64 k ∧ a.take k = b.take k ∧ Below w.heap.size w wr) (fun i _ => a.length - (intOf i).toNat)
    case atStart => exact ⟨0, by omega, rfl, rfl, Below.refl _ _⟩
    case round =>
      obtain ⟨k, hk, rfl, heq, hB⟩ := hrel
      have HEQ := Lib.hid heq
      clear heq
      by_cases hlt : k < a.length
      · have hltb : k < b.length := by have := HNE.out; omega
        obtain ⟨ab, ao, rfl, hbl, hc⟩ := H3.out (by omega)
        obtain ⟨bb, bo, rfl, hbl', hc'⟩ := K3.out (by omega)
        have c0 := int_at (hc.below hB hbl) k hlt
        have d0 := int_at (hc'.below hB hbl') k hltb
        have hblt : ab < wr.heap.size := Nat.lt_of_lt_of_le hbl hB.size
        have hblt' : bb < wr.heap.size := Nat.lt_of_lt_of_le hbl' hB.size
        have hlta : (k : Int) < (a.length : Int) := by omega
        have hltbi : (k : Int) < (b.length : Int) := by omega
        have hk0 : (0 : Int) ≤ (k : Int) := by omega
        have ta : a.take (k + 1) = a.take k ++ [a[k]] := List.take_succ_eq_append_getElem hlt
        have tb : b.take (k + 1) = b.take k ++ [b[k]] := List.take_succ_eq_append_getElem hltb
        clear hc hc'
        by_cases he : a[k] = b[k]
        · have hst : a.take (k + 1) = b.take (k + 1) := by rw [ta, tb, HEQ.out, he]
          have HST := Lib.hid hst
          rw [← he] at d0
          clear ta tb hst he
          generalize a[k] = x at *
          go_wp2_with fail
          go_quiet (fail)
          go_wp2_with fail
          go_roundw
          case rel => exact ⟨k + 1, by omega, by go_num, HST.out, hB.trans (drewN_below _ _ _)⟩
          case measure => simp [intOf]; omega
        · have hf : decide (a = b) = false := decide_eq_false (by rintro rfl; exact he rfl)
          have HF := Lib.hid hf
          have hb1 : (a[k] != b[k]) = true := by simpa using he
          clear ta tb hf he
          generalize a[k] = x at *
          generalize b[k] = y at *
          go_wp2_with fail
          go_quiet (fail)
          go_wp2_with fail
          go_ret
          exact ⟨by rw [HF.out]; rfl, hB.trans (drewN_below _ _ _)⟩
      · have hge : a.length ≤ k := by omega
        have ht : decide (a = b) = true := by
          apply decide_eq_true
          have h1 := HEQ.out
          rw [List.take_of_length_le hge, List.take_of_length_le (by have := HNE.out; omega)] at h1
          exact h1
        have HT := Lib.hid ht
        clear ht hlt
        go_wp2_with fail
        go_ret
        exact ⟨by rw [HT.out]; rfl, hB⟩
  · have hne1 : ((a.length : Int) != (b.length : Int)) = true := by rw [bne_iff_ne]; omega
    have hf : decide (a = b) = false := decide_eq_false (by rintro rfl; exact hne rfl)
    rw [hf]
    clear hne hf
    go_enter Try.func31, Try.ntmps31
    go_wp2_with fail
    go_ret
    exact ⟨rfl, Below.refl _ _⟩
end Go.Proofs.Ythhialnnhhemaaa
