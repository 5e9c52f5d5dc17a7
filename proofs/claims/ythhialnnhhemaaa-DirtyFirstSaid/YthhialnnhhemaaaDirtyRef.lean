/- LAYER 14, walked: the document's items: copies, who they are, where one stands, equal lists. Conditions: the slices lead to the items. -/
import Derived.Test.YthhialnnhhemaaaDirtyRight
namespace Go.Proofs.Ythhialnnhhemaaa
open Go.RowKit
set_option linter.unusedVariables false

theorem infoRi : (Try.prog.info? 60).map (fun i => (i.zero, i.size, i.bytes)) = some (some (.agg #[.int .i64 0, .int .i64 0]), 2, 16) := by kernel_rfl
theorem news2 (w : World) (t : TypeId) (a b : Value) : ∀ (j : Nat) (u : Value), [a, b][j]? = some u → (w.alloc (.cells #[a, b] t)).cell? ((⟨w.heap.size, 0, none⟩ : Addr).add j) = some u := by
  intro j u h
  have hb := Blk.new w t #[a, b]
  rw [Enc.add_none, hb.cell, Nat.zero_add]
  simpa using h

set_option maxRecDepth 100000 in
set_option maxHeartbeats 400000 in
theorem refFind_any (v : Value) (l : List It) (p : Int) (w : World) (h : itE.Sl w v l) :
    Calls Try.prog 25 #[v, .int .i64 p] w fun e w' => e = .returned (.int .i64 (Dy.at' l p)) ∧ Below w.heap.size w w' := by
  obtain ⟨A, cap, rfl, h1, h2, h0, h3⟩ := h
  unfold maxLen at h2
  have H3 := Lib.hid h3
  clear h3 h0
  go_enter Try.func25, Try.ntmps25
  go_wp2_with fail
  go_loopw [5] (fun i wr => ∃ k : Nat, k ≤ l.length ∧ i = .int .i64 k ∧ (∀ j (hj : j < l.length), j < k → l[j].page ≠ p) ∧ Below w.heap.size w wr) (fun i _ => l.length - (intOf i).toNat)
  case atStart => exact ⟨0, by omega, rfl, fun j _ hj => by omega, Below.refl _ _⟩
  case round =>
    obtain ⟨k, hk, rfl, hno, hB⟩ := hrel
    have HNO := Lib.hid hno
    clear hno
    by_cases hlt : k < l.length
    · obtain ⟨b, off, rfl, hbl, hc⟩ := H3.out (by omega)
      obtain ⟨c0, c1⟩ := it_at (hc.below hB hbl) k hlt
      have hblt : b < wr.heap.size := Nat.lt_of_lt_of_le hbl hB.size
      have hlti : (k : Int) < (l.length : Int) := by omega
      have hk0 : (0 : Int) ≤ (k : Int) := by omega
      clear hc
      by_cases he : l[k].page = p
      · have hat := Dy.at_some hlt he (fun j hj => HNO.out j (by omega) hj)
        have he2 : (l[k].page == p) = true := by simpa using he
        have HAT := Lib.hid hat
        clear hat he
        generalize l[k] = a at c0 c1 he2
        go_wp2_with fail
        go_ret
        exact ⟨by rw [HAT.out]; rfl, hB⟩
      · have he2 : (l[k].page == p) = false := by simpa using he
        have hno2 : ∀ j (hj : j < l.length), j < k + 1 → l[j].page ≠ p := by
          intro j hj hjk
          by_cases e : j = k
          · subst e; exact he
          · exact HNO.out j hj (by omega)
        have HNO2 := Lib.hid hno2
        clear hno2 he
        generalize l[k] = a at c0 c1 he2
        go_wp2_with fail
        go_roundw
        case rel => exact ⟨k + 1, by omega, by go_num, HNO2.out, hB⟩
        case measure => simp [intOf]; omega
    · have hat := Dy.at_none (l := l) (p := p) (fun j hj => HNO.out j hj (by omega))
      have HAT := Lib.hid hat
      obtain rfl : k = l.length := by omega
      clear hat hlt
      go_wp2_with fail
      go_ret
      exact ⟨by rw [HAT.out]; rfl, hB⟩

/-- copies: a row of the call's own -/
def CopiesIt (B : Nat) (t : TypeId) (l : List It) (e : Ending) (w' : World) : Prop := ∃ u, e = .returned u ∧ itE.Own w' B t u l
set_option maxRecDepth 100000 in
set_option maxHeartbeats 800000 in
theorem refs_any (v : Value) (l : List It) (w : World) (h : itE.Sl w v l) (h40 : l.length ≤ 1000000) :
    Calls Try.prog 23 #[v] w fun e w' => CopiesIt w.heap.size 60 l e w' ∧ Below w.heap.size w w' := by
  obtain ⟨A, cap, rfl, h1, h2, h0, h3⟩ := h
  unfold maxLen at h2
  have H3 := Lib.hid h3
  obtain ⟨i0, hi, hz0, hz1, hz2⟩ := info_parts infoRi
  have HI := Lib.hid (And.intro hi (And.intro hz0 (And.intro hz1 hz2)))
  clear h3 h0 hi hz0 hz1 hz2
  go_enter Try.func23, Try.ntmps23
  go_wp2_with fail
  go_loopw [3, 5, 8] (fun u _ i wr => ∃ (m : Nat) (A : Option Addr) (c : Nat), m ≤ l.length ∧ i = .int .i64 m ∧ u = .slice A m c ∧ wr.ownsRow w.heap.size 60 2 (.slice A m c) m (itE.flat (l.take m)) ∧ Below w.heap.size w wr) (fun _ _ i _ => l.length - (intOf i).toNat)
  case atStart => exact ⟨0, none, 0, by omega, rfl, rfl, ⟨rfl, .inl ⟨rfl, rfl⟩⟩, Below.refl _ _⟩
  case round =>
    obtain ⟨m, A2, c, hm, rfl, rfl, hown, hB⟩ := hrel
    by_cases hlt : m < l.length
    · obtain ⟨b, off, rfl, hbl, hc⟩ := H3.out (by omega)
      have hcl := itE.flat_snoc l m hlt
      obtain ⟨c0, c1⟩ := it_at (hc.below hB hbl) m hlt
      have hblt : b < wr.heap.size := Nat.lt_of_lt_of_le hbl hB.size
      clear hc
      generalize l[m] = d at c0 c1 hcl
      have HCL := Lib.hid hcl
      clear hcl
      obtain ⟨hi, hz0, hz1, hz2⟩ := HI.out
      have hm7 : m + 1 ≤ maxLen := by unfold maxLen; omega
      have hm8 : (m + 1) * 16 ≤ 140737488355328 := by omega
      go_wp2_with (at_builtin; go_must (refine wpList_append_own _ rfl _ _ 48 rfl w.heap.size 60 i0 (.agg #[.int .i64 0, .int .i64 0]) 2 16 Try.underlying48 hi hz0 hz1 hz2 rfl (by decide) _ _ _ rfl ((hown.alloc _).alloc _) ⟨wr.heap.size + 1, 0, none⟩ 1 1 (itE.enc d) rfl rfl ?c1 ?c2 hm7 hm8 ?c5 ?_))
      case c1 => have := news2 (wr.alloc (.cells #[.int .i64 d.page, .int .i64 d.since] 61)) 60 (.int .i64 d.page) (.int .i64 d.since); simpa [itE] using this
      case c2 => exact itE.one d
      case c5 => have := hB.size; simp; omega
      intro v' w1 hown1 hgrow _
      have hB1 : Below w.heap.size w w1 := ((hB.alloc hB.size _).alloc (by have := hB.size; simp; omega) _).grown hgrow (by have := hB.size; simp; omega) (own_base hown)
      obtain ⟨A', c', rfl⟩ := own_form hown1
      rw [← HCL.out] at hown1
      clear hi hz0 hz1 hz2 hown hgrow c0 c1 hB
      go_wp2_with fail
      go_roundw
      case rel => exact ⟨m + 1, A', c', by omega, by go_num, rfl, hown1, hB1⟩
      case measure => simp [intOf]; omega
    · obtain rfl : m = l.length := by omega
      rw [List.take_length] at hown
      go_wp2_with fail
      go_ret
      exact ⟨⟨_, rfl, hown⟩, hB⟩

set_option maxRecDepth 100000 in
set_option maxHeartbeats 800000 in
theorem same_any (u v : Value) (a b : List It) (w : World) (ha : itE.Sl w u a) (hb : itE.Sl w v b) :
    Calls Try.prog 30 #[u, v] w fun e w' => e = .returned (.bool (decide (a = b))) ∧ Below w.heap.size w w' := by
  obtain ⟨A, cap, rfl, h1, h2, h0, h3⟩ := ha
  obtain ⟨B, cap', rfl, k1, k2, k0, k3⟩ := hb
  unfold maxLen at h2 k2
  have H3 := Lib.hid h3
  have K3 := Lib.hid k3
  clear h3 h0 k3 k0
  by_cases hne : a.length = b.length
  · have hne1 : ((a.length : Int) != (b.length : Int)) = false := by rw [hne]; simp
    have HNE := Lib.hid hne
    clear hne
    go_enter Try.func30, Try.ntmps30
    go_wp2_with fail
    go_loopw [5] (fun i wr => ∃ k : Nat, k ≤ a.length ∧ i = .int .i64 k ∧ a.take k = b.take k ∧ Below w.heap.size w wr) (fun i _ => a.length - (intOf i).toNat)
    case atStart => exact ⟨0, by omega, rfl, rfl, Below.refl _ _⟩
    case round =>
      obtain ⟨k, hk, rfl, heq, hB⟩ := hrel
      have HEQ := Lib.hid heq
      clear heq
      by_cases hlt : k < a.length
      · have hltb : k < b.length := by have := HNE.out; omega
        obtain ⟨ab, ao, rfl, hbl, hc⟩ := H3.out (by omega)
        obtain ⟨bb, bo, rfl, hbl', hc'⟩ := K3.out (by omega)
        obtain ⟨c0, c1⟩ := it_at (hc.below hB hbl) k hlt
        obtain ⟨d0, d1⟩ := it_at (hc'.below hB hbl') k hltb
        have hblt : ab < wr.heap.size := Nat.lt_of_lt_of_le hbl hB.size
        have hblt' : bb < wr.heap.size := Nat.lt_of_lt_of_le hbl' hB.size
        have hlta : (k : Int) < (a.length : Int) := by omega
        have hltbi : (k : Int) < (b.length : Int) := by omega
        have hk0 : (0 : Int) ≤ (k : Int) := by omega
        have ta : a.take (k + 1) = a.take k ++ [a[k]] := List.take_succ_eq_append_getElem hlt
        have tb : b.take (k + 1) = b.take k ++ [b[k]] := List.take_succ_eq_append_getElem hltb
        clear hc hc'
        by_cases he : a[k] = b[k]
        · have hst : a.take (k + 1) = b.take (k + 1) := by rw [ta, tb, HEQ.out, he]
          have HST := Lib.hid hst
          rw [← he] at d0 d1
          clear ta tb hst he
          generalize a[k] = x at *
          go_wp2_with fail
          go_quiet (fail)
          go_wp2_with fail
          go_roundw
          case rel => exact ⟨k + 1, by omega, by go_num, HST.out, hB.trans (drewN_below _ _ _)⟩
          case measure => simp [intOf]; omega
        · have hf : decide (a = b) = false := decide_eq_false (by rintro rfl; exact he rfl)
          have HF := Lib.hid hf
          have hne3 : ¬ (a[k].page = b[k].page ∧ a[k].since = b[k].since) := by
            intro h; apply he
            cases hx : a[k]; cases hy : b[k]; rw [hx, hy] at h; simp at h; simp [h]
          clear ta tb hf he
          generalize a[k] = x at *
          generalize b[k] = y at *
          by_cases e1 : x.page = y.page
          · have e2 : x.since ≠ y.since := fun e => hne3 ⟨e1, e⟩
            have e2b : (x.since == y.since) = false := by simpa using e2
            rw [← e1] at d0
            clear hne3 e1 e2
            go_wp2_with fail
            go_quiet (fail)
            go_wp2_with fail
            go_ret
            exact ⟨by rw [HF.out]; rfl, hB.trans (drewN_below _ _ _)⟩
          · have e1b : (x.page == y.page) = false := by simpa using e1
            clear hne3 e1
            go_wp2_with fail
            go_quiet (fail)
            go_wp2_with fail
            go_ret
            exact ⟨by rw [HF.out]; rfl, hB.trans (drewN_below _ _ _)⟩
      · have hge : a.length ≤ k := by omega
        have ht : decide (a = b) = true := by
          apply decide_eq_true
          have h1 := HEQ.out
          rw [List.take_of_length_le hge, List.take_of_length_le (by have := HNE.out; omega)] at h1
          exact h1
        have HT := Lib.hid ht
        clear ht hlt
        go_wp2_with fail
        go_ret
        exact ⟨by rw [HT.out]; rfl, hB⟩
  · have hne1 : ((a.length : Int) != (b.length : Int)) = true := by rw [bne_iff_ne]; omega
    have hf : decide (a = b) = false := decide_eq_false (by rintro rfl; exact hne rfl)
    rw [hf]
    clear hne hf
    go_enter Try.func30, Try.ntmps30
    go_wp2_with fail
    go_ret
    exact ⟨rfl, Below.refl _ _⟩
end Go.Proofs.Ythhialnnhhemaaa
