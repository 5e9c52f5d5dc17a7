/- THE LAWS of layer 10, walked: BankFilled. Conditions: those of the arguments alone. -/
import Derived.Test.YtjdjdojmgoibbaaBankMore
import Derived.Test.YtjdjdojmgoibbaaArgs
namespace Go.Proofs.Ytjdjdojmgoibbaa
open Go.RowKit
set_option linter.unusedVariables false
namespace Bk
def filled (q h : Nat → Int) (n : Nat) : List Cl := (List.range n).map fun i : Nat => ⟨(i : Int), q i, h i⟩
theorem filled_length (q h : Nat → Int) (n : Nat) : (filled q h n).length = n := by simp [filled]
theorem filled_mem {q h : Nat → Int} {n : Nat} {c : Cl} (hc : c ∈ filled q h n) : ∃ i, i < n ∧ c = ⟨(i : Int), q i, h i⟩ := by
  unfold filled at hc
  obtain ⟨i, hi, rfl⟩ := List.mem_map.1 hc
  exact ⟨i, by simpa using hi, rfl⟩
theorem filled_right {q h : Nat → Int} {n : Nat} (hn : n ≤ 8) (hq : ∀ i, 0 ≤ q i ∧ q i ≤ 100 ∧ 0 ≤ h i ∧ h i ≤ q i) : right (filled q h n) = true := by
  refine (right_iff _).2 ⟨by rw [filled_length]; exact hn, ?_, ?_⟩
  · intro c hc
    obtain ⟨i, hi, rfl⟩ := filled_mem hc
    have := hq i
    unfold good
    rw [decide_eq_true_iff]
    simp only
    omega
  · unfold filled
    rw [List.map_map]
    show ((List.range n).map fun i : Nat => (i : Int)).Nodup
    exact List.Pairwise.map _ (fun a b hab h => hab (Int.ofNat_inj.1 h)) List.nodup_range
theorem filled_safe {q h : Nat → Int} {n : Nat} {f : Int} (hn : n ≤ 8) (hq : ∀ i, 0 ≤ q i ∧ q i ≤ 100 ∧ 0 ≤ h i ∧ h i ≤ q i) (hf1 : 0 ≤ f) (hf2 : f ≤ 1000) (hx : ∀ i, i < n → q i - h i ≤ f) : safe f (filled q h n) = true := by
  have hr := filled_right hn hq
  refine (safe_iff _ _).2 ⟨hr, ⟨hf1, hf2⟩, Feas.all (nonneg_of_right hr) ?_⟩
  intro c hc
  obtain ⟨i, hi, rfl⟩ := filled_mem hc
  exact hx i hi
theorem Feas.least {f : Int} {l : List Cl} (h : Feas f l) : (∀ c ∈ l, c.held = 0) → ∀ c ∈ l, need c ≤ f := by
  induction h with
  | nil f => intro _ c hc; simp at hc
  | @cons f l d hd hn hr ih =>
    intro h0 c hc
    by_cases e : c = d
    · subst e; exact hn
    · have := ih (fun c hc => h0 c (List.mem_of_mem_erase hc)) c ((List.mem_erase_of_ne e).2 hc)
      have := h0 d hd
      omega
theorem filled_not {q : Nat → Int} {n : Nat} {f : Int} {j : Nat} (hj : j < n) (hx : f < q j) : safe f (filled q (fun _ => 0) n) = false := by
  rw [Bool.eq_false_iff]
  intro hs
  obtain ⟨_, _, hfe⟩ := (safe_iff _ _).1 hs
  have := hfe.least (fun c hc => by obtain ⟨i, hi, rfl⟩ := filled_mem hc; rfl) ⟨(j : Int), q j, 0⟩ (by unfold filled; exact List.mem_map.2 ⟨j, by simpa using hj, rfl⟩)
  unfold need at this
  simp only at this
  omega
theorem filled_snoc (q h : Nat → Int) (m : Nat) : clCells (filled q h (m + 1)) = clCells (filled q h m) ++ cells3 ⟨(m : Int), q m, h m⟩ := by
  unfold filled clCells
  rw [List.range_succ, List.map_append, List.flatMap_append]
  simp
end Bk
/-- a claim that was drawn -/
def qOf (cs : List Int) (i : Nat) : Int := cs.getD i 0 % 101
theorem qOf_in (cs : List Int) (i : Nat) : 0 ≤ qOf cs i ∧ qOf cs i ≤ 100 := by unfold qOf; omega

set_option maxRecDepth 100000 in
set_option maxHeartbeats 2400000 in
theorem bankFilled_walk (v : Value) (w : World) (hv : IntsArg .u8 w v) :
    Calls Try.prog 14 #[v] w fun e w' => e = .returned (.bool true) ∧ Below w.heap.size w w' := by
  obtain ⟨cs, hints, hwf⟩ := hv
  obtain ⟨A, cap, rfl, h1, h2, h3⟩ := hints
  unfold maxLen at h2
  by_cases h8 : 8 < cs.length
  · have h8i : (8 : Int) < (cs.length : Int) := by omega
    clear h3 hwf
    go_enter Try.func14, Try.ntmps14
    go_wp2_with fail
    refine (awake10 _).mono ?_
    rintro e W1 ⟨rfl, hB⟩
    go_wp2_with fail
    go_ret
    exact ⟨rfl, hB⟩
  have h8i : (cs.length : Int) ≤ 8 := by omega
  have H3 := Lib.hid h3
  have HWF := Lib.hid hwf
  obtain ⟨i0, hi, hz0, hz1, hz2⟩ := info_parts infoC2
  have HI := Lib.hid (And.intro hi (And.intro hz0 (And.intro hz1 hz2)))
  clear h3 hwf hi hz0 hz1 hz2
  go_enter Try.func14, Try.ntmps14
  go_wp2_with fail
  go_loopw [3, 4, 5, 6, 7, 8, 15] (fun a b t _ _ _ i wr => ∃ (m : Nat) (A1 A2 : Option Addr) (c1 c2 : Nat) (x : Int), m ≤ cs.length ∧ i = .int .i64 m ∧ a = .slice A1 m c1 ∧ b = .slice A2 m c2 ∧ t = .int .i64 x ∧ wr.ownsRow w.heap.size 60 3 (.slice A1 m c1) m (clCells (Bk.filled (qOf cs) (qOf cs) m)) ∧ wr.ownsRow w.heap.size 60 3 (.slice A2 m c2) m (clCells (Bk.filled (qOf cs) (fun _ => 0) m)) ∧ Apart (.slice A1 m c1) (.slice A2 m c2) ∧ Below w.heap.size w wr ∧ 0 ≤ x ∧ x ≤ 100 ∧ (∀ j, j < m → qOf cs j ≤ x) ∧ (x = 0 ∨ ∃ j, j < m ∧ qOf cs j = x)) (fun _ _ _ _ _ _ i _ => cs.length - (intOf i).toNat)
  case atStart => exact ⟨0, none, none, 0, 0, 0, by omega, rfl, rfl, rfl, rfl, ⟨rfl, .inl ⟨rfl, rfl⟩⟩, ⟨rfl, .inl ⟨rfl, rfl⟩⟩, fun g h => by simp [Value.ownBlock] at h, Below.refl _ _, by omega, by omega, fun j h => by omega, .inl rfl⟩
  case round =>
    obtain ⟨m, A1, A2, c1, c2, x, hm, rfl, rfl, rfl, rfl, hownA, hownB, hap, hB, hx1, hx2, hx3, hx4⟩ := hrel
    have HX := Lib.hid (And.intro hx3 hx4)
    clear hx3 hx4
    by_cases hlt : m < cs.length
    · obtain ⟨b, off, rfl, hbl, hc⟩ := H3.out.resolve_left (by intro h; subst h; simp at hlt)
      have hlti : (m : Int) < (cs.length : Int) := by omega
      have hm0 : (0 : Int) ≤ (m : Int) := by omega
      have hcell : wr.cell? ⟨b, off + m, none⟩ = some (.int .u8 cs[m]) := by rw [hB.cell hbl]; exact hc m hlt
      have hblt : b < wr.heap.size := Nat.lt_of_lt_of_le hbl hB.size
      have hw8 : 0 ≤ cs[m] ∧ cs[m] ≤ 255 := by have := HWF.out cs[m] (List.getElem_mem hlt); simpa [Lit.wf, IntKind.min, IntKind.max, IntKind.signed, IntKind.bits] using this
      have hq : qOf cs m = cs[m] % 101 := by unfold qOf; rw [List.getD_eq_getElem?_getD, List.getElem?_eq_getElem hlt]; rfl
      have hqi := qOf_in cs m
      generalize cs[m] = d at hcell hw8 hq
      obtain ⟨d1, d2⟩ := hw8
      obtain ⟨z, hz⟩ : ∃ z : Int, (if x < d % 101 then d % 101 else x) = z := ⟨_, rfl⟩
      have hz2 : 0 ≤ z ∧ z ≤ 100 ∧ x ≤ z ∧ qOf cs m ≤ z ∧ (z = x ∨ z = qOf cs m) := by rw [hq]; split at hz <;> omega
      have hxn : (∀ j, j < m + 1 → qOf cs j ≤ z) ∧ (z = 0 ∨ ∃ j, j < m + 1 ∧ qOf cs j = z) := by
        refine ⟨?_, ?_⟩
        · intro j hj
          by_cases e : j = m
          · subst e; omega
          · have := HX.out.1 j (by omega); omega
        · rcases hz2.2.2.2.2 with e | e
          · rcases HX.out.2 with h | ⟨j, hj, h⟩
            · exact .inl (by omega)
            · exact .inr ⟨j, by omega, by omega⟩
          · exact .inr ⟨m, by omega, by omega⟩
      have HXN := Lib.hid (And.intro hxn hz2)
      have hsA := Bk.filled_snoc (qOf cs) (qOf cs) m
      have hsB := Bk.filled_snoc (qOf cs) (fun _ => 0) m
      rw [hq] at hsA hsB
      have HSA := Lib.hid hsA
      have HSB := Lib.hid hsB
      have hm7 : m + 1 ≤ maxLen := by unfold maxLen; omega
      have hm8 : (m + 1) * 24 ≤ 140737488355328 := by omega
      have hbs : w.heap.size ≤ wr.heap.size := hB.size
      have HM := Lib.hid (And.intro hm7 (And.intro hm8 hbs))
      have HOA := Lib.hid hownA
      have HOB := Lib.hid hownB
      have HAP := Lib.hid hap
      have HB := Lib.hid hB
      clear hxn hz2 hsA hsB hm7 hm8 hbs hownA hownB hap hB hq hqi
      go_wp2_with (at_builtin; go_must (refine wpList_append_own_at _ rfl _ _ 47 rfl w.heap.size 60 i0 (.agg #[.int .i64 0, .int .i64 0, .int .i64 0]) 3 24 Try.underlying47 HI.out.1 HI.out.2.1 HI.out.2.2.1 HI.out.2.2.2 rfl (by decide) _ _ _ rfl (HOA.out.alloc _) ⟨wr.heap.size, 0, none⟩ 1 1 (Bk.cells3 ⟨(m : Int), d % 101, d % 101⟩) rfl rfl ?c1 ?c2 HM.out.1 HM.out.2.1 ?c5 ?_))
      case c1 => exact news3 wr 60 _ _ _
      case c2 => intro u hu; simp [Bk.cells3] at hu; rcases hu with rfl | rfl | rfl <;> rfl
      case c5 => have := HM.out.2.2; simp; omega
      intro vA w1 hownA1 hgrow1 _ hat1
      have hOB1 := own_other (HOB.out.alloc (.cells #[.int .i64 (m : Int), .int .i64 (d % 101), .int .i64 (d % 101)] 60)) hgrow1 (HAP.out.symm)
      have hap1 := HAP.out.grown (HOB.out.alloc (.cells #[.int .i64 (m : Int), .int .i64 (d % 101), .int .i64 (d % 101)] 60)) hat1 (by simp)
      have hB1 : Below w.heap.size w w1 := (HB.out.alloc HB.out.size _).grown hgrow1 (by have := HM.out.2.2; simp; omega) (own_base HOA.out)
      obtain ⟨A1', c1', rfl⟩ := own_form hownA1
      rw [show clCells (Bk.filled (qOf cs) (qOf cs) m) ++ Bk.cells3 ⟨(m : Int), d % 101, d % 101⟩ = clCells (Bk.filled (qOf cs) (qOf cs) (m + 1)) from HSA.out.symm] at hownA1
      have hbs1 : w.heap.size ≤ w1.heap.size := hB1.size
      have HOA1 := Lib.hid hownA1
      have HOB1 := Lib.hid hOB1
      have HAP1 := Lib.hid hap1
      have HB1 := Lib.hid hB1
      clear hownA1 hgrow1 hat1 hOB1 hap1 hB1 HOA HOB HAP
      go_wp2_with (at_builtin; go_must (refine wpList_append_own_at _ rfl _ _ 47 rfl w.heap.size 60 i0 (.agg #[.int .i64 0, .int .i64 0, .int .i64 0]) 3 24 Try.underlying47 HI.out.1 HI.out.2.1 HI.out.2.2.1 HI.out.2.2.2 rfl (by decide) _ _ _ rfl (HOB1.out.alloc _) ⟨w1.heap.size, 0, none⟩ 1 1 (Bk.cells3 ⟨(m : Int), d % 101, 0⟩) rfl rfl ?c1 ?c2 HM.out.1 HM.out.2.1 ?c5 ?_))
      case c1 => exact news3 w1 60 _ _ _
      case c2 => intro u hu; simp [Bk.cells3] at hu; rcases hu with rfl | rfl | rfl <;> rfl
      case c5 => simp; omega
      intro vB w2 hownB2 hgrow2 _ hat2
      have hOA2 := own_other (HOA1.out.alloc (.cells #[.int .i64 (m : Int), .int .i64 (d % 101), .int .i64 0] 60)) hgrow2 HAP1.out
      have hap2 := (HAP1.out.symm.grown (HOA1.out.alloc (.cells #[.int .i64 (m : Int), .int .i64 (d % 101), .int .i64 0] 60)) hat2 (by simp)).symm
      have hB2 : Below w.heap.size w w2 := (HB1.out.alloc HB1.out.size _).grown hgrow2 (by simp; omega) (own_base HOB1.out)
      obtain ⟨A2', c2', rfl⟩ := own_form hownB2
      rw [show clCells (Bk.filled (qOf cs) (fun _ => 0) m) ++ Bk.cells3 ⟨(m : Int), d % 101, 0⟩ = clCells (Bk.filled (qOf cs) (fun _ => 0) (m + 1)) from HSB.out.symm] at hownB2
      have HOA2 := Lib.hid hOA2
      have HOB2 := Lib.hid hownB2
      have HAP2 := Lib.hid hap2
      have HB2 := Lib.hid hB2
      clear hOA2 hownB2 hap2 hB2 hgrow2 hat2 HOA1 HOB1 HAP1
      go_wp2_with fail
      go_roundw
      case rel => exact ⟨m + 1, A1', A2', c1', c2', z, by omega, by go_num, rfl, rfl, rfl, HOA2.out, HOB2.out, HAP2.out, HB2.out, HXN.out.2.1, HXN.out.2.2.1, HXN.out.1.1, HXN.out.1.2⟩
      case measure => simp only [intOf]; omega
    · obtain rfl : m = cs.length := by omega
      have hq1 : ∀ i, 0 ≤ qOf cs i ∧ qOf cs i ≤ 100 ∧ 0 ≤ qOf cs i ∧ qOf cs i ≤ qOf cs i := fun i => by have := qOf_in cs i; omega
      have hq2 : ∀ i, 0 ≤ qOf cs i ∧ qOf cs i ≤ 100 ∧ 0 ≤ (0 : Int) ∧ (0 : Int) ≤ qOf cs i := fun i => by have := qOf_in cs i; omega
      have hslA : Sl wr (.slice A1 cs.length c1) (Bk.filled (qOf cs) (qOf cs) cs.length) := Sl.of_own (by rw [Bk.filled_length]; exact hownA)
      have hslB : Sl wr (.slice A2 cs.length c2) (Bk.filled (qOf cs) (fun _ => 0) cs.length) := Sl.of_own (by rw [Bk.filled_length]; exact hownB)
      have hs1 := Bk.filled_safe (n := cs.length) (f := 0) (by omega) hq1 (by omega) (by omega) (fun i hi => by omega)
      have hs2 := Bk.filled_safe (n := cs.length) (f := x) (by omega) hq2 (by omega) (by omega) (fun i hi => by have := HX.out.1 i hi; omega)
      have hs4 := Bk.filled_right (n := cs.length) (by omega) hq1
      have S1 := safe_sl 0 _ _ wr hslA
      rw [hs1] at S1
      have S1 := Lib.hid S1
      have HSLA := Lib.hid hslA
      have HSLB := Lib.hid hslB
      have HS2 := Lib.hid hs2
      have HS4 := Lib.hid hs4
      have HB := Lib.hid hB
      clear hownA hownB hap hslA hslB hs1 hs2 hs4 hq1 hq2 hB
      go_wp2_with fail
      refine S1.out.mono ?_
      rintro e W1 ⟨rfl, hB1⟩
      have hslB1 := HSLB.out.below hB1
      have S2 := safe_sl x _ _ W1 hslB1
      rw [HS2.out] at S2
      have S2 := Lib.hid S2
      have HSLA1 := Lib.hid (HSLA.out.below hB1)
      have HSLB1 := Lib.hid hslB1
      have HB1 := Lib.hid (below_then HB.out hB1)
      clear hslB1 hB1
      go_wp2_with fail
      refine S2.out.mono ?_
      rintro e W2 ⟨rfl, hB2⟩
      have HSLA2 := Lib.hid (HSLA1.out.below hB2)
      have HSLB2 := Lib.hid (HSLB1.out.below hB2)
      have HB2 := Lib.hid (below_then HB1.out hB2)
      clear hB2
      by_cases hx0 : x = 0
      · have hx0b : (x == 0) = true := by simpa using hx0
        have S4 := right_sl _ _ W2 HSLA2.out
        rw [HS4.out] at S4
        have S4 := Lib.hid S4
        clear hx0
        go_wp2_with fail
        refine S4.out.mono ?_
        rintro e W4 ⟨rfl, hB4⟩
        have HB4 := Lib.hid (below_then HB2.out hB4)
        clear hB4
        go_wp2_with fail
        refine (awake10 _).mono ?_
        rintro e W3 ⟨rfl, hB⟩
        go_wp2_with fail
        go_ret
        exact ⟨rfl, below_then HB4.out hB⟩
      · have hx0b : (x == 0) = false := beq_eq_false_iff_ne.2 hx0
        have hs3 : Bk.safe (x - 1) (Bk.filled (qOf cs) (fun _ => 0) cs.length) = false := by
          obtain ⟨j, hj, hj2⟩ := HX.out.2.resolve_left hx0
          exact Bk.filled_not hj (by omega)
        have S3 := safe_sl (x - 1) _ _ W2 HSLB2.out
        rw [hs3] at S3
        have S3 := Lib.hid S3
        clear hx0 hs3
        go_wp2_with fail
        refine S3.out.mono ?_
        rintro e W5 ⟨rfl, hB5⟩
        have S4 := right_sl _ _ W5 (HSLA2.out.below hB5)
        rw [HS4.out] at S4
        have S4 := Lib.hid S4
        have HB5 := Lib.hid (below_then HB2.out hB5)
        clear hB5
        go_wp2_with fail
        refine S4.out.mono ?_
        rintro e W4 ⟨rfl, hB4⟩
        have HB4 := Lib.hid (below_then HB5.out hB4)
        clear hB4
        go_wp2_with fail
        refine (awake10 _).mono ?_
        rintro e W3 ⟨rfl, hB⟩
        go_wp2_with fail
        go_ret
        exact ⟨rfl, below_then HB4.out hB⟩
end Go.Proofs.Ytjdjdojmgoibbaa
