/- THE LAWS of layer 10, walked: BankOrder. Conditions: those of the arguments alone. -/
import Derived.Test.YtjdjdojmgoibbaaBankRefOrder
import Derived.Test.YtjdjdojmgoibbaaBankLawSafe
namespace Go.Proofs.Ytjdjdojmgoibbaa
open Go.RowKit
set_option linter.unusedVariables false

set_option maxRecDepth 100000 in
set_option maxHeartbeats 400000 in
theorem refOrder_nil (free : Int) (A : Option Addr) (cap : Nat) (w : World) (hf1 : 0 ≤ free) (hf2 : free ≤ 1000) :
    Calls Try.prog 29 #[.int .i64 free, .slice A 0 cap] w fun e w' => e = .returned (.slice none 0 0) ∧ Below w.heap.size w w' := by
  have hmk : ∀ w, (Instr.makeSlice 43 (.int .i64 0) (.int .i64 0)).run Try.prog w = .ok (.slice (some ⟨w.heap.size, 0, none⟩) 0 0) (w.alloc (.cells (boolCells (List.replicate 0 false)) 4)) := fun w => madeB 0 (by omega) w
  go_enter Try.func29, Try.ntmps29
  go_wp2_with fail
  clear hmk
  go_loop [0, 5, 7, 8, 9] (fun f v nn _ _ => f = .int .i64 free ∧ v = .slice none 0 0 ∧ nn = .int .i64 0) (fun _ _ _ _ _ => 0)
  case atStart => exact ⟨rfl, rfl, rfl⟩
  case round =>
    obtain ⟨rfl, rfl, rfl⟩ := hrel
    go_wp2_with fail
    go_ret
    exact ⟨rfl, (Below.refl _ _).alloc (Nat.le_refl _) _⟩
theorem refOrder_sl (free : Int) (v : Value) (l : List Cl) (w : World) (h : Sl w v l) (hr : Bk.right l = true) (hf1 : 0 ≤ free) (hf2 : free ≤ 1000) :
    Calls Try.prog 29 #[.int .i64 free, v] w fun e w' => RowIs w.heap.size (Bk.order free l) e w' ∧ Below w.heap.size w w' := by
  obtain ⟨A, cap, rfl, h1, h2, h3⟩ := h
  rcases h3 with rfl | ⟨b, off, rfl, hbl, hc⟩
  · exact (refOrder_nil free A cap w hf1 hf2).mono fun e w' ⟨he, hB⟩ => ⟨⟨_, he, rfl, .inl ⟨rfl, rfl⟩⟩, hB⟩
  · exact refOrder_yes free b off cap l w ⟨hf1, hf2⟩ hr hbl hc
theorem Ns.of_row {w : World} {B : Nat} {v : Value} {o : List Nat} (h : w.ownsRow B 3 1 v o.length (o.map fun i : Nat => Value.int .i64 (i : Int))) : Ns w v (o.map fun i : Nat => (i : Int)) := by
  refine Ns.of_own (base := B) (e := 3) ?_
  rw [List.length_map, List.map_map]
  exact h
theorem Ns.length {w : World} {v : Value} {l : List Int} (h : Ns w v l) : ∃ A cap, v = .slice A l.length cap := by
  obtain ⟨A, cap, hv, _⟩ := h
  exact ⟨A, cap, hv⟩
theorem below_then {w a b : World} (h : Below w.heap.size w a) (k : Below a.heap.size a b) : Below w.heap.size w b := h.trans (k.mono h.size)

set_option maxRecDepth 100000 in
set_option maxHeartbeats 1600000 in
theorem bankOrder_walk (f : Int) (hf : (Lit.int .i64 f).wf = true) (v : Value) (w : World) (hv : ClArg w v) :
    Calls Try.prog 8 #[.int .i64 f, v] w fun e w' => e = .returned (.bool true) ∧ Below w.heap.size w w' := by
  obtain ⟨l, hsl, hfit⟩ := hv
  clear hf hfit
  obtain ⟨A, cap, rfl, h1, h2, h3⟩ := id hsl
  unfold maxLen at h2
  clear h3
  have HSL := Lib.hid hsl
  clear hsl
  by_cases h40 : 40 < l.length
  · have h40i : (40 : Int) < (l.length : Int) := by omega
    go_enter Try.func8, Try.ntmps8
    go_wp2_with fail
    refine (awake10 _).mono ?_
    rintro e W3 ⟨rfl, hB3⟩
    go_wp2_with fail
    go_ret
    exact ⟨rfl, hB3⟩
  have h40i : (l.length : Int) ≤ (40 : Int) := by omega
  go_enter Try.func8, Try.ntmps8
  go_wp2_with fail
  refine (ref_any _ l w HSL.out (by omega)).mono ?_
  rintro e W1 ⟨⟨u, rfl, hown⟩, hB⟩
  have hslu := Sl.of_own hown
  obtain ⟨A2, c2, rfl⟩ := own_form hown
  have hsl1 := HSL.out.below hB
  clear hown
  cases hno : (Bk.right l && Bk.inRange f) with
  | false =>
    have ORD := Lib.hid (order_no f _ l W1 hsl1 hno)
    have hsf : Bk.safe f l = false := by unfold Bk.safe; rw [hno]; rfl
    have HSF := Lib.hid hsf
    have HSLU := Lib.hid hslu
    have HSL1 := Lib.hid hsl1
    have HB := Lib.hid hB
    have HNO := Lib.hid hno
    clear hsf hslu hsl1 hB hno
    go_wp2_with fail
    refine ORD.out.mono ?_
    rintro e W2 ⟨rfl, hB2⟩
    have RR := Lib.hid (refRight_sl _ l W2 (HSLU.out.below hB2))
    have hsl2 := HSL1.out.below hB2
    have hB3 := below_then HB.out hB2
    have HSL2 := Lib.hid hsl2
    have HB3 := Lib.hid hB3
    clear hsl2 hB3 hB2 HB
    have hrr : ((Bk.right l) != (Bk.right l)) = false := by simp
    generalize hrg : Bk.right l = r at RR hrr
    have HRG := Lib.hid hrg
    clear hrg
    go_wp2_with fail
    refine RR.out.mono ?_
    rintro e W4 ⟨rfl, hB4⟩
    have hsl4 := HSL2.out.below hB4
    have hB5 := below_then HB3.out hB4
    have R2 := right_sl _ l W4 hsl4
    rw [HRG.out] at R2
    have R2 := Lib.hid R2
    have HSL4 := Lib.hid hsl4
    have HB5 := Lib.hid hB5
    clear hsl4 hB5 hB4
    go_wp2_with fail
    refine R2.out.mono ?_
    rintro e W5 ⟨rfl, hB6⟩
    have hsl5 := HSL4.out.below hB6
    have hB7 := below_then HB5.out hB6
    have S := safe_sl f _ l W5 hsl5
    rw [HSF.out] at S
    have S := Lib.hid S
    have HB7 := Lib.hid hB7
    clear hsl5 hB7 hB6
    go_wp2_with fail
    refine S.out.mono ?_
    rintro e W6 ⟨rfl, hB8⟩
    have hB9 := below_then HB7.out hB8
    have HB9 := Lib.hid hB9
    clear hB8 hB9
    cases r with
    | false =>
      go_wp2_with fail
      refine (awake10 _).mono ?_
      rintro e W3 ⟨rfl, hB3⟩
      go_wp2_with fail
      go_ret
      exact ⟨rfl, below_then HB9.out hB3⟩
    | true =>
      have hf : f < 0 ∨ (0 ≤ f ∧ 1000 < f) := by
        have := HNO.out
        rw [HRG.out] at this
        unfold Bk.inRange at this
        simp only [Bool.true_and, Bool.and_eq_false_iff, decide_eq_false_iff_not] at this
        omega
      rcases hf with g1 | ⟨g1, g2⟩
      all_goals
        go_wp2_with fail
        refine (awake10 _).mono ?_
        rintro e W3 ⟨rfl, hB3⟩
        go_wp2_with fail
        go_ret
        exact ⟨rfl, below_then HB9.out hB3⟩
  | true =>
    have hsf : Bk.safe f l = decide ((Bk.order f l).length = l.length) := by unfold Bk.safe; rw [hno]; rfl
    rw [Bool.and_eq_true] at hno
    obtain ⟨hr, hfi⟩ := hno
    unfold Bk.inRange at hfi
    rw [Bool.and_eq_true, decide_eq_true_iff, decide_eq_true_iff] at hfi
    obtain ⟨g1, g2⟩ := hfi
    have hlen : decide (((Bk.order f l).length : Int) = (l.length : Int)) = decide ((Bk.order f l).length = l.length) := by rw [decide_eq_decide]; omega
    have hol := Bk.order_le f l
    have hl8 := (Bk.good_of_right hr).2
    have ORD := Lib.hid (order_sl f _ l W1 hsl1 hr g1 g2)
    have HSF := Lib.hid (hsf.trans hlen.symm)
    have HSLU := Lib.hid hslu
    have HSL1 := Lib.hid hsl1
    have HB := Lib.hid hB
    have HR := Lib.hid hr
    clear hsf hslu hsl1 hB hr hlen
    go_wp2_with fail
    refine ORD.out.mono ?_
    rintro e W2 ⟨⟨o, rfl, hown⟩, hB2⟩
    have hns := Ns.of_row hown
    have hslu2 := HSLU.out.below hB2
    have RR := refRight_sl _ l W2 hslu2
    rw [HR.out] at RR
    have RR := Lib.hid RR
    have HSL2 := Lib.hid (HSL1.out.below hB2)
    have HSLU2 := Lib.hid hslu2
    have HB3 := Lib.hid (below_then HB.out hB2)
    have HOWN := Lib.hid hown
    clear hB2 HB hns hown hslu2
    go_wp2_with fail
    refine RR.out.mono ?_
    rintro e W4 ⟨rfl, hB4⟩
    have R2 := right_sl _ l W4 (HSL2.out.below hB4)
    rw [HR.out] at R2
    have R2 := Lib.hid R2
    have HSL4 := Lib.hid (HSL2.out.below hB4)
    have HSLU4 := Lib.hid (HSLU2.out.below hB4)
    have HB5 := Lib.hid (below_then HB3.out hB4)
    have HOWN4 := Lib.hid (own_keep HOWN.out hB4)
    clear hB4
    go_wp2_with fail
    refine R2.out.mono ?_
    rintro e W5 ⟨rfl, hB6⟩
    have S := safe_sl f _ l W5 (HSL4.out.below hB6)
    rw [HSF.out] at S
    have S := Lib.hid S
    have HSLU5 := Lib.hid (HSLU4.out.below hB6)
    have HB7 := Lib.hid (below_then HB5.out hB6)
    have HOWN5 := Lib.hid (own_keep HOWN4.out hB6)
    clear hB6
    have hoo : (decide (((Bk.order f l).length : Int) = (l.length : Int)) != decide (((Bk.order f l).length : Int) = (l.length : Int))) = false := by simp
    have hoo2 : (decide (((Bk.order f l).length : Int) = (l.length : Int)) == decide (((Bk.order f l).length : Int) = (l.length : Int))) = true := by simp
    have hoo3 : (((Bk.order f l).length : Int) == (l.length : Int)) = decide (((Bk.order f l).length : Int) = (l.length : Int)) := rfl
    generalize hrg : decide (((Bk.order f l).length : Int) = (l.length : Int)) = r at S hoo hoo2 hoo3 ⊢
    go_wp2_with fail
    refine S.out.mono ?_
    rintro e W6 ⟨rfl, hB8⟩
    have RO := Lib.hid (refOrder_sl f _ l W6 (HSLU5.out.below hB8) HR.out g1 g2)
    have HB9 := Lib.hid (below_then HB7.out hB8)
    have HOWN6 := Lib.hid (own_keep HOWN5.out hB8)
    clear hB8
    go_wp2_with fail
    refine RO.out.mono ?_
    rintro e W7 ⟨⟨o2, rfl, hown2⟩, hB10⟩
    have hns1 := Ns.of_row (own_keep HOWN6.out hB10)
    have hns2 := Ns.of_row hown2
    have HBa := Lib.hid (below_then HB9.out hB10)
    obtain ⟨A5, c5, rfl⟩ := own_form hown2
    have E := equal_any _ _ _ _ W7 hns1 hns2 (by rw [List.length_map]; omega)
    unfold EqIs at E
    rw [show decide ((Bk.order f l).map (fun i : Nat => (i : Int)) = (Bk.order f l).map (fun i : Nat => (i : Int))) = true from by simp] at E
    have E := Lib.hid E
    clear hB10 hns1 hns2 hown2
    go_wp2_with fail
    refine E.out.mono ?_
    rintro e W8 ⟨rfl, hB11⟩
    have HBb := Lib.hid (below_then HBa.out hB11)
    clear hB11
    go_wp2_with fail
    refine (awake10 _).mono ?_
    rintro e W3 ⟨rfl, hB3⟩
    go_wp2_with fail
    go_ret
    exact ⟨rfl, below_then HBb.out hB3⟩
end Go.Proofs.Ytjdjdojmgoibbaa
