/- LAYER 9, walked: who has pins, the place behind, copies, who are clocks. Conditions: the slices lead to the frames. -/
import Derived.Test.YthhialnnhhemaaaProg
import Derived.Test.YthhialnnhhemaaaClockPlain2
import Derived.Test.YthhialnnhhemaaaRows3
import Derived.WalkLawsBesides
import Derived.BigQuiet
import Derived.Deep.QuietTactic
namespace Go.Proofs.Ythhialnnhhemaaa
open Go.RowKit
set_option linter.unusedVariables false

/-- a clock's value -/
def ckV (v : Value) (h : Int) : Value := .agg #[v, .int .i64 h]
def CopiesFr (B : Nat) (t : TypeId) (l : List Fr) (e : Ending) (w' : World) : Prop := ∃ u, e = .returned u ∧ frE.Own w' B t u l
theorem infoFr : (Try.prog.info? 42).map (fun i => (i.zero, i.size, i.bytes)) = some (some (.agg #[.int .i64 0, .int .i64 0, .bool false]), 3, 24) := by kernel_rfl
theorem eql_nil_fr (a : Option Addr) (n c : Nat) (w : World) : (binOp .eql 22 (.slice a n c) (.slice none 0 0)).run Try.prog w = .ok (.bool a.isNone) w := by
  simp [binOp, run_equal_slice_nil (P := Try.prog) w 22 42 a n c Try.underlying22]
set_option maxRecDepth 100000 in
set_option maxHeartbeats 800000 in
theorem fclone_any (v : Value) (l : List Fr) (w : World) (h : frE.Sl w v l) (h40 : l.length ≤ 1000000) :
    Calls Try.prog 37 #[v] w fun e w' => CopiesFr w.heap.size 42 l e w' ∧ Below w.heap.size w w' := by
  obtain ⟨A, cap, rfl, h1, h2, h0, h3⟩ := h
  unfold maxLen at h2
  have heq := eql_nil_fr
  cases A with
  | none =>
    have := h0 rfl
    obtain rfl := List.eq_nil_of_length_eq_zero (by omega : l.length = 0)
    subst this
    clear h3 h0
    go_enter Try.func37, Try.ntmps37
    go_wp2_with fail
    go_ret
    exact ⟨⟨_, rfl, Enc.Own.nil _ _ _⟩, Below.refl _ _⟩
  | some ad =>
    have hY : Below w.heap.size w (w.alloc (.cells #[] 42)) := (Below.refl _ _).alloc (Nat.le_refl _) _
    have hcl : ∀ j u, (frE.flat l)[j]? = some u → (w.alloc (.cells #[] 42)).cell? (ad.add j) = some u := by
      by_cases hl : 0 < l.length
      · obtain ⟨b, off, hA, hbl, hc⟩ := h3 hl
        obtain rfl : ad = ⟨b, off, none⟩ := by simpa using hA
        exact (hc.below hY hbl).cells
      · obtain rfl := List.eq_nil_of_length_eq_zero (by omega : l.length = 0)
        intro j u hj; simp [Enc.flat] at hj
    have hE : Blk (w.alloc (.cells #[] 42)) w.heap.size 42 #[] := Blk.new w 42 #[]
    have HCELLS := Lib.hid hcl
    have HOWN := Lib.hid (own_empty (size := 3) hE (Nat.le_refl _))
    have HY := Lib.hid hY
    obtain ⟨i0, hi, hz0, hz1, hz2⟩ := info_parts infoFr
    have hm7 : 0 + l.length ≤ maxLen := by unfold maxLen; omega
    have hm8 : (0 + l.length) * 24 ≤ 140737488355328 := by omega
    clear h3 h0 hcl hE hY
    go_enter Try.func37, Try.ntmps37
    go_wp2_with (at_builtin; go_must (refine wpList_append_own _ rfl _ _ 22 rfl w.heap.size 42 i0 (.agg #[.int .i64 0, .int .i64 0, .bool false]) 3 24 Try.underlying22 hi hz0 hz1 hz2 rfl (by decide) _ _ _ rfl HOWN.out ad l.length cap (frE.flat l) rfl (frE.flat_length l) HCELLS.out (frE.flat_one l) hm7 hm8 ?c5 ?_))
    try (case c5 => simp)
    intro v' w1 hown1 hgrow _
    have hB1 : Below w.heap.size w w1 := HY.out.grown hgrow (by simp) (own_base HOWN.out)
    go_wp2_with fail
    go_ret
    exact ⟨⟨_, rfl, hown1⟩, hB1⟩


set_option maxRecDepth 100000 in
theorem has_any (v : Value) (l : List Fr) (h n : Int) (w : World) (hs : frE.Sl w v l) :
    Calls Try.prog 39 #[.agg #[v, .int .i64 h], .int .i64 n] w fun e w' => e = .returned (.bool (decide (0 ≤ n ∧ n < (l.length : Int)))) ∧ Below w.heap.size w w' := by
  obtain ⟨A, cap, rfl, _⟩ := hs
  by_cases h0 : 0 ≤ n
  · by_cases h1 : n < (l.length : Int)
    · rw [decide_eq_true ⟨h0, h1⟩]
      go_enter Try.func39, Try.ntmps39
      go_wp2_with fail
      go_ret
      exact ⟨rfl, (Below.refl _ _).alloc (Nat.le_refl _) _⟩
    · rw [decide_eq_false (fun h' => h1 h'.2)]
      have h2 : (l.length : Int) ≤ n := by omega
      have h3 : decide (n < (l.length : Int)) = false := decide_eq_false h1
      clear h1
      go_enter Try.func39, Try.ntmps39
      go_wp2_with fail
      go_ret
      exact ⟨by first | rfl | (rw [h3]; rfl), (Below.refl _ _).alloc (Nat.le_refl _) _⟩
  · rw [decide_eq_false (fun h' => h0 h'.1)]
    have h2 : n < 0 := by omega
    clear h0
    go_enter Try.func39, Try.ntmps39
    go_wp2_with fail
    go_ret
    exact ⟨rfl, (Below.refl _ _).alloc (Nat.le_refl _) _⟩

set_option maxRecDepth 100000 in
theorem pinned_any (a : Fr) (w : World) :
    Calls Try.prog 36 #[.agg #[.int .i64 a.page, .int .i64 a.pins, .bool a.used]] w fun e w' => e = .returned (.bool (decide (0 < a.pins))) ∧ Below w.heap.size w w' := by
  go_enter Try.func36, Try.ntmps36
  go_wp2_with fail
  go_ret
  exact ⟨rfl, (Below.refl _ _).alloc (Nat.le_refl _) _⟩

set_option maxRecDepth 100000 in
theorem sweep1_any (a : Fr) (w : World) :
    Calls Try.prog 35 #[.agg #[.int .i64 a.page, .int .i64 a.pins, .bool a.used]] w fun e w' => e = .returned (.bool (!decide (0 < a.pins))) ∧ Below w.heap.size w w' := by
  have hY : Below w.heap.size w (w.alloc (.cells #[.int .i64 a.page, .int .i64 a.pins, .bool a.used] 42)) := (Below.refl _ _).alloc (Nat.le_refl _) _
  have S := Lib.hid (pinned_any a (w.alloc (.cells #[.int .i64 a.page, .int .i64 a.pins, .bool a.used] 42)))
  have HY := Lib.hid hY
  clear hY
  go_enter Try.func35, Try.ntmps35
  go_wp2_with fail
  refine S.out.mono ?_
  rintro e W1 ⟨rfl, hB1⟩
  go_wp2_with fail
  go_ret
  exact ⟨rfl, HY.out.trans (hB1.mono HY.out.size)⟩

def Ck.anyFree (l : List Fr) : Bool := l.any fun a => !decide (0 < a.pins)
def IdxIs (b : Bool) (e : Ending) : Prop := ∃ z : Int, e = .returned (.int .i64 z) ∧ b = decide (0 ≤ z)
set_option maxRecDepth 100000 in
set_option maxHeartbeats 400000 in
theorem findex_any (v : Value) (l : List Fr) (w : World) (h : frE.Sl w v l) :
    Calls Try.prog 45 #[v, .func (.func 35) #[] #[]] w fun e w' => IdxIs (Ck.anyFree l) e ∧ Below w.heap.size w w' := by
  obtain ⟨A, cap, rfl, h1, h2, h0, h3⟩ := h
  unfold maxLen at h2
  have H3 := Lib.hid h3
  clear h3 h0
  go_enter Try.func45, Try.ntmps45
  go_wp2_with fail
  go_loopw [5, 8] (fun _ i wr => ∃ k : Nat, k ≤ l.length ∧ i = .int .i64 k ∧ Ck.anyFree (l.take k) = false ∧ Below w.heap.size w wr) (fun _ i _ => l.length - (intOf i).toNat)
  case atStart => exact ⟨0, by omega, rfl, rfl, Below.refl _ _⟩
  case round =>
    obtain ⟨k, hk, rfl, hno, hB⟩ := hrel
    have HNO := Lib.hid hno
    clear hno
    by_cases hlt : k < l.length
    · obtain ⟨b, off, rfl, hbl, hc⟩ := H3.out (by omega)
      obtain ⟨c0, c1, c2⟩ := fr_at (hc.below hB hbl) k hlt
      have hblt : b < wr.heap.size := Nat.lt_of_lt_of_le hbl hB.size
      have hP := sweep1_any l[k] wr
      have hst : Ck.anyFree (l.take (k + 1)) = (Ck.anyFree (l.take k) || !decide (0 < l[k].pins)) := by
        unfold Ck.anyFree
        rw [List.take_succ_eq_append_getElem hlt, List.any_append]
        simp
      have hin : (!decide (0 < l[k].pins)) = true → Ck.anyFree l = true := by
        intro h
        unfold Ck.anyFree
        rw [List.any_eq_true]
        exact ⟨l[k], List.getElem_mem hlt, h⟩
      clear hc
      cases hd : (!decide (0 < l[k].pins)) with
      | true =>
        rw [hd] at hP
        have HIN := Lib.hid (hin hd)
        have HP := Lib.hid hP
        have hk0 : (0 : Int) ≤ (k : Int) := by omega
        clear hst hin hd hP
        generalize l[k] = a at c0 c1 c2 HP
        go_wp2_with fail
        refine HP.out.mono ?_
        rintro e W1 ⟨rfl, hB1⟩
        go_wp2_with fail
        go_ret
        exact ⟨⟨_, rfl, by rw [HIN.out]; exact (decide_eq_true hk0).symm⟩, hB.trans (hB1.mono hB.size)⟩
      | false =>
        rw [hd] at hP hst
        rw [HNO.out] at hst
        have HST := Lib.hid hst
        have HP := Lib.hid hP
        clear hst hin hd hP
        generalize l[k] = a at c0 c1 c2 HP
        go_wp2_with fail
        refine HP.out.mono ?_
        rintro e W1 ⟨rfl, hB1⟩
        go_wp2_with fail
        go_roundw
        case rel => exact ⟨k + 1, by omega, by go_num, HST.out, hB.trans (hB1.mono hB.size)⟩
        case measure => simp [intOf]; omega
    · obtain rfl : k = l.length := by omega
      have hno := HNO.out
      rw [List.take_length] at hno
      have HN := Lib.hid hno
      clear hno hlt
      go_wp2_with fail
      go_ret
      exact ⟨⟨-1, rfl, by rw [HN.out]; rfl⟩, hB⟩

set_option maxRecDepth 100000 in
theorem contains_any (v : Value) (l : List Fr) (w : World) (h : frE.Sl w v l) :
    Calls Try.prog 34 #[v, .func (.func 35) #[] #[]] w fun e w' => e = .returned (.bool (Ck.anyFree l)) ∧ Below w.heap.size w w' := by
  have S := Lib.hid (findex_any v l w h)
  clear h
  go_enter Try.func34, Try.ntmps34
  go_wp2_with fail
  refine S.out.mono ?_
  rintro e W1 ⟨⟨z, rfl, hz⟩, hB1⟩
  have HZ := Lib.hid hz
  clear hz
  go_wp2_with fail
  go_ret
  exact ⟨by rw [HZ.out]; rfl, hB1⟩

set_option maxRecDepth 100000 in
theorem behind_any (v : Value) (l : List Fr) (h : Int) (n : Nat) (w : World) (hs : frE.Sl w v l) (hn : n < l.length) (h8 : l.length ≤ 1000000) :
    Calls Try.prog 38 #[.agg #[v, .int .i64 h], .int .i64 n] w fun e w' => e = .returned (.int .i64 (((n + 1) % l.length : Nat) : Int)) ∧ Below w.heap.size w w' := by
  obtain ⟨A, cap, rfl, _⟩ := hs
  have h0 : (0 : Int) ≤ (n : Int) + 1 := by omega
  have h1 : ((l.length : Int) == 0) = false := by rw [beq_eq_false_iff_ne]; omega
  have h2 : ¬ (l.length : Int) = 0 := by omega
  have h3 : ((n : Int) + 1) % (l.length : Int) = (((n + 1) % l.length : Nat) : Int) := by rw [Int.natCast_emod]; rfl
  have h4 : ((n : Int) + 1).tmod (l.length : Int) = (((n + 1) % l.length : Nat) : Int) := by rw [Int.tmod_eq_emod_of_nonneg (by omega), h3]
  have h5 : (n : Int) ≤ 1000000 := by omega
  generalize (((n + 1) % l.length : Nat) : Int) = z at h3 h4 ⊢
  go_enter Try.func38, Try.ntmps38
  go_wp2_with fail
  go_ret
  exact ⟨by first | rfl | (simp [h3, h4]), (Below.refl _ _).alloc (Nat.le_refl _) _⟩
end Go.Proofs.Ythhialnnhhemaaa
