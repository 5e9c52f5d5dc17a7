/- LAYER 14, walked: mark and clean. Conditions: the slice leads to the items; fewer than a million. -/
import Derived.Test.YthhialnnhhemaaaDirtyMark
namespace Go.Proofs.Ythhialnnhhemaaa
open Go.RowKit
set_option linter.unusedVariables false
namespace Dy
def mark (l : List It) (p now : Int) : List It × Int :=
  if right l && decide ((1 ≤ p ∧ p ≤ 16) ∧ last l ≤ now ∧ now ≤ 2147483647) then (if hasPage l p then (l, 0) else (l ++ [⟨p, now⟩], 0)) else (l, 1)
def clean (l : List It) (p : Int) : List It × Int :=
  if right l then (if hasPage l p then (l.eraseIdx (at' l p).toNat, 0) else (l, 3)) else (l, 1)
theorem mark_bad {l : List It} {p now : Int} (h : right l = false ∨ ¬ (1 ≤ p ∧ p ≤ 16) ∨ now < last l ∨ 2147483647 < now) : mark l p now = (l, 1) := by
  unfold mark
  rw [if_neg]
  rw [Bool.and_eq_true, decide_eq_true_iff]
  rintro ⟨h1, h2, h3, h4⟩
  rcases h with h | h | h | h
  · rw [h1] at h; exact Bool.noConfusion h
  · exact h h2
  · omega
  · omega
theorem mark_ok {l : List It} {p now : Int} (h1 : right l = true) (h2 : 1 ≤ p ∧ p ≤ 16) (h3 : last l ≤ now) (h4 : now ≤ 2147483647) : mark l p now = if hasPage l p then (l, 0) else (l ++ [⟨p, now⟩], 0) := by
  unfold mark
  rw [if_pos]
  rw [Bool.and_eq_true, decide_eq_true_iff]
  exact ⟨h1, h2, h3, h4⟩
theorem last_get {l : List It} {n : Nat} (h : l.length = n + 1) : last l = (l[n]'(by omega)).since := by
  unfold last
  rw [List.getLast?_eq_getElem?, show l.length - 1 = n by omega, List.getElem?_eq_getElem (by omega)]
end Dy
/-- a slice of these items, and a number -/
def ItsAnd (r : List It × Int) (e : Ending) (w' : World) : Prop := ∃ u, e = .returned (.tuple #[u, .int .i64 r.2]) ∧ itE.Sl w' u r.1
/-- the same, and: it is the one that came in, or it lies in new memory -/
def ItsAt (v : Value) (B : Nat) (r : List It × Int) (e : Ending) (w' : World) : Prop := ∃ u, e = .returned (.tuple #[u, .int .i64 r.2]) ∧ itE.Sl w' u r.1 ∧ (u = v ∨ ∀ g, u.ownBlock = some g → B ≤ g)
theorem ItsAt.and {v : Value} {B : Nat} {r : List It × Int} {e : Ending} {w' : World} (h : ItsAt v B r e w') : ItsAnd r e w' := by
  obtain ⟨u, he, hs, _⟩ := h
  exact ⟨u, he, hs⟩

set_option maxRecDepth 100000 in
set_option maxHeartbeats 3200000 in
theorem mark_at (v : Value) (l : List It) (p now : Int) (w : World) (h : itE.Sl w v l) (h40 : l.length ≤ 1000000) :
    Calls Try.prog 26 #[v, .int .i64 p, .int .i64 now] w fun e w' => ItsAt v w.heap.size (Dy.mark l p now) e w' ∧ Below w.heap.size w w' := by
  have S := dright_any v l w h
  have P := Lib.hid (fun W hw => place_any v l p W hw)
  have C := Lib.hid (fun W hw => clone_any v l W hw h40)
  have I := fun W => isPage_any p W
  have HS := Lib.hid h
  obtain ⟨A, cap, rfl, h1, h2, h0, h3⟩ := h
  unfold maxLen at h2
  have H3 := Lib.hid h3
  clear h3 h0
  cases hr : Dy.right l with
  | false =>
    rw [hr] at S
    rw [Dy.mark_bad (.inl hr)]
    have S := Lib.hid S
    clear hr I
    go_enter Try.func26, Try.ntmps26
    go_wp2_with fail
    refine S.out.mono ?_
    rintro e W1 ⟨rfl, hB1⟩
    go_wp2_with fail
    go_ret2
    exact ⟨⟨_, rfl, HS.out.below hB1, .inl rfl⟩, hB1⟩
  | true =>
  rw [hr] at S
  have S := Lib.hid S
  have HOK := Lib.hid ((Dy.right_iff l).1 hr)
  by_cases hp : 1 ≤ p ∧ p ≤ 16
  case neg =>
    rw [decide_eq_false hp] at I
    rw [Dy.mark_bad (.inr (.inl hp))]
    have I := Lib.hid I
    clear hr hp
    go_enter Try.func26, Try.ntmps26
    go_wp2_with fail
    refine S.out.mono ?_
    rintro e W1 ⟨rfl, hB1⟩
    go_wp2_with fail
    refine (I.out W1).mono ?_
    rintro e W2 ⟨rfl, hB2⟩
    have hB := hB1.trans (hB2.mono hB1.size)
    clear hB1 hB2
    go_wp2_with fail
    go_ret2
    exact ⟨⟨_, rfl, HS.out.below hB, .inl rfl⟩, hB⟩
  rw [decide_eq_true hp] at I
  have I := Lib.hid I
  have HP := Lib.hid hp
  clear hp
  by_cases hn0 : now < 0
  · rw [Dy.mark_bad (.inr (.inr (.inl (by have := Dy.last_nonneg HOK.out; omega))))]
    clear hr
    go_enter Try.func26, Try.ntmps26
    go_wp2_with fail
    refine S.out.mono ?_
    rintro e W1 ⟨rfl, hB1⟩
    go_wp2_with fail
    refine (I.out W1).mono ?_
    rintro e W2 ⟨rfl, hB2⟩
    have hB := hB1.trans (hB2.mono hB1.size)
    clear hB1 hB2
    go_wp2_with fail
    go_ret2
    exact ⟨⟨_, rfl, HS.out.below hB, .inl rfl⟩, hB⟩
  have hn0' : 0 ≤ now := by omega
  by_cases hn1 : 2147483647 < now
  · rw [Dy.mark_bad (.inr (.inr (.inr hn1)))]
    clear hr hn0
    go_enter Try.func26, Try.ntmps26
    go_wp2_with fail
    refine S.out.mono ?_
    rintro e W1 ⟨rfl, hB1⟩
    go_wp2_with fail
    refine (I.out W1).mono ?_
    rintro e W2 ⟨rfl, hB2⟩
    have hB := hB1.trans (hB2.mono hB1.size)
    clear hB1 hB2
    go_wp2_with fail
    go_ret2
    exact ⟨⟨_, rfl, HS.out.below hB, .inl rfl⟩, hB⟩
  have hn1' : now ≤ 2147483647 := by omega
  clear hn0 hn1
  by_cases hl : now < Dy.last l
  · rw [Dy.mark_bad (.inr (.inr (.inl hl)))]
    obtain ⟨n, hn⟩ : ∃ n, l.length = n + 1 := by
      cases hz : l.length with
      | zero =>
        obtain rfl := List.eq_nil_of_length_eq_zero hz
        rw [Dy.last_nil] at hl
        omega
      | succ n => exact ⟨n, rfl⟩
    obtain ⟨b, off, rfl, hbl, hc⟩ := H3.out (by omega)
    have HC := Lib.hid (fun W hB => it_at (hc.below (w' := W) hB hbl) n (by omega))
    rw [Dy.last_get hn] at hl
    generalize l[n] = d at hl HC
    rw [hn] at S HS ⊢
    have h1' : n + 1 ≤ cap := by omega
    have hn2 : (0 : Int) < (n : Int) + 1 := by omega
    have hn3 : (n : Int) < (n : Int) + 1 := by omega
    have hn4 : (0 : Int) ≤ (n : Int) := by omega
    have hn5 : 0 < n + 1 := by omega
    clear hr hc hn h1
    go_enter Try.func26, Try.ntmps26
    go_wp2_with fail
    refine S.out.mono ?_
    rintro e W1 ⟨rfl, hB1⟩
    go_wp2_with fail
    refine (I.out W1).mono ?_
    rintro e W2 ⟨rfl, hB2⟩
    have hB := hB1.trans (hB2.mono hB1.size)
    obtain ⟨c0, c1⟩ := HC.out W2 hB
    have hblt : b < W2.heap.size := Nat.lt_of_lt_of_le hbl hB.size
    clear hB1 hB2
    go_wp2_with fail
    go_ret2
    exact ⟨⟨_, rfl, HS.out.below hB, .inl rfl⟩, hB⟩
  have hl' : Dy.last l ≤ now := by omega
  rw [Dy.mark_ok hr HP.out hl' hn1', Dy.hasPage_at]
  have HL := Lib.hid hl'
  clear hl hr
  -- the first tests all pass: the place is asked for
  have tests : ∀ (W2 : World), Below w.heap.size w W2 → l.length = 0 ∨ ∃ n d, l.length = n + 1 ∧ d ≤ now ∧ ∃ b off, A = some ⟨b, off, none⟩ ∧ b < W2.heap.size ∧ W2.cell? ⟨b, off + n * 2 + 1, none⟩ = some (.int .i64 d) := by
    intro W2 hB
    cases hz : l.length with
    | zero => exact .inl rfl
    | succ n =>
      obtain ⟨b, off, rfl, hbl, hc⟩ := H3.out (by omega)
      obtain ⟨c0, c1⟩ := it_at (hc.below hB hbl) n (by omega)
      have := HL.out
      rw [Dy.last_get hz] at this
      exact .inr ⟨n, _, rfl, this, b, off, rfl, Nat.lt_of_lt_of_le hbl hB.size, c1⟩
  have TESTS := Lib.hid tests
  clear tests hl'
  by_cases hat : 0 ≤ Dy.at' l p
  · rw [decide_eq_true hat, if_pos rfl]
    generalize Dy.at' l p = at1 at P hat
    go_enter Try.func26, Try.ntmps26
    go_wp2_with fail
    refine S.out.mono ?_
    rintro e W1 ⟨rfl, hB1⟩
    go_wp2_with fail
    refine (I.out W1).mono ?_
    rintro e W2 ⟨rfl, hB2⟩
    have hB := hB1.trans (hB2.mono hB1.size)
    clear hB1 hB2
    have PP := Lib.hid (P.out W2 (HS.out.below hB))
    rcases TESTS.out W2 hB with hz | ⟨n, d, hn, hd, b, off, rfl, hblt, c1⟩
    · rw [hz] at PP ⊢
      have h00 : ¬ (0 : Int) < 0 := by omega
      go_wp2_with fail
      refine PP.out.mono ?_
      rintro e W3 ⟨rfl, hB3⟩
      have hB' := hB.trans (hB3.mono hB.size)
      clear hB hB3
      rw [hz] at HS
      go_wp2_with fail
      go_ret2
      exact ⟨⟨_, rfl, HS.out.below hB', .inl (by rw [hz]; rfl)⟩, hB'⟩
    · rw [hn] at PP HS ⊢
      have h1' : n + 1 ≤ cap := by omega
      have hn2 : (0 : Int) < (n : Int) + 1 := by omega
      have hn3 : (n : Int) < (n : Int) + 1 := by omega
      have hn4 : (0 : Int) ≤ (n : Int) := by omega
      have hn5 : 0 < n + 1 := by omega
      have HN := Lib.hid hn
      clear hn h1
      go_wp2_with fail
      refine PP.out.mono ?_
      rintro e W3 ⟨rfl, hB3⟩
      have hB' := hB.trans (hB3.mono hB.size)
      clear hB hB3 c1 hblt
      go_wp2_with fail
      go_ret2
      exact ⟨⟨_, rfl, HS.out.below hB', .inl (by rw [HN.out]; rfl)⟩, hB'⟩
  · rw [decide_eq_false hat, if_neg (by decide)]
    have hat' : Dy.at' l p < 0 := by omega
    generalize Dy.at' l p = at1 at P hat hat'
    obtain ⟨i0, hi, hz0, hz1, hz2⟩ := info_parts infoIt
    have HI := Lib.hid (And.intro hi (And.intro hz0 (And.intro hz1 hz2)))
    clear hat hi hz0 hz1 hz2
    have hm7 : l.length + 1 ≤ maxLen := by unfold maxLen; omega
    have hm8 : (l.length + 1) * 16 ≤ 140737488355328 := by omega
    have HM := Lib.hid (And.intro hm7 hm8)
    clear hm7 hm8
    go_enter Try.func26, Try.ntmps26
    go_wp2_with fail
    refine S.out.mono ?_
    rintro e W1 ⟨rfl, hB1⟩
    go_wp2_with fail
    refine (I.out W1).mono ?_
    rintro e W2 ⟨rfl, hB2⟩
    have hB := hB1.trans (hB2.mono hB1.size)
    clear hB1 hB2
    have PP := Lib.hid (P.out W2 (HS.out.below hB))
    rcases TESTS.out W2 hB with hz | ⟨n, d, hn, hd, b, off, rfl, hblt, c1⟩
    · rw [hz] at PP ⊢
      have h00 : ¬ (0 : Int) < 0 := by omega
      go_wp2_with fail
      refine PP.out.mono ?_
      rintro e W3 ⟨rfl, hB3⟩
      have hB' := hB.trans (hB3.mono hB.size)
      have CC := C.out W3 (HS.out.below hB')
      rw [hz] at CC
      have CC := Lib.hid CC
      clear hB hB3 PP
      go_wp2_with fail
      refine CC.out.mono ?_
      rintro e W4 ⟨⟨u, rfl, hown⟩, hB4⟩
      have hB4' := hB'.trans (hB4.mono hB'.size)
      have HOWN := Lib.hid hown
      have HSZ := Lib.hid hB4.size
      have HSZ2 := Lib.hid hB'.size
      clear hB4 hB' hown CC
      go_wp2_with (at_builtin; go_must (refine wpList_append_own _ rfl _ _ 47 rfl W3.heap.size 61 i0 (.agg #[.int .i64 0, .int .i64 0]) 2 16 Try.underlying47 HI.out.1 HI.out.2.1 HI.out.2.2.1 HI.out.2.2.2 rfl (by decide) _ _ _ rfl ((show W4.ownsRow W3.heap.size 61 2 u l.length (itE.flat l) from HOWN.out).alloc _) ⟨W4.heap.size, 0, none⟩ 1 1 (itE.enc ⟨p, now⟩) rfl rfl ?da ?db HM.out.1 HM.out.2 ?dc ?_))
      case da => have := news2 W4 61 (.int .i64 p) (.int .i64 now); simpa [itE] using this
      case db => exact itE.one _
      case dc => have := HSZ.out; simp; omega
      intro v' w1 hown1 hgrow _
      have hB5 : Below w.heap.size w w1 := (hB4'.alloc hB4'.size _).grown hgrow (by have := hB4'.size; simp; omega) (fun k hk => Nat.le_trans HSZ2.out (own_base HOWN.out k hk))
      have hat1 : ∀ g, v'.ownBlock = some g → w.heap.size ≤ g := fun g hg => Nat.le_trans HSZ2.out (own_base hown1 g hg)
      have hsl : itE.Sl w1 v' (l ++ [⟨p, now⟩]) := Enc.Own.sl (Enc.Own.snoc (E := itE) (w := w1) (base := W3.heap.size) (t := 61) (l := l) (a := (⟨p, now⟩ : It)) (by first | exact hown1 | (rw [hz]; exact hown1)))
      go_wp2_with fail
      go_ret2
      exact ⟨⟨_, rfl, hsl, .inr hat1⟩, hB5⟩
    · rw [hn] at PP ⊢
      have h1' : n + 1 ≤ cap := by omega
      have hn2 : (0 : Int) < (n : Int) + 1 := by omega
      have hn3 : (n : Int) < (n : Int) + 1 := by omega
      have hn4 : (0 : Int) ≤ (n : Int) := by omega
      have hn5 : 0 < n + 1 := by omega
      have HN := Lib.hid hn
      clear hn h1
      go_wp2_with fail
      refine PP.out.mono ?_
      rintro e W3 ⟨rfl, hB3⟩
      have hB' := hB.trans (hB3.mono hB.size)
      have CC := C.out W3 (HS.out.below hB')
      rw [HN.out] at CC
      have CC := Lib.hid CC
      clear hB hB3 PP
      go_wp2_with fail
      refine CC.out.mono ?_
      rintro e W4 ⟨⟨u, rfl, hown⟩, hB4⟩
      have hB4' := hB'.trans (hB4.mono hB'.size)
      have HOWN := Lib.hid hown
      have HSZ := Lib.hid hB4.size
      have HSZ2 := Lib.hid hB'.size
      clear hB4 hB' hown CC
      go_wp2_with (at_builtin; go_must (refine wpList_append_own _ rfl _ _ 47 rfl W3.heap.size 61 i0 (.agg #[.int .i64 0, .int .i64 0]) 2 16 Try.underlying47 HI.out.1 HI.out.2.1 HI.out.2.2.1 HI.out.2.2.2 rfl (by decide) _ _ _ rfl ((show W4.ownsRow W3.heap.size 61 2 u l.length (itE.flat l) from HOWN.out).alloc _) ⟨W4.heap.size, 0, none⟩ 1 1 (itE.enc ⟨p, now⟩) rfl rfl ?fa ?fb HM.out.1 HM.out.2 ?fc ?_))
      case fa => have := news2 W4 61 (.int .i64 p) (.int .i64 now); simpa [itE] using this
      case fb => exact itE.one _
      case fc => have := HSZ.out; simp; omega
      intro v' w1 hown1 hgrow _
      have hB5 : Below w.heap.size w w1 := (hB4'.alloc hB4'.size _).grown hgrow (by have := hB4'.size; simp; omega) (fun k hk => Nat.le_trans HSZ2.out (own_base HOWN.out k hk))
      have hat1 : ∀ g, v'.ownBlock = some g → w.heap.size ≤ g := fun g hg => Nat.le_trans HSZ2.out (own_base hown1 g hg)
      have hsl : itE.Sl w1 v' (l ++ [⟨p, now⟩]) := Enc.Own.sl (Enc.Own.snoc (E := itE) (w := w1) (base := W3.heap.size) (t := 61) (l := l) (a := (⟨p, now⟩ : It)) (by first | exact hown1 | (rw [hz]; exact hown1)))
      go_wp2_with fail
      go_ret2
      exact ⟨⟨_, rfl, hsl, .inr hat1⟩, hB5⟩

set_option maxRecDepth 100000 in
set_option maxHeartbeats 1600000 in
theorem clean_at (v : Value) (l : List It) (p : Int) (w : World) (h : itE.Sl w v l) (h40 : l.length ≤ 1000000) :
    Calls Try.prog 27 #[v, .int .i64 p] w fun e w' => ItsAt v w.heap.size (Dy.clean l p) e w' ∧ Below w.heap.size w w' := by
  have S := dright_any v l w h
  have P := fun W hw => place_any v l p W hw
  have C := Lib.hid (fun W hw => clone_any v l W hw h40)
  have HS := Lib.hid h
  clear h
  unfold Dy.clean
  cases hr : Dy.right l with
  | false =>
    rw [hr] at S
    rw [if_neg (by decide)]
    have S := Lib.hid S
    clear hr P
    go_enter Try.func27, Try.ntmps27
    go_wp2_with fail
    refine S.out.mono ?_
    rintro e W1 ⟨rfl, hB1⟩
    go_wp2_with fail
    go_ret2
    exact ⟨⟨_, rfl, HS.out.below hB1, .inl rfl⟩, hB1⟩
  | true =>
  rw [hr] at S
  rw [if_pos rfl, Dy.hasPage_at]
  have S := Lib.hid S
  rcases Dy.at_cases l p with ⟨e, _⟩ | ⟨k, hk, e, hx1, hx2⟩
  · rw [e] at P ⊢
    rw [if_neg (by decide)]
    have P := Lib.hid P
    clear hr e
    go_enter Try.func27, Try.ntmps27
    go_wp2_with fail
    refine S.out.mono ?_
    rintro e W1 ⟨rfl, hB1⟩
    go_wp2_with fail
    refine (P.out W1 (HS.out.below hB1)).mono ?_
    rintro e W2 ⟨rfl, hB2⟩
    have hB := hB1.trans (hB2.mono hB1.size)
    clear hB1 hB2
    go_wp2_with fail
    go_ret2
    exact ⟨⟨_, rfl, HS.out.below hB, .inl rfl⟩, hB⟩
  · rw [e] at P ⊢
    rw [decide_eq_true (show (0 : Int) ≤ (k : Int) by omega), if_pos rfl, Int.toNat_natCast]
    have P := Lib.hid P
    have D := Lib.hid (fun u B W hh => delete_any l k u B W hh hk h40)
    have hk0 : (0 : Int) ≤ (k : Int) := by omega
    have hk1 : (k : Int) ≤ 1000000 := by omega
    clear hr e hx1 hx2 hk h40
    go_enter Try.func27, Try.ntmps27
    go_wp2_with fail
    refine S.out.mono ?_
    rintro e W1 ⟨rfl, hB1⟩
    go_wp2_with fail
    refine (P.out W1 (HS.out.below hB1)).mono ?_
    rintro e W2 ⟨rfl, hB2⟩
    have hB := hB1.trans (hB2.mono hB1.size)
    clear hB1 hB2
    go_wp2_with fail
    refine (C.out W2 (HS.out.below hB)).mono ?_
    rintro e W3 ⟨⟨u, rfl, hown⟩, hB3⟩
    have hB' := hB.trans (hB3.mono hB.size)
    have DD := Lib.hid (D.out u w.heap.size W3 (hown.mono hB.size))
    clear hB hB3 hown
    go_wp2_with fail
    refine DD.out.mono ?_
    rintro e W4 ⟨⟨u2, rfl, hown2⟩, hB4⟩
    have hsl := hown2.sl
    have hat2 : ∀ g, u2.ownBlock = some g → w.heap.size ≤ g := fun g hg => own_base hown2 g hg
    have hB5 := hB'.trans hB4
    clear hown2 hB4 hB' DD
    go_wp2_with fail
    go_ret2
    exact ⟨⟨_, rfl, hsl, .inr hat2⟩, hB5⟩
theorem mark_any (v : Value) (l : List It) (p now : Int) (w : World) (h : itE.Sl w v l) (h40 : l.length ≤ 1000000) :
    Calls Try.prog 26 #[v, .int .i64 p, .int .i64 now] w fun e w' => ItsAnd (Dy.mark l p now) e w' ∧ Below w.heap.size w w' :=
  (mark_at v l p now w h h40).mono fun e w' ⟨a, b⟩ => ⟨a.and, b⟩
theorem clean_any (v : Value) (l : List It) (p : Int) (w : World) (h : itE.Sl w v l) (h40 : l.length ≤ 1000000) :
    Calls Try.prog 27 #[v, .int .i64 p] w fun e w' => ItsAnd (Dy.clean l p) e w' ∧ Below w.heap.size w w' :=
  (clean_at v l p w h h40).mono fun e w' ⟨a, b⟩ => ⟨a.and, b⟩
end Go.Proofs.Ythhialnnhhemaaa
