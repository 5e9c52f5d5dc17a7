/- THE LAWS of layer 9, walked: ClockSweeps. Conditions: those of the arguments alone. -/
import Derived.Test.YthhialnnhhemaaaClockRef3
namespace Go.Proofs.Ythhialnnhhemaaa
open Go.RowKit
set_option linter.unusedVariables false
theorem Enc.Sl.at' {α : Type} {E : Enc α} {w : World} {A : Option Addr} {n c : Nat} {l : List α} (h : E.Sl w (.slice A n c) l) (hp : 0 < l.length) : ∃ b off, A = some ⟨b, off, none⟩ ∧ b < w.heap.size ∧ E.At w b off l := by
  obtain ⟨A', c', hv, _, _, _, h3⟩ := h
  simp only [Value.slice.injEq] at hv
  obtain ⟨rfl, _, _⟩ := hv
  exact h3 hp
namespace Ck
def tchF (fr : Int) (i : Nat) (f : Fr) : Fr := ⟨f.page, f.pins, f.used || ((i : Int) == fr)⟩
def tchI (l : List Fr) (fr : Int) : List Fr := l.mapIdx (tchF fr)
theorem tchI_length (l : List Fr) (fr : Int) : (tchI l fr).length = l.length := by simp [tchI]
theorem tchI_get (l : List Fr) (fr : Int) (i : Nat) (hi : i < l.length) : (tchI l fr)[i]'(by rw [tchI_length]; exact hi) = tchF fr i l[i] := by simp [tchI]
theorem tchI_snoc (l : List Fr) (fr : Int) (m : Nat) (hm : m < l.length) : (tchI l fr).take (m + 1) = (tchI l fr).take m ++ [tchF fr m l[m]] := by
  rw [List.take_succ_eq_append_getElem (by rw [tchI_length]; exact hm), tchI_get _ _ _ hm]
theorem touch'_length (l : List Fr) (h n : Int) : (touch' l h n).length = l.length := by
  unfold touch'
  split
  · exact touch_length _ _
  · rfl
theorem touch'_right {l : List Fr} {h : Int} (hr : right l h = true) (fr : Int) : touch' l h fr = tchI l fr := by
  unfold touch'
  rw [hr, Bool.true_and]
  apply List.ext_getElem
  · rw [tchI_length]; split
    · exact touch_length _ _
    · rfl
  intro i h1 h2
  rw [tchI_length] at h2
  rw [tchI_get _ _ _ h2]
  unfold tchF
  by_cases hf : 0 ≤ fr ∧ fr < (l.length : Int)
  · simp only [decide_eq_true hf, if_true]
    rw [touch_get _ _ _ h2]
    by_cases e : fr.toNat = i
    · rw [if_pos e]
      have : ((i : Int) == fr) = true := by rw [beq_iff_eq]; omega
      rw [this, Bool.or_true]
    · rw [if_neg e]
      have : ((i : Int) == fr) = false := by rw [beq_eq_false_iff_ne]; omega
      rw [this, Bool.or_false]
  · simp only [decide_eq_false hf, Bool.false_eq_true, if_false]
    have : ((i : Int) == fr) = false := by rw [beq_eq_false_iff_ne]; omega
    rw [this, Bool.or_false]
theorem touch'_bad {l : List Fr} {h : Int} (hr : right l h = false) (fr : Int) : touch' l h fr = l := by
  unfold touch'
  rw [hr, Bool.false_and]
  rfl
end Ck
theorem ckSame_self (u v : Value) (a : List Fr) (h : Int) (w : World) (ha : frE.Sl w u a) (hb : frE.Sl w v a) :
    Calls Try.prog 20 #[.agg #[u, .int .i64 h], .agg #[v, .int .i64 h]] w fun e w' => e = .returned (.bool true) ∧ Below w.heap.size w w' := by
  have := ckSame_any u v a a h h w ha hb
  rwa [show decide (a = a ∧ h = h) = true from decide_eq_true ⟨rfl, rfl⟩] at this

set_option maxRecDepth 100000 in
set_option maxHeartbeats 12800000 in
theorem clockSweeps_walk {w : World} (v : Value) (ha : CkArg w v) (fr : Int) (wf : (Lit.int .i64 fr).wf = true) :
    Calls Try.prog 3 #[v, .int .i64 fr] w fun e w' => e = .returned (.bool true) ∧ Below w.heap.size w w' := by
  obtain ⟨u, l, h, rfl, hs, hf⟩ := ha
  have HS := Lib.hid hs
  obtain ⟨A, cap, rfl, h1, h2, h0, h3⟩ := hs
  unfold maxLen at h2
  have hY : Below w.heap.size w (w.alloc (.cells #[.slice A l.length cap, .int .i64 h] 24)) := (Below.refl _ _).alloc (Nat.le_refl _) _
  have HY := Lib.hid hY
  have HBOX := Lib.hid (Blk.new w 24 #[.slice A l.length cap, .int .i64 h])
  clear h3 h0 hf wf
  by_cases h40 : 40 < l.length
  · have S := Lib.hid (ref_long _ l h _ (HS.out.below hY) h40)
    clear hY h40
    go_enter Try.func3, Try.ntmps3
    go_wp2_with fail
    refine S.out.mono ?_
    rintro e W1 ⟨rfl, hB1⟩
    have hb := HY.out.trans (hB1.mono HY.out.size)
    have hb := hb.alloc hb.size (.cells #[.slice none 0 0, .int .i64 h] 27)
    clear hB1 S
    go_wp2_with fail
    refine (awake09 _).mono ?_
    rintro e W2 ⟨rfl, hB2⟩
    have hb := hb.trans (hB2.mono hb.size)
    go_wp2_with fail
    go_ret
    exact ⟨rfl, hb⟩
  have hl40 : l.length ≤ 40 := by omega
  have SREF := Lib.hid (ref_any _ l h _ (HS.out.below hY) hl40)
  have SRIGHT := fun x W hw => refCk_any x l h W hw
  have SCR := fun W hw => cright_any (.slice A l.length cap) l h W hw
  obtain ⟨i0, hi, hi1, hi2, hi3⟩ := info_parts infoRf
  have HI := Lib.hid (And.intro hi (And.intro hi1 (And.intro hi2 hi3)))
  clear hY h40 hi hi1 hi2 hi3
  cases hr : Ck.right l h with
  | false =>
    rw [hr] at SRIGHT SCR
    have SRIGHT := Lib.hid SRIGHT
    have SCR := Lib.hid SCR
    have SW := Lib.hid (fun W hw => sweep_no (.slice A l.length cap) l h W hw (.inl hr))
    have HTCH := Lib.hid (Ck.touch'_bad hr fr)
    clear hr
    go_enter Try.func3, Try.ntmps3
    go_wp2_with fail
    refine SREF.out.mono ?_
    rintro e W1 ⟨⟨x, rfl, hx⟩, hB1⟩
    have hb := HY.out.trans (hB1.mono HY.out.size)
    obtain ⟨Ax, cx, rfl, _, _, _⟩ := hx.sl.form (n := l.length) rfl
    have HXS := Lib.hid hx.sl
    have HC := Lib.hid (HBOX.out.keep hB1)
    clear hB1 hx
    have ha : Below W1.heap.size W1 (W1.alloc (.cells #[.slice Ax l.length cx, .int .i64 h] 27)) := (Below.refl _ _).alloc (Nat.le_refl _) _
    have hb := hb.trans (ha.mono hb.size)
    have HXS := Lib.hid (HXS.out.below ha)
    have HC := Lib.hid (HC.out.keep ha)
    have HXB := Lib.hid (Blk.new W1 27 #[.slice Ax l.length cx, .int .i64 h])
    clear ha
    have HS2 := Lib.hid (HS.out.below hb)
    obtain ⟨k00, k01, _, _, k04⟩ := pair_cells HC.out
    have SS := Lib.hid (SW.out _ (HS.out.below hb))
    go_wp2_with fail
    generalize W1.alloc (.cells #[.slice Ax l.length cx, .int .i64 h] 27) = V1 at *
    refine SS.out.mono ?_
    rintro e W2 ⟨he, hB⟩
    unfold SweepNo at he
    subst he
    have hb := hb.trans (hB.mono hb.size)
    have HXS := Lib.hid (HXS.out.below hB)
    have HC := Lib.hid (HC.out.keep hB)
    have HXB := Lib.hid (HXB.out.keep hB)
    clear hB SS k00 k01 k04
    have HAS := Lib.hid (HS.out.below hb)
    have ha : Below W2.heap.size W2 (W2.alloc (.cells #[.slice A l.length cap, .int .i64 h] 24)) := (Below.refl _ _).alloc (Nat.le_refl _) _
    have hb := hb.trans (ha.mono hb.size)
    have HXS := Lib.hid (HXS.out.below ha)
    have HC := Lib.hid (HC.out.keep ha)
    have HXB := Lib.hid (HXB.out.keep ha)
    have HAS := Lib.hid (HAS.out.below ha)
    have HAB := Lib.hid (Blk.new W2 24 #[.slice A l.length cap, .int .i64 h])
    clear ha
    obtain ⟨k00, k01, _, _, k04⟩ := pair_cells HC.out
    have SS := Lib.hid (touch_any (.slice A l.length cap) l h fr _ (HS.out.below hb))
    go_wp2_with fail
    generalize W2.alloc (.cells #[.slice A l.length cap, .int .i64 h] 24) = V2 at *
    refine SS.out.mono ?_
    rintro e W3 ⟨⟨ut, rfl, hut⟩, hB⟩
    obtain ⟨A4, c4, rfl, _, _, _⟩ := hut.form (n := l.length) (Ck.touch'_length _ _ _)
    have hb := hb.trans (hB.mono hb.size)
    have HXS := Lib.hid (HXS.out.below hB)
    have HC := Lib.hid (HC.out.keep hB)
    have HXB := Lib.hid (HXB.out.keep hB)
    have HAS := Lib.hid (HAS.out.below hB)
    have HAB := Lib.hid (HAB.out.keep hB)
    clear hB SS k00 k01 k04
    have HTS := Lib.hid hut
    clear hut
    have ha : Below W3.heap.size W3 (W3.alloc (.cells #[.slice A4 l.length c4, .int .i64 h] 24)) := (Below.refl _ _).alloc (Nat.le_refl _) _
    have hb := hb.trans (ha.mono hb.size)
    have HXS := Lib.hid (HXS.out.below ha)
    have HC := Lib.hid (HC.out.keep ha)
    have HXB := Lib.hid (HXB.out.keep ha)
    have HAS := Lib.hid (HAS.out.below ha)
    have HAB := Lib.hid (HAB.out.keep ha)
    have HTS := Lib.hid (HTS.out.below ha)
    have HTB := Lib.hid (Blk.new W3 24 #[.slice A4 l.length c4, .int .i64 h])
    clear ha
    obtain ⟨k00, k01, _, _, k04⟩ := pair_cells HAB.out
    have SS := Lib.hid (ref_any (.slice A l.length cap) l h _ HAS.out (by omega))
    go_wp2_with fail
    generalize W3.alloc (.cells #[.slice A4 l.length c4, .int .i64 h] 24) = V3 at *
    refine SS.out.mono ?_
    rintro e W4 ⟨⟨y, rfl, hy⟩, hB⟩
    obtain ⟨A5, c5, rfl, _, _, _⟩ := hy.sl.form (n := l.length) (by rfl)
    have hb := hb.trans (hB.mono hb.size)
    have HXS := Lib.hid (HXS.out.below hB)
    have HC := Lib.hid (HC.out.keep hB)
    have HXB := Lib.hid (HXB.out.keep hB)
    have HAS := Lib.hid (HAS.out.below hB)
    have HAB := Lib.hid (HAB.out.keep hB)
    have HTS := Lib.hid (HTS.out.below hB)
    have HTB := Lib.hid (HTB.out.keep hB)
    clear hB SS k00 k01 k04
    have HYS := Lib.hid hy.sl
    clear hy
    have ha : Below W4.heap.size W4 (W4.alloc (.cells #[.slice A5 l.length c5, .int .i64 h] 27)) := (Below.refl _ _).alloc (Nat.le_refl _) _
    have hb := hb.trans (ha.mono hb.size)
    have HXS := Lib.hid (HXS.out.below ha)
    have HC := Lib.hid (HC.out.keep ha)
    have HXB := Lib.hid (HXB.out.keep ha)
    have HAS := Lib.hid (HAS.out.below ha)
    have HAB := Lib.hid (HAB.out.keep ha)
    have HTS := Lib.hid (HTS.out.below ha)
    have HTB := Lib.hid (HTB.out.keep ha)
    have HYS := Lib.hid (HYS.out.below ha)
    have HYB := Lib.hid (Blk.new W4 27 #[.slice A5 l.length c5, .int .i64 h])
    clear ha
    obtain ⟨k00, k01, _, _, k04⟩ := pair_cells HTB.out
    have SS := Lib.hid (ref_any (.slice A4 l.length c4) (Ck.touch' l h fr) h _ HTS.out (by rw [Ck.touch'_length]; omega))
    go_wp2_with fail
    generalize W4.alloc (.cells #[.slice A5 l.length c5, .int .i64 h] 27) = V4 at *
    refine SS.out.mono ?_
    rintro e W5 ⟨⟨z, rfl, hz⟩, hB⟩
    obtain ⟨A6, c6, rfl, _, _, _⟩ := hz.sl.form (n := l.length) (Ck.touch'_length _ _ _)
    have hb := hb.trans (hB.mono hb.size)
    have HXS := Lib.hid (HXS.out.below hB)
    have HC := Lib.hid (HC.out.keep hB)
    have HXB := Lib.hid (HXB.out.keep hB)
    have HAS := Lib.hid (HAS.out.below hB)
    have HAB := Lib.hid (HAB.out.keep hB)
    have HTS := Lib.hid (HTS.out.below hB)
    have HTB := Lib.hid (HTB.out.keep hB)
    have HYS := Lib.hid (HYS.out.below hB)
    have HYB := Lib.hid (HYB.out.keep hB)
    clear hB SS k00 k01 k04
    have HZS := Lib.hid hz.sl
    clear hz
    have ha : Below W5.heap.size W5 (W5.alloc (.cells #[.slice A6 l.length c6, .int .i64 h] 27)) := (Below.refl _ _).alloc (Nat.le_refl _) _
    have hb := hb.trans (ha.mono hb.size)
    have HXS := Lib.hid (HXS.out.below ha)
    have HC := Lib.hid (HC.out.keep ha)
    have HXB := Lib.hid (HXB.out.keep ha)
    have HAS := Lib.hid (HAS.out.below ha)
    have HAB := Lib.hid (HAB.out.keep ha)
    have HTS := Lib.hid (HTS.out.below ha)
    have HTB := Lib.hid (HTB.out.keep ha)
    have HYS := Lib.hid (HYS.out.below ha)
    have HYB := Lib.hid (HYB.out.keep ha)
    have HZS := Lib.hid (HZS.out.below ha)
    have HZB := Lib.hid (Blk.new W5 27 #[.slice A6 l.length c6, .int .i64 h])
    clear ha
    obtain ⟨k00, k01, _, _, k04⟩ := pair_cells HXB.out
    have SS := Lib.hid (SRIGHT.out (.slice Ax l.length cx) _ HXS.out)
    go_wp2_with fail
    generalize W5.alloc (.cells #[.slice A6 l.length c6, .int .i64 h] 27) = V5 at *
    refine SS.out.mono ?_
    rintro e W6 ⟨rfl, hB⟩
    have hb := hb.trans (hB.mono hb.size)
    have HXS := Lib.hid (HXS.out.below hB)
    have HC := Lib.hid (HC.out.keep hB)
    have HXB := Lib.hid (HXB.out.keep hB)
    have HAS := Lib.hid (HAS.out.below hB)
    have HAB := Lib.hid (HAB.out.keep hB)
    have HTS := Lib.hid (HTS.out.below hB)
    have HTB := Lib.hid (HTB.out.keep hB)
    have HYS := Lib.hid (HYS.out.below hB)
    have HYB := Lib.hid (HYB.out.keep hB)
    have HZS := Lib.hid (HZS.out.below hB)
    have HZB := Lib.hid (HZB.out.keep hB)
    clear hB SS k00 k01 k04
    obtain ⟨k00, k01, _, _, k04⟩ := pair_cells HC.out
    have SS := Lib.hid (SCR.out W6 (HS.out.below hb))
    go_wp2_with fail
    refine SS.out.mono ?_
    rintro e W7 ⟨rfl, hB⟩
    have hb := hb.trans (hB.mono hb.size)
    have HXS := Lib.hid (HXS.out.below hB)
    have HC := Lib.hid (HC.out.keep hB)
    have HXB := Lib.hid (HXB.out.keep hB)
    have HAS := Lib.hid (HAS.out.below hB)
    have HAB := Lib.hid (HAB.out.keep hB)
    have HTS := Lib.hid (HTS.out.below hB)
    have HTB := Lib.hid (HTB.out.keep hB)
    have HYS := Lib.hid (HYS.out.below hB)
    have HYB := Lib.hid (HYB.out.keep hB)
    have HZS := Lib.hid (HZS.out.below hB)
    have HZB := Lib.hid (HZB.out.keep hB)
    clear hB SS k00 k01 k04
    obtain ⟨k00, k01, _, _, k04⟩ := pair_cells HXB.out
    obtain ⟨k10, k11, _, _, k14⟩ := pair_cells HYB.out
    have SS := Lib.hid (ckSame_self _ _ l h W7 HXS.out HYS.out)
    go_wp2_with fail
    refine SS.out.mono ?_
    rintro e W8 ⟨rfl, hB⟩
    have hb := hb.trans (hB.mono hb.size)
    have HXS := Lib.hid (HXS.out.below hB)
    have HC := Lib.hid (HC.out.keep hB)
    have HXB := Lib.hid (HXB.out.keep hB)
    have HAS := Lib.hid (HAS.out.below hB)
    have HAB := Lib.hid (HAB.out.keep hB)
    have HTS := Lib.hid (HTS.out.below hB)
    have HTB := Lib.hid (HTB.out.keep hB)
    have HYS := Lib.hid (HYS.out.below hB)
    have HYB := Lib.hid (HYB.out.keep hB)
    have HZS := Lib.hid (HZS.out.below hB)
    have HZB := Lib.hid (HZB.out.keep hB)
    clear hB SS k00 k01 k04 k10 k11 k14
    have HZS2 := HZS.out
    rw [HTCH.out] at HZS2
    have HZS := Lib.hid HZS2
    clear HZS2
    obtain ⟨k00, k01, _, _, k04⟩ := pair_cells HXB.out
    obtain ⟨k10, k11, _, _, k14⟩ := pair_cells HZB.out
    have SS := Lib.hid (ckSame_self _ _ l h W8 HXS.out HZS.out)
    go_wp2_with fail
    refine SS.out.mono ?_
    rintro e W9 ⟨rfl, hB⟩
    have hb := hb.trans (hB.mono hb.size)
    have HXS := Lib.hid (HXS.out.below hB)
    have HC := Lib.hid (HC.out.keep hB)
    have HXB := Lib.hid (HXB.out.keep hB)
    have HAS := Lib.hid (HAS.out.below hB)
    have HAB := Lib.hid (HAB.out.keep hB)
    have HTS := Lib.hid (HTS.out.below hB)
    have HTB := Lib.hid (HTB.out.keep hB)
    have HYS := Lib.hid (HYS.out.below hB)
    have HYB := Lib.hid (HYB.out.keep hB)
    have HZS := Lib.hid (HZS.out.below hB)
    have HZB := Lib.hid (HZB.out.keep hB)
    clear hB SS k00 k01 k04 k10 k11 k14
    go_wp2_with fail
    refine (awake09 _).mono ?_
    rintro e W99 ⟨rfl, hB⟩
    have hb := hb.trans (hB.mono hb.size)
    go_wp2_with fail
    go_ret
    exact ⟨rfl, hb⟩
  | true =>
    rw [hr] at SRIGHT SCR
    have SRIGHT := Lib.hid SRIGHT
    have SCR := Lib.hid SCR
    obtain ⟨hl8, ⟨H, rfl, hH⟩, hgd⟩ := Ck.right_parts hr
    have HTCH := Lib.hid (Ck.touch'_right hr fr)
    have hl8i : (l.length : Int) ≤ 8 := by omega
    have hHH : ((H : Int) == (H : Int)) = true := by simp
    cases hN : Ck.stop l H with
    | none =>
      have SW := Lib.hid (fun W hw => sweep_no (.slice A l.length cap) l (H : Int) W hw (.inr (Ck.anyFree_none hr hN)))
      have RSW := Lib.hid (fun x W hw => refSweep_none x l H W hw hH hl8 hN)
      clear hr hgd hN
      go_enter Try.func3, Try.ntmps3
      go_wp2_with fail
      refine SREF.out.mono ?_
      rintro e W1 ⟨⟨x, rfl, hx⟩, hB1⟩
      have hb := HY.out.trans (hB1.mono HY.out.size)
      obtain ⟨Ax, cx, rfl, _, _, _⟩ := hx.sl.form (n := l.length) rfl
      have HXS := Lib.hid hx.sl
      have HC := Lib.hid (HBOX.out.keep hB1)
      clear hB1 hx
      have ha : Below W1.heap.size W1 (W1.alloc (.cells #[.slice Ax l.length cx, .int .i64 (H : Int)] 27)) := (Below.refl _ _).alloc (Nat.le_refl _) _
      have hb := hb.trans (ha.mono hb.size)
      have HXS := Lib.hid (HXS.out.below ha)
      have HC := Lib.hid (HC.out.keep ha)
      have HXB := Lib.hid (Blk.new W1 27 #[.slice Ax l.length cx, .int .i64 (H : Int)])
      clear ha
      have HS2 := Lib.hid (HS.out.below hb)
      obtain ⟨k00, k01, _, _, k04⟩ := pair_cells HC.out
      have SS := Lib.hid (SW.out _ (HS.out.below hb))
      go_wp2_with fail
      generalize W1.alloc (.cells #[.slice Ax l.length cx, .int .i64 (H : Int)] 27) = V1 at *
      refine SS.out.mono ?_
      rintro e W2 ⟨he, hB⟩
      unfold SweepNo at he
      subst he
      have hb := hb.trans (hB.mono hb.size)
      have HXS := Lib.hid (HXS.out.below hB)
      have HC := Lib.hid (HC.out.keep hB)
      have HXB := Lib.hid (HXB.out.keep hB)
      clear hB SS k00 k01 k04
      have HAS := Lib.hid (HS.out.below hb)
      have ha : Below W2.heap.size W2 (W2.alloc (.cells #[.slice A l.length cap, .int .i64 (H : Int)] 24)) := (Below.refl _ _).alloc (Nat.le_refl _) _
      have hb := hb.trans (ha.mono hb.size)
      have HXS := Lib.hid (HXS.out.below ha)
      have HC := Lib.hid (HC.out.keep ha)
      have HXB := Lib.hid (HXB.out.keep ha)
      have HAS := Lib.hid (HAS.out.below ha)
      have HAB := Lib.hid (Blk.new W2 24 #[.slice A l.length cap, .int .i64 (H : Int)])
      clear ha
      obtain ⟨k00, k01, _, _, k04⟩ := pair_cells HC.out
      have SS := Lib.hid (touch_any (.slice A l.length cap) l (H : Int) fr _ (HS.out.below hb))
      go_wp2_with fail
      generalize W2.alloc (.cells #[.slice A l.length cap, .int .i64 (H : Int)] 24) = V2 at *
      refine SS.out.mono ?_
      rintro e W3 ⟨⟨ut, rfl, hut⟩, hB⟩
      obtain ⟨A4, c4, rfl, _, _, _⟩ := hut.form (n := l.length) (Ck.touch'_length _ _ _)
      have hb := hb.trans (hB.mono hb.size)
      have HXS := Lib.hid (HXS.out.below hB)
      have HC := Lib.hid (HC.out.keep hB)
      have HXB := Lib.hid (HXB.out.keep hB)
      have HAS := Lib.hid (HAS.out.below hB)
      have HAB := Lib.hid (HAB.out.keep hB)
      clear hB SS k00 k01 k04
      have HTS := Lib.hid hut
      clear hut
      have ha : Below W3.heap.size W3 (W3.alloc (.cells #[.slice A4 l.length c4, .int .i64 (H : Int)] 24)) := (Below.refl _ _).alloc (Nat.le_refl _) _
      have hb := hb.trans (ha.mono hb.size)
      have HXS := Lib.hid (HXS.out.below ha)
      have HC := Lib.hid (HC.out.keep ha)
      have HXB := Lib.hid (HXB.out.keep ha)
      have HAS := Lib.hid (HAS.out.below ha)
      have HAB := Lib.hid (HAB.out.keep ha)
      have HTS := Lib.hid (HTS.out.below ha)
      have HTB := Lib.hid (Blk.new W3 24 #[.slice A4 l.length c4, .int .i64 (H : Int)])
      clear ha
      obtain ⟨k00, k01, _, _, k04⟩ := pair_cells HAB.out
      have SS := Lib.hid (ref_any (.slice A l.length cap) l (H : Int) _ HAS.out (by omega))
      go_wp2_with fail
      generalize W3.alloc (.cells #[.slice A4 l.length c4, .int .i64 (H : Int)] 24) = V3 at *
      refine SS.out.mono ?_
      rintro e W4 ⟨⟨y, rfl, hy⟩, hB⟩
      obtain ⟨A5, c5, rfl, _, _, _⟩ := hy.sl.form (n := l.length) (by rfl)
      have hb := hb.trans (hB.mono hb.size)
      have HXS := Lib.hid (HXS.out.below hB)
      have HC := Lib.hid (HC.out.keep hB)
      have HXB := Lib.hid (HXB.out.keep hB)
      have HAS := Lib.hid (HAS.out.below hB)
      have HAB := Lib.hid (HAB.out.keep hB)
      have HTS := Lib.hid (HTS.out.below hB)
      have HTB := Lib.hid (HTB.out.keep hB)
      clear hB SS k00 k01 k04
      have HYS := Lib.hid hy.sl
      clear hy
      have ha : Below W4.heap.size W4 (W4.alloc (.cells #[.slice A5 l.length c5, .int .i64 (H : Int)] 27)) := (Below.refl _ _).alloc (Nat.le_refl _) _
      have hb := hb.trans (ha.mono hb.size)
      have HXS := Lib.hid (HXS.out.below ha)
      have HC := Lib.hid (HC.out.keep ha)
      have HXB := Lib.hid (HXB.out.keep ha)
      have HAS := Lib.hid (HAS.out.below ha)
      have HAB := Lib.hid (HAB.out.keep ha)
      have HTS := Lib.hid (HTS.out.below ha)
      have HTB := Lib.hid (HTB.out.keep ha)
      have HYS := Lib.hid (HYS.out.below ha)
      have HYB := Lib.hid (Blk.new W4 27 #[.slice A5 l.length c5, .int .i64 (H : Int)])
      clear ha
      obtain ⟨k00, k01, _, _, k04⟩ := pair_cells HTB.out
      have SS := Lib.hid (ref_any (.slice A4 l.length c4) (Ck.touch' l (H : Int) fr) (H : Int) _ HTS.out (by rw [Ck.touch'_length]; omega))
      go_wp2_with fail
      generalize W4.alloc (.cells #[.slice A5 l.length c5, .int .i64 (H : Int)] 27) = V4 at *
      refine SS.out.mono ?_
      rintro e W5 ⟨⟨z, rfl, hz⟩, hB⟩
      obtain ⟨A6, c6, rfl, _, _, _⟩ := hz.sl.form (n := l.length) (Ck.touch'_length _ _ _)
      have hb := hb.trans (hB.mono hb.size)
      have HXS := Lib.hid (HXS.out.below hB)
      have HC := Lib.hid (HC.out.keep hB)
      have HXB := Lib.hid (HXB.out.keep hB)
      have HAS := Lib.hid (HAS.out.below hB)
      have HAB := Lib.hid (HAB.out.keep hB)
      have HTS := Lib.hid (HTS.out.below hB)
      have HTB := Lib.hid (HTB.out.keep hB)
      have HYS := Lib.hid (HYS.out.below hB)
      have HYB := Lib.hid (HYB.out.keep hB)
      clear hB SS k00 k01 k04
      have HZS := Lib.hid hz.sl
      clear hz
      have ha : Below W5.heap.size W5 (W5.alloc (.cells #[.slice A6 l.length c6, .int .i64 (H : Int)] 27)) := (Below.refl _ _).alloc (Nat.le_refl _) _
      have hb := hb.trans (ha.mono hb.size)
      have HXS := Lib.hid (HXS.out.below ha)
      have HC := Lib.hid (HC.out.keep ha)
      have HXB := Lib.hid (HXB.out.keep ha)
      have HAS := Lib.hid (HAS.out.below ha)
      have HAB := Lib.hid (HAB.out.keep ha)
      have HTS := Lib.hid (HTS.out.below ha)
      have HTB := Lib.hid (HTB.out.keep ha)
      have HYS := Lib.hid (HYS.out.below ha)
      have HYB := Lib.hid (HYB.out.keep ha)
      have HZS := Lib.hid (HZS.out.below ha)
      have HZB := Lib.hid (Blk.new W5 27 #[.slice A6 l.length c6, .int .i64 (H : Int)])
      clear ha
      obtain ⟨k00, k01, _, _, k04⟩ := pair_cells HXB.out
      have SS := Lib.hid (SRIGHT.out (.slice Ax l.length cx) _ HXS.out)
      go_wp2_with fail
      generalize W5.alloc (.cells #[.slice A6 l.length c6, .int .i64 (H : Int)] 27) = V5 at *
      refine SS.out.mono ?_
      rintro e W6 ⟨rfl, hB⟩
      have hb := hb.trans (hB.mono hb.size)
      have HXS := Lib.hid (HXS.out.below hB)
      have HC := Lib.hid (HC.out.keep hB)
      have HXB := Lib.hid (HXB.out.keep hB)
      have HAS := Lib.hid (HAS.out.below hB)
      have HAB := Lib.hid (HAB.out.keep hB)
      have HTS := Lib.hid (HTS.out.below hB)
      have HTB := Lib.hid (HTB.out.keep hB)
      have HYS := Lib.hid (HYS.out.below hB)
      have HYB := Lib.hid (HYB.out.keep hB)
      have HZS := Lib.hid (HZS.out.below hB)
      have HZB := Lib.hid (HZB.out.keep hB)
      clear hB SS k00 k01 k04
      obtain ⟨k00, k01, _, _, k04⟩ := pair_cells HC.out
      have SS := Lib.hid (SCR.out W6 (HS.out.below hb))
      go_wp2_with fail
      refine SS.out.mono ?_
      rintro e W7 ⟨rfl, hB⟩
      have hb := hb.trans (hB.mono hb.size)
      have HXS := Lib.hid (HXS.out.below hB)
      have HC := Lib.hid (HC.out.keep hB)
      have HXB := Lib.hid (HXB.out.keep hB)
      have HAS := Lib.hid (HAS.out.below hB)
      have HAB := Lib.hid (HAB.out.keep hB)
      have HTS := Lib.hid (HTS.out.below hB)
      have HTB := Lib.hid (HTB.out.keep hB)
      have HYS := Lib.hid (HYS.out.below hB)
      have HYB := Lib.hid (HYB.out.keep hB)
      have HZS := Lib.hid (HZS.out.below hB)
      have HZB := Lib.hid (HZB.out.keep hB)
      clear hB SS k00 k01 k04
      obtain ⟨k00, k01, _, _, k04⟩ := pair_cells HXB.out
      have SS := Lib.hid (RSW.out (.slice Ax l.length cx) W7 HXS.out)
      go_wp2_with fail
      refine SS.out.mono ?_
      rintro e W8 ⟨rfl, hB⟩
      have hb := hb.trans (hB.mono hb.size)
      have HXS := Lib.hid (HXS.out.below hB)
      have HC := Lib.hid (HC.out.keep hB)
      have HXB := Lib.hid (HXB.out.keep hB)
      have HAS := Lib.hid (HAS.out.below hB)
      have HAB := Lib.hid (HAB.out.keep hB)
      have HTS := Lib.hid (HTS.out.below hB)
      have HTB := Lib.hid (HTB.out.keep hB)
      have HYS := Lib.hid (HYS.out.below hB)
      have HYB := Lib.hid (HYB.out.keep hB)
      have HZS := Lib.hid (HZS.out.below hB)
      have HZB := Lib.hid (HZB.out.keep hB)
      clear hB SS k00 k01 k04
      have HWS := HXS
      have ha : Below W8.heap.size W8 (W8.alloc (.cells #[.slice Ax l.length cx, .int .i64 (H : Int)] 27)) := (Below.refl _ _).alloc (Nat.le_refl _) _
      have hb := hb.trans (ha.mono hb.size)
      have HXS := Lib.hid (HXS.out.below ha)
      have HC := Lib.hid (HC.out.keep ha)
      have HXB := Lib.hid (HXB.out.keep ha)
      have HAS := Lib.hid (HAS.out.below ha)
      have HAB := Lib.hid (HAB.out.keep ha)
      have HTS := Lib.hid (HTS.out.below ha)
      have HTB := Lib.hid (HTB.out.keep ha)
      have HYS := Lib.hid (HYS.out.below ha)
      have HYB := Lib.hid (HYB.out.keep ha)
      have HZS := Lib.hid (HZS.out.below ha)
      have HZB := Lib.hid (HZB.out.keep ha)
      have HWS := Lib.hid (HWS.out.below ha)
      have HWB := Lib.hid (Blk.new W8 27 #[.slice Ax l.length cx, .int .i64 (H : Int)])
      clear ha
      obtain ⟨k00, k01, _, _, k04⟩ := pair_cells HYB.out
      have SS := Lib.hid (ckSame_self _ _ l (H : Int) _ HWS.out HYS.out)
      go_wp2_with fail
      generalize W8.alloc (.cells #[.slice Ax l.length cx, .int .i64 (H : Int)] 27) = V6 at *
      refine SS.out.mono ?_
      rintro e W9 ⟨rfl, hB⟩
      have hb := hb.trans (hB.mono hb.size)
      have HXS := Lib.hid (HXS.out.below hB)
      have HC := Lib.hid (HC.out.keep hB)
      have HXB := Lib.hid (HXB.out.keep hB)
      have HAS := Lib.hid (HAS.out.below hB)
      have HAB := Lib.hid (HAB.out.keep hB)
      have HTS := Lib.hid (HTS.out.below hB)
      have HTB := Lib.hid (HTB.out.keep hB)
      have HYS := Lib.hid (HYS.out.below hB)
      have HYB := Lib.hid (HYB.out.keep hB)
      have HZS := Lib.hid (HZS.out.below hB)
      have HZB := Lib.hid (HZB.out.keep hB)
      have HWS := Lib.hid (HWS.out.below hB)
      have HWB := Lib.hid (HWB.out.keep hB)
      clear hB SS k00 k01 k04
      obtain ⟨k00, k01, _, _, k04⟩ := pair_cells HXB.out
      have HA9 := Lib.hid (show Below W9.heap.size W9 (W9.alloc (.cells #[.slice none 0 0, .int .i64 (H : Int)] 27)) from (Below.refl _ _).alloc (Nat.le_refl _) _)
      have HGB := Lib.hid (Blk.new W9 27 #[.slice none 0 0, .int .i64 (H : Int)])
      have HB := Lib.hid hb
      clear hb
      go_wp2_with fail
      clear k00 k01 k04
      go_loopw [19, 20, 110] (fun _ _ i wr => ∃ (m : Nat) (B : Option Addr) (c : Nat), m ≤ l.length ∧ i = .int .i64 m ∧ Blk wr W9.heap.size 27 #[.slice B m c, .int .i64 H] ∧ wr.ownsRow W9.heap.size 40 3 (.slice B m c) m (frE.flat ((Ck.tchI l fr).take m)) ∧ Below W9.heap.size W9 wr) (fun _ _ i _ => l.length - (intOf i).toNat)
      case atStart => exact ⟨0, none, 0, by omega, rfl, HGB.out, ⟨rfl, .inl ⟨rfl, rfl⟩⟩, HA9.out⟩
      case round =>
        obtain ⟨m, B2, c9, hm, rfl, hx, hown, hBw⟩ := hrel
        by_cases hlt : m < l.length
        · obtain ⟨f0, f1, _, _, l1⟩ := pair_cells hx
          obtain ⟨b, off, rfl, hbl, hc⟩ := HXS.out.at' (by omega)
          obtain ⟨c0, c1, c2⟩ := fr_at (hc.below hBw hbl) m hlt
          have hblt : b < wr.heap.size := Nat.lt_of_lt_of_le hbl hBw.size
          have hcl : frE.flat ((Ck.tchI l fr).take (m + 1)) = frE.flat ((Ck.tchI l fr).take m) ++ frE.enc (Ck.tchF fr m l[m]) := by rw [Ck.tchI_snoc l fr m hlt, Enc.flat_append, Enc.flat_single]
          have hmi : (m : Int) < (l.length : Int) := by omega
          have hm0 : (0 : Int) ≤ (m : Int) := by omega
          have hm7 : m + 1 ≤ maxLen := by unfold maxLen; omega
          have hm8 : (m + 1) * 24 ≤ 140737488355328 := by omega
          have HCL := Lib.hid hcl
          have HX := Lib.hid hx
          have HOWN := Lib.hid hown
          have HBW := Lib.hid hBw
          clear hc hcl hx hown hBw
          generalize l[m] = d at c0 c1 c2 HCL
          cases hu : d.used with
          | true =>
            have HD := Lib.hid (show Ck.tchF fr m d = (⟨d.page, d.pins, true⟩ : Fr) by unfold Ck.tchF; rw [hu, Bool.true_or])
            rw [hu] at c2
            clear hu
            go_wp2_with (at_builtin; go_must (refine wpList_append_own _ rfl _ _ 25 rfl W9.heap.size 40 i0 (.agg #[.int .i64 0, .int .i64 0, .bool false]) 3 24 Try.underlying25 HI.out.1 HI.out.2.1 HI.out.2.2.1 HI.out.2.2.2 rfl (by decide) _ _ _ rfl ((HOWN.out.alloc _).alloc _) ⟨wr.heap.size + 1, 0, none⟩ 1 1 (frE.enc ⟨d.page, d.pins, true⟩) rfl rfl ?ca1 ?cb1 hm7 hm8 ?cc1 ?_))
            case ca1 => have := news3 (wr.alloc (.cells #[.int .i64 d.page, .int .i64 d.pins, .bool true] 40)) 40 (.int .i64 d.page) (.int .i64 d.pins) (.bool true); simpa [frE] using this
            case cb1 => exact frE.one _
            case cc1 => have := HBW.out.size; simp; omega
            intro v' w1 hown1 hgrow _
            have hB1 : Below W9.heap.size W9 w1 := ((HBW.out.alloc HBW.out.size _).alloc (by have := HBW.out.size; simp; omega) _).grown hgrow (by have := HBW.out.size; simp; omega) (own_base HOWN.out)
            have hx31 := ((HX.out.alloc _).alloc _).grown hgrow (own_ne HOWN.out HX.out (by decide))
            obtain ⟨A', c', rfl⟩ := own_form hown1
            rw [← HD.out, ← HCL.out] at hown1
            have hb3 : Blk (w1.setCell ⟨W9.heap.size, 0, none⟩ (.slice A' (m + 1) c')) W9.heap.size 27 #[.slice A' (m + 1) c', .int .i64 H] := by have := hx31.put 0 (.slice A' (m + 1) c'); simpa using this
            have ho2 := own_put hown1 hx31 (by decide) 0 (.slice A' (m + 1) c')
            have hB2 := hB1.setCell (p := ⟨W9.heap.size, 0, none⟩) (Nat.le_refl _) (.slice A' (m + 1) c')
            have HALL := Lib.hid (And.intro hb3 (And.intro ho2 hB2))
            clear f0 f1 l1
            obtain ⟨f0, f1, y0, y1, l1⟩ := pair_cells hx31
            clear hgrow c0 c1 c2 hown1 hb3 ho2 hB2 hB1 hx31
            go_wp2_with fail
            go_roundw
            case rel => exact ⟨m + 1, A', c', by omega, by go_num, HALL.out.1, HALL.out.2.1, HALL.out.2.2⟩
            case measure => simp only [intOf]; omega
          | false =>
            cases he : ((m : Int) == fr) with
            | true =>
              have HD := Lib.hid (show Ck.tchF fr m d = (⟨d.page, d.pins, true⟩ : Fr) by unfold Ck.tchF; rw [hu, he, Bool.false_or])
              rw [hu] at c2
              clear hu
              go_wp2_with (at_builtin; go_must (refine wpList_append_own _ rfl _ _ 25 rfl W9.heap.size 40 i0 (.agg #[.int .i64 0, .int .i64 0, .bool false]) 3 24 Try.underlying25 HI.out.1 HI.out.2.1 HI.out.2.2.1 HI.out.2.2.2 rfl (by decide) _ _ _ rfl ((HOWN.out.alloc _).alloc _) ⟨wr.heap.size + 1, 0, none⟩ 1 1 (frE.enc ⟨d.page, d.pins, true⟩) rfl rfl ?ca2 ?cb2 hm7 hm8 ?cc2 ?_))
              case ca2 => have := news3 (wr.alloc (.cells #[.int .i64 d.page, .int .i64 d.pins, .bool true] 40)) 40 (.int .i64 d.page) (.int .i64 d.pins) (.bool true); simpa [frE] using this
              case cb2 => exact frE.one _
              case cc2 => have := HBW.out.size; simp; omega
              intro v' w1 hown1 hgrow _
              have hB1 : Below W9.heap.size W9 w1 := ((HBW.out.alloc HBW.out.size _).alloc (by have := HBW.out.size; simp; omega) _).grown hgrow (by have := HBW.out.size; simp; omega) (own_base HOWN.out)
              have hx31 := ((HX.out.alloc _).alloc _).grown hgrow (own_ne HOWN.out HX.out (by decide))
              obtain ⟨A', c', rfl⟩ := own_form hown1
              rw [← HD.out, ← HCL.out] at hown1
              have hb3 : Blk (w1.setCell ⟨W9.heap.size, 0, none⟩ (.slice A' (m + 1) c')) W9.heap.size 27 #[.slice A' (m + 1) c', .int .i64 H] := by have := hx31.put 0 (.slice A' (m + 1) c'); simpa using this
              have ho2 := own_put hown1 hx31 (by decide) 0 (.slice A' (m + 1) c')
              have hB2 := hB1.setCell (p := ⟨W9.heap.size, 0, none⟩) (Nat.le_refl _) (.slice A' (m + 1) c')
              have HALL := Lib.hid (And.intro hb3 (And.intro ho2 hB2))
              clear f0 f1 l1
              obtain ⟨f0, f1, y0, y1, l1⟩ := pair_cells hx31
              clear hgrow c0 c1 c2 hown1 hb3 ho2 hB2 hB1 hx31
              go_wp2_with fail
              go_roundw
              case rel => exact ⟨m + 1, A', c', by omega, by go_num, HALL.out.1, HALL.out.2.1, HALL.out.2.2⟩
              case measure => simp only [intOf]; omega
            | false =>
              have HD := Lib.hid (show Ck.tchF fr m d = (⟨d.page, d.pins, false⟩ : Fr) by unfold Ck.tchF; rw [hu, he, Bool.false_or])
              rw [hu] at c2
              clear hu
              go_wp2_with (at_builtin; go_must (refine wpList_append_own _ rfl _ _ 25 rfl W9.heap.size 40 i0 (.agg #[.int .i64 0, .int .i64 0, .bool false]) 3 24 Try.underlying25 HI.out.1 HI.out.2.1 HI.out.2.2.1 HI.out.2.2.2 rfl (by decide) _ _ _ rfl ((HOWN.out.alloc _).alloc _) ⟨wr.heap.size + 1, 0, none⟩ 1 1 (frE.enc ⟨d.page, d.pins, false⟩) rfl rfl ?ca3 ?cb3 hm7 hm8 ?cc3 ?_))
              case ca3 => have := news3 (wr.alloc (.cells #[.int .i64 d.page, .int .i64 d.pins, .bool false] 40)) 40 (.int .i64 d.page) (.int .i64 d.pins) (.bool false); simpa [frE] using this
              case cb3 => exact frE.one _
              case cc3 => have := HBW.out.size; simp; omega
              intro v' w1 hown1 hgrow _
              have hB1 : Below W9.heap.size W9 w1 := ((HBW.out.alloc HBW.out.size _).alloc (by have := HBW.out.size; simp; omega) _).grown hgrow (by have := HBW.out.size; simp; omega) (own_base HOWN.out)
              have hx31 := ((HX.out.alloc _).alloc _).grown hgrow (own_ne HOWN.out HX.out (by decide))
              obtain ⟨A', c', rfl⟩ := own_form hown1
              rw [← HD.out, ← HCL.out] at hown1
              have hb3 : Blk (w1.setCell ⟨W9.heap.size, 0, none⟩ (.slice A' (m + 1) c')) W9.heap.size 27 #[.slice A' (m + 1) c', .int .i64 H] := by have := hx31.put 0 (.slice A' (m + 1) c'); simpa using this
              have ho2 := own_put hown1 hx31 (by decide) 0 (.slice A' (m + 1) c')
              have hB2 := hB1.setCell (p := ⟨W9.heap.size, 0, none⟩) (Nat.le_refl _) (.slice A' (m + 1) c')
              have HALL := Lib.hid (And.intro hb3 (And.intro ho2 hB2))
              clear f0 f1 l1
              obtain ⟨f0, f1, y0, y1, l1⟩ := pair_cells hx31
              clear hgrow c0 c1 c2 hown1 hb3 ho2 hB2 hB1 hx31
              go_wp2_with fail
              go_roundw
              case rel => exact ⟨m + 1, A', c', by omega, by go_num, HALL.out.1, HALL.out.2.1, HALL.out.2.2⟩
              case measure => simp only [intOf]; omega
        · obtain rfl : m = l.length := by omega
          rw [List.take_of_length_le (by rw [Ck.tchI_length]; exact Nat.le_refl _)] at hown
          have hown2 : frE.Own wr W9.heap.size 40 (.slice B2 l.length c9) (Ck.tchI l fr) := by unfold Enc.Own; rw [Ck.tchI_length]; exact hown
          obtain ⟨f0, f1, _, _, l1⟩ := pair_cells hx
          obtain ⟨g0, g1, _, _, l2⟩ := pair_cells (HZB.out.keep hBw)
          have hzs := HZS.out.below hBw
          rw [HTCH.out] at hzs
          have SS := Lib.hid (ckSame_self _ _ (Ck.tchI l fr) (H : Int) wr hown2.sl hzs)
          have hb := HB.out.trans (hBw.mono HB.out.size)
          clear hlt hx hown hown2 hzs hBw
          go_wp2_with fail
          refine SS.out.mono ?_
          rintro e W10 ⟨rfl, hB⟩
          have hb := hb.trans (hB.mono hb.size)
          clear hB
          go_wp2_with fail
          refine (awake09 _).mono ?_
          rintro e W99 ⟨rfl, hB⟩
          have hb := hb.trans (hB.mono hb.size)
          go_wp2_with fail
          go_ret
          exact ⟨rfl, hb⟩
    | some N =>
      have SW := fun W hw => sweep_yes (.slice A l.length cap) l H N W hw hr hN
      have RSW := fun x W hw => refSweep_yes x l H N W hw hH hl8 hN
      unfold SweepYes at SW
      unfold RSweepYes at RSW
      obtain ⟨at1, hat1⟩ : ∃ at1, (H + N) % l.length = at1 := ⟨_, rfl⟩
      obtain ⟨hn1, hhn1⟩ : ∃ hn1, (H + N + 1) % l.length = hn1 := ⟨_, rfl⟩
      have hatl : at1 < l.length := by rw [← hat1]; exact Nat.mod_lt _ (by omega)
      rw [hat1, hhn1] at SW RSW
      have SW := Lib.hid SW
      have RSW := Lib.hid RSW
      have q5 : (0 : Int) ≤ (at1 : Int) := by omega
      have q6 : ((at1 : Int) != (at1 : Int)) = false := by simp
      have q7 : max (at1 : Int) 0 = (at1 : Int) := by omega
      have q8 : ¬ (at1 : Int) < 0 := by omega
      clear hr hgd hN hat1 hhn1
      go_enter Try.func3, Try.ntmps3
      go_wp2_with fail
      refine SREF.out.mono ?_
      rintro e W1 ⟨⟨x, rfl, hx⟩, hB1⟩
      have hb := HY.out.trans (hB1.mono HY.out.size)
      obtain ⟨Ax, cx, rfl, _, _, _⟩ := hx.sl.form (n := l.length) rfl
      have HXS := Lib.hid hx.sl
      have HC := Lib.hid (HBOX.out.keep hB1)
      clear hB1 hx
      have ha : Below W1.heap.size W1 (W1.alloc (.cells #[.slice Ax l.length cx, .int .i64 (H : Int)] 27)) := (Below.refl _ _).alloc (Nat.le_refl _) _
      have hb := hb.trans (ha.mono hb.size)
      have HXS := Lib.hid (HXS.out.below ha)
      have HC := Lib.hid (HC.out.keep ha)
      have HXB := Lib.hid (Blk.new W1 27 #[.slice Ax l.length cx, .int .i64 (H : Int)])
      clear ha
      have HS2 := Lib.hid (HS.out.below hb)
      obtain ⟨k00, k01, _, _, k04⟩ := pair_cells HC.out
      have SS := Lib.hid (SW.out _ (HS.out.below hb))
      go_wp2_with fail
      generalize W1.alloc (.cells #[.slice Ax l.length cx, .int .i64 (H : Int)] 27) = V1 at *
      refine SS.out.mono ?_
      rintro e W2 ⟨⟨ua, rfl, hua⟩, hB⟩
      obtain ⟨A3, c3, rfl, _, _, _⟩ := hua.sl.form (n := l.length) (by rw [Ck.after_length])
      have hb := hb.trans (hB.mono hb.size)
      have HXS := Lib.hid (HXS.out.below hB)
      have HC := Lib.hid (HC.out.keep hB)
      have HXB := Lib.hid (HXB.out.keep hB)
      clear hB SS k00 k01 k04
      have HAS := Lib.hid hua.sl
      clear hua
      have ha : Below W2.heap.size W2 (W2.alloc (.cells #[.slice A3 l.length c3, .int .i64 hn1] 24)) := (Below.refl _ _).alloc (Nat.le_refl _) _
      have hb := hb.trans (ha.mono hb.size)
      have HXS := Lib.hid (HXS.out.below ha)
      have HC := Lib.hid (HC.out.keep ha)
      have HXB := Lib.hid (HXB.out.keep ha)
      have HAS := Lib.hid (HAS.out.below ha)
      have HAB := Lib.hid (Blk.new W2 24 #[.slice A3 l.length c3, .int .i64 hn1])
      clear ha
      obtain ⟨k00, k01, _, _, k04⟩ := pair_cells HC.out
      have SS := Lib.hid (touch_any (.slice A l.length cap) l (H : Int) fr _ (HS.out.below hb))
      go_wp2_with fail
      generalize W2.alloc (.cells #[.slice A3 l.length c3, .int .i64 hn1] 24) = V2 at *
      refine SS.out.mono ?_
      rintro e W3 ⟨⟨ut, rfl, hut⟩, hB⟩
      obtain ⟨A4, c4, rfl, _, _, _⟩ := hut.form (n := l.length) (Ck.touch'_length _ _ _)
      have hb := hb.trans (hB.mono hb.size)
      have HXS := Lib.hid (HXS.out.below hB)
      have HC := Lib.hid (HC.out.keep hB)
      have HXB := Lib.hid (HXB.out.keep hB)
      have HAS := Lib.hid (HAS.out.below hB)
      have HAB := Lib.hid (HAB.out.keep hB)
      clear hB SS k00 k01 k04
      have HTS := Lib.hid hut
      clear hut
      have ha : Below W3.heap.size W3 (W3.alloc (.cells #[.slice A4 l.length c4, .int .i64 (H : Int)] 24)) := (Below.refl _ _).alloc (Nat.le_refl _) _
      have hb := hb.trans (ha.mono hb.size)
      have HXS := Lib.hid (HXS.out.below ha)
      have HC := Lib.hid (HC.out.keep ha)
      have HXB := Lib.hid (HXB.out.keep ha)
      have HAS := Lib.hid (HAS.out.below ha)
      have HAB := Lib.hid (HAB.out.keep ha)
      have HTS := Lib.hid (HTS.out.below ha)
      have HTB := Lib.hid (Blk.new W3 24 #[.slice A4 l.length c4, .int .i64 (H : Int)])
      clear ha
      obtain ⟨k00, k01, _, _, k04⟩ := pair_cells HAB.out
      have SS := Lib.hid (ref_any (.slice A3 l.length c3) (Ck.after l H N) (hn1 : Int) _ HAS.out (by rw [Ck.after_length]; omega))
      go_wp2_with fail
      generalize W3.alloc (.cells #[.slice A4 l.length c4, .int .i64 (H : Int)] 24) = V3 at *
      refine SS.out.mono ?_
      rintro e W4 ⟨⟨y, rfl, hy⟩, hB⟩
      obtain ⟨A5, c5, rfl, _, _, _⟩ := hy.sl.form (n := l.length) (by rw [Ck.after_length])
      have hb := hb.trans (hB.mono hb.size)
      have HXS := Lib.hid (HXS.out.below hB)
      have HC := Lib.hid (HC.out.keep hB)
      have HXB := Lib.hid (HXB.out.keep hB)
      have HAS := Lib.hid (HAS.out.below hB)
      have HAB := Lib.hid (HAB.out.keep hB)
      have HTS := Lib.hid (HTS.out.below hB)
      have HTB := Lib.hid (HTB.out.keep hB)
      clear hB SS k00 k01 k04
      have HYS := Lib.hid hy.sl
      clear hy
      have ha : Below W4.heap.size W4 (W4.alloc (.cells #[.slice A5 l.length c5, .int .i64 (hn1 : Int)] 27)) := (Below.refl _ _).alloc (Nat.le_refl _) _
      have hb := hb.trans (ha.mono hb.size)
      have HXS := Lib.hid (HXS.out.below ha)
      have HC := Lib.hid (HC.out.keep ha)
      have HXB := Lib.hid (HXB.out.keep ha)
      have HAS := Lib.hid (HAS.out.below ha)
      have HAB := Lib.hid (HAB.out.keep ha)
      have HTS := Lib.hid (HTS.out.below ha)
      have HTB := Lib.hid (HTB.out.keep ha)
      have HYS := Lib.hid (HYS.out.below ha)
      have HYB := Lib.hid (Blk.new W4 27 #[.slice A5 l.length c5, .int .i64 (hn1 : Int)])
      clear ha
      obtain ⟨k00, k01, _, _, k04⟩ := pair_cells HTB.out
      have SS := Lib.hid (ref_any (.slice A4 l.length c4) (Ck.touch' l (H : Int) fr) (H : Int) _ HTS.out (by rw [Ck.touch'_length]; omega))
      go_wp2_with fail
      generalize W4.alloc (.cells #[.slice A5 l.length c5, .int .i64 (hn1 : Int)] 27) = V4 at *
      refine SS.out.mono ?_
      rintro e W5 ⟨⟨z, rfl, hz⟩, hB⟩
      obtain ⟨A6, c6, rfl, _, _, _⟩ := hz.sl.form (n := l.length) (Ck.touch'_length _ _ _)
      have hb := hb.trans (hB.mono hb.size)
      have HXS := Lib.hid (HXS.out.below hB)
      have HC := Lib.hid (HC.out.keep hB)
      have HXB := Lib.hid (HXB.out.keep hB)
      have HAS := Lib.hid (HAS.out.below hB)
      have HAB := Lib.hid (HAB.out.keep hB)
      have HTS := Lib.hid (HTS.out.below hB)
      have HTB := Lib.hid (HTB.out.keep hB)
      have HYS := Lib.hid (HYS.out.below hB)
      have HYB := Lib.hid (HYB.out.keep hB)
      clear hB SS k00 k01 k04
      have HZS := Lib.hid hz.sl
      clear hz
      have ha : Below W5.heap.size W5 (W5.alloc (.cells #[.slice A6 l.length c6, .int .i64 (H : Int)] 27)) := (Below.refl _ _).alloc (Nat.le_refl _) _
      have hb := hb.trans (ha.mono hb.size)
      have HXS := Lib.hid (HXS.out.below ha)
      have HC := Lib.hid (HC.out.keep ha)
      have HXB := Lib.hid (HXB.out.keep ha)
      have HAS := Lib.hid (HAS.out.below ha)
      have HAB := Lib.hid (HAB.out.keep ha)
      have HTS := Lib.hid (HTS.out.below ha)
      have HTB := Lib.hid (HTB.out.keep ha)
      have HYS := Lib.hid (HYS.out.below ha)
      have HYB := Lib.hid (HYB.out.keep ha)
      have HZS := Lib.hid (HZS.out.below ha)
      have HZB := Lib.hid (Blk.new W5 27 #[.slice A6 l.length c6, .int .i64 (H : Int)])
      clear ha
      obtain ⟨k00, k01, _, _, k04⟩ := pair_cells HXB.out
      have SS := Lib.hid (SRIGHT.out (.slice Ax l.length cx) _ HXS.out)
      go_wp2_with fail
      generalize W5.alloc (.cells #[.slice A6 l.length c6, .int .i64 (H : Int)] 27) = V5 at *
      refine SS.out.mono ?_
      rintro e W6 ⟨rfl, hB⟩
      have hb := hb.trans (hB.mono hb.size)
      have HXS := Lib.hid (HXS.out.below hB)
      have HC := Lib.hid (HC.out.keep hB)
      have HXB := Lib.hid (HXB.out.keep hB)
      have HAS := Lib.hid (HAS.out.below hB)
      have HAB := Lib.hid (HAB.out.keep hB)
      have HTS := Lib.hid (HTS.out.below hB)
      have HTB := Lib.hid (HTB.out.keep hB)
      have HYS := Lib.hid (HYS.out.below hB)
      have HYB := Lib.hid (HYB.out.keep hB)
      have HZS := Lib.hid (HZS.out.below hB)
      have HZB := Lib.hid (HZB.out.keep hB)
      clear hB SS k00 k01 k04
      obtain ⟨k00, k01, _, _, k04⟩ := pair_cells HC.out
      have SS := Lib.hid (SCR.out W6 (HS.out.below hb))
      go_wp2_with fail
      refine SS.out.mono ?_
      rintro e W7 ⟨rfl, hB⟩
      have hb := hb.trans (hB.mono hb.size)
      have HXS := Lib.hid (HXS.out.below hB)
      have HC := Lib.hid (HC.out.keep hB)
      have HXB := Lib.hid (HXB.out.keep hB)
      have HAS := Lib.hid (HAS.out.below hB)
      have HAB := Lib.hid (HAB.out.keep hB)
      have HTS := Lib.hid (HTS.out.below hB)
      have HTB := Lib.hid (HTB.out.keep hB)
      have HYS := Lib.hid (HYS.out.below hB)
      have HYB := Lib.hid (HYB.out.keep hB)
      have HZS := Lib.hid (HZS.out.below hB)
      have HZB := Lib.hid (HZB.out.keep hB)
      clear hB SS k00 k01 k04
      obtain ⟨k00, k01, _, _, k04⟩ := pair_cells HXB.out
      have SS := Lib.hid (RSW.out (.slice Ax l.length cx) W7 HXS.out)
      go_wp2_with fail
      refine SS.out.mono ?_
      rintro e W8 ⟨⟨uw, rfl, huw⟩, hB⟩
      obtain ⟨A7, c7, rfl, _, _, _⟩ := huw.sl.form (n := l.length) (by rw [Ck.after_length])
      have hb := hb.trans (hB.mono hb.size)
      have HXS := Lib.hid (HXS.out.below hB)
      have HC := Lib.hid (HC.out.keep hB)
      have HXB := Lib.hid (HXB.out.keep hB)
      have HAS := Lib.hid (HAS.out.below hB)
      have HAB := Lib.hid (HAB.out.keep hB)
      have HTS := Lib.hid (HTS.out.below hB)
      have HTB := Lib.hid (HTB.out.keep hB)
      have HYS := Lib.hid (HYS.out.below hB)
      have HYB := Lib.hid (HYB.out.keep hB)
      have HZS := Lib.hid (HZS.out.below hB)
      have HZB := Lib.hid (HZB.out.keep hB)
      clear hB SS k00 k01 k04
      have HWS := Lib.hid huw.sl
      clear huw
      have ha : Below W8.heap.size W8 (W8.alloc (.cells #[.slice A7 l.length c7, .int .i64 (hn1 : Int)] 27)) := (Below.refl _ _).alloc (Nat.le_refl _) _
      have hb := hb.trans (ha.mono hb.size)
      have HXS := Lib.hid (HXS.out.below ha)
      have HC := Lib.hid (HC.out.keep ha)
      have HXB := Lib.hid (HXB.out.keep ha)
      have HAS := Lib.hid (HAS.out.below ha)
      have HAB := Lib.hid (HAB.out.keep ha)
      have HTS := Lib.hid (HTS.out.below ha)
      have HTB := Lib.hid (HTB.out.keep ha)
      have HYS := Lib.hid (HYS.out.below ha)
      have HYB := Lib.hid (HYB.out.keep ha)
      have HZS := Lib.hid (HZS.out.below ha)
      have HZB := Lib.hid (HZB.out.keep ha)
      have HWS := Lib.hid (HWS.out.below ha)
      have HWB := Lib.hid (Blk.new W8 27 #[.slice A7 l.length c7, .int .i64 (hn1 : Int)])
      clear ha
      obtain ⟨k00, k01, _, _, k04⟩ := pair_cells HYB.out
      have SS := Lib.hid (ckSame_self _ _ (Ck.after l H N) (hn1 : Int) _ HWS.out HYS.out)
      go_wp2_with fail
      generalize W8.alloc (.cells #[.slice A7 l.length c7, .int .i64 (hn1 : Int)] 27) = V6 at *
      refine SS.out.mono ?_
      rintro e W9 ⟨rfl, hB⟩
      have hb := hb.trans (hB.mono hb.size)
      have HXS := Lib.hid (HXS.out.below hB)
      have HC := Lib.hid (HC.out.keep hB)
      have HXB := Lib.hid (HXB.out.keep hB)
      have HAS := Lib.hid (HAS.out.below hB)
      have HAB := Lib.hid (HAB.out.keep hB)
      have HTS := Lib.hid (HTS.out.below hB)
      have HTB := Lib.hid (HTB.out.keep hB)
      have HYS := Lib.hid (HYS.out.below hB)
      have HYB := Lib.hid (HYB.out.keep hB)
      have HZS := Lib.hid (HZS.out.below hB)
      have HZB := Lib.hid (HZB.out.keep hB)
      have HWS := Lib.hid (HWS.out.below hB)
      have HWB := Lib.hid (HWB.out.keep hB)
      clear hB SS k00 k01 k04
      obtain ⟨k00, k01, _, _, k04⟩ := pair_cells HXB.out
      have HA9 := Lib.hid (show Below W9.heap.size W9 (W9.alloc (.cells #[.slice none 0 0, .int .i64 (H : Int)] 27)) from (Below.refl _ _).alloc (Nat.le_refl _) _)
      have HGB := Lib.hid (Blk.new W9 27 #[.slice none 0 0, .int .i64 (H : Int)])
      have HB := Lib.hid hb
      clear hb
      go_wp2_with fail
      clear k00 k01 k04
      go_loopw [19, 20, 110] (fun _ _ i wr => ∃ (m : Nat) (B : Option Addr) (c : Nat), m ≤ l.length ∧ i = .int .i64 m ∧ Blk wr W9.heap.size 27 #[.slice B m c, .int .i64 H] ∧ wr.ownsRow W9.heap.size 40 3 (.slice B m c) m (frE.flat ((Ck.tchI l fr).take m)) ∧ Below W9.heap.size W9 wr) (fun _ _ i _ => l.length - (intOf i).toNat)
      case atStart => exact ⟨0, none, 0, by omega, rfl, HGB.out, ⟨rfl, .inl ⟨rfl, rfl⟩⟩, HA9.out⟩
      case round =>
        obtain ⟨m, B2, c9, hm, rfl, hx, hown, hBw⟩ := hrel
        by_cases hlt : m < l.length
        · obtain ⟨f0, f1, _, _, l1⟩ := pair_cells hx
          obtain ⟨b, off, rfl, hbl, hc⟩ := HXS.out.at' (by omega)
          obtain ⟨c0, c1, c2⟩ := fr_at (hc.below hBw hbl) m hlt
          have hblt : b < wr.heap.size := Nat.lt_of_lt_of_le hbl hBw.size
          have hcl : frE.flat ((Ck.tchI l fr).take (m + 1)) = frE.flat ((Ck.tchI l fr).take m) ++ frE.enc (Ck.tchF fr m l[m]) := by rw [Ck.tchI_snoc l fr m hlt, Enc.flat_append, Enc.flat_single]
          have hmi : (m : Int) < (l.length : Int) := by omega
          have hm0 : (0 : Int) ≤ (m : Int) := by omega
          have hm7 : m + 1 ≤ maxLen := by unfold maxLen; omega
          have hm8 : (m + 1) * 24 ≤ 140737488355328 := by omega
          have HCL := Lib.hid hcl
          have HX := Lib.hid hx
          have HOWN := Lib.hid hown
          have HBW := Lib.hid hBw
          clear hc hcl hx hown hBw
          generalize l[m] = d at c0 c1 c2 HCL
          cases hu : d.used with
          | true =>
            have HD := Lib.hid (show Ck.tchF fr m d = (⟨d.page, d.pins, true⟩ : Fr) by unfold Ck.tchF; rw [hu, Bool.true_or])
            rw [hu] at c2
            clear hu
            go_wp2_with (at_builtin; go_must (refine wpList_append_own _ rfl _ _ 25 rfl W9.heap.size 40 i0 (.agg #[.int .i64 0, .int .i64 0, .bool false]) 3 24 Try.underlying25 HI.out.1 HI.out.2.1 HI.out.2.2.1 HI.out.2.2.2 rfl (by decide) _ _ _ rfl ((HOWN.out.alloc _).alloc _) ⟨wr.heap.size + 1, 0, none⟩ 1 1 (frE.enc ⟨d.page, d.pins, true⟩) rfl rfl ?ca4 ?cb4 hm7 hm8 ?cc4 ?_))
            case ca4 => have := news3 (wr.alloc (.cells #[.int .i64 d.page, .int .i64 d.pins, .bool true] 40)) 40 (.int .i64 d.page) (.int .i64 d.pins) (.bool true); simpa [frE] using this
            case cb4 => exact frE.one _
            case cc4 => have := HBW.out.size; simp; omega
            intro v' w1 hown1 hgrow _
            have hB1 : Below W9.heap.size W9 w1 := ((HBW.out.alloc HBW.out.size _).alloc (by have := HBW.out.size; simp; omega) _).grown hgrow (by have := HBW.out.size; simp; omega) (own_base HOWN.out)
            have hx31 := ((HX.out.alloc _).alloc _).grown hgrow (own_ne HOWN.out HX.out (by decide))
            obtain ⟨A', c', rfl⟩ := own_form hown1
            rw [← HD.out, ← HCL.out] at hown1
            have hb3 : Blk (w1.setCell ⟨W9.heap.size, 0, none⟩ (.slice A' (m + 1) c')) W9.heap.size 27 #[.slice A' (m + 1) c', .int .i64 H] := by have := hx31.put 0 (.slice A' (m + 1) c'); simpa using this
            have ho2 := own_put hown1 hx31 (by decide) 0 (.slice A' (m + 1) c')
            have hB2 := hB1.setCell (p := ⟨W9.heap.size, 0, none⟩) (Nat.le_refl _) (.slice A' (m + 1) c')
            have HALL := Lib.hid (And.intro hb3 (And.intro ho2 hB2))
            clear f0 f1 l1
            obtain ⟨f0, f1, y0, y1, l1⟩ := pair_cells hx31
            clear hgrow c0 c1 c2 hown1 hb3 ho2 hB2 hB1 hx31
            go_wp2_with fail
            go_roundw
            case rel => exact ⟨m + 1, A', c', by omega, by go_num, HALL.out.1, HALL.out.2.1, HALL.out.2.2⟩
            case measure => simp only [intOf]; omega
          | false =>
            cases he : ((m : Int) == fr) with
            | true =>
              have HD := Lib.hid (show Ck.tchF fr m d = (⟨d.page, d.pins, true⟩ : Fr) by unfold Ck.tchF; rw [hu, he, Bool.false_or])
              rw [hu] at c2
              clear hu
              go_wp2_with (at_builtin; go_must (refine wpList_append_own _ rfl _ _ 25 rfl W9.heap.size 40 i0 (.agg #[.int .i64 0, .int .i64 0, .bool false]) 3 24 Try.underlying25 HI.out.1 HI.out.2.1 HI.out.2.2.1 HI.out.2.2.2 rfl (by decide) _ _ _ rfl ((HOWN.out.alloc _).alloc _) ⟨wr.heap.size + 1, 0, none⟩ 1 1 (frE.enc ⟨d.page, d.pins, true⟩) rfl rfl ?ca5 ?cb5 hm7 hm8 ?cc5 ?_))
              case ca5 => have := news3 (wr.alloc (.cells #[.int .i64 d.page, .int .i64 d.pins, .bool true] 40)) 40 (.int .i64 d.page) (.int .i64 d.pins) (.bool true); simpa [frE] using this
              case cb5 => exact frE.one _
              case cc5 => have := HBW.out.size; simp; omega
              intro v' w1 hown1 hgrow _
              have hB1 : Below W9.heap.size W9 w1 := ((HBW.out.alloc HBW.out.size _).alloc (by have := HBW.out.size; simp; omega) _).grown hgrow (by have := HBW.out.size; simp; omega) (own_base HOWN.out)
              have hx31 := ((HX.out.alloc _).alloc _).grown hgrow (own_ne HOWN.out HX.out (by decide))
              obtain ⟨A', c', rfl⟩ := own_form hown1
              rw [← HD.out, ← HCL.out] at hown1
              have hb3 : Blk (w1.setCell ⟨W9.heap.size, 0, none⟩ (.slice A' (m + 1) c')) W9.heap.size 27 #[.slice A' (m + 1) c', .int .i64 H] := by have := hx31.put 0 (.slice A' (m + 1) c'); simpa using this
              have ho2 := own_put hown1 hx31 (by decide) 0 (.slice A' (m + 1) c')
              have hB2 := hB1.setCell (p := ⟨W9.heap.size, 0, none⟩) (Nat.le_refl _) (.slice A' (m + 1) c')
              have HALL := Lib.hid (And.intro hb3 (And.intro ho2 hB2))
              clear f0 f1 l1
              obtain ⟨f0, f1, y0, y1, l1⟩ := pair_cells hx31
              clear hgrow c0 c1 c2 hown1 hb3 ho2 hB2 hB1 hx31
              go_wp2_with fail
              go_roundw
              case rel => exact ⟨m + 1, A', c', by omega, by go_num, HALL.out.1, HALL.out.2.1, HALL.out.2.2⟩
              case measure => simp only [intOf]; omega
            | false =>
              have HD := Lib.hid (show Ck.tchF fr m d = (⟨d.page, d.pins, false⟩ : Fr) by unfold Ck.tchF; rw [hu, he, Bool.false_or])
              rw [hu] at c2
              clear hu
              go_wp2_with (at_builtin; go_must (refine wpList_append_own _ rfl _ _ 25 rfl W9.heap.size 40 i0 (.agg #[.int .i64 0, .int .i64 0, .bool false]) 3 24 Try.underlying25 HI.out.1 HI.out.2.1 HI.out.2.2.1 HI.out.2.2.2 rfl (by decide) _ _ _ rfl ((HOWN.out.alloc _).alloc _) ⟨wr.heap.size + 1, 0, none⟩ 1 1 (frE.enc ⟨d.page, d.pins, false⟩) rfl rfl ?ca6 ?cb6 hm7 hm8 ?cc6 ?_))
              case ca6 => have := news3 (wr.alloc (.cells #[.int .i64 d.page, .int .i64 d.pins, .bool false] 40)) 40 (.int .i64 d.page) (.int .i64 d.pins) (.bool false); simpa [frE] using this
              case cb6 => exact frE.one _
              case cc6 => have := HBW.out.size; simp; omega
              intro v' w1 hown1 hgrow _
              have hB1 : Below W9.heap.size W9 w1 := ((HBW.out.alloc HBW.out.size _).alloc (by have := HBW.out.size; simp; omega) _).grown hgrow (by have := HBW.out.size; simp; omega) (own_base HOWN.out)
              have hx31 := ((HX.out.alloc _).alloc _).grown hgrow (own_ne HOWN.out HX.out (by decide))
              obtain ⟨A', c', rfl⟩ := own_form hown1
              rw [← HD.out, ← HCL.out] at hown1
              have hb3 : Blk (w1.setCell ⟨W9.heap.size, 0, none⟩ (.slice A' (m + 1) c')) W9.heap.size 27 #[.slice A' (m + 1) c', .int .i64 H] := by have := hx31.put 0 (.slice A' (m + 1) c'); simpa using this
              have ho2 := own_put hown1 hx31 (by decide) 0 (.slice A' (m + 1) c')
              have hB2 := hB1.setCell (p := ⟨W9.heap.size, 0, none⟩) (Nat.le_refl _) (.slice A' (m + 1) c')
              have HALL := Lib.hid (And.intro hb3 (And.intro ho2 hB2))
              clear f0 f1 l1
              obtain ⟨f0, f1, y0, y1, l1⟩ := pair_cells hx31
              clear hgrow c0 c1 c2 hown1 hb3 ho2 hB2 hB1 hx31
              go_wp2_with fail
              go_roundw
              case rel => exact ⟨m + 1, A', c', by omega, by go_num, HALL.out.1, HALL.out.2.1, HALL.out.2.2⟩
              case measure => simp only [intOf]; omega
        · obtain rfl : m = l.length := by omega
          rw [List.take_of_length_le (by rw [Ck.tchI_length]; exact Nat.le_refl _)] at hown
          have hown2 : frE.Own wr W9.heap.size 40 (.slice B2 l.length c9) (Ck.tchI l fr) := by unfold Enc.Own; rw [Ck.tchI_length]; exact hown
          obtain ⟨f0, f1, _, _, l1⟩ := pair_cells hx
          obtain ⟨g0, g1, _, _, l2⟩ := pair_cells (HZB.out.keep hBw)
          have hzs := HZS.out.below hBw
          rw [HTCH.out] at hzs
          have SS := Lib.hid (ckSame_self _ _ (Ck.tchI l fr) (H : Int) wr hown2.sl hzs)
          have hb := HB.out.trans (hBw.mono HB.out.size)
          clear hlt hx hown hown2 hzs hBw
          go_wp2_with fail
          refine SS.out.mono ?_
          rintro e W10 ⟨rfl, hB⟩
          have hb := hb.trans (hB.mono hb.size)
          clear hB
          go_wp2_with fail
          refine (awake09 _).mono ?_
          rintro e W99 ⟨rfl, hB⟩
          have hb := hb.trans (hB.mono hb.size)
          go_wp2_with fail
          go_ret
          exact ⟨rfl, hb⟩
end Go.Proofs.Ythhialnnhhemaaa
