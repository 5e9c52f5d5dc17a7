/- THE LAWS of layer 10, walked: BankFirst. Conditions: those of the arguments alone. -/
import Derived.Test.YtjdjdojmgoibbaaBankRef
namespace Go.Proofs.Ytjdjdojmgoibbaa
open Go.RowKit
set_option linter.unusedVariables false

namespace Bk
theorem go_prefix (n : Nat) : ∀ (f : Int) (l : List Cl) (sv : List Bool) (ord : List Nat), ∃ t, go n f l sv ord = ord ++ t := by
  induction n with
  | zero => intro f l sv ord; exact ⟨[], by simp [go]⟩
  | succ n ih =>
    intro f l sv ord
    cases hx : next f l sv with
    | none => exact ⟨[], by simp [go, hx]⟩
    | some i =>
      obtain ⟨t, ht⟩ := ih (f + (l.getD i default).held) l (sv.set i true) (ord ++ [i])
      exact ⟨i :: t, by simp only [go, hx]; rw [ht]; simp⟩
theorem order_first {f : Int} {l : List Cl} (h : (order f l).length = l.length) (hne : l ≠ []) : ∃ i, ∃ hi : i < l.length, (∃ t, order f l = i :: t) ∧ need l[i] ≤ f := by
  have hpos := List.length_pos_iff.2 hne
  unfold order at h ⊢
  cases hx : next f l (List.replicate l.length false) with
  | none => simp only [go, hx] at h; simp at h; omega
  | some i =>
    obtain ⟨hil, _, hcan⟩ := next_lt hx
    refine ⟨i, hil, ?_, ?_⟩
    · obtain ⟨t, ht⟩ := go_prefix l.length (f + (l.getD i default).held) l ((List.replicate l.length false).set i true) ([] ++ [i])
      exact ⟨t, by simp only [go, hx]; rw [ht]; simp⟩
    · rw [show l.getD i default = l[i] by rw [List.getD_eq_getElem?_getD, List.getElem?_eq_getElem hil]; rfl] at hcan
      unfold can at hcan
      simpa [need] using hcan
theorem set_perm (l : List Cl) (i : Nat) (hi : i < l.length) (c : Cl) : (l.set i c).Perm (c :: l.erase l[i]) := by
  have h1 : (l[i] :: l.eraseIdx i).Perm l := by
    have e : l = l.take i ++ l[i] :: l.drop (i + 1) := by rw [← List.drop_eq_getElem_cons hi, List.take_append_drop]
    rw [List.eraseIdx_eq_take_drop_succ]
    conv => rhs; rw [e]
    exact List.perm_middle.symm
  have h2 : (l[i] :: l.erase l[i]).Perm l := (List.perm_cons_erase (List.getElem_mem hi)).symm
  have h3 : (l.eraseIdx i).Perm (l.erase l[i]) := (h1.trans h2.symm).cons_inv
  have h4 : (l.set i c).Perm (c :: l.eraseIdx i) := by
    rw [List.set_eq_take_append_cons_drop, if_pos hi, List.eraseIdx_eq_take_drop_succ]
    exact List.perm_middle
  exact h4.trans (h3.cons c)
theorem go_le (n : Nat) : ∀ (f : Int) (l : List Cl) (sv : List Bool) (ord : List Nat), (go n f l sv ord).length ≤ ord.length + sv.count false := by
  induction n with
  | zero => intro f l sv ord; simp [go]
  | succ n ih =>
    intro f l sv ord
    cases hx : next f l sv with
    | none => simp [go, hx]
    | some i =>
      have h1 := ih (f + (l.getD i default).held) l (sv.set i true) (ord ++ [i])
      have h2 := count_set (next_lt hx).2.1
      simp only [List.length_append, List.length_cons, List.length_nil] at h1
      simp only [go, hx]
      omega
theorem order_le (f : Int) (l : List Cl) : (order f l).length ≤ l.length := by
  have := go_le (l.length + 1) f l (List.replicate l.length false) []
  unfold order
  simpa using this
/-- the first one may have one more -/
theorem first_more {f : Int} {l : List Cl} {i : Nat} (hi : i < l.length) (hs : safe f l = true) (hn : need l[i] ≤ f) (hne : l[i].held ≠ l[i].claim) :
    1 ≤ f ∧ safe (f - 1) (l.set i ⟨l[i].who, l[i].claim, l[i].held + 1⟩) = true := by
  obtain ⟨hr, hf, hfe⟩ := (safe_iff f l).1 hs
  have hg := (good_of_right hr).1 l[i] (List.getElem_mem hi)
  have hf1 : 1 ≤ f := by unfold need at hn; omega
  refine ⟨hf1, (safe_iff _ _).2 ⟨?_, by omega, ?_⟩⟩
  · obtain ⟨r1, r2, r3⟩ := (right_iff l).1 hr
    refine (right_iff _).2 ⟨by simpa using r1, ?_, ?_⟩
    · intro c hc
      rcases List.mem_or_eq_of_mem_set hc with h | h
      · exact r2 c h
      · subst h
        have h0 := r2 l[i] (List.getElem_mem hi)
        unfold good at h0 ⊢
        rw [decide_eq_true_iff] at h0 ⊢
        simp only
        omega
    · rw [List.map_set]
      rw [show (⟨l[i].who, l[i].claim, l[i].held + 1⟩ : Cl).who = (l.map Cl.who)[i]'(by simpa using hi) by simp, List.set_getElem_self]
      exact r3
  · have hex := hfe.exch (nonneg_of_right hr) l[i] (List.getElem_mem hi) hn
    refine Feas.perm (Feas.cons ⟨l[i].who, l[i].claim, l[i].held + 1⟩ (by simp) ?_ ?_) (set_perm l i hi _).symm
    · unfold need at hn ⊢; simp only; omega
    · rw [List.erase_cons_head]
      exact hex.mono (by simp only; omega)
end Bk
theorem clCells_set (l : List Cl) : ∀ (i : Nat) (hi : i < l.length) (x : Int), (clCells l).set (i * 3 + 2) (.int .i64 x) = clCells (l.set i ⟨l[i].who, l[i].claim, x⟩) := by
  induction l with
  | nil => intro i hi; simp at hi
  | cons d l ih =>
    intro i hi x
    have e : clCells (d :: l) = .int .i64 d.who :: .int .i64 d.claim :: .int .i64 d.held :: clCells l := rfl
    match i with
    | 0 => rw [e]; rfl
    | i + 1 =>
      rw [e, show (i + 1) * 3 + 2 = i * 3 + 2 + 1 + 1 + 1 by omega]
      simp only [List.set_cons_succ, List.getElem_cons_succ]
      rw [ih i (by simpa using hi) x]
      rfl
theorem infoC2 : (Try.prog.info? 60).map (fun i => (i.zero, i.size, i.bytes)) = some (some (.agg #[.int .i64 0, .int .i64 0, .int .i64 0]), 3, 24) := by kernel_rfl
theorem ClsAt.cells {w : World} {b off : Nat} {l : List Cl} (h : ClsAt w b off l) : ∀ (j : Nat) (u : Value), (clCells l)[j]? = some u → w.cell? ((⟨b, off, none⟩ : Addr).add j) = some u := by
  intro j u hj
  have hjl : j < l.length * 3 := by
    by_cases hh : j < (clCells l).length
    · rw [clCells_length] at hh; exact hh
    · rw [List.getElem?_eq_none (by omega)] at hj; simp at hj
  have hi : j / 3 < l.length := by omega
  obtain ⟨h0, h1, h2⟩ := h (j / 3) hi
  have hc := clCells_get l (j / 3) hi (j % 3) (by omega)
  rw [show j / 3 * 3 + j % 3 = j by omega, hj] at hc
  have e : (⟨b, off, none⟩ : Addr).add j = ⟨b, off + j, none⟩ := by
    unfold Addr.add
    by_cases hz : j = 0
    · subst hz; simp
    · simp [hz]
  rw [e]
  have hm : j % 3 = 0 ∨ j % 3 = 1 ∨ j % 3 = 2 := by omega
  rcases hm with hm | hm | hm
  · rw [hm] at hc
    rw [show off + j = off + j / 3 * 3 by omega, h0, hc]; rfl
  · rw [hm] at hc
    rw [show off + j = off + j / 3 * 3 + 1 by omega, h1, hc]; rfl
  · rw [hm] at hc
    rw [show off + j = off + j / 3 * 3 + 2 by omega, h2, hc]; rfl
theorem clCells_one (l : List Cl) : ∀ u ∈ clCells l, u.oneCell' = true := by
  intro u hu
  unfold clCells at hu
  obtain ⟨c, _, hc⟩ := List.mem_flatMap.1 hu
  simp [Bk.cells3] at hc
  rcases hc with rfl | rfl | rfl <;> rfl
theorem own_empty {w : World} {base g : Nat} {t : TypeId} {size : Nat} (h : Blk w g t #[]) (hb : base ≤ g) : w.ownsRow base t size (.slice (some ⟨g, 0, none⟩) 0 0) 0 [] :=
  ⟨by simp, .inr ⟨g, 0, #[], rfl, hb, h, Nat.le_refl _, by unfold maxLen; omega, by simp, by simp⟩⟩

set_option maxRecDepth 100000 in
set_option maxHeartbeats 1600000 in
theorem bankFirst_walk (f : Int) (hf : (Lit.int .i64 f).wf = true) (v : Value) (w : World) (hv : ClArg w v) :
    Calls Try.prog 11 #[.int .i64 f, v] w fun e w' => e = .returned (.bool true) ∧ Below w.heap.size w w' := by
  obtain ⟨l, hsl, hfit⟩ := hv
  clear hf
  have HSL := Lib.hid hsl
  obtain ⟨A, cap, rfl, h1, h2, h3⟩ := hsl
  unfold maxLen at h2
  by_cases h0 : l = []
  · subst h0
    clear h3 HSL
    go_enter Try.func11, Try.ntmps11
    go_wp2_with fail
    refine (awake10 _).mono ?_
    rintro e W1 ⟨rfl, hB⟩
    go_wp2_with fail
    go_ret
    exact ⟨rfl, hB⟩
  have hlen0 : 0 < l.length := List.length_pos_iff.2 h0
  have hn0 : ((l.length : Int) == 0) = false := beq_eq_false_iff_ne.2 (by omega)
  by_cases hgd : 8 < l.length ∨ f < 0 ∨ 1000 < f
  · have hgd2 : (8 : Int) < (l.length : Int) ∨ ((l.length : Int) ≤ 8 ∧ f < 0) ∨ ((l.length : Int) ≤ 8 ∧ 0 ≤ f ∧ 1000 < f) := by omega
    clear h3 HSL h0 hgd
    rcases hgd2 with g1 | ⟨g1, g2⟩ | ⟨g1, g2, g3⟩
    all_goals
      go_enter Try.func11, Try.ntmps11
      go_wp2_with fail
      refine (awake10 _).mono ?_
      rintro e W1 ⟨rfl, hB⟩
      go_wp2_with fail
      go_ret
      exact ⟨rfl, hB⟩
  have g1 : (l.length : Int) ≤ 8 := by omega
  have g2 : 0 ≤ f := by omega
  have g3 : f ≤ 1000 := by omega
  clear hgd
  cases hr : Bk.right l with
  | false =>
    have R := Lib.hid (ref_any _ l w HSL.out (by omega))
    clear h3 h0
    go_enter Try.func11, Try.ntmps11
    go_wp2_with fail
    refine R.out.mono ?_
    rintro e W1 ⟨⟨u, rfl, hown⟩, hB⟩
    have RR := refRight_sl u l W1 (Sl.of_own hown)
    rw [hr] at RR
    have RR := Lib.hid RR
    clear hown hr
    go_wp2_with fail
    refine RR.out.mono ?_
    rintro e W2 ⟨rfl, hB2⟩
    have hB3 := hB.trans (hB2.mono hB.size)
    clear hB hB2
    go_wp2_with fail
    refine (awake10 _).mono ?_
    rintro e W3 ⟨rfl, hB⟩
    go_wp2_with fail
    go_ret
    exact ⟨rfl, hB3.trans (hB.mono hB3.size)⟩
  | true =>
    obtain ⟨b, off, rfl, hbl, hc⟩ := h3.resolve_left h0
    have R := Lib.hid (ref_any _ l w HSL.out (by omega))
    have HC := Lib.hid hc
    have H0 := Lib.hid h0
    have HR := Lib.hid hr
    clear h3 h0 hc hr
    go_enter Try.func11, Try.ntmps11
    go_wp2_with fail
    refine R.out.mono ?_
    rintro e W1 ⟨⟨u, rfl, hown⟩, hB⟩
    have RR := refRight_sl u l W1 (Sl.of_own hown)
    rw [HR.out] at RR
    have RR := Lib.hid RR
    clear hown
    go_wp2_with fail
    refine RR.out.mono ?_
    rintro e W2 ⟨rfl, hB2⟩
    have hB3 := hB.trans (hB2.mono hB.size)
    clear hB hB2 RR R
    have O := Lib.hid (order_sl f _ l W2 (HSL.out.below hB3) HR.out g2 g3)
    go_wp2_with fail
    refine O.out.mono ?_
    rintro e W3 ⟨⟨u, rfl, hown⟩, hB4⟩
    have hB5 := hB3.trans (hB4.mono hB3.size)
    obtain ⟨OA, oc, rfl⟩ := own_form hown
    have hW2 : w.heap.size ≤ W2.heap.size := hB3.size
    clear O hB4 hB3
    by_cases hok : (Bk.order f l).length = l.length
    · obtain ⟨i, hil, ⟨t, hot⟩, hneed⟩ := Bk.order_first hok H0.out
      have hok2 : decide (((Bk.order f l).length : Int) = (l.length : Int)) = true := decide_eq_true (by omega)
      rw [hok2]
      have hsafe : Bk.safe f l = true := by
        unfold Bk.safe Bk.inRange
        rw [HR.out, decide_eq_true g2, decide_eq_true g3, decide_eq_true hok]; rfl
      have hq := hown.2
      rw [hok] at hq ⊢
      rcases hq with ⟨_, hz⟩ | ⟨g, gc, cur, hgv, hg, hgh, hgc, _, _, hcur⟩
      · omega
      have hgblk : Blk W3 g 3 cur := hgh
      have hgv2 : OA = some ⟨g, 0, none⟩ ∧ oc = gc := by
        simp only [Value.slice.injEq] at hgv; exact ⟨hgv.1, hgv.2.2⟩
      obtain ⟨rfl, rfl⟩ := hgv2
      have hc0 : W3.cell? ⟨g, 0, none⟩ = some (.int .i64 (i : Int)) := by
        rw [hgblk.cell]
        have h1 : (cur.toList.take (l.length * 1))[0]? = some (Value.int .i64 (i : Int)) := by rw [hcur, hot]; rfl
        rw [List.getElem?_take, if_pos (by omega)] at h1
        simpa using h1
      have hgood := (Bk.good_of_right HR.out).1 l[i] (List.getElem_mem hil)
      have hfm := fun h => Bk.first_more hil hsafe hneed h
      have hcs := fun x => clCells_set l i hil x
      obtain ⟨k0, k1, k2⟩ := (HC.out.below hB5 hbl) i hil
      have hblt : b < W3.heap.size := Nat.lt_of_lt_of_le hbl hB5.size
      have hglt := hgblk.lt
      generalize hli : l[i] = c at hfm hcs k0 k1 k2 hgood hneed
      have hii : (i : Int) < (l.length : Int) := by omega
      have hi0 : (0 : Int) ≤ (i : Int) := by omega
      have hnn : ((l.length : Int) != (l.length : Int)) = false := by simp
      have HFM := Lib.hid hfm
      have HCS := Lib.hid hcs
      have HLI := Lib.hid hli
      have HOK := Lib.hid hok
      have HOT := Lib.hid hot
      clear hfm hcs hli hok hot hok2 hsafe hown hgv hgh hcur hneed
      obtain ⟨m1, m2, m3, m4⟩ := hgood
      by_cases hhc : c.held = c.claim
      · have hhc1 : (c.held == c.claim) = true := by simpa using hhc
        clear hhc
        go_wp2_with fail
        refine (awake10 _).mono ?_
        rintro e W4 ⟨rfl, hB⟩
        go_wp2_with fail
        go_ret
        exact ⟨rfl, (hB5.alloc hB5.size _).trans (hB.mono (by have := hB5.size; simp; omega))⟩
      · have hhc1 : (c.held == c.claim) = false := beq_eq_false_iff_ne.2 hhc
        obtain ⟨hf1, hsm⟩ := HFM.out hhc
        have HSM := Lib.hid hsm
        clear hsm hhc
        have hY0 : Below w.heap.size w (W3.alloc (.cells #[.int .i64 c.who, .int .i64 c.claim, .int .i64 c.held] 60)) := hB5.alloc hB5.size _
        have hY : Below w.heap.size w ((W3.alloc (.cells #[.int .i64 c.who, .int .i64 c.claim, .int .i64 c.held] 60)).alloc (.cells #[] 60)) := hY0.alloc hY0.size _
        have hE : Blk ((W3.alloc (.cells #[.int .i64 c.who, .int .i64 c.claim, .int .i64 c.held] 60)).alloc (.cells #[] 60)) (W3.heap.size + 1) 60 #[] := by
          have := Blk.new (W3.alloc (.cells #[.int .i64 c.who, .int .i64 c.claim, .int .i64 c.held] 60)) 60 #[]
          simpa using this
        have hOrd : Blk ((W3.alloc (.cells #[.int .i64 c.who, .int .i64 c.claim, .int .i64 c.held] 60)).alloc (.cells #[] 60)) g 3 cur := (hgblk.alloc _).alloc _
        have hCl := (HC.out.below hY hbl)
        obtain ⟨i0, hi, hz0, hz1, hz2⟩ := info_parts infoC2
        have hm7 : 0 + l.length ≤ maxLen := by unfold maxLen; omega
        have hm8 : (0 + l.length) * 24 ≤ 140737488355328 := by omega
        have hemp : World.ownsRow ((W3.alloc (.cells #[.int .i64 c.who, .int .i64 c.claim, .int .i64 c.held] 60)).alloc (.cells #[] 60)) w.heap.size 60 3 (.slice (some ⟨W3.heap.size + 1, 0, none⟩) 0 0) 0 [] := own_empty hE (by have := hB5.size; omega)
        have HCELLS := Lib.hid hCl.cells
        have HOWN := Lib.hid hemp
        clear hY0 hCl hemp
        go_wp2_with (at_builtin; go_must (refine wpList_append_own _ rfl _ _ 47 rfl w.heap.size 60 i0 (.agg #[.int .i64 0, .int .i64 0, .int .i64 0]) 3 24 Try.underlying47 hi hz0 hz1 hz2 rfl (by decide) _ _ _ rfl HOWN.out ⟨b, off, none⟩ l.length cap (clCells l) rfl (clCells_length l) HCELLS.out (clCells_one l) hm7 hm8 ?c5 ?_))
        case c5 => have := hB5.size; simp; omega
        intro v' w1 hown1 hgrow _
        have hB6 : Below w.heap.size w w1 := hY.grown hgrow (by have := hB5.size; simp; omega) (own_base HOWN.out)
        have hOrd1 : Blk w1 g 3 cur := hOrd.grown hgrow (own_ne HOWN.out hOrd (show (3 : Nat) ≠ 60 by decide))
        have hoc : w1.cell? ⟨g, 0, none⟩ = some (.int .i64 (i : Int)) := by rw [hOrd1.cell, ← hgblk.cell]; exact hc0
        have hgl1 := hOrd1.lt
        obtain ⟨A', c', rfl⟩ := own_form hown1
        rcases hown1.2 with ⟨_, hz⟩ | ⟨g', c'', cur', hv', hg', hh', hcc, hc7, hc8, hc9⟩
        · omega
        simp only [Value.slice.injEq, true_and] at hv'
        obtain ⟨rfl, rfl⟩ := hv'
        have hst := hown1.stored (i * 3 + 2) (.int .i64 (c.held + 1))
        have hg1 : w1.frozen? ⟨g', i * 3 + 2, none⟩ = false := hown1.frozenAt _
        have hg2 : w1.cell? ⟨g', i * 3 + 2, none⟩ = some (.int .i64 c.held) := by
          rw [hown1.cellAt (i * 3 + 2) (by omega), clCells_get l i hil 2 (by omega), HLI.out]; rfl
        have hB7 : Below w.heap.size w (w1.setCell ⟨g', i * 3 + 2, none⟩ (.int .i64 (c.held + 1))) := hB6.setCell (by exact hg') _
        rw [HCS.out (c.held + 1)] at hst
        have hlen2 : (l.set i ⟨c.who, c.claim, c.held + 1⟩).length = l.length := List.length_set ..
        have hsl2 : Sl (w1.setCell ⟨g', i * 3 + 2, none⟩ (.int .i64 (c.held + 1))) (.slice (some ⟨g', 0, none⟩) l.length c') (l.set i ⟨c.who, c.claim, c.held + 1⟩) := Sl.of_own (by rw [hlen2]; exact hst.1)
        have S := safe_sl (f - 1) _ _ _ hsl2
        rw [HSM.out] at S
        have S := Lib.hid S
        have hgw1 : g' < w1.heap.size := (Blk.lt (show Blk w1 g' 60 cur' from hh'))
        clear hi hz0 hz1 hz2 hown1 hgrow hst hsl2 hY hE hOrd hOrd1 hh' hc9 hc8
        go_wp2_with fail
        refine S.out.mono ?_
        rintro e W5 ⟨rfl, hB8⟩
        have hB9 := hB7.trans (hB8.mono hB7.size)
        clear hB8 hB7 S
        go_wp2_with fail
        refine (awake10 _).mono ?_
        rintro e W6 ⟨rfl, hB⟩
        go_wp2_with fail
        go_ret
        exact ⟨rfl, hB9.trans (hB.mono hB9.size)⟩
    · have hok1 : (((Bk.order f l).length : Int) == (l.length : Int)) = false := beq_eq_false_iff_ne.2 (by omega)
      have hok2 : decide (((Bk.order f l).length : Int) = (l.length : Int)) = false := decide_eq_false (by omega)
      rw [hok2]
      have hle : ((Bk.order f l).length : Int) < (l.length : Int) := by have := Bk.order_le f l; omega
      clear hok hok2 hown
      generalize (Bk.order f l).length = on at *
      go_wp2_with fail
      refine (awake10 _).mono ?_
      rintro e W4 ⟨rfl, hB⟩
      go_wp2_with fail
      go_ret
      exact ⟨rfl, hB5.trans (hB.mono hB5.size)⟩
end Go.Proofs.Ytjdjdojmgoibbaa
