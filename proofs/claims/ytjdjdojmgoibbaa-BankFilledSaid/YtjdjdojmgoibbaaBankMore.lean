/- THE LAWS of layer 10, walked: BankMore. Conditions: those of the arguments alone. -/
import Derived.Test.YtjdjdojmgoibbaaBankLawOrder
import Derived.Test.YtjdjdojmgoibbaaBankFirst
import Derived.Test.YtjdjdojmgoibbaaBankOne
import Derived.Deep.RegionLaw
namespace Go.Proofs.Ytjdjdojmgoibbaa
open Go.RowKit
set_option linter.unusedVariables false
namespace Bk
theorem perm_swap {c0 d : Cl} {L : List Cl} (hd : d ∈ L) : ((c0 :: L).erase d).Perm (c0 :: L.erase d) := by
  have h1 : (d :: (c0 :: L).erase d).Perm (c0 :: L) := (List.perm_cons_erase (List.mem_cons_of_mem _ hd)).symm
  have h2 : (c0 :: L).Perm (d :: c0 :: L.erase d) := ((List.perm_cons_erase hd).cons c0).trans (List.Perm.swap _ _ _)
  exact (h1.trans h2).cons_inv
theorem Feas.back {f : Int} {l : List Cl} (h : Feas f l) : ∀ (c c0 : Cl), c ∈ l → 0 ≤ c.held → need c0 ≤ need c + c.held → c0.held = 0 → ∀ m : List Cl, m.Perm (c0 :: l.erase c) → Feas (f + c.held) m := by
  induction h with
  | nil f => intro c c0 hc; simp at hc
  | @cons f l d hd hn hr ih =>
    intro c c0 hc hh hn0 h0 m hm
    by_cases e : d = c
    · subst e
      refine Feas.perm (Feas.cons c0 (by simp) (by omega) ?_) hm.symm
      rw [List.erase_cons_head]
      exact hr.mono (by omega)
    · have hc2 : c ∈ l.erase d := (List.mem_erase_of_ne (Ne.symm e)).2 hc
      have hd2 : d ∈ l.erase c := (List.mem_erase_of_ne e).2 hd
      refine Feas.perm (Feas.cons d (by simp [hd2]) (by omega) ?_) hm.symm
      have := ih c c0 hc2 hh hn0 h0 ((c0 :: l.erase c).erase d) (by rw [List.erase_comm]; exact perm_swap hd2)
      exact this.mono (by omega)
theorem Feas.gone {f : Int} {l : List Cl} (h : Feas f l) : ∀ (c : Cl), c ∈ l → 0 ≤ c.held → Feas (f + c.held) (l.erase c) := by
  induction h with
  | nil f => intro c hc; simp at hc
  | @cons f l d hd hn hr ih =>
    intro c hc hh
    by_cases e : d = c
    · subst e; exact hr
    · have hc2 : c ∈ l.erase d := (List.mem_erase_of_ne (Ne.symm e)).2 hc
      have hd2 : d ∈ l.erase c := (List.mem_erase_of_ne e).2 hd
      refine Feas.cons d hd2 (by omega) ?_
      rw [List.erase_comm]
      exact (ih c hc2 hh).mono (by omega)
theorem safe_more {f g : Int} {l : List Cl} (h : safe f l = true) (hg : f ≤ g) (hg2 : g ≤ 1000) : safe g l = true := by
  obtain ⟨hr, hf, hfe⟩ := (safe_iff f l).1 h
  exact (safe_iff g l).2 ⟨hr, ⟨by omega, hg2⟩, hfe.mono hg⟩
theorem safe_top {f : Int} {l : List Cl} (hr : right l = true) (hf0 : 0 ≤ f) (hf2 : f ≤ 1000) (h : ∀ j (hj : j < l.length), need l[j] ≤ f) : safe f l = true := by
  refine (safe_iff f l).2 ⟨hr, ⟨hf0, hf2⟩, Feas.all (nonneg_of_right hr) ?_⟩
  intro c hc
  obtain ⟨j, hj, rfl⟩ := List.getElem_of_mem hc
  exact h j hj
theorem safe_back {f : Int} {l : List Cl} {i : Nat} (hi : i < l.length) (hs : safe f l = true) (hb : f + l[i].held ≤ 1000) :
    safe (f + l[i].held) (l.set i ⟨l[i].who, l[i].claim, 0⟩) = true := by
  obtain ⟨hr, hf, hfe⟩ := (safe_iff f l).1 hs
  have hh := nonneg_of_right hr l[i] (List.getElem_mem hi)
  refine (safe_iff _ _).2 ⟨?_, ⟨by omega, hb⟩, ?_⟩
  · obtain ⟨r1, r2, r3⟩ := (right_iff l).1 hr
    refine (right_iff _).2 ⟨by simpa using r1, ?_, ?_⟩
    · intro c hc
      rcases List.mem_or_eq_of_mem_set hc with h | h
      · exact r2 c h
      · subst h
        have h0 := r2 l[i] (List.getElem_mem hi)
        unfold good at h0 ⊢
        rw [decide_eq_true_iff] at h0 ⊢
        simp only
        omega
    · rw [List.map_set]
      rw [show (⟨l[i].who, l[i].claim, 0⟩ : Cl).who = (l.map Cl.who)[i]'(by simpa using hi) by simp, List.set_getElem_self]
      exact r3
  · exact hfe.back l[i] ⟨l[i].who, l[i].claim, 0⟩ (List.getElem_mem hi) hh (by unfold need; simp only; omega) rfl _ (set_perm l i hi _)
theorem take_drop_perm (l : List Cl) (i : Nat) (hi : i < l.length) : (l.erase l[i]).Perm (l.take i ++ l.drop (i + 1)) := by
  have h1 : l.Perm (l[i] :: (l.take i ++ l.drop (i + 1))) := by
    have : l = l.take i ++ l[i] :: l.drop (i + 1) := by rw [List.getElem_cons_drop, List.take_append_drop]
    exact (List.Perm.of_eq this).trans List.perm_middle
  exact ((List.perm_cons_erase (List.getElem_mem hi)).symm.trans h1).cons_inv
theorem safe_gone {f : Int} {l : List Cl} {i : Nat} (hi : i < l.length) (hs : safe f l = true) (hb : f + l[i].held ≤ 1000) :
    safe (f + l[i].held) (l.take i ++ l.drop (i + 1)) = true := by
  obtain ⟨hr, hf, hfe⟩ := (safe_iff f l).1 hs
  have hh := nonneg_of_right hr l[i] (List.getElem_mem hi)
  have hp := take_drop_perm l i hi
  refine (safe_iff _ _).2 ⟨?_, ⟨by omega, hb⟩, (hfe.gone l[i] (List.getElem_mem hi) hh).perm hp⟩
  obtain ⟨r1, r2, r3⟩ := (right_iff l).1 hr
  have hsub : (l.take i ++ l.drop (i + 1)).Sublist l := by
    rw [← List.eraseIdx_eq_take_drop_succ]; exact List.eraseIdx_sublist l i
  exact (right_iff _).2 ⟨Nat.le_trans hsub.length_le r1, fun c hc => r2 c (hsub.mem hc), (hsub.map Cl.who).nodup r3⟩
end Bk
theorem clCells_app (a b : List Cl) : clCells (a ++ b) = clCells a ++ clCells b := by unfold clCells; rw [List.flatMap_append]
theorem ClsAt.drop {w : World} {b off : Nat} {l : List Cl} (h : ClsAt w b off l) (k : Nat) : ClsAt w b (off + k * 3) (l.drop k) := by
  intro i hi
  rw [List.length_drop] at hi
  obtain ⟨h0, h1, h2⟩ := h (k + i) (by omega)
  rw [List.getElem_drop]
  rw [show off + k * 3 + i * 3 = off + (k + i) * 3 by omega]
  exact ⟨h0, h1, h2⟩
theorem ClsAt.take {w : World} {b off : Nat} {l : List Cl} (h : ClsAt w b off l) (k : Nat) : ClsAt w b off (l.take k) := by
  intro i hi
  rw [List.length_take] at hi
  rw [List.getElem_take]
  exact h i (by omega)
/-- append to a row of one's own, as a step of a region that draws -/
theorem step_append_own {P : Program} {ops : Array Oper} {o : Oper} {a : Act} (w : World) {K : Act → World → Prop} {Q : Exit → Act → World → Prop} {E : Prop} (hgd : o.guard = none) (s x : Operand) (t : TypeId)
    (ho : o.op = .call { callee := .builtin .append, args := #[s, x], argTypes := #[t, t] })
    (base : Nat) (e : TypeId) (i : TypeInfo) (z : Value) (size bytes : Nat) (ht : P.underlying t = some (.slice e)) (hi : P.info? e = some i) (hz : i.zero = some z)
    (hsize : i.size = size) (hby : i.bytes = bytes) (hzs : z.cells.size = size) (hsz : 0 < size)
    (v : Value) (n : Nat) (xs : List Value) (hs : a.eval s = v) (hown : w.ownsRow base e size v n xs)
    (ad : Addr) (m c : Nat) (news : List Value) (hx : a.eval x = .slice (some ad) m c) (hl : news.length = m * size) (hnews : ∀ j u, news[j]? = some u → w.cell? (ad.add j) = some u) (h1 : ∀ u ∈ news, u.oneCell' = true)
    (h63 : n + m ≤ maxLen) (hbytes : (n + m) * bytes ≤ 140737488355328) (hbase : base ≤ w.heap.size)
    (h : ∀ v' w', w'.ownsRow base e size v' (n + m) (xs ++ news) → w.grownBy w' v.ownBlock → K (a.put o.dst v') w') :
    if Region.wanted o (yielded ops a.tmps) = true then Oper.wp P o a w K Q else E := by
  have hw : Region.wanted o (yielded ops a.tmps) = true := by simp [Region.wanted, hgd]
  rw [if_pos hw]
  exact wp_append_own w s x t ho base e i z size bytes ht hi hz hsize hby hzs hsz v n xs hs hown ad m c news hx hl hnews h1 h63 hbytes hbase fun v' w' h2 h3 _ => h v' w' h2 h3

set_option maxRecDepth 100000 in
set_option maxHeartbeats 1600000 in
theorem bankMore_nil (f g y : Int) (A : Option Addr) (cap : Nat) (w : World) (hcap : cap ≤ maxLen) (g2 : 0 ≤ f) (g3 : f ≤ 900) (g4 : 0 ≤ g) (g5 : g ≤ 100) :
    Calls Try.prog 10 #[.int .i64 f, .int .i64 g, .slice A 0 cap, .int .u8 y] w fun e w' => e = .returned (.bool true) ∧ Below w.heap.size w w' := by
  have SS0 : ∀ W, Sl W (.slice A 0 cap) [] := fun W => ⟨A, cap, rfl, Nat.zero_le _, hcap, .inl rfl⟩
  have SS := Lib.hid SS0
  clear SS0
  have h01 : Bk.safe 0 [] = true := rfl
  have h02 : Bk.safe f [] = true := by rw [Bk.safe_nil, decide_eq_true_iff]; omega
  have H1 := Lib.hid h01
  have H2 := Lib.hid h02
  clear h01 h02
  go_enter Try.func10, Try.ntmps10
  go_wp2_with fail
  refine (ref_any _ [] w (SS.out w) (by simp)).mono ?_
  rintro e W1 ⟨⟨u, rfl, hown⟩, hB⟩
  have RR := refRight_sl u [] W1 (Sl.of_own hown)
  rw [show Bk.right [] = true from rfl] at RR
  have RR := Lib.hid RR
  clear hown
  go_wp2_with fail
  refine RR.out.mono ?_
  rintro e W2 ⟨rfl, hB2⟩
  have HB2 := Lib.hid (below_then hB hB2)
  clear hB hB2
  go_wp2_with fail
  go_loop [9, 11, 43] (fun t _ i => i = .int .i64 0 ∧ t = .int .i64 0) (fun _ _ _ => 0)
  case atStart => exact ⟨rfl, rfl⟩
  case round =>
    obtain ⟨rfl, rfl⟩ := hrel
    have S := safe_sl 0 _ [] W2 (SS.out W2)
    rw [H1.out] at S
    have S := Lib.hid S
    go_wp2_with fail
    refine S.out.mono ?_
    rintro e W3 ⟨rfl, hB3⟩
    have HB3 := Lib.hid (below_then HB2.out hB3)
    clear S hB3
    have S := safe_sl f _ [] W3 (SS.out W3)
    rw [H2.out] at S
    have S := Lib.hid S
    go_wp2_with fail
    refine S.out.mono ?_
    rintro e W4 ⟨rfl, hB4⟩
    have HB4 := Lib.hid (below_then HB3.out hB4)
    clear S hB4
    have S := safe_sl f _ [] W4 (SS.out W4)
    rw [H2.out] at S
    have S := Lib.hid S
    go_wp2_with fail
    refine S.out.mono ?_
    rintro e W5 ⟨rfl, hB5⟩
    have HB5 := Lib.hid (below_then HB4.out hB5)
    clear S hB5
    go_wp2_with fail
    refine (awake10 _).mono ?_
    rintro e W6 ⟨rfl, hB⟩
    go_wp2_with fail
    go_ret
    exact ⟨rfl, below_then HB5.out hB⟩

set_option maxRecDepth 100000 in
set_option maxHeartbeats 2400000 in
theorem bankMore_walk (f : Int) (hf : (Lit.int .i64 f).wf = true) (g : Int) (hg : (Lit.int .i64 g).wf = true) (v : Value) (w : World) (hv : ClArg w v) (y : Int) (hy : (Lit.int .u8 y).wf = true) :
    Calls Try.prog 10 #[.int .i64 f, .int .i64 g, v, .int .u8 y] w fun e w' => e = .returned (.bool true) ∧ Below w.heap.size w w' := by
  obtain ⟨l, hsl, hfit⟩ := hv
  have hy' : 0 ≤ y ∧ y ≤ 255 := by simpa [Lit.wf, IntKind.min, IntKind.max, IntKind.signed, IntKind.bits] using hy
  obtain ⟨hy1, hy2⟩ := hy'
  clear hy hf hg
  have HSL := Lib.hid hsl
  obtain ⟨A, cap, rfl, h1, h2, h3⟩ := hsl
  unfold maxLen at h2
  by_cases hgd : 8 < l.length ∨ f < 0 ∨ 900 < f ∨ g < 0 ∨ 100 < g
  · have hgd2 : (8 : Int) < (l.length : Int) ∨ ((l.length : Int) ≤ 8 ∧ f < 0) ∨ ((l.length : Int) ≤ 8 ∧ 0 ≤ f ∧ 900 < f) ∨ ((l.length : Int) ≤ 8 ∧ 0 ≤ f ∧ f ≤ 900 ∧ g < 0) ∨ ((l.length : Int) ≤ 8 ∧ 0 ≤ f ∧ f ≤ 900 ∧ 0 ≤ g ∧ 100 < g) := by omega
    clear h3 HSL hgd
    rcases hgd2 with g1 | ⟨g1, g2⟩ | ⟨g1, g2, g3⟩ | ⟨g1, g2, g3, g4⟩ | ⟨g1, g2, g3, g4, g5⟩
    all_goals
      go_enter Try.func10, Try.ntmps10
      go_wp2_with fail
      refine (awake10 _).mono ?_
      rintro e W1 ⟨rfl, hB⟩
      go_wp2_with fail
      go_ret
      exact ⟨rfl, hB⟩
  have g1 : (l.length : Int) ≤ 8 := by omega
  have g2 : 0 ≤ f := by omega
  have g3 : f ≤ 900 := by omega
  have g4 : 0 ≤ g := by omega
  have g5 : g ≤ 100 := by omega
  clear hgd
  by_cases h0 : l = []
  · subst h0
    exact bankMore_nil f g y A cap w (by unfold maxLen; omega) g2 g3 g4 g5
  have hlen0 : 0 < l.length := List.length_pos_iff.2 h0
  have hn0 : ((l.length : Int) == 0) = false := beq_eq_false_iff_ne.2 (by omega)
  have R := Lib.hid (ref_any _ l w HSL.out (by omega))
  cases hr : Bk.right l with
  | false =>
    clear h3
    go_enter Try.func10, Try.ntmps10
    go_wp2_with fail
    refine R.out.mono ?_
    rintro e W1 ⟨⟨u, rfl, hown⟩, hB⟩
    have RR := refRight_sl u l W1 (Sl.of_own hown)
    rw [hr] at RR
    have RR := Lib.hid RR
    clear hown hr
    go_wp2_with fail
    refine RR.out.mono ?_
    rintro e W2 ⟨rfl, hB2⟩
    have hB3 := below_then hB hB2
    clear hB hB2
    go_wp2_with fail
    refine (awake10 _).mono ?_
    rintro e W3 ⟨rfl, hB⟩
    go_wp2_with fail
    go_ret
    exact ⟨rfl, below_then hB3 hB⟩
  | true =>
    have HR := Lib.hid hr
    have H3 := Lib.hid h3
    have hgood := (Bk.good_of_right hr).1
    have HG := Lib.hid hgood
    clear h3 hr hgood
    go_enter Try.func10, Try.ntmps10
    go_wp2_with fail
    refine R.out.mono ?_
    rintro e W1 ⟨⟨u, rfl, hown⟩, hB⟩
    have RR := refRight_sl u l W1 (Sl.of_own hown)
    rw [HR.out] at RR
    have RR := Lib.hid RR
    clear hown
    go_wp2_with fail
    refine RR.out.mono ?_
    rintro e W2 ⟨rfl, hB2⟩
    have hB3 := below_then hB hB2
    clear hB hB2 RR R
    go_wp2_with fail
    go_loopw [9, 11, 43] (fun t _ i wr => ∃ (m : Nat) (x : Int), m ≤ l.length ∧ i = .int .i64 m ∧ t = .int .i64 x ∧ 0 ≤ x ∧ x ≤ 100 ∧ (∀ j (h : j < l.length), j < m → Bk.need l[j] ≤ x) ∧ Below w.heap.size w wr) (fun _ _ i _ => l.length - (intOf i).toNat)
    case atStart => exact ⟨0, 0, by omega, rfl, rfl, by omega, by omega, fun j h1 h2 => by omega, hB3⟩
    case round =>
      obtain ⟨m, x, hm, rfl, rfl, hx1, hx2, hx3, hB⟩ := hrel
      have HX := Lib.hid hx3
      clear hx3 hB3 W2
      by_cases hlt : m < l.length
      · obtain ⟨b, off, rfl, hbl, hc⟩ := H3.out.resolve_left (by intro h; subst h; simp at hlt)
        have hlti : (m : Int) < (l.length : Int) := by omega
        have hm0 : (0 : Int) ≤ (m : Int) := by omega
        obtain ⟨c0, c1, c2⟩ := (hc.below hB hbl) m hlt
        have hblt : b < wr.heap.size := Nat.lt_of_lt_of_le hbl hB.size
        have hgk := HG.out l[m] (List.getElem_mem hlt)
        obtain ⟨z, hz⟩ : ∃ z : Int, (if x < l[m].claim - l[m].held then l[m].claim - l[m].held else x) = z := ⟨_, rfl⟩
        have hz2 : 0 ≤ z ∧ z ≤ 100 ∧ x ≤ z ∧ l[m].claim - l[m].held ≤ z := by obtain ⟨m1, m2, m3, m4⟩ := hgk; split at hz <;> omega
        have hx4 : ∀ j (h : j < l.length), j < m + 1 → Bk.need l[j] ≤ z := by
          intro j h hj
          by_cases e : j = m
          · subst e; unfold Bk.need; omega
          · have := HX.out j h (by omega); omega
        have HX4 := Lib.hid hx4
        have HB := Lib.hid hB
        clear hx4 hc hB
        generalize l[m] = d at c0 c1 c2 hgk hz hz2
        obtain ⟨m1, m2, m3, m4⟩ := hgk
        obtain ⟨z1, z2, z3, z4⟩ := hz2
        go_wp2_with fail
        go_roundw
        case rel => exact ⟨m + 1, z, by omega, by go_num, rfl, z1, z2, HX4.out, HB.out.alloc HB.out.size _⟩
        case measure => simp only [intOf]; omega
      · obtain rfl : m = l.length := by omega
        have htop : Bk.safe x l = true := Bk.safe_top HR.out hx1 (by omega) (fun j h => HX.out j h h)
        have S := safe_sl x _ l wr (HSL.out.below hB)
        rw [htop] at S
        have S := Lib.hid S
        have HB := Lib.hid hB
        clear htop hB HX hlt
        go_wp2_with fail
        refine S.out.mono ?_
        rintro e W2 ⟨rfl, hB2⟩
        have HB2 := Lib.hid (below_then HB.out hB2)
        clear hB2 HB S
        have S := safe_sl f _ l W2 (HSL.out.below HB2.out)
        cases hsf : Bk.safe f l with
        | false =>
          rw [hsf] at S
          have S := Lib.hid S
          clear hsf
          go_wp2_with fail
          refine S.out.mono ?_
          rintro e W3 ⟨rfl, hB3⟩
          have HB3 := Lib.hid (below_then HB2.out hB3)
          clear hB3
          go_wp2_with fail
          refine (awake10 _).mono ?_
          rintro e W4 ⟨rfl, hB⟩
          go_wp2_with fail
          go_ret
          exact ⟨rfl, below_then HB3.out hB⟩
        | true =>
          rw [hsf] at S
          have S := Lib.hid S
          have HSF := Lib.hid hsf
          clear hsf
          obtain ⟨b, off, rfl, hbl, hc⟩ := H3.out.resolve_left h0
          obtain ⟨k, hk⟩ : ∃ k : Nat, y % (l.length : Int) = (k : Int) := ⟨(y % (l.length : Int)).toNat, by have := Int.emod_nonneg y (show (l.length : Int) ≠ 0 by omega); omega⟩
          have hkl : k < l.length := by have := Int.emod_lt_of_pos y (show 0 < (l.length : Int) by omega); omega
          have HC := Lib.hid hc
          clear h0 hc H3
          go_wp2_with fail
          refine S.out.mono ?_
          rintro e W3 ⟨rfl, hB3⟩
          have HB3 := Lib.hid (below_then HB2.out hB3)
          clear hB3 S
          have hbl3 : b < W3.heap.size := Nat.lt_of_lt_of_le hbl HB3.out.size
          have hbwl : w.heap.size ≤ W3.heap.size := HB3.out.size
          have hY : Below w.heap.size w (W3.alloc (.cells #[] 60)) := HB3.out.alloc HB3.out.size _
          have hE : Blk (W3.alloc (.cells #[] 60)) W3.heap.size 60 #[] := Blk.new W3 60 #[]
          have hCl := (HC.out.below hY hbl)
          obtain ⟨i0, hi, hz0, hz1, hz2⟩ := info_parts infoC2
          have HI := Lib.hid (And.intro hi (And.intro hz0 (And.intro hz1 hz2)))
          have hm7 : 0 + l.length ≤ maxLen := by unfold maxLen; omega
          have hm8 : (0 + l.length) * 24 ≤ 140737488355328 := by omega
          have HM := Lib.hid (And.intro hm7 hm8)
          have hemp : World.ownsRow (W3.alloc (.cells #[] 60)) w.heap.size 60 3 (.slice (some ⟨W3.heap.size, 0, none⟩) 0 0) 0 [] := own_empty hE hbwl
          have HCELLS := Lib.hid hCl.cells
          have HOWN := Lib.hid hemp
          have HY := Lib.hid hY
          have HK := Lib.hid hk
          have hki : (k : Int) < (l.length : Int) := by omega
          have hk0 : (0 : Int) ≤ (k : Int) := by omega
          clear hCl hemp hY hE hi hz0 hz1 hz2 hm7 hm8 hk
          go_wp2_with (at_builtin; rw [HK.out]; go_must (refine wpList_append_own _ rfl _ _ 47 rfl w.heap.size 60 i0 (.agg #[.int .i64 0, .int .i64 0, .int .i64 0]) 3 24 Try.underlying47 HI.out.1 HI.out.2.1 HI.out.2.2.1 HI.out.2.2.2 rfl (by decide) _ _ _ rfl HOWN.out ⟨b, off, none⟩ l.length cap (clCells l) rfl (clCells_length l) HCELLS.out (clCells_one l) HM.out.1 HM.out.2 ?c5 ?_))
          case c5 => simp; omega
          intro v' w1 hown1 hgrow _
          have hB6 : Below w.heap.size w w1 := HY.out.grown hgrow (by simp; omega) (own_base HOWN.out)
          obtain ⟨A', c', rfl⟩ := own_form hown1
          rcases hown1.2 with ⟨_, hz⟩ | ⟨g', c'', cur', hv', hg', hh', hcc, hc7, hc8, hc9⟩
          · omega
          simp only [Value.slice.injEq, true_and] at hv'
          obtain ⟨rfl, rfl⟩ := hv'
          have hst := hown1.stored (k * 3 + 2) (.int .i64 0)
          have hg1 : w1.frozen? ⟨g', k * 3 + 2, none⟩ = false := hown1.frozenAt _
          have hg2 : w1.cell? ⟨g', k * 3 + 2, none⟩ = some (.int .i64 l[k].held) := by
            rw [hown1.cellAt (k * 3 + 2) (by omega), clCells_get l k hkl 2 (by omega)]; rfl
          have hB7 : Below w.heap.size w (w1.setCell ⟨g', k * 3 + 2, none⟩ (.int .i64 0)) := hB6.setCell (by exact hg') _
          have hcs := clCells_set l k hkl 0
          rw [hcs] at hst
          have hlen2 : (l.set k ⟨l[k].who, l[k].claim, 0⟩).length = l.length := List.length_set ..
          have hslb : Sl (w1.setCell ⟨g', k * 3 + 2, none⟩ (.int .i64 0)) (.slice (some ⟨g', 0, none⟩) l.length c') (l.set k ⟨l[k].who, l[k].claim, 0⟩) := Sl.of_own (by rw [hlen2]; exact hst.1)
          have hgl : g' < w1.heap.size := Blk.lt (show Blk w1 g' 60 cur' from hh')
          have HB7 := Lib.hid hB7
          have HSLB := Lib.hid hslb
          have hw1 : (w1.setCell ⟨g', k * 3 + 2, none⟩ (.int .i64 0)).heap.size = w1.heap.size := by simp
          have HW1 := Lib.hid hw1
          generalize l[k].held = hd at *
          clear hown1 hgrow hst hslb hB6 hB7 hh' hcs hlen2 hc9 hc8 hw1 HCELLS HOWN HY
          go_wp2_with fail
          generalize w1.setCell ⟨g', k * 3 + 2, none⟩ (.int .i64 0) = W5 at *
          have HC5 := Lib.hid (HC.out.below HB7.out hbl)
          have hbl5 : b < W5.heap.size := Nat.lt_of_lt_of_le hbl HB7.out.size
          have hE : Blk (W5.drew.alloc (.cells #[] 60)) W5.heap.size 60 #[] := Blk.new W5.drew 60 #[]
          have hemp : World.ownsRow (W5.drew.alloc (.cells #[] 60)) W5.heap.size 60 3 (.slice (some ⟨W5.heap.size, 0, none⟩) 0 0) 0 [] := own_empty hE (Nat.le_refl _)
          have hY5 : Below W5.heap.size W5 (W5.drew.alloc (.cells #[] 60)) := ((Below.refl _ _).drew).alloc (Nat.le_refl _) _
          have hcl5 := HC5.out.below hY5 hbl5
          have HN1 := Lib.hid (hcl5.take k).cells
          have HOWN := Lib.hid hemp
          have HY5 := Lib.hid hY5
          have hlk : (l.take k).length = k := by rw [List.length_take]; omega
          have hld : (l.drop (k + 1)).length = l.length - (k + 1) := List.length_drop ..
          have hlk3 : (clCells (l.take k)).length = k * 3 := by rw [clCells_length, hlk]
          have hld3 : (clCells (l.drop (k + 1))).length = (l.length - (k + 1)) * 3 := by rw [clCells_length, hld]
          have hm1 : 0 + k ≤ maxLen := by unfold maxLen; omega
          have hm2 : (0 + k) * 24 ≤ 140737488355328 := by omega
          have hm3 : 0 + k + (l.length - (k + 1)) ≤ maxLen := by unfold maxLen; omega
          have hm4 : (0 + k + (l.length - (k + 1))) * 24 ≤ 140737488355328 := by omega
          have hbs : W5.heap.size ≤ (W5.drew.alloc (.cells #[] 60)).heap.size := hY5.size
          have HM1 := Lib.hid (And.intro hlk3 (And.intro hld3 (And.intro hm1 (And.intro hm2 (And.intro hm3 (And.intro hm4 hbs))))))
          obtain ⟨ad, had, hads⟩ : ∃ ad : Addr, (if cap = k + 1 then some (⟨b, off, none⟩ : Addr) else some ⟨b, off + (k + 1) * 3, none⟩) = some ad ∧ ∀ W, Below W5.heap.size W5 W → ∀ j u, (clCells (l.drop (k + 1)))[j]? = some u → W.cell? (ad.add j) = some u := by
            by_cases hck : cap = k + 1
            · refine ⟨⟨b, off, none⟩, by rw [if_pos hck], ?_⟩
              intro W hW j u hju
              rw [List.drop_eq_nil_of_le (by omega)] at hju
              simp [clCells] at hju
            · refine ⟨⟨b, off + (k + 1) * 3, none⟩, by rw [if_neg hck], ?_⟩
              intro W hW
              exact ((HC5.out.below hW hbl5).drop (k + 1)).cells
          have HADS := Lib.hid hads
          clear hads
          have hkw : IntKind.i64.wrap ((k : Int) + 1) = (k : Int) + 1 := IntWalk.i64_in _ (by omega)
          have hkc : (k : Int) ≤ (cap : Int) := by omega
          have hk1 : (k : Int) + 1 ≤ (l.length : Int) := by omega
          have hk2 : (0 : Int) ≤ (k : Int) + 1 := by omega
          have hk3 : ((k : Int) + 1).toNat = k + 1 := by omega
          clear hemp hE hY5 hlk hld hlk3 hld3 hm1 hm2 hm3 hm4 hbs hcl5
          go_region_law (first
            | (refine step_append_own (W5.drew.alloc (.cells #[] 60)) (by rfl) _ _ 47 (by rfl) W5.heap.size 60 i0 (.agg #[.int .i64 0, .int .i64 0, .int .i64 0]) 3 24 Try.underlying47 HI.out.1 HI.out.2.1 HI.out.2.2.1 HI.out.2.2.2 rfl (by decide) _ 0 [] (by rfl) HOWN.out ⟨b, off, none⟩ k _ (clCells (l.take k)) (by rfl) HM1.out.1 HN1.out (clCells_one _) HM1.out.2.2.1 HM1.out.2.2.2.1 HM1.out.2.2.2.2.2.2 ?_; intro v6 w6 hown6 hgrow6; have hB6 : Below W5.heap.size W5 w6 := HY5.out.grown hgrow6 HM1.out.2.2.2.2.2.2 (own_base HOWN.out))
            | (refine step_append_own w6 (by rfl) _ _ 47 (by rfl) W5.heap.size 60 i0 (.agg #[.int .i64 0, .int .i64 0, .int .i64 0]) 3 24 Try.underlying47 HI.out.1 HI.out.2.1 HI.out.2.2.1 HI.out.2.2.2 rfl (by decide) _ (0 + k) ([] ++ clCells (l.take k)) (by rfl) hown6 ad (l.length - (k + 1)) (cap - (k + 1)) (clCells (l.drop (k + 1))) (by first | rfl | exact congrArg (fun p => Value.slice p (l.length - (k + 1)) (cap - (k + 1))) had) HM1.out.2.1 (HADS.out _ hB6) (clCells_one _) HM1.out.2.2.2.2.1 HM1.out.2.2.2.2.2.1 hB6.size ?_; intro v7 w7 hown7 hgrow7; have hB7 : Below W5.heap.size W5 w7 := hB6.grown hgrow7 hB6.size (own_base hown6)))
          have HB7b := Lib.hid hB7
          have hlen3 : 0 + k + (l.length - (k + 1)) = (l.take k ++ l.drop (k + 1)).length := by rw [List.length_append, List.length_take, List.length_drop]; omega
          rw [List.nil_append, ← clCells_app, hlen3] at hown7
          have hslg : Sl w7 v7 (l.take k ++ l.drop (k + 1)) := Sl.of_own hown7
          have hslb7 := HSLB.out.below hB7
          have hsl7 := HSL.out.below (HB7.out.trans (hB7.mono HB7.out.size))
          have hc7 := (HC5.out.below hB7 hbl5) k hkl
          have HBW := Lib.hid (below_then HB7.out hB7)
          have hgd := HG.out l[k] (List.getElem_mem hkl)
          have hsA : Bk.safe (f + g) l = true := Bk.safe_more HSF.out (by omega) (by omega)
          have hsB := Bk.safe_back hkl HSF.out (by omega)
          have hsG := Bk.safe_gone hkl HSF.out (by omega)
          have hbl7 : b < w7.heap.size := Nat.lt_of_lt_of_le hbl HBW.out.size
          have S := safe_sl (f + g) _ l w7 hsl7
          rw [hsA] at S
          have S := Lib.hid S
          have HC7 := Lib.hid ((HC5.out.below hB7 hbl5))
          have HSLB7 := Lib.hid hslb7
          have HSLG7 := Lib.hid hslg
          have HGD := Lib.hid hgd
          have HSB := Lib.hid hsB
          have HSG := Lib.hid hsG
          obtain ⟨A7, c7, rfl⟩ := own_form hown7
          rw [← hlen3] at *
          clear hc7 hslb7 hslg hsl7 hown7 hgrow7 hB7 hown6 hgrow6 hB6 hsA hsB hsG hgd
          go_wp2_with fail
          refine S.out.mono ?_
          rintro e W8 ⟨rfl, hB8⟩
          have hsb8 := HSLB7.out.below hB8
          have HSLG8 := Lib.hid (HSLG7.out.below hB8)
          have hc8 := HC7.out.below hB8 hbl7
          obtain ⟨c0, c1, c2⟩ := hc8 k hkl
          have hbl8 : b < W8.heap.size := Nat.lt_of_lt_of_le hbl7 hB8.size
          have HC8 := Lib.hid hc8
          have HB8 := Lib.hid (below_then HBW.out hB8)
          have S2 := safe_sl (f + l[k].held) _ _ W8 hsb8
          rw [HSB.out] at S2
          have HSG2 := Lib.hid HSG.out
          have hgk := HGD.out
          obtain ⟨hh, hhe⟩ : ∃ hh, l[k].held = hh := ⟨_, rfl⟩
          have HHE := Lib.hid hhe
          rw [hhe] at c2 S2
          have hh0 : 0 ≤ hh ∧ hh ≤ 100 := by omega
          obtain ⟨hh1, hh2⟩ := hh0
          have hmin : f + hh ≤ 1000 := by omega
          have S2 := Lib.hid S2
          clear hsb8 hc8 hgk hhe c0 c1 hB8 S
          go_wp2_with fail
          refine S2.out.mono ?_
          rintro e W9 ⟨rfl, hB9⟩
          obtain ⟨c0, c1, c2⟩ := HC8.out.below hB9 hbl8 k hkl
          have S3 := safe_sl (f + l[k].held) _ _ W9 (HSLG8.out.below hB9)
          rw [HSG2.out] at S3
          rw [HHE.out] at c2 S3
          rw [Nat.zero_add] at S3
          have S3 := Lib.hid S3
          have hbl9 : b < W9.heap.size := Nat.lt_of_lt_of_le hbl8 hB9.size
          have HB9 := Lib.hid (below_then HB8.out hB9)
          clear c0 c1 hB9
          go_wp2_with fail
          refine S3.out.mono ?_
          rintro e Wa ⟨rfl, hBa⟩
          have HBa := Lib.hid (below_then HB9.out hBa)
          clear hBa
          go_wp2_with fail
          refine (awake10 _).mono ?_
          rintro e Wb ⟨rfl, hBb⟩
          go_wp2_with fail
          go_ret
          exact ⟨rfl, below_then HBa.out hBb⟩
end Go.Proofs.Ytjdjdojmgoibbaa
