/- LAYER 9, walked: who is touched; the laws' fixed answer. Conditions: the slice leads to the frames. -/
import Derived.Test.YthhialnnhhemaaaClockSweep2
namespace Go.Proofs.Ythhialnnhhemaaa
open Go.RowKit
set_option linter.unusedVariables false

theorem sweep_is (v : Value) (l : List Fr) (H N a b : Nat) (out : List Fr) (w : World) (hs : frE.Sl w v l) (hr : Ck.right l (H : Int) = true) (hN : Ck.stop l H = some N) (h1 : Ck.after l H N = out) (h2 : (H + N) % l.length = a) (h3 : (H + N + 1) % l.length = b) :
    Calls Try.prog 16 #[.agg #[v, .int .i64 H]] w fun e w' => (∃ u, e = .returned (.tuple #[.agg #[u, .int .i64 b], .int .i64 a, .bool true]) ∧ frE.Own w' w.heap.size 42 u out) ∧ Below w.heap.size w w' :=
  (sweep_yes v l H N w hs hr hN).mono fun e w' ⟨⟨u, he, ho⟩, hB⟩ => ⟨⟨u, by rw [he, h2, h3], by rw [← h1]; exact ho⟩, hB⟩

def Ck.touch' (l : List Fr) (h n : Int) : List Fr := if Ck.right l h && decide (0 ≤ n ∧ n < (l.length : Int)) then Ck.touch l n.toNat else l
set_option maxRecDepth 100000 in
set_option maxHeartbeats 800000 in
theorem touch_any (v : Value) (l : List Fr) (h n : Int) (w : World) (hs : frE.Sl w v l) :
    Calls Try.prog 17 #[.agg #[v, .int .i64 h], .int .i64 n] w fun e w' => (∃ u, e = .returned (.agg #[u, .int .i64 h]) ∧ frE.Sl w' u (Ck.touch' l h n)) ∧ Below w.heap.size w w' := by
  have HS := Lib.hid hs
  obtain ⟨A, cap, rfl, _⟩ := hs
  have hY : Below w.heap.size w ((w.alloc (.cells #[.slice A l.length cap, .int .i64 h] 24)).alloc (.cells #[.slice none 0 0, .int .i64 0] 24)) := ((Below.refl _ _).alloc (Nat.le_refl _) _).alloc (by simp) _
  have hb1 : Blk ((w.alloc (.cells #[.slice A l.length cap, .int .i64 h] 24)).alloc (.cells #[.slice none 0 0, .int .i64 0] 24)) w.heap.size 24 #[.slice A l.length cap, .int .i64 h] := (Blk.new w _ _).alloc _
  have hb2 : Blk ((w.alloc (.cells #[.slice A l.length cap, .int .i64 h] 24)).alloc (.cells #[.slice none 0 0, .int .i64 0] 24)) (w.heap.size + 1) 24 #[.slice none 0 0, .int .i64 0] := by
    have := Blk.new (w.alloc (.cells #[.slice A l.length cap, .int .i64 h] 24)) 24 #[.slice none 0 0, .int .i64 0]
    simpa using this
  have HY := Lib.hid hY
  have HB1 := Lib.hid hb1
  have HB2 := Lib.hid hb2
  have S := cright_any (.slice A l.length cap) l h _ (HS.out.below hY)
  have SH := fun W hw => has_any (.slice A l.length cap) l h n W hw
  clear hY hb1 hb2
  unfold Ck.touch'
  cases hr : Ck.right l h with
  | false =>
    rw [hr] at S
    rw [Bool.false_and, if_neg (by decide)]
    have S := Lib.hid S
    clear hr SH
    go_enter Try.func17, Try.ntmps17
    go_wp2_with fail
    refine S.out.mono ?_
    rintro e W1 ⟨rfl, hB1⟩
    have hb := HY.out.trans (hB1.mono HY.out.size)
    have hx2 := HB2.out.keep hB1
    obtain ⟨f10, f11, y10, y11, l1⟩ := pair_cells (HB1.out.keep hB1)
    obtain ⟨f20, f21, z20, z21, l2⟩ := pair_cells hx2
    obtain ⟨d0, d1, d2, _⟩ := pair_stored hx2 (.slice A l.length cap) (.int .i64 h)
    have hf : Below w.heap.size w ((W1.setCell ⟨w.heap.size + 1, 0, none⟩ (.slice A l.length cap)).setCell ⟨w.heap.size + 1, 1, none⟩ (.int .i64 h)) := (hb.setCell (by simp) _).setCell (by simp) _
    clear hB1 hx2 S
    go_wp2_with fail
    exact bodyPost_ret (v := .agg #[.slice A l.length cap, .int .i64 h]) (by simp [results, Try.results17, go_sem, d1, d2]) rfl ⟨⟨_, rfl, HS.out.below hf⟩, hf⟩
  | true =>
    rw [hr] at S
    rw [Bool.true_and]
    have S := Lib.hid S
    by_cases hn : 0 ≤ n ∧ n < (l.length : Int)
    case neg =>
      rw [decide_eq_false hn] at SH ⊢
      rw [if_neg (by decide)]
      have SH := Lib.hid SH
      clear hr hn
      go_enter Try.func17, Try.ntmps17
      go_wp2_with fail
      refine S.out.mono ?_
      rintro e W0 ⟨rfl, hB0⟩
      have hb0 := HY.out.trans (hB0.mono HY.out.size)
      have HB1 := Lib.hid (HB1.out.keep hB0)
      have HB2 := Lib.hid (HB2.out.keep hB0)
      obtain ⟨f10, f11, y10, y11, l1⟩ := pair_cells HB1.out
      have SS := Lib.hid (SH.out W0 (HS.out.below hb0))
      clear hB0 S
      go_wp2_with fail
      refine SS.out.mono ?_
      rintro e W1 ⟨rfl, hB1⟩
      have hb := hb0.trans (hB1.mono hb0.size)
      have hx2 := HB2.out.keep hB1
      clear f10 f11 y10 y11 l1
      obtain ⟨f10, f11, y10, y11, l1⟩ := pair_cells (HB1.out.keep hB1)
      obtain ⟨f20, f21, z20, z21, l2⟩ := pair_cells hx2
      obtain ⟨d0, d1, d2, _⟩ := pair_stored hx2 (.slice A l.length cap) (.int .i64 h)
      have hf : Below w.heap.size w ((W1.setCell ⟨w.heap.size + 1, 0, none⟩ (.slice A l.length cap)).setCell ⟨w.heap.size + 1, 1, none⟩ (.int .i64 h)) := (hb.setCell (by simp) _).setCell (by simp) _
      clear hB1 hx2 SS hb0
      go_wp2_with fail
      exact bodyPost_ret (v := .agg #[.slice A l.length cap, .int .i64 h]) (by simp [results, Try.results17, go_sem, d1, d2]) rfl ⟨⟨_, rfl, HS.out.below hf⟩, hf⟩
    rw [decide_eq_true hn] at SH ⊢
    rw [if_pos rfl]
    have SH := Lib.hid SH
    obtain ⟨k, rfl⟩ : ∃ k : Nat, n = (k : Int) := ⟨n.toNat, by omega⟩
    have hk : k < l.length := by omega
    rw [Int.toNat_natCast]
    have hl8 := (Ck.right_parts hr).1
    have CL := Lib.hid (fun W hw => fclone_any (.slice A l.length cap) l W hw (by omega))
    have hki : (k : Int) < (l.length : Int) := hn.2
    have hk0 : (0 : Int) ≤ (k : Int) := hn.1
    clear hr hn
    go_enter Try.func17, Try.ntmps17
    go_wp2_with fail
    refine S.out.mono ?_
    rintro e W0 ⟨rfl, hB0⟩
    have hb0 := HY.out.trans (hB0.mono HY.out.size)
    have HB1 := Lib.hid (HB1.out.keep hB0)
    have HB2 := Lib.hid (HB2.out.keep hB0)
    obtain ⟨f10, f11, y10, y11, l1⟩ := pair_cells HB1.out
    have SS := Lib.hid (SH.out W0 (HS.out.below hb0))
    clear hB0 S
    go_wp2_with fail
    refine SS.out.mono ?_
    rintro e W1 ⟨rfl, hB1⟩
    have hb := hb0.trans (hB1.mono hb0.size)
    have HB1 := Lib.hid (HB1.out.keep hB1)
    have HB2 := Lib.hid (HB2.out.keep hB1)
    clear f10 f11 y10 y11 l1 hB1 SS hb0
    obtain ⟨f10, f11, y10, y11, l1⟩ := pair_cells HB1.out
    have CC := Lib.hid (CL.out W1 (HS.out.below hb))
    go_wp2_with fail
    refine CC.out.mono ?_
    rintro e W2 ⟨⟨u, rfl, hown⟩, hB2⟩
    have hsz1 := hb.size
    have hb := hb.trans (hB2.mono hb.size)
    have hx1 := HB1.out.keep hB2
    have hx2 := HB2.out.keep hB2
    clear f10 f11 y10 y11 l1 hB2 CC
    obtain ⟨g, cap2, _, rfl, hgb, _, _, _, _, _⟩ := hown.blk (by omega)
    have hown := hown.mono hsz1
    -- the box is given the copy; then a flag of the copy turns
    have hx1' : Blk (W2.setCell ⟨w.heap.size, 0, none⟩ (.slice (some ⟨g, 0, none⟩) l.length cap2)) w.heap.size 24 #[.slice (some ⟨g, 0, none⟩) l.length cap2, .int .i64 h] := by
      have := hx1.put 0 (.slice (some ⟨g, 0, none⟩) l.length cap2); simpa using this
    have hx2' : Blk (W2.setCell ⟨w.heap.size, 0, none⟩ (.slice (some ⟨g, 0, none⟩) l.length cap2)) (w.heap.size + 1) 24 #[.slice none 0 0, .int .i64 0] := hx2.far (by simp) _
    have hown' : frE.Own (W2.setCell ⟨w.heap.size, 0, none⟩ (.slice (some ⟨g, 0, none⟩) l.length cap2)) w.heap.size 42 (.slice (some ⟨g, 0, none⟩) l.length cap2) l := own_put hown hx1 (by decide) 0 _
    have hb' : Below w.heap.size w (W2.setCell ⟨w.heap.size, 0, none⟩ (.slice (some ⟨g, 0, none⟩) l.length cap2)) := hb.setCell (Nat.le_refl _) _
    obtain ⟨f10, f11, y10, y11, l1⟩ := pair_cells hx1
    obtain ⟨g10, g11, u10, u11, m1⟩ := pair_cells hx1'
    obtain ⟨c0, c1, c2, c3, c4⟩ := fr_own hown' k hk
    obtain ⟨hos, hgr⟩ := fr_stored hown' k hk true
    have hn1 : some g ≠ some w.heap.size := own_ne hown' hx1' (by decide)
    have hn2 : some g ≠ some (w.heap.size + 1) := own_ne hown' hx2' (by decide)
    have hx1s := hx1'.grown hgr hn1
    have hx2s := hx2'.grown hgr hn2
    have hbs := hb'.setCell (p := ⟨g, k * 3 + 2, none⟩) (by have := hsz1; simp; omega) (.bool true)
    obtain ⟨j10, j11, v10, v11, o1⟩ := pair_cells hx1s
    obtain ⟨j20, j21, v20, v21, o2⟩ := pair_cells hx2s
    have htl : (Ck.touch l k).length = l.length := Ck.touch_length l k
    have hte : l.set k { l[k] with used := true } = Ck.touch l k := by unfold Ck.touch; rw [Ck.set_eq_modify hk]
    rw [hte] at hos
    obtain ⟨d0, d1, d2, _⟩ := pair_stored hx2s (.slice (some ⟨g, 0, none⟩) l.length cap2) (.int .i64 h)
    have hf := (hbs.setCell (p := ⟨w.heap.size + 1, 0, none⟩) (by simp) (.slice (some ⟨g, 0, none⟩) l.length cap2)).setCell (p := ⟨w.heap.size + 1, 1, none⟩) (by simp) (.int .i64 h)
    have ho1 := own_put hos hx2s (by decide) 0 (.slice (some ⟨g, 0, none⟩) l.length cap2)
    have ho2 := own_put ho1 (hx2s.put 0 (.slice (some ⟨g, 0, none⟩) l.length cap2)) (by decide) 1 (.int .i64 h)
    have hsl : frE.Sl _ (.slice (some ⟨g, 0, none⟩) l.length cap2) (Ck.touch l k) := Enc.Own.sl (E := frE) (l := Ck.touch l k) ho2
    have HFIN := Lib.hid (And.intro hsl hf)
    have hkl : k < l.length := hk
    have hw : w.heap.size ≠ g := fun e => hn1 (by rw [e])
    clear hown hx1 hx2 hx1' hx2' hown' hb' hos hgr hx1s hx2s hbs htl hte hf ho1 ho2 hsl hb hn1 hn2
    go_wp2_with fail
    refine bodyPost_ret (v := .agg #[.slice (some ⟨g, 0, none⟩) l.length cap2, .int .i64 h]) (by simp [results, Try.results17, go_sem, d1, d2]) rfl ⟨⟨_, rfl, HFIN.out.1⟩, HFIN.out.2⟩
end Go.Proofs.Ythhialnnhhemaaa
