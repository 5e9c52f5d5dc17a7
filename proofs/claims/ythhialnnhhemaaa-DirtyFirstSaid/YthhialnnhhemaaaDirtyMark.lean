/- LAYER 14, walked: copies, one less. Conditions: the slices lead to the items; fewer than a million. -/
import Derived.Test.YthhialnnhhemaaaDirtyDue
import Derived.Test.YthhialnnhhemaaaRows3
namespace Go.Proofs.Ythhialnnhhemaaa
open Go.RowKit
set_option linter.unusedVariables false

theorem infoIt : (Try.prog.info? 61).map (fun i => (i.zero, i.size, i.bytes)) = some (some (.agg #[.int .i64 0, .int .i64 0]), 2, 16) := by kernel_rfl
theorem eql_nil_it (a : Option Addr) (n c : Nat) (w : World) : (binOp .eql 47 (.slice a n c) (.slice none 0 0)).run Try.prog w = .ok (.bool a.isNone) w := by
  simp [binOp, run_equal_slice_nil (P := Try.prog) w 47 61 a n c Try.underlying47]
set_option maxRecDepth 100000 in
set_option maxHeartbeats 800000 in
theorem clone_any (v : Value) (l : List It) (w : World) (h : itE.Sl w v l) (h40 : l.length ≤ 1000000) :
    Calls Try.prog 43 #[v] w fun e w' => CopiesIt w.heap.size 61 l e w' ∧ Below w.heap.size w w' := by
  obtain ⟨A, cap, rfl, h1, h2, h0, h3⟩ := h
  unfold maxLen at h2
  have heq := eql_nil_it
  cases A with
  | none =>
    have := h0 rfl
    obtain rfl := List.eq_nil_of_length_eq_zero (by omega : l.length = 0)
    subst this
    clear h3 h0
    go_enter Try.func43, Try.ntmps43
    go_wp2_with fail
    go_ret
    exact ⟨⟨_, rfl, Enc.Own.nil _ _ _⟩, Below.refl _ _⟩
  | some ad =>
    have hY : Below w.heap.size w (w.alloc (.cells #[] 61)) := (Below.refl _ _).alloc (Nat.le_refl _) _
    have hcl : ∀ j u, (itE.flat l)[j]? = some u → (w.alloc (.cells #[] 61)).cell? (ad.add j) = some u := by
      by_cases hl : 0 < l.length
      · obtain ⟨b, off, hA, hbl, hc⟩ := h3 hl
        obtain rfl : ad = ⟨b, off, none⟩ := by simpa using hA
        exact (hc.below hY hbl).cells
      · obtain rfl := List.eq_nil_of_length_eq_zero (by omega : l.length = 0)
        intro j u hj; simp [Enc.flat] at hj
    have hE : Blk (w.alloc (.cells #[] 61)) w.heap.size 61 #[] := Blk.new w 61 #[]
    have HCELLS := Lib.hid hcl
    have HOWN := Lib.hid (own_empty (size := 2) hE (Nat.le_refl _))
    have HY := Lib.hid hY
    obtain ⟨i0, hi, hz0, hz1, hz2⟩ := info_parts infoIt
    have hm7 : 0 + l.length ≤ maxLen := by unfold maxLen; omega
    have hm8 : (0 + l.length) * 16 ≤ 140737488355328 := by omega
    clear h3 h0 hcl hE hY
    go_enter Try.func43, Try.ntmps43
    go_wp2_with (at_builtin; go_must (refine wpList_append_own _ rfl _ _ 47 rfl w.heap.size 61 i0 (.agg #[.int .i64 0, .int .i64 0]) 2 16 Try.underlying47 hi hz0 hz1 hz2 rfl (by decide) _ _ _ rfl HOWN.out ad l.length cap (itE.flat l) rfl (itE.flat_length l) HCELLS.out (itE.flat_one l) hm7 hm8 ?c5 ?_))
    try (case c5 => simp)
    intro v' w1 hown1 hgrow _
    have hB1 : Below w.heap.size w w1 := HY.out.grown hgrow (by simp) (own_base HOWN.out)
    go_wp2_with fail
    go_ret
    exact ⟨⟨_, rfl, hown1⟩, hB1⟩

/-- the row behind the move, and behind the clearing -/
def eraseMove (cur : Array Value) (k : Nat) (xs : List Value) : Array Value := (cur.toList.take (k * 2) ++ xs ++ cur.toList.drop (k * 2 + xs.length)).toArray
def eraseClear (cur : Array Value) (n : Nat) (z : Value) : Array Value := (cur.toList.take (n * 2) ++ (Builtin.zeroCells z.cells 1).toList ++ cur.toList.drop (n * 2 + 1 * z.cells.size)).toArray
def itZero : Value := .agg #[.int .i64 0, .int .i64 0]
theorem itZero_size : itZero.cells.size = 2 := rfl
theorem move_size {cur : Array Value} {k n cap : Nat} {xs : List Value} (hx : xs.length = (n - k) * 2) (h5 : cur.size = cap * 2) (hkn : k ≤ n) (hnc : n + 1 ≤ cap) : (eraseMove cur k xs).size = cap * 2 := by
  unfold eraseMove
  simp only [List.size_toArray, List.length_append, List.length_take, List.length_drop, Array.length_toList]
  omega
theorem erase_fit {cur : Array Value} {k n cap : Nat} {xs : List Value} (hx : xs.length = (n - k) * 2) (h5 : cur.size = cap * 2) (hkn : k ≤ n) (hnc : n + 1 ≤ cap) : n * 2 + 1 * itZero.cells.size ≤ (eraseMove cur k xs).size := by
  rw [move_size hx h5 hkn hnc, itZero_size]; omega
theorem erase_size {cur : Array Value} {k n cap : Nat} {xs : List Value} (hx : xs.length = (n - k) * 2) (h5 : cur.size = cap * 2) (hkn : k ≤ n) (hnc : n + 1 ≤ cap) : (eraseClear (eraseMove cur k xs) n itZero).size = cap * 2 := by
  have h := move_size hx h5 hkn hnc
  unfold eraseClear
  simp only [List.size_toArray, List.length_append, List.length_take, List.length_drop, Array.length_toList, size_zeroCells, itZero_size]
  omega
theorem erase_cells {cur : Array Value} {k n cap : Nat} {l : List It} (hx : (itE.flat (l.drop (k + 1))).length = (n - k) * 2) (h5 : cur.size = cap * 2) (h6 : cur.toList.take (l.length * 2) = itE.flat l) (hl : l.length = n + 1) (hkn : k ≤ n) (hnc : n + 1 ≤ cap) :
    (eraseClear (eraseMove cur k (itE.flat (l.drop (k + 1)))) n itZero).toList.take (n * 2) = itE.flat (l.eraseIdx k) := by
  have h := move_size hx h5 hkn hnc
  have e1 : (eraseClear (eraseMove cur k (itE.flat (l.drop (k + 1)))) n itZero).toList.take (n * 2) = (eraseMove cur k (itE.flat (l.drop (k + 1)))).toList.take (n * 2) := by
    unfold eraseClear
    have hl1 : ((eraseMove cur k (itE.flat (l.drop (k + 1)))).toList.take (n * 2)).length = n * 2 := by rw [List.length_take, Array.length_toList, h]; omega
    show List.take (n * 2) (_ ++ _ ++ _) = _
    rw [List.append_assoc, List.take_append_of_le_length (by rw [hl1]; exact Nat.le_refl _), List.take_of_length_le (by rw [hl1]; exact Nat.le_refl _)]
  have hck : (cur.toList.take (k * 2)).length = k * 2 := by rw [List.length_take, Array.length_toList, h5]; omega
  have e2 : (eraseMove cur k (itE.flat (l.drop (k + 1)))).toList.take (n * 2) = cur.toList.take (k * 2) ++ itE.flat (l.drop (k + 1)) := by
    unfold eraseMove
    show List.take (n * 2) (_ ++ _ ++ _) = _
    have hl2 : (cur.toList.take (k * 2) ++ itE.flat (l.drop (k + 1))).length = n * 2 := by rw [List.length_append, hck, hx]; omega
    rw [List.take_append_of_le_length (by rw [hl2]; exact Nat.le_refl _), List.take_of_length_le (by rw [hl2]; exact Nat.le_refl _)]
  have e3 : cur.toList.take (k * 2) = itE.flat (l.take k) := by
    have := Enc.flat_take (E := itE) l k (by omega)
    rw [← this, ← h6, List.take_take]
    congr 1
    have : itE.n = 2 := rfl
    rw [this]
    omega
  rw [e1, e2, e3, ← Enc.flat_append, ← List.eraseIdx_eq_take_drop_succ]
set_option maxRecDepth 100000 in
set_option maxHeartbeats 1600000 in
theorem delete_any (l : List It) (k : Nat) (u : Value) (B : Nat) (w : World) (h : itE.Own w B 61 u l) (hk : k < l.length) (h40 : l.length ≤ 1000000) :
    Calls Try.prog 44 #[u, .int .i64 k, .int .i64 ((k : Int) + 1)] w fun e w' => CopiesIt B 61 (l.eraseIdx k) e w' ∧ Below B w w' := by
  obtain ⟨g, cap, cur, rfl, hg, hb, h3, h4, h5, h6⟩ := h.blk (by omega)
  unfold maxLen at h4
  have hEn : itE.n = 2 := rfl
  rw [hEn] at h5 h6
  obtain ⟨n, hn⟩ : ∃ n, l.length = n + 1 := ⟨l.length - 1, by omega⟩
  have hatl : itE.At w g 0 l := Enc.At.of_blk hb (by
    intro j v hv
    rw [← h6, List.getElem?_take] at hv
    split at hv
    · simpa using hv
    · simp at hv)
  obtain ⟨ad, had, hads⟩ : ∃ ad : Addr, (if cap = k + 1 then some (⟨g, 0, none⟩ : Addr) else some ⟨g, (k + 1) * 2, none⟩) = some ad ∧ ∀ j u, (itE.flat (l.drop (k + 1)))[j]? = some u → w.drew.cell? (ad.add j) = some u := by
    by_cases hck : cap = k + 1
    · refine ⟨⟨g, 0, none⟩, by rw [if_pos hck], ?_⟩
      intro j u hju
      rw [List.drop_eq_nil_of_le (by omega)] at hju
      simp [Enc.flat] at hju
    · refine ⟨⟨g, (k + 1) * 2, none⟩, by rw [if_neg hck], ?_⟩
      have := (hatl.drop (k + 1)).cells
      rw [Nat.zero_add, hEn] at this
      exact this
  have hld : (itE.flat (l.drop (k + 1))).length = (n - k) * 2 := by rw [itE.flat_length, List.length_drop, hn, hEn]; congr 1; omega
  have HLD := Lib.hid hld
  have HADS := Lib.hid hads
  have HB := Lib.hid hb.drew
  have H6 := Lib.hid h6
  have HL := Lib.hid hn
  obtain ⟨i0, hi, hz0, hz1, hz2⟩ := info_parts infoIt
  have HI := Lib.hid (And.intro hi (And.intro hz0 (And.intro hz1 hz2)))
  rw [hn]
  have hkn : k ≤ n := by omega
  have hnc : n + 1 ≤ cap := by omega
  have hfit : k * 2 + (itE.flat (l.drop (k + 1))).length ≤ cur.size := by rw [hld, h5]; omega
  have HF := Lib.hid hfit
  have hn40 : n ≤ 1000000 := by omega
  have hbnd : (k : Int) ≤ (n : Int) ∧ (n : Int) + 1 ≤ (cap : Int) ∧ (cap : Int) ≤ 9223372036854775807 := by omega
  obtain ⟨hb1, hb2, hb3⟩ := hbnd
  have hk0 : (0 : Int) ≤ (k : Int) := by omega
  have hk1 : (k : Int) + 1 ≤ (n : Int) + 1 := by omega
  have hk2 : (0 : Int) ≤ (k : Int) + 1 := by omega
  have hk3 : ((k : Int) + 1).toNat = k + 1 := by omega
  have hk4 : (k : Int) ≤ (k : Int) + 1 := by omega
  have hk5 : ((k : Int) == (k : Int) + 1) = false := by rw [beq_eq_false_iff_ne]; omega
  have hkc : k + 1 ≤ cap := by omega
  have hkcap : k ≤ cap := by omega
  have hnk : n + 1 - (k + 1) = n - k := by omega
  have H5 := Lib.hid h5
  clear h hb hatl hads hld h6 hn hi hz0 hz1 hz2 hfit h5 h40 hk h3
  go_enter Try.func44, Try.ntmps44
  go_wp2_with fail
  go_region_law (first
    | (refine step_append_room w.drew (by rfl) _ _ 47 (by rfl) 61 i0 2 Try.underlying47 HI.out.1 HI.out.2.2.1 g k cap cur HB.out (by rfl) ad (n - k) (cap - (k + 1)) (itE.flat (l.drop (k + 1))) (by first | rfl | exact congrArg (fun p => Value.slice p (n - k) (cap - (k + 1))) had) HLD.out HADS.out (itE.flat_one _) n (by omega) (by omega) HF.out ?_; intro w6 hblk6 hbel6))
  have hn1 : (0 : Int) ≤ (n : Int) + 1 := by omega
  have hn2 : ((n : Int) + 1).toNat = n + 1 := by omega
  have hn3 : (n : Int) ≤ (n : Int) + 1 := by omega
  have hn4 : ¬ cap = n := by omega
  have hn5 : n ≤ cap := by omega
  have hn6 : n + 1 - n = 1 := by omega
  have HB6 := Lib.hid hblk6
  have HBE := Lib.hid hbel6
  clear hblk6 hbel6
  obtain ⟨w7, hrun7, hb7, hbel7⟩ := run_clear (P := Try.prog) w6 47 0 61 i0 itZero Try.underlying47 HI.out.1 HI.out.2.1 (by intro u hu; simp [itZero, Value.cells] at hu; subst hu; rfl) g (n * 2) 1 (cap - n) _ HB6.out (by decide) (erase_fit HLD.out H5.out hkn hnc)
  have hlen : (l.eraseIdx k).length = n := by rw [List.length_eraseIdx, if_pos (by rw [HL.out]; exact Nat.lt_succ_of_le hkn), HL.out]; rfl
  have hcells := erase_cells HLD.out H5.out H6.out HL.out hkn hnc
  have hown7 : itE.Own w7 B 61 (.slice (some ⟨g, 0, none⟩) (l.eraseIdx k).length cap) (l.eraseIdx k) := Enc.Own.of_blk hg hb7 (by omega) (by unfold maxLen; omega) (by rw [hEn]; exact erase_size HLD.out H5.out hkn hnc) (by rw [hEn, hlen]; exact hcells)
  have hB7 : Below B w w7 := ((((Below.refl _ _).drew).trans (HBE.out B hg)).trans (hbel7 B hg))
  rw [hlen] at hown7
  clear hcells hb7 hbel7
  go_wp2_with fail
  go_ret
  exact ⟨⟨_, rfl, hown7⟩, hB7⟩
end Go.Proofs.Ythhialnnhhemaaa
