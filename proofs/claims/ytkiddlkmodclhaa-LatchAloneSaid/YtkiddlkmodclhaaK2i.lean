/- layer 8: slices.Insert. -/
import Derived.Test.YtkiddlkmodclhaaInsKit
import Derived.Test.YtkiddlkmodclhaaProg
import Derived.Test.YtkiddlkmodclhaaAm22
import Derived.KernelRfl
import Derived.Shelf.RegionOpenPlain
import Derived.WalkKit
import Derived.ProofKit
namespace Go.Proofs.Ytkiddlkmodclhaa
open Go.RowKit
set_option linter.unusedVariables false
set_option linter.unusedSimpArgs false
theorem insinfoIn : (Try.prog.info? 3).map (fun i => (i.zero, i.size, i.bytes)) = some (some (.int .i64 0), 1, 8) := by kernel_rfl
theorem insszIn : (Try.prog.info? 3).map (·.size) = some 1 := by kernel_rfl
theorem insovIn {w : World} {vb voff vc g off lb cb : Nat} (hvb : vb ≠ g) {va : Value} (hca : w.cell? ⟨vb, voff, none⟩ = some va) {cur : Array Value} (hb : Blk w g 3 cur) (hpos : 0 < cur.size) :
    (callFunc 79 #[.slice (some ⟨vb, voff, none⟩) 1 vc, .slice (some ⟨g, off, none⟩) lb cb]).run Try.prog w = .ok (.value (.bool false)) w := by
  obtain ⟨i0, hi, hz0, hz1, hz2⟩ := info_parts insinfoIn
  rw [run_callFunc_extern Try.func79 (by kernel_rfl) (by kernel_rfl) (by kernel_rfl) (e := Extern.SlicesOverlaps.overlaps #[31, 31] #[4]) (by kernel_rfl),
    Ins.run_overlaps w 31 4 3 Try.underlying31 1 (fun w => by rw [run_sizeOf' hi, hz1]) ⟨vb, voff, none⟩ ⟨g, off, none⟩ 1 vc lb cb hvb va hca 3 cur hb hpos]
  rfl
set_option maxRecDepth 100000 in
set_option maxHeartbeats 1600000 in
theorem insIn_endroom (g cap n vb voff vc : Nat) (cur : Array Value) (us vs : List Value) (w : World) (hb : Blk w g 3 cur) (h5 : cur.size = cap * 1) (h4 : cap ≤ maxLen) (hnc : n + 1 ≤ cap) (hn40 : n ≤ 1000000) (h6 : cur.toList.take (n * 1) = us) (hvl : vs.length = 1 * 1) (hvs : ∀ j u, vs[j]? = some u → w.cell? ((⟨vb, voff, none⟩ : Addr).add j) = some u) (h1v : ∀ u ∈ vs, u.oneCell' = true) :
    Calls Try.prog 63 #[.slice (some ⟨g, 0, none⟩) n cap, .int .i64 n, .slice (some ⟨vb, voff, none⟩) 1 vc] w fun e w' => ∃ v, e = .returned v ∧ Ins.Done w g n n us vs 3 1 v w' := by
  unfold maxLen at h4
  obtain ⟨i0, hi, hz0, hz1, hz2⟩ := info_parts insinfoIn
  have hrun : ∀ ty, (Builtin.append_ #[31, 31] ty #[.slice (some ⟨g, 0, none⟩) n cap, .slice (some ⟨vb, voff, none⟩) 1 vc]).run Try.prog w = _ := fun ty =>
    run_append_room w 31 ty 3 i0 Try.underlying31 hi g n cap cur hb ⟨vb, voff, none⟩ 1 vc vs (by rw [hz1]; exact hvl) hvs h1v hnc (by rw [hz1, h5, hvl]; omega)
  rw [hz1] at hrun
  have hcl : cur.toList.length = cap * 1 := by rw [Array.length_toList, h5]
  have hul : us.length = n * 1 := by rw [← h6, List.length_take, hcl]; omega
  obtain ⟨W6, hrun, hfin⟩ : ∃ W6, (∀ ty, (Builtin.append_ #[31, 31] ty #[.slice (some ⟨g, 0, none⟩) n cap, .slice (some ⟨vb, voff, none⟩) 1 vc]).run Try.prog w = .ok (.slice (some ⟨g, 0, none⟩) (n + 1) cap) W6) ∧ Ins.Done w g n n us vs 3 1 (.slice (some ⟨g, 0, none⟩) (n + 1) cap) W6 := by
    refine ⟨_, hrun, g, cap, _, rfl, hb.setRow _, by rw [Ins.seg_size _ _ _ (by rw [h5, hvl]; omega), h5], hnc, h4, ?_, .inl ⟨rfl, Del.keptRow _ _ _⟩⟩
    have e1 : us.drop (n * 1) = [] := List.drop_eq_nil_of_le (by omega)
    have e2 : us.take (n * 1) = us := List.take_of_length_le (by omega)
    show List.take _ (_ ++ _ ++ _) = _
    rw [h6, e1, e2, List.append_nil, List.take_append_of_le_length (by simp; omega), List.take_of_length_le (by simp; omega)]
  have HFIN := Lib.hid hfin
  have HR := Lib.hid hrun
  have hn0 : (0 : Int) ≤ (n : Int) := by omega
  clear hrun hfin hb h5 h6 hi
  go_enter Try.func63, Try.ntmps63
  go_wp2_with (at_builtin; refine Lib.wpList_append_run _ rfl _ _ _ _ rfl _ _ rfl rfl _ _ (HR.out _) ?_)
  go_ret
  exact ⟨_, rfl, HFIN.out⟩
set_option maxRecDepth 100000 in
set_option maxHeartbeats 1600000 in
theorem insIn_endgrow (g cap n vb voff vc : Nat) (cur : Array Value) (us vs : List Value) (w : World) (hb : Blk w g 3 cur) (h5 : cur.size = cap * 1) (h4 : cap ≤ maxLen) (hnc : cap < n + 1) (hn : n ≤ cap) (hn40 : n ≤ 1000000) (h6 : cur.toList.take (n * 1) = us) (hvl : vs.length = 1 * 1) (hvs : ∀ j u, vs[j]? = some u → w.cell? ((⟨vb, voff, none⟩ : Addr).add j) = some u) (h1v : ∀ u ∈ vs, u.oneCell' = true) :
    Calls Try.prog 63 #[.slice (some ⟨g, 0, none⟩) n cap, .int .i64 n, .slice (some ⟨vb, voff, none⟩) 1 vc] w fun e w' => ∃ v, e = .returned v ∧ Ins.Done w g n n us vs 3 1 v w' := by
  unfold maxLen at h4
  obtain ⟨i0, hi, hz0, hz1, hz2⟩ := info_parts insinfoIn
  have hcl : cur.toList.length = cap * 1 := by rw [Array.length_toList, h5]
  have hul : us.length = n * 1 := by rw [← h6, List.length_take, hcl]; omega
  have holds : ∀ j v, us[j]? = some v → w.cell? ((⟨g, 0, none⟩ : Addr).add j) = some v := by
    intro j v hv
    rw [add_off, Nat.zero_add, hb.cell]
    rw [← h6, List.getElem?_take] at hv
    split at hv
    · simpa using hv
    · simp at hv
  have hrun : ∀ ty, (Builtin.append_ #[31, 31] ty #[.slice (some ⟨g, 0, none⟩) n cap, .slice (some ⟨vb, voff, none⟩) 1 vc]).run Try.prog w = _ := fun ty =>
    run_append_grow (P := Try.prog) w 31 ty 3 i0 _ Try.underlying31 hi hz0 ⟨g, 0, none⟩ n cap us (by rw [hz1]; exact hul) holds ⟨vb, voff, none⟩ 1 vc vs (by rw [hz1]; exact hvl) hvs hnc (by omega) (by rw [hz2]; exact growslice_fits hnc (by omega))
  have hcap := grownCap_ge w (n + 1) cap 3
  have hcm := grownCap_le_maxLen w (n + 1) cap 3 (by unfold maxLen; omega)
  obtain ⟨W6, gc, hrun, hfin⟩ : ∃ W6 gc, (∀ ty, (Builtin.append_ #[31, 31] ty #[.slice (some ⟨g, 0, none⟩) n cap, .slice (some ⟨vb, voff, none⟩) 1 vc]).run Try.prog w = .ok (.slice (some ⟨w.heap.size, 0, none⟩) (n + 1) gc) W6) ∧ Ins.Done w g n n us vs 3 1 (.slice (some ⟨w.heap.size, 0, none⟩) (n + 1) gc) W6 := by
    refine ⟨_, _, hrun, _, _, _, rfl, Blk.new w.drew _ _, ?_, hcap, hcm, ?_, .inr ⟨Nat.le_refl _, below_grown⟩⟩
    · have hzl : (Value.cells (.int .i64 0)).size = 1 := by decide
      simp only [Array.size_append, List.size_toArray, size_zeroCells, hzl, hul, hvl]
      omega
    · have e1 : us.drop (n * 1) = [] := List.drop_eq_nil_of_le (by omega)
      have e2 : us.take (n * 1) = us := List.take_of_length_le (by omega)
      simp only [Array.toList_append, e1, e2, List.append_nil]
      rw [List.take_append_of_le_length (by simp; omega), List.take_of_length_le (by simp; omega)]
  have HFIN := Lib.hid hfin
  have HR := Lib.hid hrun
  have hn0 : (0 : Int) ≤ (n : Int) := by omega
  clear hrun hfin hb h5 h6 hi holds hcap hcm
  go_enter Try.func63, Try.ntmps63
  go_wp2_with (at_builtin; refine Lib.wpList_append_run _ rfl _ _ _ _ rfl _ _ rfl rfl _ _ (HR.out _) ?_)
  all_goals (go_ret; exact ⟨_, rfl, HFIN.out⟩)
set_option maxRecDepth 100000 in
set_option maxHeartbeats 1600000 in
theorem insIn_nil (A : Option Addr) (vb voff vc : Nat) (vs : List Value) (w : World) (hvl : vs.length = 1 * 1) (hvs : ∀ j u, vs[j]? = some u → w.cell? ((⟨vb, voff, none⟩ : Addr).add j) = some u) (h1v : ∀ u ∈ vs, u.oneCell' = true) :
    Calls Try.prog 63 #[.slice A 0 0, .int .i64 0, .slice (some ⟨vb, voff, none⟩) 1 vc] w fun e w' => ∃ v, e = .returned v ∧ ∃ b' cap' cur', v = .slice (some ⟨b', 0, none⟩) 1 cap' ∧ Blk w' b' 3 cur' ∧ cur'.size = cap' * 1 ∧ 1 ≤ cap' ∧ cap' ≤ maxLen ∧ cur'.toList.take (1 * 1) = vs ∧ w.heap.size ≤ b' ∧ Below w.heap.size w w' := by
  obtain ⟨i0, hi, hz0, hz1, hz2⟩ := info_parts insinfoIn
  have hsrc : Src Try.prog i0.size 31 (.slice (some ⟨vb, voff, none⟩) 1 vc) 1 vs w := by
    rw [hz1]
    exact Src.ofSlice (e' := 3) w Try.underlying31 ⟨vb, voff, none⟩ 1 vc vs hvl hvs h1v
  have hold : (Builtin.firstCells i0.size 0 (.slice A 0 0)).run Try.prog w.drew = .ok ([] : List Value).toArray w.drew := by
    cases A with
    | none => exact run_firstCells_none w.drew i0.size 0 0 0
    | some a => exact run_firstCells_some w.drew i0.size 0 a 0 0 [] (by simp) (fun j v hj => by simp at hj)
  have hrun : ∀ ty, (Builtin.append_ #[31, 31] ty #[.slice A 0 0, .slice (some ⟨vb, voff, none⟩) 1 vc]).run Try.prog w = _ := fun ty =>
    run_append_grow_src w 31 31 ty 3 i0 _ Try.underlying31 hi hz0 A 0 0 [] hold _ 1 vs hsrc (by omega) (by omega) (by rw [hz2]; exact growslice_fits (by omega) (by omega))
  have hcap := grownCap_ge w (0 + 1) 0 3
  have hcm := grownCap_le_maxLen w (0 + 1) 0 3 (by unfold maxLen; omega)
  obtain ⟨W6, gc, hrun, hfin⟩ : ∃ W6 gc, (∀ ty, (Builtin.append_ #[31, 31] ty #[.slice A 0 0, .slice (some ⟨vb, voff, none⟩) 1 vc]).run Try.prog w = .ok (.slice (some ⟨w.heap.size, 0, none⟩) 1 gc) W6) ∧
      ∃ b' cap' cur', Value.slice (some ⟨w.heap.size, 0, none⟩) 1 gc = .slice (some ⟨b', 0, none⟩) 1 cap' ∧ Blk W6 b' 3 cur' ∧ cur'.size = cap' * 1 ∧ 1 ≤ cap' ∧ cap' ≤ maxLen ∧ cur'.toList.take (1 * 1) = vs ∧ w.heap.size ≤ b' ∧ Below w.heap.size w W6 := by
    refine ⟨_, _, hrun, _, _, _, rfl, Blk.new w.drew _ _, ?_, hcap, hcm, ?_, Nat.le_refl _, below_grown⟩
    · have hzl : (Value.cells (.int .i64 0)).size = 1 := by decide
      simp only [List.nil_append, Array.size_append, List.size_toArray, size_zeroCells, hzl, hvl]
      omega
    · simp only [Array.toList_append, List.nil_append]
      rw [List.take_append_of_le_length (by simp; omega), List.take_of_length_le (by simp; omega)]
  have HFIN := Lib.hid hfin
  have HR := Lib.hid hrun
  clear hrun hfin hi hold hcap hcm hsrc
  cases A with
  | none =>
    go_enter Try.func63, Try.ntmps63
    go_wp2_with (at_builtin; refine Lib.wpList_append_run _ rfl _ _ _ _ rfl _ _ rfl rfl _ _ (HR.out _) ?_)
    all_goals (go_ret; exact ⟨_, rfl, HFIN.out⟩)
  | some a =>
    go_enter Try.func63, Try.ntmps63
    go_wp2_with (at_builtin; refine Lib.wpList_append_run _ rfl _ _ _ _ rfl _ _ rfl rfl _ _ (HR.out _) ?_)
    all_goals (go_ret; exact ⟨_, rfl, HFIN.out⟩)
set_option maxRecDepth 100000 in
set_option maxHeartbeats 1600000 in
theorem insIn_shift (g cap k n vb voff vc : Nat) (cur : Array Value) (us vs : List Value) (w : World) (hb : Blk w g 3 cur) (h5 : cur.size = cap * 1) (h4 : cap ≤ maxLen) (hnc : n + 1 ≤ cap) (hkn : k < n) (hn40 : n ≤ 1000000) (h6 : cur.toList.take (n * 1) = us) (h1 : ∀ u ∈ us, u.oneCell' = true) (hvb : vb ≠ g) (hvl : vs.length = 1 * 1) (hvs : ∀ j u, vs[j]? = some u → w.cell? ((⟨vb, voff, none⟩ : Addr).add j) = some u) (h1v : ∀ u ∈ vs, u.oneCell' = true) :
    Calls Try.prog 63 #[.slice (some ⟨g, 0, none⟩) n cap, .int .i64 k, .slice (some ⟨vb, voff, none⟩) 1 vc] w fun e w' => ∃ v, e = .returned v ∧ Ins.Done w g n k us vs 3 1 v w' := by
  unfold maxLen at h4
  have hcl : cur.toList.length = cap * 1 := by rw [Array.length_toList, h5]
  have hul : us.length = n * 1 := by rw [← h6, List.length_take, hcl]; omega
  have hdl : (us.drop (k * 1)).length = (n - k) * 1 := by rw [List.length_drop, hul]; omega
  have hdsrc : ∀ j u, (us.drop (k * 1))[j]? = some u → w.drew.cell? ((⟨g, k * 1, none⟩ : Addr).add j) = some u := by
    intro j u hju
    rw [List.getElem?_drop, ← h6, List.getElem?_take] at hju
    split at hju
    · rw [add_off, hb.drew.cell]
      simpa using hju
    · simp at hju
  have hd1 : ∀ u ∈ us.drop (k * 1), u.oneCell' = true := fun u hu => h1 u (List.mem_of_mem_drop hu)
  have hfit1 : (k + 1) * 1 + (us.drop (k * 1)).length ≤ cur.size := by rw [hdl, h5]; omega
  obtain ⟨c1, hc1⟩ : ∃ c1, c1 = (cur.toList.take ((k + 1) * 1) ++ us.drop (k * 1) ++ cur.toList.drop ((k + 1) * 1 + (us.drop (k * 1)).length)).toArray := ⟨_, rfl⟩
  have hc1s : c1.size = cap * 1 := by rw [hc1, Ins.seg_size _ _ _ hfit1, h5]
  obtain ⟨W7, hcp1, hb7, hk7⟩ : ∃ W7, (∀ ty dc sc dl o1 o2, o1 = (k + 1) * 1 → o2 = k * 1 → Nat.min (n + 1 - k) dl = n - k → (Builtin.copy_ #[31, 31] ty #[.slice (some ⟨g, o1, none⟩) dl dc, .slice (some ⟨g, o2, none⟩) (n + 1 - k) sc]).run Try.prog w.drew = .ok (goInt (n - k : Nat)) W7) ∧ Blk W7 g 3 c1 ∧ Kept g w W7 := by
    refine ⟨w.drew.setRow g c1, fun ty dc sc dl o1 o2 ho1 ho2 hm => ?_, hb.drew.setRow _, (Del.keptDrew g w).trans (Del.keptRow _ _ _)⟩
    rw [hc1, ho1, ho2]
    exact Ins.run_copy w.drew 31 31 ty 3 1 g _ dl dc ⟨g, k * 1, none⟩ (n + 1 - k) sc cur 3 (us.drop (k * 1)) (n - k) Try.underlying31 insszIn hb.drew hm hdl hdsrc hfit1 hd1
  have hvs7 : ∀ j u, vs[j]? = some u → W7.cell? ((⟨vb, voff, none⟩ : Addr).add j) = some u := by
    intro j u hju
    have h8 := hvs j u hju
    rw [add_off] at h8 ⊢
    have hlt : vb < w.heap.size := by
      rcases Nat.lt_or_ge vb w.heap.size with h | h
      · exact h
      · unfold World.cell? at h8
        simp only [Array.getElem?_eq_none h] at h8
        cases h8
    rw [World.cell?_of_block (w := w) (hk7.2.2.2.2 vb hlt hvb)]
    exact h8
  have hfit2 : k * 1 + vs.length ≤ c1.size := by rw [hvl, hc1s]; omega
  obtain ⟨W8, hcp2, hfin⟩ : ∃ W8, (∀ ty dc o, o = k * 1 → (Builtin.copy_ #[31, 31] ty #[.slice (some ⟨g, o, none⟩) (n + 1 - k) dc, .slice (some ⟨vb, voff, none⟩) 1 vc]).run Try.prog W7 = .ok (goInt 1) W8) ∧ Ins.Done w g n k us vs 3 1 (.slice (some ⟨g, 0, none⟩) (n + 1) cap) W8 := by
    refine ⟨_, fun ty dc o ho => by rw [ho]; exact Ins.run_copy W7 31 31 ty 3 1 g _ (n + 1 - k) dc ⟨vb, voff, none⟩ 1 vc c1 3 vs 1 Try.underlying31 insszIn hb7 (by simp only [Nat.min_def]; split <;> omega) hvl hvs7 hfit2 h1v, g, cap, _, rfl, hb7.setRow _, by rw [Ins.seg_size _ _ _ hfit2, hc1s], hnc, h4, ?_, .inl ⟨rfl, hk7.trans (Del.keptRow _ _ _)⟩⟩
    have h9 := Ins.cells_in cur.toList us vs (k * 1) (1 * 1) (n * 1) h6 (by rw [hcl]; omega) (by omega) hvl
    rw [← Nat.add_mul, ← Nat.add_mul] at h9
    rw [hc1]
    exact h9
  have hov : ∀ w2 : World, (∀ x, w2.cell? x = w.cell? x) → w2.heap = w.heap → ∀ lb cb off, (callFunc 79 #[.slice (some ⟨vb, voff, none⟩) 1 vc, .slice (some ⟨g, off, none⟩) lb cb]).run Try.prog w2 = .ok (.value (.bool false)) w2 := by
    intro w2 e1 e2 lb cb off
    obtain ⟨v0, hv0⟩ : ∃ v0, vs[0]? = some v0 := ⟨_, List.getElem?_eq_getElem (by omega)⟩
    have h8 := hvs 0 v0 hv0
    rw [add_off] at h8
    exact insovIn hvb (va := v0) (by rw [e1]; exact h8) (cur := cur) (by unfold Blk; rw [e2]; exact hb) (by rw [h5]; omega)
  have HFIN := Lib.hid hfin
  have HO := Lib.hid hov
  have HC1 := Lib.hid hcp1
  have HC2 := Lib.hid hcp2
  have mixed : Try.prog.follows .mixedOrders = true := by kernel_rfl
  have hw1 : IntKind.i64.wrap ((k : Int) + 1) = (k : Int) + 1 := wrapI (by omega)
  have hw2 : IntKind.i64.wrap ((n : Int) + 1) = (n : Int) + 1 := wrapI (by omega)
  have hn0 : (0 : Int) ≤ (k : Int) := by omega
  have hn1 : (k : Int) ≤ (n : Int) := by omega
  have hn2 : ((k : Int) == (n : Int)) = false := by rw [beq_eq_false_iff_ne]; omega
  have hn3 : ¬ (cap = k + 1) := by omega
  have hn4 : ¬ (cap = k) := by omega
  have hn5 : (n : Int) + 1 ≤ (cap : Int) := by omega
  have hn6 : (cap : Int) ≤ 9223372036854775807 := by omega
  have hn7 : (k : Int) + 1 ≤ (n : Int) + 1 := by omega
  have hn8 : ((k : Int) + 1).toNat = k + 1 := by omega
  have hn9 : ((n : Int) + 1).toNat = n + 1 := by omega
  have hm1 : (0 : Int) ≤ (k : Int) + 1 := by omega
  have hm2 : (0 : Int) ≤ (n : Int) + 1 := by omega
  have hm3 : (k : Int) ≤ (n : Int) + 1 := by omega
  have hm4 : k ≤ n := by omega
  have hm5 : k + 1 ≤ n + 1 := by omega
  have hm6 : Nat.min (n + 1 - k) (n + 1 - (k + 1)) = n - k := by simp only [Nat.min_def]; split <;> omega
  have hm7 : Nat.min (n + 1 - k) (n - k) = n - k := by simp only [Nat.min_def]; split <;> omega
  clear hfin hov hcp1 hcp2 hb h5 h6 h1 hvs hvs7 hdsrc hd1 hfit1 hfit2 hc1 hc1s hb7 hk7 hcl hul hdl hvl
  go_enter Try.func63, Try.ntmps63
  go_wp2_with (simp only [HO.out w (fun _ => rfl) rfl])
  go_region_law_o (refine Ins.step_copy_run rfl _ _ 31 31 rfl (.slice (some ⟨g, (k + 1) * 1, none⟩) (n - k) (cap - (k + 1))) (.slice (some ⟨g, k * 1, none⟩) (n + 1 - k) (cap - k)) (by simp [Act.eval, Act.put]) (by simp [Act.eval, Act.put]) (HC1.out _ _ _ _ _ _ rfl rfl hm7) ?_)
  go_wp2_with (first | simp only [fun ty dc => HC2.out ty dc (k * 1) rfl, Result.andThen_ok] | simp only [fun ty dc => HC2.out ty dc k (by omega), Result.andThen_ok])
  go_ret
  exact ⟨_, rfl, HFIN.out⟩
set_option maxRecDepth 100000 in
set_option maxHeartbeats 1600000 in
theorem insIn_grow (g cap k n vb voff vc : Nat) (cur : Array Value) (us vs : List Value) (w : World) (hb : Blk w g 3 cur) (h5 : cur.size = cap * 1) (h4 : cap ≤ maxLen) (hnc : cap < n + 1) (hn : n ≤ cap) (hkn : k < n) (hn40 : n ≤ 1000000) (h6 : cur.toList.take (n * 1) = us) (h1 : ∀ u ∈ us, u.oneCell' = true) (hvb : vb ≠ g) (hvl : vs.length = 1 * 1) (hvs : ∀ j u, vs[j]? = some u → w.cell? ((⟨vb, voff, none⟩ : Addr).add j) = some u) (h1v : ∀ u ∈ vs, u.oneCell' = true) :
    Calls Try.prog 63 #[.slice (some ⟨g, 0, none⟩) n cap, .int .i64 k, .slice (some ⟨vb, voff, none⟩) 1 vc] w fun e w' => ∃ v, e = .returned v ∧ Ins.Done w g n k us vs 3 1 v w' := by
  unfold maxLen at h4
  obtain ⟨i0, hi, hz0, hz1, hz2⟩ := info_parts insinfoIn
  have hcl : cur.toList.length = cap * 1 := by rw [Array.length_toList, h5]
  have hul : us.length = n * 1 := by rw [← h6, List.length_take, hcl]; omega
  have hdl : (us.drop (k * 1)).length = (n - k) * 1 := by rw [List.length_drop, hul]; omega
  have hus : ∀ (j : Nat) (u : Value), us[j]? = some u → cur[j]? = some u := by
    intro j u hju
    rw [← h6, List.getElem?_take] at hju
    split at hju
    · simpa using hju
    · simp at hju
  have hold : (Builtin.firstCells i0.size k (.slice (some ⟨g, 0, none⟩) k cap)).run Try.prog w.drew = .ok (us.take (k * 1)).toArray w.drew := by
    rw [hz1]
    refine run_firstCells_some w.drew 1 k ⟨g, 0, none⟩ k cap (us.take (k * 1)) (by rw [List.length_take]; omega) (fun j v hj => ?_)
    rw [List.getElem?_take] at hj
    split at hj
    · rw [add_off, Nat.zero_add, hb.drew.cell]; exact hus j v hj
    · simp at hj
  have hzl : (Value.cells (.int .i64 0)).size = 1 := by decide
  have hkk : (n : Int) + 1 - (k : Int) = ((n + 1 - k : Nat) : Int) := by omega
  have hik : k + (n + 1 - k) = n + 1 := by omega
  obtain ⟨W1, G, R0, hrz, hR0, hb1, hG, hGm, hR0s, hbel⟩ : ∃ W1 G R0, (∀ ty, (Builtin.append_ #[31, 3] ty #[.slice (some ⟨g, 0, none⟩) k cap, .int .i64 ((n : Int) + 1 - (k : Int))]).run Try.prog w = .ok (.slice (some ⟨w.heap.size, 0, none⟩) (n + 1) G) W1) ∧
      (∃ Z : List Value, R0.toList = us.take (k * 1) ++ Z ∧ (n + 1) * 1 ≤ k * 1 + Z.length) ∧ Blk W1 w.heap.size 3 R0 ∧ n + 1 ≤ G ∧ G ≤ maxLen ∧ R0.size = G * 1 ∧ Below w.heap.size w W1 := by
    have h := fun ty => Lib.run_append_grow_zeros (P := Try.prog) w 31 3 ty 3 i0 _ .i64 .i64 Try.underlying31 Try.underlying3 hi hz0 (some ⟨g, 0, none⟩) k cap (us.take (k * 1)) hold (n + 1 - k) (by omega) (by omega) (by omega) (by omega) (by rw [hz2]; omega) (by rw [hz2, hik]; exact growslice_fits hnc (by omega))
    rw [hik] at h
    rw [hkk]
    have hcap := grownCap_ge w (n + 1) cap 3
    refine ⟨_, _, _, h, ⟨(Builtin.zeroCells (Value.cells (.int .i64 0)) (n + 1 - k)).toList ++ (Builtin.zeroCells (Value.cells (.int .i64 0)) (grownCap w (n + 1) cap 3 - (n + 1))).toList, by simp, ?_⟩, Blk.new w.drew _ _, hcap, grownCap_le_maxLen w (n + 1) cap 3 (by unfold maxLen; omega), ?_, below_grown⟩
    · simp only [List.length_append, Array.length_toList, size_zeroCells, hzl]
      omega
    · simp only [Array.size_append, List.size_toArray, size_zeroCells, hzl, List.length_take, hul]
      omega
  unfold maxLen at hGm
  have hgl : g < w.heap.size := hb.lt
  have hbg : Blk W1 g 3 cur := hb.keep hbel
  obtain ⟨Z, hR0, hZ⟩ := hR0
  have hvs1 : ∀ j u, vs[j]? = some u → W1.cell? ((⟨vb, voff, none⟩ : Addr).add j) = some u ∧ vb < w.heap.size := by
    intro j u hju
    have h8 := hvs j u hju
    rw [add_off] at h8 ⊢
    have hlt : vb < w.heap.size := by
      rcases Nat.lt_or_ge vb w.heap.size with h | h
      · exact h
      · unfold World.cell? at h8
        simp only [Array.getElem?_eq_none h] at h8
        cases h8
    rw [World.cell?_of_block (w := w) (hbel.block vb hlt)]
    exact ⟨h8, hlt⟩
  have hfit1 : k * 1 + vs.length ≤ R0.size := by rw [hvl, hR0s]; omega
  obtain ⟨R1, hR1⟩ : ∃ R1, R1 = (R0.toList.take (k * 1) ++ vs ++ R0.toList.drop (k * 1 + vs.length)).toArray := ⟨_, rfl⟩
  have hR1s : R1.size = G * 1 := by rw [hR1, Ins.seg_size _ _ _ hfit1, hR0s]
  obtain ⟨W2, hcp1, hb2, hbg2, hbel2⟩ : ∃ W2, (∀ ty dc o, o = k * 1 → (Builtin.copy_ #[31, 31] ty #[.slice (some ⟨w.heap.size, o, none⟩) (n + 1 - k) dc, .slice (some ⟨vb, voff, none⟩) 1 vc]).run Try.prog W1 = .ok (goInt 1) W2) ∧ Blk W2 w.heap.size 3 R1 ∧ Blk W2 g 3 cur ∧ Below w.heap.size w W2 := by
    have hkr := Del.keptRow W1 w.heap.size R1
    refine ⟨W1.setRow w.heap.size R1, fun ty dc o ho => ?_, hb1.setRow _, (hkr.2.2.2.2 g hbg.lt (by omega)).trans hbg, ⟨hkr.2.1.trans hbel.os, hkr.2.2.1.trans hbel.tape, hkr.2.2.2.1.trans hbel.output, Nat.le_trans hbel.size hkr.1, fun b hbb => (hkr.2.2.2.2 b (Nat.lt_of_lt_of_le hbb hbel.size) (by omega)).trans (hbel.block b hbb)⟩⟩
    rw [ho, hR1]
    exact Ins.run_copy W1 31 31 ty 3 1 w.heap.size _ (n + 1 - k) dc ⟨vb, voff, none⟩ 1 vc R0 3 vs 1 Try.underlying31 insszIn hb1 (by simp only [Nat.min_def]; split <;> omega) hvl (fun j u hj => (hvs1 j u hj).1) hfit1 h1v
  have hdsrc : ∀ j u, (us.drop (k * 1))[j]? = some u → W2.drew.cell? ((⟨g, k * 1, none⟩ : Addr).add j) = some u := by
    intro j u hju
    rw [List.getElem?_drop] at hju
    rw [add_off, hbg2.drew.cell]
    exact hus _ _ hju
  have hd1 : ∀ u ∈ us.drop (k * 1), u.oneCell' = true := fun u hu => h1 u (List.mem_of_mem_drop hu)
  have hfit2 : (k + 1) * 1 + (us.drop (k * 1)).length ≤ R1.size := by rw [hdl, hR1s]; omega
  obtain ⟨W3, hcp2, hfin⟩ : ∃ W3, (∀ ty dc sc dl o1 o2, o1 = (k + 1) * 1 → o2 = k * 1 → Nat.min (n - k) dl = n - k → (Builtin.copy_ #[31, 31] ty #[.slice (some ⟨w.heap.size, o1, none⟩) dl dc, .slice (some ⟨g, o2, none⟩) (n - k) sc]).run Try.prog W2.drew = .ok (goInt (n - k : Nat)) W3) ∧ Ins.Done w g n k us vs 3 1 (.slice (some ⟨w.heap.size, 0, none⟩) (n + 1) G) W3 := by
    have hkr := (Del.keptDrew w.heap.size W2).trans (Del.keptRow W2.drew w.heap.size (R1.toList.take ((k + 1) * 1) ++ us.drop (k * 1) ++ R1.toList.drop ((k + 1) * 1 + (us.drop (k * 1)).length)).toArray)
    refine ⟨_, fun ty dc sc dl o1 o2 ho1 ho2 hm => ?_, w.heap.size, G, _, rfl, hb2.drew.setRow _, by rw [Ins.seg_size _ _ _ hfit2, hR1s], hG, hGm, ?_, .inr ⟨Nat.le_refl _, ⟨hkr.2.1.trans hbel2.os, hkr.2.2.1.trans hbel2.tape, hkr.2.2.2.1.trans hbel2.output, Nat.le_trans hbel2.size hkr.1, fun b hbb => (hkr.2.2.2.2 b (Nat.lt_of_lt_of_le hbb hbel2.size) (by omega)).trans (hbel2.block b hbb)⟩⟩⟩
    · rw [ho1, ho2]
      exact Ins.run_copy W2.drew 31 31 ty 3 1 w.heap.size _ dl dc ⟨g, k * 1, none⟩ (n - k) sc R1 3 (us.drop (k * 1)) (n - k) Try.underlying31 insszIn hb2.drew hm hdl hdsrc hfit2 hd1
    · have h9 := Ins.cells_new us vs Z (k * 1) (1 * 1) (n * 1) hul (by omega) hvl (by omega)
      rw [← Nat.add_mul, ← Nat.add_mul] at h9
      rw [hR1]
      simp only [hR0]
      exact h9
  have HFIN := Lib.hid hfin
  have HZ := Lib.hid hrz
  have HC1 := Lib.hid hcp1
  have HC2 := Lib.hid hcp2
  have mixed : Try.prog.follows .mixedOrders = true := by kernel_rfl
  have hw1 : IntKind.i64.wrap ((k : Int) + 1) = (k : Int) + 1 := wrapI (by omega)
  have hw2 : IntKind.i64.wrap ((n : Int) + 1) = (n : Int) + 1 := wrapI (by omega)
  have hw3 : IntKind.i64.wrap ((n : Int) + 1 - (k : Int)) = (n : Int) + 1 - (k : Int) := wrapI (by omega)
  have hn0 : (0 : Int) ≤ (k : Int) := by omega
  have hn1 : (k : Int) ≤ (n : Int) := by omega
  have hn2 : ((k : Int) == (n : Int)) = false := by rw [beq_eq_false_iff_ne]; omega
  have hn3 : ¬ (G = k + 1) := by omega
  have hn4 : ¬ (G = k) := by omega
  have hn4b : ¬ (cap = k) := by omega
  have hn5 : (cap : Int) < (n : Int) + 1 := by omega
  have hn6 : (G : Int) ≤ 9223372036854775807 := by omega
  have hn6b : (cap : Int) ≤ 9223372036854775807 := by omega
  have hn7 : (k : Int) + 1 ≤ (n : Int) + 1 := by omega
  have hn8 : ((k : Int) + 1).toNat = k + 1 := by omega
  have hm1 : (0 : Int) ≤ (k : Int) + 1 := by omega
  have hm3 : (k : Int) ≤ (n : Int) + 1 := by omega
  have hm3b : (k : Int) ≤ (cap : Int) := by omega
  have hm4 : k ≤ n := by omega
  have hm4b : k ≤ cap := by omega
  have hm5 : k + 1 ≤ n + 1 := by omega
  have hm7 : Nat.min (n - k) (n - k) = n - k := by simp only [Nat.min_def]; split <;> omega
  clear hfin hrz hcp1 hcp2 hb h5 h6 h1 hvs hvs1 hdsrc hd1 hfit1 hfit2 hR1 hR1s hb1 hb2 hbg hbg2 hbel hbel2 hcl hul hdl hvl hus hold hzl hkk hik hR0 hZ hR0s hi
  go_enter Try.func63, Try.ntmps63
  go_wp2_with (first
    | (at_builtin; refine Lib.wpList_append_run _ rfl _ _ _ _ rfl _ _ rfl rfl _ _ (HZ.out _) ?_)
    | simp only [fun ty dc => HC1.out ty dc (k * 1) rfl, Result.andThen_ok] | simp only [fun ty dc => HC1.out ty dc k (by omega), Result.andThen_ok])
  go_region_law_o (refine Ins.step_copy_run rfl _ _ 31 31 rfl (.slice (some ⟨w.heap.size, (k + 1) * 1, none⟩) (n - k) (G - (k + 1))) (.slice (some ⟨g, k * 1, none⟩) (n - k) (cap - k)) (by simp [Act.eval, Act.put]) (by simp [Act.eval, Act.put]) (HC2.out _ _ _ _ _ _ rfl rfl hm7) ?_)
  go_wp2_with fail
  go_ret
  exact ⟨_, rfl, HFIN.out⟩
/-- slices.Insert of one element -/
theorem insIn_spec (els : List (List SC)) (k : Nat) (x : List SC) (hk : k ≤ els.length) (hl : els.length ≤ 1000000) : SpecX Try.prog 63 ⟨true, 3, 1, els, none, els.take k ++ [x] ++ els.drop k, none⟩ [rI k, .c (.sl 1 [x])] := by
  have hlen : (els.take k ++ [x] ++ els.drop k).length = els.length + 1 := by simp; omega
  have hfl : (els.take k ++ [x] ++ els.drop k).flatten = (els.take k).flatten ++ x ++ (els.drop k).flatten := by simp
  refine ⟨Nat.succ_pos _, ?_, ?_⟩
  · intro w O b cap us hO hX hus
    obtain ⟨he, cur, hB, hr, hc⟩ := hX
    obtain ⟨hc1, hc2, hc3⟩ := hc rfl
    simp only at he hB hr hc1 hc3
    obtain ⟨u1, us1, rfl, hu1, hus1⟩ := hus.cons_inv
    obtain ⟨u2, us2, rfl, hu2, hus2⟩ := hus1.cons_inv
    obtain rfl := hus2.nil_inv
    obtain rfl := RepS.flat hu1
    have hu2' : RepS w (fun k => O k ∨ k = b) (.sl 1 [x]) u2 := hu2
    cases hu2' with
    | @sl _ _ vb voff vc vs h0 hcap hm hvb hvO hve hvlen hvr hvc =>
    have hfx : [x].flatten = x := by simp
    have hxl : x.length = 1 := hve x (by simp)
    have hvl : vs.length = 1 * 1 := by rw [← hvlen, hfx, hxl]
    have hRx : RL (RepS w (fun k => O k ∨ k = b)) x vs := by
      refine ⟨by rw [← hvlen, hfx], fun i a c => ?_⟩
      have := hvr i (by rw [hfx]; exact a) c
      simpa only [hfx] using this
    have h1v : ∀ u ∈ vs, u.oneCell' = true := fun u hu => by
      obtain ⟨i, hi, rfl⟩ := List.mem_iff_getElem.1 hu
      exact (hRx.2 i (by rw [hRx.1]; exact hi) hi).one
    have hvs : ∀ j u, vs[j]? = some u → w.cell? ((⟨vb, voff, none⟩ : Addr).add j) = some u := fun j u hj => by
      obtain ⟨hj1, rfl⟩ := List.getElem?_eq_some_iff.1 hj
      rw [add_off]; exact hvc j hj1
    have hne : vb ≠ b := fun e => hvO (.inr e)
    have hfe := flatten_len els he
    obtain ⟨us, hus0⟩ : ∃ us, us = cur.toList.take (els.length * 1) := ⟨_, rfl⟩
    have hr2 : RL (RepS w (fun k => O k ∨ k = b)) els.flatten us := by rw [hus0, ← hfe]; exact hr
    have h1u : ∀ u ∈ us, u.oneCell' = true := fun u hu => by
      obtain ⟨i, hi, rfl⟩ := List.mem_iff_getElem.1 hu
      exact (hr2.2 i (by rw [hr2.1]; exact hi) hi).one
    have hw : Calls Try.prog 63 #[.slice (some ⟨b, 0, none⟩) els.length cap, .int .i64 k, .slice (some ⟨vb, voff, none⟩) 1 vc] w fun e w' => ∃ v, e = .returned v ∧ Ins.Done w b els.length k us vs 3 1 v w' := by
      by_cases hkn : k = els.length
      · subst hkn
        by_cases hroom : els.length + 1 ≤ cap
        · exact insIn_endroom b cap els.length vb voff vc cur us vs w hB hc3 hc2 hroom hl hus0.symm hvl hvs h1v
        · exact insIn_endgrow b cap els.length vb voff vc cur us vs w hB hc3 hc2 (by omega) hc1 hl hus0.symm hvl hvs h1v
      · by_cases hroom : els.length + 1 ≤ cap
        · exact insIn_shift b cap k els.length vb voff vc cur us vs w hB hc3 hc2 hroom (by omega) hl hus0.symm h1u hne hvl hvs h1v
        · exact insIn_grow b cap k els.length vb voff vc cur us vs w hB hc3 hc2 (by omega) hc1 (by omega) hl hus0.symm h1u hne hvl hvs h1v
    unfold XR.val
    simp only
    refine hw.mono ?_
    rintro ex w' ⟨v, rfl, b', cap', cur', rfl, h1, h2, h3, h4, h5, h6⟩
    refine ⟨_, rfl, b', cap', by rw [hlen], ⟨fun y hy => ?_, cur', h1, ?_, fun _ => ⟨by rw [hlen]; exact h3, h4, h2⟩⟩, h6⟩
    · rcases List.mem_append.1 hy with hy | hy
      · rcases List.mem_append.1 hy with hy | hy
        · exact he y (List.mem_of_mem_take hy)
        · rw [List.mem_singleton.1 hy]; exact hxl
      · exact he y (List.mem_of_mem_drop hy)
    · have hfl2 : (els.take k ++ [x] ++ els.drop k).flatten.length = (els.length + 1) * 1 := by
        rw [flatten_len (e := 1) _ (fun y hy => by
          rcases List.mem_append.1 hy with hy | hy
          · rcases List.mem_append.1 hy with hy | hy
            · exact he y (List.mem_of_mem_take hy)
            · rw [List.mem_singleton.1 hy]; exact hxl
          · exact he y (List.mem_of_mem_drop hy)), hlen]
      rw [hfl2, h5, hfl, flatten_takeE els he, flatten_dropE els he]
      refine (((hr2.take _).append hRx).append (hr2.drop _)).mono (fun y u hy => ?_)
      rcases h6 with ⟨rfl, h6⟩ | ⟨h6, h7⟩
      · exact hy.mono h6.1 (fun q hq hnq => ⟨h6.2.2.2.2 q hq (fun e => hnq (.inr e)), hnq⟩)
      · exact hy.mono h7.size (fun q hq hnq => ⟨h7.block q hq, by rintro (h8 | h8); exact hnq (.inl h8); omega⟩)
  · intro hX0 _ w O A us hO hus
    simp only at hX0
    subst hX0
    obtain rfl : k = 0 := by simpa using hk
    obtain ⟨u1, us1, rfl, hu1, hus1⟩ := hus.cons_inv
    obtain ⟨u2, us2, rfl, hu2, hus2⟩ := hus1.cons_inv
    obtain rfl := hus2.nil_inv
    obtain rfl := RepS.flat hu1
    have hu2' : RepS w O (.sl 1 [x]) u2 := hu2
    cases hu2' with
    | @sl _ _ vb voff vc vs h0 hcap hm hvb hvO hve hvlen hvr hvc =>
    have hfx : [x].flatten = x := by simp
    have hxl : x.length = 1 := hve x (by simp)
    have hvl : vs.length = 1 * 1 := by rw [← hvlen, hfx, hxl]
    have hRx : RL (RepS w O) x vs := by
      refine ⟨by rw [← hvlen, hfx], fun i a c => ?_⟩
      have := hvr i (by rw [hfx]; exact a) c
      simpa only [hfx] using this
    have h1v : ∀ u ∈ vs, u.oneCell' = true := fun u hu => by
      obtain ⟨i, hi, rfl⟩ := List.mem_iff_getElem.1 hu
      exact (hRx.2 i (by rw [hRx.1]; exact hi) hi).one
    have hvs : ∀ j u, vs[j]? = some u → w.cell? ((⟨vb, voff, none⟩ : Addr).add j) = some u := fun j u hj => by
      obtain ⟨hj1, rfl⟩ := List.getElem?_eq_some_iff.1 hj
      rw [add_off]; exact hvc j hj1
    refine (insIn_nil A vb voff vc vs w hvl hvs h1v).mono ?_
    rintro ex w' ⟨v, rfl, b', cap', cur', rfl, h1, h2, h3, h4, h5, h6, h7⟩
    refine ⟨_, rfl, h7, Nat.succ_pos _, fun y hy => ?_, .inr ⟨b', cap', cur', rfl, h6, h1, h3, h4, h2, ?_⟩⟩
    · simp at hy; rw [hy]; exact hxl
    · have e1 : (([] : List (List SC)).take 0 ++ [x] ++ ([] : List (List SC)).drop 0).flatten = x := by simp
      rw [e1, hxl, show (1 : Nat) = 1 * 1 from rfl, h5]
      exact hRx.mono (fun y u hy => hy.mono h7.size (fun q hq hnq => ⟨h7.block q hq, by rintro (h8 | h8); exact hnq h8; omega⟩))

end Go.Proofs.Ytkiddlkmodclhaa
