/- layer 18: the contracts: pages; Right, place, Get, Do, All. -/
import Derived.Test.YtbpipdgkkdifgaaCode
import Derived.Test.YtbpipdgkkdifgaaAm22
import Derived.Test.YtbpipdgkkdifgaaInsKit
import Derived.Test.YtbpipdgkkdifgaaO1
import Derived.Lib.Hide
import Derived.Shelf.RegionOpenPlain
import Derived.WalkKit
import Derived.ProofKit
namespace Go.Proofs.Ytbpipdgkkdifgaa
open Go.RowKit Ok
set_option linter.unusedVariables false
set_option linter.unusedSimpArgs false
theorem mixed : Try.prog.follows .mixedOrders = true := by kernel_rfl
theorem askIdx_set {α : Type} {i : Nat} {l : List α} {x : α} {K : α → Prop} (h : i < l.length) : AskIdx i (l.set i x) K = K x := by
  apply propext
  constructor
  · rintro ⟨h1, h2⟩
    simpa using h2
  · intro h1
    exact ⟨by simpa using h, by simpa using h1⟩
def encI (s : Int) : List SC := [.pv (.int .i64 s)]
def encPg (p : Pg) : List SC := [.pv (.int .i64 p.id), .pv (.int .i64 p.ver), .pv (.string p.body)]
def encOp (o : Opr) : List SC := [.pv (.int .i64 o.kind), .pv (.int .i64 o.id), .pv (.string o.body)]
def encRs (r : Rs) : List SC := [.pv (.int .i64 r.e), .pv (.int .i64 r.p.id), .pv (.int .i64 r.p.ver), .pv (.string r.p.body)]
def encMap (l : List Pg) : List SC := [.sl 3 (l.map encPg)]
theorem clonePg (l : List (List SC)) (hl : l.length * 32 ≤ 2 ^ 47) : Spec Try.prog 34 [.c (.sl 3 l)] (.row 41 3 l) := by
  refine Spec.tag ?_ ?_
  · intro h
    subst h
    refine spec_row mixed fn34 (by simp) ?_
    unfold ac34
    simp -implicitDefEqProofs only [↓aP, aQ, ↓reduceIte, Nat.reduceEqDiff, Nat.reduceAdd, Nat.reduceSub, Nat.reduceMul, Nat.reduceLT, Nat.reduceLeDiff, reduceCtorEq, Nat.reduceBEq, forall_const, implies_true, exists_const, ne_eq, Int.reduceAdd, Int.reduceSub, Int.reduceMul, Int.reduceBEq, Int.reduceEq, Int.reduceLT, Int.reduceLE, Int.reduceToNat, Int.reduceNeg, Int.reduceBNe]
  · refine spec_row mixed fn34 (by simp) ?_
    unfold ac34
    simp -implicitDefEqProofs only [↓aP, aQ, ↓reduceIte, Nat.reduceEqDiff, Nat.reduceAdd, Nat.reduceSub, Nat.reduceMul, Nat.reduceLT, Nat.reduceLeDiff, reduceCtorEq, Nat.reduceBEq, forall_const, implies_true, exists_const, ne_eq, Int.reduceAdd, Int.reduceSub, Int.reduceMul, Int.reduceBEq, Int.reduceEq, Int.reduceLT, Int.reduceLE, Int.reduceToNat, Int.reduceNeg, Int.reduceBNe]
    refine ⟨?_, ?_⟩ <;> omega

theorem infoPg : (Try.prog.info? 41).map (fun i => (i.zero, i.size, i.bytes)) = some (some (.agg #[.int .i64 0, .int .i64 0, .string ⟨#[]⟩]), 3, 32) := by kernel_rfl
set_option maxRecDepth 100000 in
set_option maxHeartbeats 1600000 in
theorem delPg_walk (g cap k n : Nat) (cur : Array Value) (us : List Value) (w : World) (hb : Blk w g 41 cur) (h5 : cur.size = cap * 3) (h4 : cap ≤ maxLen) (hnc : n + 1 ≤ cap) (hkn : k ≤ n) (hn40 : n ≤ 1000000) (h6 : cur.toList.take ((n + 1) * 3) = us) (h1 : ∀ u ∈ us, u.oneCell' = true) :
    Calls Try.prog 36 #[.slice (some ⟨g, 0, none⟩) (n + 1) cap, .int .i64 k, .int .i64 ((k : Int) + 1)] w fun e w' => e = .returned (.slice (some ⟨g, 0, none⟩) n cap) ∧ ∃ cur', Blk w' g 41 cur' ∧ cur'.size = cap * 3 ∧ cur'.toList.take (n * 3) = us.take (k * 3) ++ us.drop ((k + 1) * 3) ∧ Kept g w w' := by
  unfold maxLen at h4
  have hul : us.length = (n + 1) * 3 := by rw [← h6, List.length_take, Array.length_toList, h5]; omega
  obtain ⟨ad, had, hads⟩ : ∃ ad : Addr, (if cap = k + 1 then some (⟨g, 0, none⟩ : Addr) else some ⟨g, (k + 1) * 3, none⟩) = some ad ∧ ∀ j u, (us.drop ((k + 1) * 3))[j]? = some u → w.drew.cell? (ad.add j) = some u := by
    by_cases hck : cap = k + 1
    · refine ⟨⟨g, 0, none⟩, by rw [if_pos hck], ?_⟩
      intro j u hju
      rw [List.drop_eq_nil_of_le (by rw [hul]; omega)] at hju
      simp at hju
    · refine ⟨⟨g, (k + 1) * 3, none⟩, by rw [if_neg hck], ?_⟩
      intro j u hju
      rw [List.getElem?_drop, ← h6, List.getElem?_take] at hju
      split at hju
      · rw [add_off, hb.drew.cell]
        simpa using hju
      · simp at hju
  have hld : (us.drop ((k + 1) * 3)).length = (n - k) * 3 := by rw [List.length_drop, hul]; omega
  have HLD := Lib.hid hld
  have HADS := Lib.hid hads
  have HB := Lib.hid hb.drew
  have H6 := Lib.hid h6
  have H1 := Lib.hid (show ∀ u ∈ us.drop ((k + 1) * 3), u.oneCell' = true from fun u hu => h1 u (List.mem_of_mem_drop hu))
  obtain ⟨i0, hi, hz0, hz1, hz2⟩ := info_parts infoPg
  have HI := Lib.hid (And.intro hi (And.intro hz0 (And.intro hz1 hz2)))
  have hfit : k * 3 + (us.drop ((k + 1) * 3)).length ≤ cur.size := by rw [hld, h5]; omega
  have HF := Lib.hid hfit
  have hbnd : (k : Int) ≤ (n : Int) ∧ (n : Int) + 1 ≤ (cap : Int) ∧ (cap : Int) ≤ 9223372036854775807 := by omega
  obtain ⟨hb1, hb2, hb3⟩ := hbnd
  have hk0 : (0 : Int) ≤ (k : Int) := by omega
  have hk1 : (k : Int) + 1 ≤ (n : Int) + 1 := by omega
  have hk2 : (0 : Int) ≤ (k : Int) + 1 := by omega
  have hk3 : ((k : Int) + 1).toNat = k + 1 := by omega
  have hk4 : (k : Int) ≤ (k : Int) + 1 := by omega
  have hk5 : ((k : Int) == (k : Int) + 1) = false := by rw [beq_eq_false_iff_ne]; omega
  have hkc : k + 1 ≤ cap := by omega
  have hkcap : k ≤ cap := by omega
  have hnk : n + 1 - (k + 1) = n - k := by omega
  have H5 := Lib.hid h5
  clear hb hads hld h6 hi hz0 hz1 hz2 hfit h5 h1 hul
  go_enter Try.func36, Try.ntmps36
  go_wp2_with fail
  go_region_law (first
    | (refine Del.step_append_room w.drew (by rfl) _ _ 22 (by rfl) 41 i0 3 Try.underlying22 HI.out.1 HI.out.2.2.1 g k cap cur HB.out (by rfl) ad (n - k) (cap - (k + 1)) (us.drop ((k + 1) * 3)) (by first | rfl | exact congrArg (fun p => Value.slice p (n - k) (cap - (k + 1))) had | exact congrArg (fun p => Value.slice p (n - k) (cap - (k + 1))) (by have h := had; simp only [Nat.mul_one] at h; exact h)) HLD.out HADS.out H1.out n (by omega) (by omega) HF.out ?_; intro w6 hblk6 hbel6))
  have hn1 : (0 : Int) ≤ (n : Int) + 1 := by omega
  have hn2 : ((n : Int) + 1).toNat = n + 1 := by omega
  have hn3 : (n : Int) ≤ (n : Int) + 1 := by omega
  have hn4 : ¬ cap = n := by omega
  have hn5 : n ≤ cap := by omega
  have hn6 : n + 1 - n = 1 := by omega
  have HB6 := Lib.hid hblk6
  have HBE := Lib.hid hbel6
  clear hblk6 hbel6
  obtain ⟨w7, hrun7, hb7, hbel7⟩ := Del.run_clear (P := Try.prog) w6 22 0 41 i0 (.agg #[.int .i64 0, .int .i64 0, .string ⟨#[]⟩]) Try.underlying22 HI.out.1 HI.out.2.1 (by decide) g (n * 3) 1 (cap - n) _ HB6.out (by decide) (Del.wipe_fit (e := 3) rfl HLD.out H5.out hkn hnc)
  try simp only [Nat.mul_one] at hrun7
  have hfin : ∃ cur', Blk w7 g 41 cur' ∧ cur'.size = cap * 3 ∧ cur'.toList.take (n * 3) = us.take (k * 3) ++ us.drop ((k + 1) * 3) ∧ Kept g w w7 :=
    ⟨_, hb7, Del.wipe_size (e := 3) rfl HLD.out H5.out hkn hnc, Del.wipe_cells (e := 3) rfl H5.out H6.out hkn hnc, ((Del.keptDrew g w).trans HBE.out).trans hbel7⟩
  have HFIN := Lib.hid hfin
  clear hb7 hbel7 hfin
  go_wp2_with fail
  go_ret
  exact ⟨rfl, HFIN.out⟩
/-- slices.Delete of one element -/
theorem delPg_spec (els : List (List SC)) (k : Nat) (hk : k < els.length) (hl : els.length ≤ 1000000) : SpecX Try.prog 36 ⟨true, 41, 3, els, none, els.eraseIdx k, none⟩ [rI k, rI ((k : Int) + 1)] := by
  refine ⟨Nat.succ_pos _, ?_, fun h => by simp only at h; subst h; simp at hk⟩
  intro w O b cap us hO hX hus
  obtain ⟨he, cur, hB, hr, hc⟩ := hX
  obtain ⟨hc1, hc2, hc3⟩ := hc rfl
  simp only at he hB hr hc1 hc3
  obtain ⟨u1, us1, rfl, hu1, hus1⟩ := hus.cons_inv
  obtain ⟨u2, us2, rfl, hu2, hus2⟩ := hus1.cons_inv
  obtain rfl := hus2.nil_inv
  obtain rfl := RepS.flat hu1
  obtain rfl := RepS.flat hu2
  obtain ⟨n, hn⟩ : ∃ n, els.length = n + 1 := ⟨els.length - 1, by omega⟩
  have hfl := flatten_len els he
  rw [hn] at hc1 hfl
  have hw := delPg_walk b cap k n cur _ w hB hc3 hc2 hc1 (by omega) (by omega) rfl (fun u hu => by
    rw [← hfl] at hu
    obtain ⟨i, hi, rfl⟩ := List.mem_iff_getElem.1 hu
    exact (hr.2 i (by rw [hr.1]; exact hi) hi).one)
  unfold XR.val
  simp only [hn]
  refine hw.mono ?_
  rintro ex w' ⟨rfl, cur', h1, h2, h3, h4⟩
  have hlen : (els.eraseIdx k).length = n := by rw [List.length_eraseIdx, if_pos hk, hn]; rfl
  refine ⟨_, rfl, b, cap, by rw [hlen], ⟨fun x hx => he x (List.mem_of_mem_eraseIdx hx), cur', h1, ?_, fun _ => ⟨by rw [hlen]; omega, hc2, h2⟩⟩, .inl ⟨rfl, h4⟩⟩
  have hfe := Del.flatten_erase els he k hk
  have hfl2 : (els.eraseIdx k).flatten.length = n * 3 := by
    rw [flatten_len _ (fun x hx => he x (List.mem_of_mem_eraseIdx hx)), hlen]
  rw [hfl2, h3, hfe, ← hfl]
  exact ((hr.take _).append (hr.drop _)).mono (fun x u hx => hx.mono h4.1 (fun k hk hnk => ⟨h4.2.2.2.2 k hk (fun e => hnk (.inr e)), hnk⟩))

theorem insinfoPg : (Try.prog.info? 41).map (fun i => (i.zero, i.size, i.bytes)) = some (some (.agg #[.int .i64 0, .int .i64 0, .string ⟨#[]⟩]), 3, 32) := by kernel_rfl
theorem insszPg : (Try.prog.info? 41).map (·.size) = some 3 := by kernel_rfl
theorem insovPg {w : World} {vb voff vc g off lb cb : Nat} (hvb : vb ≠ g) {va : Value} (hca : w.cell? ⟨vb, voff, none⟩ = some va) {cur : Array Value} (hb : Blk w g 41 cur) (hpos : 0 < cur.size) :
    (callFunc 44 #[.slice (some ⟨vb, voff, none⟩) 1 vc, .slice (some ⟨g, off, none⟩) lb cb]).run Try.prog w = .ok (.value (.bool false)) w := by
  obtain ⟨i0, hi, hz0, hz1, hz2⟩ := info_parts insinfoPg
  rw [run_callFunc_extern Try.func44 (by kernel_rfl) (by kernel_rfl) (by kernel_rfl) (e := Extern.SlicesOverlaps.overlaps #[22, 22] #[4]) (by kernel_rfl),
    Ins.run_overlaps w 22 4 41 Try.underlying22 3 (fun w => by rw [run_sizeOf' hi, hz1]) ⟨vb, voff, none⟩ ⟨g, off, none⟩ 1 vc lb cb hvb va hca 41 cur hb hpos]
  rfl
set_option maxRecDepth 100000 in
set_option maxHeartbeats 1600000 in
theorem insPg_endroom (g cap n vb voff vc : Nat) (cur : Array Value) (us vs : List Value) (w : World) (hb : Blk w g 41 cur) (h5 : cur.size = cap * 3) (h4 : cap ≤ maxLen) (hnc : n + 1 ≤ cap) (hn40 : n ≤ 1000000) (h6 : cur.toList.take (n * 3) = us) (hvl : vs.length = 1 * 3) (hvs : ∀ j u, vs[j]? = some u → w.cell? ((⟨vb, voff, none⟩ : Addr).add j) = some u) (h1v : ∀ u ∈ vs, u.oneCell' = true) :
    Calls Try.prog 33 #[.slice (some ⟨g, 0, none⟩) n cap, .int .i64 n, .slice (some ⟨vb, voff, none⟩) 1 vc] w fun e w' => ∃ v, e = .returned v ∧ Ins.Done w g n n us vs 41 3 v w' := by
  unfold maxLen at h4
  obtain ⟨i0, hi, hz0, hz1, hz2⟩ := info_parts insinfoPg
  have hrun : ∀ ty, (Builtin.append_ #[22, 22] ty #[.slice (some ⟨g, 0, none⟩) n cap, .slice (some ⟨vb, voff, none⟩) 1 vc]).run Try.prog w = _ := fun ty =>
    run_append_room w 22 ty 41 i0 Try.underlying22 hi g n cap cur hb ⟨vb, voff, none⟩ 1 vc vs (by rw [hz1]; exact hvl) hvs h1v hnc (by rw [hz1, h5, hvl]; omega)
  rw [hz1] at hrun
  have hcl : cur.toList.length = cap * 3 := by rw [Array.length_toList, h5]
  have hul : us.length = n * 3 := by rw [← h6, List.length_take, hcl]; omega
  obtain ⟨W6, hrun, hfin⟩ : ∃ W6, (∀ ty, (Builtin.append_ #[22, 22] ty #[.slice (some ⟨g, 0, none⟩) n cap, .slice (some ⟨vb, voff, none⟩) 1 vc]).run Try.prog w = .ok (.slice (some ⟨g, 0, none⟩) (n + 1) cap) W6) ∧ Ins.Done w g n n us vs 41 3 (.slice (some ⟨g, 0, none⟩) (n + 1) cap) W6 := by
    refine ⟨_, hrun, g, cap, _, rfl, hb.setRow _, by rw [Ins.seg_size _ _ _ (by rw [h5, hvl]; omega), h5], hnc, h4, ?_, .inl ⟨rfl, Del.keptRow _ _ _⟩⟩
    have e1 : us.drop (n * 3) = [] := List.drop_eq_nil_of_le (by omega)
    have e2 : us.take (n * 3) = us := List.take_of_length_le (by omega)
    show List.take _ (_ ++ _ ++ _) = _
    rw [h6, e1, e2, List.append_nil, List.take_append_of_le_length (by simp; omega), List.take_of_length_le (by simp; omega)]
  have HFIN := Lib.hid hfin
  have HR := Lib.hid hrun
  have hn0 : (0 : Int) ≤ (n : Int) := by omega
  clear hrun hfin hb h5 h6 hi
  go_enter Try.func33, Try.ntmps33
  go_wp2_with (at_builtin; refine Lib.wpList_append_run _ rfl _ _ _ _ rfl _ _ rfl rfl _ _ (HR.out _) ?_)
  go_ret
  exact ⟨_, rfl, HFIN.out⟩
set_option maxRecDepth 100000 in
set_option maxHeartbeats 1600000 in
theorem insPg_endgrow (g cap n vb voff vc : Nat) (cur : Array Value) (us vs : List Value) (w : World) (hb : Blk w g 41 cur) (h5 : cur.size = cap * 3) (h4 : cap ≤ maxLen) (hnc : cap < n + 1) (hn : n ≤ cap) (hn40 : n ≤ 1000000) (h6 : cur.toList.take (n * 3) = us) (hvl : vs.length = 1 * 3) (hvs : ∀ j u, vs[j]? = some u → w.cell? ((⟨vb, voff, none⟩ : Addr).add j) = some u) (h1v : ∀ u ∈ vs, u.oneCell' = true) :
    Calls Try.prog 33 #[.slice (some ⟨g, 0, none⟩) n cap, .int .i64 n, .slice (some ⟨vb, voff, none⟩) 1 vc] w fun e w' => ∃ v, e = .returned v ∧ Ins.Done w g n n us vs 41 3 v w' := by
  unfold maxLen at h4
  obtain ⟨i0, hi, hz0, hz1, hz2⟩ := info_parts insinfoPg
  have hcl : cur.toList.length = cap * 3 := by rw [Array.length_toList, h5]
  have hul : us.length = n * 3 := by rw [← h6, List.length_take, hcl]; omega
  have holds : ∀ j v, us[j]? = some v → w.cell? ((⟨g, 0, none⟩ : Addr).add j) = some v := by
    intro j v hv
    rw [add_off, Nat.zero_add, hb.cell]
    rw [← h6, List.getElem?_take] at hv
    split at hv
    · simpa using hv
    · simp at hv
  have hrun : ∀ ty, (Builtin.append_ #[22, 22] ty #[.slice (some ⟨g, 0, none⟩) n cap, .slice (some ⟨vb, voff, none⟩) 1 vc]).run Try.prog w = _ := fun ty =>
    run_append_grow (P := Try.prog) w 22 ty 41 i0 _ Try.underlying22 hi hz0 ⟨g, 0, none⟩ n cap us (by rw [hz1]; exact hul) holds ⟨vb, voff, none⟩ 1 vc vs (by rw [hz1]; exact hvl) hvs hnc (by omega) (by rw [hz2]; exact growslice_fits hnc (by omega))
  have hcap := grownCap_ge w (n + 1) cap 41
  have hcm := grownCap_le_maxLen w (n + 1) cap 41 (by unfold maxLen; omega)
  obtain ⟨W6, gc, hrun, hfin⟩ : ∃ W6 gc, (∀ ty, (Builtin.append_ #[22, 22] ty #[.slice (some ⟨g, 0, none⟩) n cap, .slice (some ⟨vb, voff, none⟩) 1 vc]).run Try.prog w = .ok (.slice (some ⟨w.heap.size, 0, none⟩) (n + 1) gc) W6) ∧ Ins.Done w g n n us vs 41 3 (.slice (some ⟨w.heap.size, 0, none⟩) (n + 1) gc) W6 := by
    refine ⟨_, _, hrun, _, _, _, rfl, Blk.new w.drew _ _, ?_, hcap, hcm, ?_, .inr ⟨Nat.le_refl _, below_grown⟩⟩
    · have hzl : (Value.cells (.agg #[.int .i64 0, .int .i64 0, .string ⟨#[]⟩])).size = 3 := by decide
      simp only [Array.size_append, List.size_toArray, size_zeroCells, hzl, hul, hvl]
      omega
    · have e1 : us.drop (n * 3) = [] := List.drop_eq_nil_of_le (by omega)
      have e2 : us.take (n * 3) = us := List.take_of_length_le (by omega)
      simp only [Array.toList_append, e1, e2, List.append_nil]
      rw [List.take_append_of_le_length (by simp; omega), List.take_of_length_le (by simp; omega)]
  have HFIN := Lib.hid hfin
  have HR := Lib.hid hrun
  have hn0 : (0 : Int) ≤ (n : Int) := by omega
  clear hrun hfin hb h5 h6 hi holds hcap hcm
  go_enter Try.func33, Try.ntmps33
  go_wp2_with (at_builtin; refine Lib.wpList_append_run _ rfl _ _ _ _ rfl _ _ rfl rfl _ _ (HR.out _) ?_)
  all_goals (go_ret; exact ⟨_, rfl, HFIN.out⟩)
set_option maxRecDepth 100000 in
set_option maxHeartbeats 1600000 in
theorem insPg_nil (A : Option Addr) (vb voff vc : Nat) (vs : List Value) (w : World) (hvl : vs.length = 1 * 3) (hvs : ∀ j u, vs[j]? = some u → w.cell? ((⟨vb, voff, none⟩ : Addr).add j) = some u) (h1v : ∀ u ∈ vs, u.oneCell' = true) :
    Calls Try.prog 33 #[.slice A 0 0, .int .i64 0, .slice (some ⟨vb, voff, none⟩) 1 vc] w fun e w' => ∃ v, e = .returned v ∧ ∃ b' cap' cur', v = .slice (some ⟨b', 0, none⟩) 1 cap' ∧ Blk w' b' 41 cur' ∧ cur'.size = cap' * 3 ∧ 1 ≤ cap' ∧ cap' ≤ maxLen ∧ cur'.toList.take (1 * 3) = vs ∧ w.heap.size ≤ b' ∧ Below w.heap.size w w' := by
  obtain ⟨i0, hi, hz0, hz1, hz2⟩ := info_parts insinfoPg
  have hsrc : Src Try.prog i0.size 22 (.slice (some ⟨vb, voff, none⟩) 1 vc) 1 vs w := by
    rw [hz1]
    exact Src.ofSlice (e' := 41) w Try.underlying22 ⟨vb, voff, none⟩ 1 vc vs hvl hvs h1v
  have hold : (Builtin.firstCells i0.size 0 (.slice A 0 0)).run Try.prog w.drew = .ok ([] : List Value).toArray w.drew := by
    cases A with
    | none => exact run_firstCells_none w.drew i0.size 0 0 0
    | some a => exact run_firstCells_some w.drew i0.size 0 a 0 0 [] (by simp) (fun j v hj => by simp at hj)
  have hrun : ∀ ty, (Builtin.append_ #[22, 22] ty #[.slice A 0 0, .slice (some ⟨vb, voff, none⟩) 1 vc]).run Try.prog w = _ := fun ty =>
    run_append_grow_src w 22 22 ty 41 i0 _ Try.underlying22 hi hz0 A 0 0 [] hold _ 1 vs hsrc (by omega) (by omega) (by rw [hz2]; exact growslice_fits (by omega) (by omega))
  have hcap := grownCap_ge w (0 + 1) 0 41
  have hcm := grownCap_le_maxLen w (0 + 1) 0 41 (by unfold maxLen; omega)
  obtain ⟨W6, gc, hrun, hfin⟩ : ∃ W6 gc, (∀ ty, (Builtin.append_ #[22, 22] ty #[.slice A 0 0, .slice (some ⟨vb, voff, none⟩) 1 vc]).run Try.prog w = .ok (.slice (some ⟨w.heap.size, 0, none⟩) 1 gc) W6) ∧
      ∃ b' cap' cur', Value.slice (some ⟨w.heap.size, 0, none⟩) 1 gc = .slice (some ⟨b', 0, none⟩) 1 cap' ∧ Blk W6 b' 41 cur' ∧ cur'.size = cap' * 3 ∧ 1 ≤ cap' ∧ cap' ≤ maxLen ∧ cur'.toList.take (1 * 3) = vs ∧ w.heap.size ≤ b' ∧ Below w.heap.size w W6 := by
    refine ⟨_, _, hrun, _, _, _, rfl, Blk.new w.drew _ _, ?_, hcap, hcm, ?_, Nat.le_refl _, below_grown⟩
    · have hzl : (Value.cells (.agg #[.int .i64 0, .int .i64 0, .string ⟨#[]⟩])).size = 3 := by decide
      simp only [List.nil_append, Array.size_append, List.size_toArray, size_zeroCells, hzl, hvl]
      omega
    · simp only [Array.toList_append, List.nil_append]
      rw [List.take_append_of_le_length (by simp; omega), List.take_of_length_le (by simp; omega)]
  have HFIN := Lib.hid hfin
  have HR := Lib.hid hrun
  clear hrun hfin hi hold hcap hcm hsrc
  cases A with
  | none =>
    go_enter Try.func33, Try.ntmps33
    go_wp2_with (at_builtin; refine Lib.wpList_append_run _ rfl _ _ _ _ rfl _ _ rfl rfl _ _ (HR.out _) ?_)
    all_goals (go_ret; exact ⟨_, rfl, HFIN.out⟩)
  | some a =>
    go_enter Try.func33, Try.ntmps33
    go_wp2_with (at_builtin; refine Lib.wpList_append_run _ rfl _ _ _ _ rfl _ _ rfl rfl _ _ (HR.out _) ?_)
    all_goals (go_ret; exact ⟨_, rfl, HFIN.out⟩)
set_option maxRecDepth 100000 in
set_option maxHeartbeats 1600000 in
theorem insPg_shift (g cap k n vb voff vc : Nat) (cur : Array Value) (us vs : List Value) (w : World) (hb : Blk w g 41 cur) (h5 : cur.size = cap * 3) (h4 : cap ≤ maxLen) (hnc : n + 1 ≤ cap) (hkn : k < n) (hn40 : n ≤ 1000000) (h6 : cur.toList.take (n * 3) = us) (h1 : ∀ u ∈ us, u.oneCell' = true) (hvb : vb ≠ g) (hvl : vs.length = 1 * 3) (hvs : ∀ j u, vs[j]? = some u → w.cell? ((⟨vb, voff, none⟩ : Addr).add j) = some u) (h1v : ∀ u ∈ vs, u.oneCell' = true) :
    Calls Try.prog 33 #[.slice (some ⟨g, 0, none⟩) n cap, .int .i64 k, .slice (some ⟨vb, voff, none⟩) 1 vc] w fun e w' => ∃ v, e = .returned v ∧ Ins.Done w g n k us vs 41 3 v w' := by
  unfold maxLen at h4
  have hcl : cur.toList.length = cap * 3 := by rw [Array.length_toList, h5]
  have hul : us.length = n * 3 := by rw [← h6, List.length_take, hcl]; omega
  have hdl : (us.drop (k * 3)).length = (n - k) * 3 := by rw [List.length_drop, hul]; omega
  have hdsrc : ∀ j u, (us.drop (k * 3))[j]? = some u → w.drew.cell? ((⟨g, k * 3, none⟩ : Addr).add j) = some u := by
    intro j u hju
    rw [List.getElem?_drop, ← h6, List.getElem?_take] at hju
    split at hju
    · rw [add_off, hb.drew.cell]
      simpa using hju
    · simp at hju
  have hd1 : ∀ u ∈ us.drop (k * 3), u.oneCell' = true := fun u hu => h1 u (List.mem_of_mem_drop hu)
  have hfit1 : (k + 1) * 3 + (us.drop (k * 3)).length ≤ cur.size := by rw [hdl, h5]; omega
  obtain ⟨c1, hc1⟩ : ∃ c1, c1 = (cur.toList.take ((k + 1) * 3) ++ us.drop (k * 3) ++ cur.toList.drop ((k + 1) * 3 + (us.drop (k * 3)).length)).toArray := ⟨_, rfl⟩
  have hc1s : c1.size = cap * 3 := by rw [hc1, Ins.seg_size _ _ _ hfit1, h5]
  obtain ⟨W7, hcp1, hb7, hk7⟩ : ∃ W7, (∀ ty dc sc dl o1 o2, o1 = (k + 1) * 3 → o2 = k * 3 → Nat.min (n + 1 - k) dl = n - k → (Builtin.copy_ #[22, 22] ty #[.slice (some ⟨g, o1, none⟩) dl dc, .slice (some ⟨g, o2, none⟩) (n + 1 - k) sc]).run Try.prog w.drew = .ok (goInt (n - k : Nat)) W7) ∧ Blk W7 g 41 c1 ∧ Kept g w W7 := by
    refine ⟨w.drew.setRow g c1, fun ty dc sc dl o1 o2 ho1 ho2 hm => ?_, hb.drew.setRow _, (Del.keptDrew g w).trans (Del.keptRow _ _ _)⟩
    rw [hc1, ho1, ho2]
    exact Ins.run_copy w.drew 22 22 ty 41 3 g _ dl dc ⟨g, k * 3, none⟩ (n + 1 - k) sc cur 41 (us.drop (k * 3)) (n - k) Try.underlying22 insszPg hb.drew hm hdl hdsrc hfit1 hd1
  have hvs7 : ∀ j u, vs[j]? = some u → W7.cell? ((⟨vb, voff, none⟩ : Addr).add j) = some u := by
    intro j u hju
    have h8 := hvs j u hju
    rw [add_off] at h8 ⊢
    have hlt : vb < w.heap.size := by
      rcases Nat.lt_or_ge vb w.heap.size with h | h
      · exact h
      · unfold World.cell? at h8
        simp only [Array.getElem?_eq_none h] at h8
        cases h8
    rw [World.cell?_of_block (w := w) (hk7.2.2.2.2 vb hlt hvb)]
    exact h8
  have hfit2 : k * 3 + vs.length ≤ c1.size := by rw [hvl, hc1s]; omega
  obtain ⟨W8, hcp2, hfin⟩ : ∃ W8, (∀ ty dc o, o = k * 3 → (Builtin.copy_ #[22, 22] ty #[.slice (some ⟨g, o, none⟩) (n + 1 - k) dc, .slice (some ⟨vb, voff, none⟩) 1 vc]).run Try.prog W7 = .ok (goInt 1) W8) ∧ Ins.Done w g n k us vs 41 3 (.slice (some ⟨g, 0, none⟩) (n + 1) cap) W8 := by
    refine ⟨_, fun ty dc o ho => by rw [ho]; exact Ins.run_copy W7 22 22 ty 41 3 g _ (n + 1 - k) dc ⟨vb, voff, none⟩ 1 vc c1 41 vs 1 Try.underlying22 insszPg hb7 (by simp only [Nat.min_def]; split <;> omega) hvl hvs7 hfit2 h1v, g, cap, _, rfl, hb7.setRow _, by rw [Ins.seg_size _ _ _ hfit2, hc1s], hnc, h4, ?_, .inl ⟨rfl, hk7.trans (Del.keptRow _ _ _)⟩⟩
    have h9 := Ins.cells_in cur.toList us vs (k * 3) (1 * 3) (n * 3) h6 (by rw [hcl]; omega) (by omega) hvl
    rw [← Nat.add_mul, ← Nat.add_mul] at h9
    rw [hc1]
    exact h9
  have hov : ∀ w2 : World, (∀ x, w2.cell? x = w.cell? x) → w2.heap = w.heap → ∀ lb cb off, (callFunc 44 #[.slice (some ⟨vb, voff, none⟩) 1 vc, .slice (some ⟨g, off, none⟩) lb cb]).run Try.prog w2 = .ok (.value (.bool false)) w2 := by
    intro w2 e1 e2 lb cb off
    obtain ⟨v0, hv0⟩ : ∃ v0, vs[0]? = some v0 := ⟨_, List.getElem?_eq_getElem (by omega)⟩
    have h8 := hvs 0 v0 hv0
    rw [add_off] at h8
    exact insovPg hvb (va := v0) (by rw [e1]; exact h8) (cur := cur) (by unfold Blk; rw [e2]; exact hb) (by rw [h5]; omega)
  have HFIN := Lib.hid hfin
  have HO := Lib.hid hov
  have HC1 := Lib.hid hcp1
  have HC2 := Lib.hid hcp2
  have mixed : Try.prog.follows .mixedOrders = true := by kernel_rfl
  have hw1 : IntKind.i64.wrap ((k : Int) + 1) = (k : Int) + 1 := wrapI (by omega)
  have hw2 : IntKind.i64.wrap ((n : Int) + 1) = (n : Int) + 1 := wrapI (by omega)
  have hn0 : (0 : Int) ≤ (k : Int) := by omega
  have hn1 : (k : Int) ≤ (n : Int) := by omega
  have hn2 : ((k : Int) == (n : Int)) = false := by rw [beq_eq_false_iff_ne]; omega
  have hn3 : ¬ (cap = k + 1) := by omega
  have hn4 : ¬ (cap = k) := by omega
  have hn5 : (n : Int) + 1 ≤ (cap : Int) := by omega
  have hn6 : (cap : Int) ≤ 9223372036854775807 := by omega
  have hn7 : (k : Int) + 1 ≤ (n : Int) + 1 := by omega
  have hn8 : ((k : Int) + 1).toNat = k + 1 := by omega
  have hn9 : ((n : Int) + 1).toNat = n + 1 := by omega
  have hm1 : (0 : Int) ≤ (k : Int) + 1 := by omega
  have hm2 : (0 : Int) ≤ (n : Int) + 1 := by omega
  have hm3 : (k : Int) ≤ (n : Int) + 1 := by omega
  have hm4 : k ≤ n := by omega
  have hm5 : k + 1 ≤ n + 1 := by omega
  have hm6 : Nat.min (n + 1 - k) (n + 1 - (k + 1)) = n - k := by simp only [Nat.min_def]; split <;> omega
  have hm7 : Nat.min (n + 1 - k) (n - k) = n - k := by simp only [Nat.min_def]; split <;> omega
  clear hfin hov hcp1 hcp2 hb h5 h6 h1 hvs hvs7 hdsrc hd1 hfit1 hfit2 hc1 hc1s hb7 hk7 hcl hul hdl hvl
  go_enter Try.func33, Try.ntmps33
  go_wp2_with (simp only [HO.out w (fun _ => rfl) rfl])
  go_region_law_o (refine Ins.step_copy_run rfl _ _ 22 22 rfl (.slice (some ⟨g, (k + 1) * 3, none⟩) (n - k) (cap - (k + 1))) (.slice (some ⟨g, k * 3, none⟩) (n + 1 - k) (cap - k)) (by simp [Act.eval, Act.put]) (by simp [Act.eval, Act.put]) (HC1.out _ _ _ _ _ _ rfl rfl hm7) ?_)
  go_wp2_with (first | simp only [fun ty dc => HC2.out ty dc (k * 3) rfl, Result.andThen_ok] | simp only [fun ty dc => HC2.out ty dc k (by omega), Result.andThen_ok])
  go_ret
  exact ⟨_, rfl, HFIN.out⟩
set_option maxRecDepth 100000 in
set_option maxHeartbeats 1600000 in
theorem insPg_grow (g cap k n vb voff vc : Nat) (cur : Array Value) (us vs : List Value) (w : World) (hb : Blk w g 41 cur) (h5 : cur.size = cap * 3) (h4 : cap ≤ maxLen) (hnc : cap < n + 1) (hn : n ≤ cap) (hkn : k < n) (hn40 : n ≤ 1000000) (h6 : cur.toList.take (n * 3) = us) (h1 : ∀ u ∈ us, u.oneCell' = true) (hvb : vb ≠ g) (hvl : vs.length = 1 * 3) (hvs : ∀ j u, vs[j]? = some u → w.cell? ((⟨vb, voff, none⟩ : Addr).add j) = some u) (h1v : ∀ u ∈ vs, u.oneCell' = true) :
    Calls Try.prog 33 #[.slice (some ⟨g, 0, none⟩) n cap, .int .i64 k, .slice (some ⟨vb, voff, none⟩) 1 vc] w fun e w' => ∃ v, e = .returned v ∧ Ins.Done w g n k us vs 41 3 v w' := by
  unfold maxLen at h4
  obtain ⟨i0, hi, hz0, hz1, hz2⟩ := info_parts insinfoPg
  have hcl : cur.toList.length = cap * 3 := by rw [Array.length_toList, h5]
  have hul : us.length = n * 3 := by rw [← h6, List.length_take, hcl]; omega
  have hdl : (us.drop (k * 3)).length = (n - k) * 3 := by rw [List.length_drop, hul]; omega
  have hus : ∀ (j : Nat) (u : Value), us[j]? = some u → cur[j]? = some u := by
    intro j u hju
    rw [← h6, List.getElem?_take] at hju
    split at hju
    · simpa using hju
    · simp at hju
  have hold : (Builtin.firstCells i0.size k (.slice (some ⟨g, 0, none⟩) k cap)).run Try.prog w.drew = .ok (us.take (k * 3)).toArray w.drew := by
    rw [hz1]
    refine run_firstCells_some w.drew 3 k ⟨g, 0, none⟩ k cap (us.take (k * 3)) (by rw [List.length_take]; omega) (fun j v hj => ?_)
    rw [List.getElem?_take] at hj
    split at hj
    · rw [add_off, Nat.zero_add, hb.drew.cell]; exact hus j v hj
    · simp at hj
  have hzl : (Value.cells (.agg #[.int .i64 0, .int .i64 0, .string ⟨#[]⟩])).size = 3 := by decide
  have hkk : (n : Int) + 1 - (k : Int) = ((n + 1 - k : Nat) : Int) := by omega
  have hik : k + (n + 1 - k) = n + 1 := by omega
  obtain ⟨W1, G, R0, hrz, hR0, hb1, hG, hGm, hR0s, hbel⟩ : ∃ W1 G R0, (∀ ty, (Builtin.append_ #[22, 3] ty #[.slice (some ⟨g, 0, none⟩) k cap, .int .i64 ((n : Int) + 1 - (k : Int))]).run Try.prog w = .ok (.slice (some ⟨w.heap.size, 0, none⟩) (n + 1) G) W1) ∧
      (∃ Z : List Value, R0.toList = us.take (k * 3) ++ Z ∧ (n + 1) * 3 ≤ k * 3 + Z.length) ∧ Blk W1 w.heap.size 41 R0 ∧ n + 1 ≤ G ∧ G ≤ maxLen ∧ R0.size = G * 3 ∧ Below w.heap.size w W1 := by
    have h := fun ty => Lib.run_append_grow_zeros (P := Try.prog) w 22 3 ty 41 i0 _ .i64 .i64 Try.underlying22 Try.underlying3 hi hz0 (some ⟨g, 0, none⟩) k cap (us.take (k * 3)) hold (n + 1 - k) (by omega) (by omega) (by omega) (by omega) (by rw [hz2]; omega) (by rw [hz2, hik]; exact growslice_fits hnc (by omega))
    rw [hik] at h
    rw [hkk]
    have hcap := grownCap_ge w (n + 1) cap 41
    refine ⟨_, _, _, h, ⟨(Builtin.zeroCells (Value.cells (.agg #[.int .i64 0, .int .i64 0, .string ⟨#[]⟩])) (n + 1 - k)).toList ++ (Builtin.zeroCells (Value.cells (.agg #[.int .i64 0, .int .i64 0, .string ⟨#[]⟩])) (grownCap w (n + 1) cap 41 - (n + 1))).toList, by simp, ?_⟩, Blk.new w.drew _ _, hcap, grownCap_le_maxLen w (n + 1) cap 41 (by unfold maxLen; omega), ?_, below_grown⟩
    · simp only [List.length_append, Array.length_toList, size_zeroCells, hzl]
      omega
    · simp only [Array.size_append, List.size_toArray, size_zeroCells, hzl, List.length_take, hul]
      omega
  unfold maxLen at hGm
  have hgl : g < w.heap.size := hb.lt
  have hbg : Blk W1 g 41 cur := hb.keep hbel
  obtain ⟨Z, hR0, hZ⟩ := hR0
  have hvs1 : ∀ j u, vs[j]? = some u → W1.cell? ((⟨vb, voff, none⟩ : Addr).add j) = some u ∧ vb < w.heap.size := by
    intro j u hju
    have h8 := hvs j u hju
    rw [add_off] at h8 ⊢
    have hlt : vb < w.heap.size := by
      rcases Nat.lt_or_ge vb w.heap.size with h | h
      · exact h
      · unfold World.cell? at h8
        simp only [Array.getElem?_eq_none h] at h8
        cases h8
    rw [World.cell?_of_block (w := w) (hbel.block vb hlt)]
    exact ⟨h8, hlt⟩
  have hfit1 : k * 3 + vs.length ≤ R0.size := by rw [hvl, hR0s]; omega
  obtain ⟨R1, hR1⟩ : ∃ R1, R1 = (R0.toList.take (k * 3) ++ vs ++ R0.toList.drop (k * 3 + vs.length)).toArray := ⟨_, rfl⟩
  have hR1s : R1.size = G * 3 := by rw [hR1, Ins.seg_size _ _ _ hfit1, hR0s]
  obtain ⟨W2, hcp1, hb2, hbg2, hbel2⟩ : ∃ W2, (∀ ty dc o, o = k * 3 → (Builtin.copy_ #[22, 22] ty #[.slice (some ⟨w.heap.size, o, none⟩) (n + 1 - k) dc, .slice (some ⟨vb, voff, none⟩) 1 vc]).run Try.prog W1 = .ok (goInt 1) W2) ∧ Blk W2 w.heap.size 41 R1 ∧ Blk W2 g 41 cur ∧ Below w.heap.size w W2 := by
    have hkr := Del.keptRow W1 w.heap.size R1
    refine ⟨W1.setRow w.heap.size R1, fun ty dc o ho => ?_, hb1.setRow _, (hkr.2.2.2.2 g hbg.lt (by omega)).trans hbg, ⟨hkr.2.1.trans hbel.os, hkr.2.2.1.trans hbel.tape, hkr.2.2.2.1.trans hbel.output, Nat.le_trans hbel.size hkr.1, fun b hbb => (hkr.2.2.2.2 b (Nat.lt_of_lt_of_le hbb hbel.size) (by omega)).trans (hbel.block b hbb)⟩⟩
    rw [ho, hR1]
    exact Ins.run_copy W1 22 22 ty 41 3 w.heap.size _ (n + 1 - k) dc ⟨vb, voff, none⟩ 1 vc R0 41 vs 1 Try.underlying22 insszPg hb1 (by simp only [Nat.min_def]; split <;> omega) hvl (fun j u hj => (hvs1 j u hj).1) hfit1 h1v
  have hdsrc : ∀ j u, (us.drop (k * 3))[j]? = some u → W2.drew.cell? ((⟨g, k * 3, none⟩ : Addr).add j) = some u := by
    intro j u hju
    rw [List.getElem?_drop] at hju
    rw [add_off, hbg2.drew.cell]
    exact hus _ _ hju
  have hd1 : ∀ u ∈ us.drop (k * 3), u.oneCell' = true := fun u hu => h1 u (List.mem_of_mem_drop hu)
  have hfit2 : (k + 1) * 3 + (us.drop (k * 3)).length ≤ R1.size := by rw [hdl, hR1s]; omega
  obtain ⟨W3, hcp2, hfin⟩ : ∃ W3, (∀ ty dc sc dl o1 o2, o1 = (k + 1) * 3 → o2 = k * 3 → Nat.min (n - k) dl = n - k → (Builtin.copy_ #[22, 22] ty #[.slice (some ⟨w.heap.size, o1, none⟩) dl dc, .slice (some ⟨g, o2, none⟩) (n - k) sc]).run Try.prog W2.drew = .ok (goInt (n - k : Nat)) W3) ∧ Ins.Done w g n k us vs 41 3 (.slice (some ⟨w.heap.size, 0, none⟩) (n + 1) G) W3 := by
    have hkr := (Del.keptDrew w.heap.size W2).trans (Del.keptRow W2.drew w.heap.size (R1.toList.take ((k + 1) * 3) ++ us.drop (k * 3) ++ R1.toList.drop ((k + 1) * 3 + (us.drop (k * 3)).length)).toArray)
    refine ⟨_, fun ty dc sc dl o1 o2 ho1 ho2 hm => ?_, w.heap.size, G, _, rfl, hb2.drew.setRow _, by rw [Ins.seg_size _ _ _ hfit2, hR1s], hG, hGm, ?_, .inr ⟨Nat.le_refl _, ⟨hkr.2.1.trans hbel2.os, hkr.2.2.1.trans hbel2.tape, hkr.2.2.2.1.trans hbel2.output, Nat.le_trans hbel2.size hkr.1, fun b hbb => (hkr.2.2.2.2 b (Nat.lt_of_lt_of_le hbb hbel2.size) (by omega)).trans (hbel2.block b hbb)⟩⟩⟩
    · rw [ho1, ho2]
      exact Ins.run_copy W2.drew 22 22 ty 41 3 w.heap.size _ dl dc ⟨g, k * 3, none⟩ (n - k) sc R1 41 (us.drop (k * 3)) (n - k) Try.underlying22 insszPg hb2.drew hm hdl hdsrc hfit2 hd1
    · have h9 := Ins.cells_new us vs Z (k * 3) (1 * 3) (n * 3) hul (by omega) hvl (by omega)
      rw [← Nat.add_mul, ← Nat.add_mul] at h9
      rw [hR1]
      simp only [hR0]
      exact h9
  have HFIN := Lib.hid hfin
  have HZ := Lib.hid hrz
  have HC1 := Lib.hid hcp1
  have HC2 := Lib.hid hcp2
  have mixed : Try.prog.follows .mixedOrders = true := by kernel_rfl
  have hw1 : IntKind.i64.wrap ((k : Int) + 1) = (k : Int) + 1 := wrapI (by omega)
  have hw2 : IntKind.i64.wrap ((n : Int) + 1) = (n : Int) + 1 := wrapI (by omega)
  have hw3 : IntKind.i64.wrap ((n : Int) + 1 - (k : Int)) = (n : Int) + 1 - (k : Int) := wrapI (by omega)
  have hn0 : (0 : Int) ≤ (k : Int) := by omega
  have hn1 : (k : Int) ≤ (n : Int) := by omega
  have hn2 : ((k : Int) == (n : Int)) = false := by rw [beq_eq_false_iff_ne]; omega
  have hn3 : ¬ (G = k + 1) := by omega
  have hn4 : ¬ (G = k) := by omega
  have hn4b : ¬ (cap = k) := by omega
  have hn5 : (cap : Int) < (n : Int) + 1 := by omega
  have hn6 : (G : Int) ≤ 9223372036854775807 := by omega
  have hn6b : (cap : Int) ≤ 9223372036854775807 := by omega
  have hn7 : (k : Int) + 1 ≤ (n : Int) + 1 := by omega
  have hn8 : ((k : Int) + 1).toNat = k + 1 := by omega
  have hm1 : (0 : Int) ≤ (k : Int) + 1 := by omega
  have hm3 : (k : Int) ≤ (n : Int) + 1 := by omega
  have hm3b : (k : Int) ≤ (cap : Int) := by omega
  have hm4 : k ≤ n := by omega
  have hm4b : k ≤ cap := by omega
  have hm5 : k + 1 ≤ n + 1 := by omega
  have hm7 : Nat.min (n - k) (n - k) = n - k := by simp only [Nat.min_def]; split <;> omega
  clear hfin hrz hcp1 hcp2 hb h5 h6 h1 hvs hvs1 hdsrc hd1 hfit1 hfit2 hR1 hR1s hb1 hb2 hbg hbg2 hbel hbel2 hcl hul hdl hvl hus hold hzl hkk hik hR0 hZ hR0s hi
  go_enter Try.func33, Try.ntmps33
  go_wp2_with (first
    | (at_builtin; refine Lib.wpList_append_run _ rfl _ _ _ _ rfl _ _ rfl rfl _ _ (HZ.out _) ?_)
    | simp only [fun ty dc => HC1.out ty dc (k * 3) rfl, Result.andThen_ok] | simp only [fun ty dc => HC1.out ty dc k (by omega), Result.andThen_ok])
  go_region_law_o (refine Ins.step_copy_run rfl _ _ 22 22 rfl (.slice (some ⟨w.heap.size, (k + 1) * 3, none⟩) (n - k) (G - (k + 1))) (.slice (some ⟨g, k * 3, none⟩) (n - k) (cap - k)) (by simp [Act.eval, Act.put]) (by simp [Act.eval, Act.put]) (HC2.out _ _ _ _ _ _ rfl rfl hm7) ?_)
  go_wp2_with fail
  go_ret
  exact ⟨_, rfl, HFIN.out⟩
/-- slices.Insert of one element -/
theorem insPg_spec (els : List (List SC)) (k : Nat) (x : List SC) (hk : k ≤ els.length) (hl : els.length ≤ 1000000) : SpecX Try.prog 33 ⟨true, 41, 3, els, none, els.take k ++ [x] ++ els.drop k, none⟩ [rI k, .c (.sl 3 [x])] := by
  have hlen : (els.take k ++ [x] ++ els.drop k).length = els.length + 1 := by simp; omega
  have hfl : (els.take k ++ [x] ++ els.drop k).flatten = (els.take k).flatten ++ x ++ (els.drop k).flatten := by simp
  refine ⟨Nat.succ_pos _, ?_, ?_⟩
  · intro w O b cap us hO hX hus
    obtain ⟨he, cur, hB, hr, hc⟩ := hX
    obtain ⟨hc1, hc2, hc3⟩ := hc rfl
    simp only at he hB hr hc1 hc3
    obtain ⟨u1, us1, rfl, hu1, hus1⟩ := hus.cons_inv
    obtain ⟨u2, us2, rfl, hu2, hus2⟩ := hus1.cons_inv
    obtain rfl := hus2.nil_inv
    obtain rfl := RepS.flat hu1
    have hu2' : RepS w (fun k => O k ∨ k = b) (.sl 3 [x]) u2 := hu2
    cases hu2' with
    | @sl _ _ vb voff vc vs h0 hcap hm hvb hvO hve hvlen hvr hvc =>
    have hfx : [x].flatten = x := by simp
    have hxl : x.length = 3 := hve x (by simp)
    have hvl : vs.length = 1 * 3 := by rw [← hvlen, hfx, hxl]
    have hRx : RL (RepS w (fun k => O k ∨ k = b)) x vs := by
      refine ⟨by rw [← hvlen, hfx], fun i a c => ?_⟩
      have := hvr i (by rw [hfx]; exact a) c
      simpa only [hfx] using this
    have h1v : ∀ u ∈ vs, u.oneCell' = true := fun u hu => by
      obtain ⟨i, hi, rfl⟩ := List.mem_iff_getElem.1 hu
      exact (hRx.2 i (by rw [hRx.1]; exact hi) hi).one
    have hvs : ∀ j u, vs[j]? = some u → w.cell? ((⟨vb, voff, none⟩ : Addr).add j) = some u := fun j u hj => by
      obtain ⟨hj1, rfl⟩ := List.getElem?_eq_some_iff.1 hj
      rw [add_off]; exact hvc j hj1
    have hne : vb ≠ b := fun e => hvO (.inr e)
    have hfe := flatten_len els he
    obtain ⟨us, hus0⟩ : ∃ us, us = cur.toList.take (els.length * 3) := ⟨_, rfl⟩
    have hr2 : RL (RepS w (fun k => O k ∨ k = b)) els.flatten us := by rw [hus0, ← hfe]; exact hr
    have h1u : ∀ u ∈ us, u.oneCell' = true := fun u hu => by
      obtain ⟨i, hi, rfl⟩ := List.mem_iff_getElem.1 hu
      exact (hr2.2 i (by rw [hr2.1]; exact hi) hi).one
    have hw : Calls Try.prog 33 #[.slice (some ⟨b, 0, none⟩) els.length cap, .int .i64 k, .slice (some ⟨vb, voff, none⟩) 1 vc] w fun e w' => ∃ v, e = .returned v ∧ Ins.Done w b els.length k us vs 41 3 v w' := by
      by_cases hkn : k = els.length
      · subst hkn
        by_cases hroom : els.length + 1 ≤ cap
        · exact insPg_endroom b cap els.length vb voff vc cur us vs w hB hc3 hc2 hroom hl hus0.symm hvl hvs h1v
        · exact insPg_endgrow b cap els.length vb voff vc cur us vs w hB hc3 hc2 (by omega) hc1 hl hus0.symm hvl hvs h1v
      · by_cases hroom : els.length + 1 ≤ cap
        · exact insPg_shift b cap k els.length vb voff vc cur us vs w hB hc3 hc2 hroom (by omega) hl hus0.symm h1u hne hvl hvs h1v
        · exact insPg_grow b cap k els.length vb voff vc cur us vs w hB hc3 hc2 (by omega) hc1 (by omega) hl hus0.symm h1u hne hvl hvs h1v
    unfold XR.val
    simp only
    refine hw.mono ?_
    rintro ex w' ⟨v, rfl, b', cap', cur', rfl, h1, h2, h3, h4, h5, h6⟩
    refine ⟨_, rfl, b', cap', by rw [hlen], ⟨fun y hy => ?_, cur', h1, ?_, fun _ => ⟨by rw [hlen]; exact h3, h4, h2⟩⟩, h6⟩
    · rcases List.mem_append.1 hy with hy | hy
      · rcases List.mem_append.1 hy with hy | hy
        · exact he y (List.mem_of_mem_take hy)
        · rw [List.mem_singleton.1 hy]; exact hxl
      · exact he y (List.mem_of_mem_drop hy)
    · have hfl2 : (els.take k ++ [x] ++ els.drop k).flatten.length = (els.length + 1) * 3 := by
        rw [flatten_len (e := 3) _ (fun y hy => by
          rcases List.mem_append.1 hy with hy | hy
          · rcases List.mem_append.1 hy with hy | hy
            · exact he y (List.mem_of_mem_take hy)
            · rw [List.mem_singleton.1 hy]; exact hxl
          · exact he y (List.mem_of_mem_drop hy)), hlen]
      rw [hfl2, h5, hfl, flatten_takeE els he, flatten_dropE els he]
      refine (((hr2.take _).append hRx).append (hr2.drop _)).mono (fun y u hy => ?_)
      rcases h6 with ⟨rfl, h6⟩ | ⟨h6, h7⟩
      · exact hy.mono h6.1 (fun q hq hnq => ⟨h6.2.2.2.2 q hq (fun e => hnq (.inr e)), hnq⟩)
      · exact hy.mono h7.size (fun q hq hnq => ⟨h7.block q hq, by rintro (h8 | h8); exact hnq (.inl h8); omega⟩)
  · intro hX0 _ w O A us hO hus
    simp only at hX0
    subst hX0
    obtain rfl : k = 0 := by simpa using hk
    obtain ⟨u1, us1, rfl, hu1, hus1⟩ := hus.cons_inv
    obtain ⟨u2, us2, rfl, hu2, hus2⟩ := hus1.cons_inv
    obtain rfl := hus2.nil_inv
    obtain rfl := RepS.flat hu1
    have hu2' : RepS w O (.sl 3 [x]) u2 := hu2
    cases hu2' with
    | @sl _ _ vb voff vc vs h0 hcap hm hvb hvO hve hvlen hvr hvc =>
    have hfx : [x].flatten = x := by simp
    have hxl : x.length = 3 := hve x (by simp)
    have hvl : vs.length = 1 * 3 := by rw [← hvlen, hfx, hxl]
    have hRx : RL (RepS w O) x vs := by
      refine ⟨by rw [← hvlen, hfx], fun i a c => ?_⟩
      have := hvr i (by rw [hfx]; exact a) c
      simpa only [hfx] using this
    have h1v : ∀ u ∈ vs, u.oneCell' = true := fun u hu => by
      obtain ⟨i, hi, rfl⟩ := List.mem_iff_getElem.1 hu
      exact (hRx.2 i (by rw [hRx.1]; exact hi) hi).one
    have hvs : ∀ j u, vs[j]? = some u → w.cell? ((⟨vb, voff, none⟩ : Addr).add j) = some u := fun j u hj => by
      obtain ⟨hj1, rfl⟩ := List.getElem?_eq_some_iff.1 hj
      rw [add_off]; exact hvc j hj1
    refine (insPg_nil A vb voff vc vs w hvl hvs h1v).mono ?_
    rintro ex w' ⟨v, rfl, b', cap', cur', rfl, h1, h2, h3, h4, h5, h6, h7⟩
    refine ⟨_, rfl, h7, Nat.succ_pos _, fun y hy => ?_, .inr ⟨b', cap', cur', rfl, h6, h1, h3, h4, h2, ?_⟩⟩
    · simp at hy; rw [hy]; exact hxl
    · have e1 : (([] : List (List SC)).take 0 ++ [x] ++ ([] : List (List SC)).drop 0).flatten = x := by simp
      rw [e1, hxl, show (3 : Nat) = 1 * 3 from rfl, h5]
      exact hRx.mono (fun y u hy => hy.mono h7.size (fun q hq hnq => ⟨h7.block q hq, by rintro (h8 | h8); exact hnq h8; omega⟩))

end Go.Proofs.Ytbpipdgkkdifgaa
