/- layer 14: the contracts: isPage, place, Right, Mark, Clean, Since. -/
import Derived.Test.YtcindpblgbpcoaaDy
import Derived.Test.YtcindpblgbpcoaaCodeF
import Derived.Lib.Hide
import Derived.Shelf.RegionOpenPlain
import Derived.WalkKit
import Derived.ProofKit
namespace Go.Proofs.Ytcindpblgbpcoaa
open Go.RowKit
set_option linter.unusedVariables false
set_option linter.unusedSimpArgs false
theorem mixed : Try.prog.follows .mixedOrders = true := by kernel_rfl
def encI (s : Int) : List SC := [.pv (.int .i64 s)]
def encIt (x : It) : List SC := [.pv (.int .i64 x.page), .pv (.int .i64 x.since)]
theorem cloneIt (l : List (List SC)) (hl : l.length * 16 ≤ 2 ^ 47) : Spec Try.prog 113 [.c (.sl 2 l)] (.row 117 2 l) := by
  refine Spec.tag ?_ ?_
  · intro h
    subst h
    refine spec_row mixed fn113 (by simp) ?_
    unfold ac113
    simp -implicitDefEqProofs only [↓aP, aQ, ↓reduceIte, Nat.reduceEqDiff, Nat.reduceAdd, Nat.reduceSub, Nat.reduceMul, Nat.reduceLT, Nat.reduceLeDiff, reduceCtorEq, Nat.reduceBEq, forall_const, implies_true, exists_const, ne_eq, Int.reduceAdd, Int.reduceSub, Int.reduceMul, Int.reduceBEq, Int.reduceEq, Int.reduceLT, Int.reduceLE, Int.reduceToNat, Int.reduceNeg, Int.reduceBNe]
  · refine spec_row mixed fn113 (by simp) ?_
    unfold ac113
    simp -implicitDefEqProofs only [↓aP, aQ, ↓reduceIte, Nat.reduceEqDiff, Nat.reduceAdd, Nat.reduceSub, Nat.reduceMul, Nat.reduceLT, Nat.reduceLeDiff, reduceCtorEq, Nat.reduceBEq, forall_const, implies_true, exists_const, ne_eq, Int.reduceAdd, Int.reduceSub, Int.reduceMul, Int.reduceBEq, Int.reduceEq, Int.reduceLT, Int.reduceLE, Int.reduceToNat, Int.reduceNeg, Int.reduceBNe]
    refine ⟨?_, ?_⟩ <;> omega

theorem infoIt : (Try.prog.info? 117).map (fun i => (i.zero, i.size, i.bytes)) = some (some (.agg #[.int .i64 0, .int .i64 0]), 2, 16) := by kernel_rfl
set_option maxRecDepth 100000 in
set_option maxHeartbeats 1600000 in
theorem delIt_walk (g cap k n : Nat) (cur : Array Value) (us : List Value) (w : World) (hb : Blk w g 117 cur) (h5 : cur.size = cap * 2) (h4 : cap ≤ maxLen) (hnc : n + 1 ≤ cap) (hkn : k ≤ n) (hn40 : n ≤ 1000000) (h6 : cur.toList.take ((n + 1) * 2) = us) (h1 : ∀ u ∈ us, u.oneCell' = true) :
    Calls Try.prog 112 #[.slice (some ⟨g, 0, none⟩) (n + 1) cap, .int .i64 k, .int .i64 ((k : Int) + 1)] w fun e w' => e = .returned (.slice (some ⟨g, 0, none⟩) n cap) ∧ ∃ cur', Blk w' g 117 cur' ∧ cur'.size = cap * 2 ∧ cur'.toList.take (n * 2) = us.take (k * 2) ++ us.drop ((k + 1) * 2) ∧ Kept g w w' := by
  unfold maxLen at h4
  have hul : us.length = (n + 1) * 2 := by rw [← h6, List.length_take, Array.length_toList, h5]; omega
  obtain ⟨ad, had, hads⟩ : ∃ ad : Addr, (if cap = k + 1 then some (⟨g, 0, none⟩ : Addr) else some ⟨g, (k + 1) * 2, none⟩) = some ad ∧ ∀ j u, (us.drop ((k + 1) * 2))[j]? = some u → w.drew.cell? (ad.add j) = some u := by
    by_cases hck : cap = k + 1
    · refine ⟨⟨g, 0, none⟩, by rw [if_pos hck], ?_⟩
      intro j u hju
      rw [List.drop_eq_nil_of_le (by rw [hul]; omega)] at hju
      simp at hju
    · refine ⟨⟨g, (k + 1) * 2, none⟩, by rw [if_neg hck], ?_⟩
      intro j u hju
      rw [List.getElem?_drop, ← h6, List.getElem?_take] at hju
      split at hju
      · rw [add_off, hb.drew.cell]
        simpa using hju
      · simp at hju
  have hld : (us.drop ((k + 1) * 2)).length = (n - k) * 2 := by rw [List.length_drop, hul]; omega
  have HLD := Lib.hid hld
  have HADS := Lib.hid hads
  have HB := Lib.hid hb.drew
  have H6 := Lib.hid h6
  have H1 := Lib.hid (show ∀ u ∈ us.drop ((k + 1) * 2), u.oneCell' = true from fun u hu => h1 u (List.mem_of_mem_drop hu))
  obtain ⟨i0, hi, hz0, hz1, hz2⟩ := info_parts infoIt
  have HI := Lib.hid (And.intro hi (And.intro hz0 (And.intro hz1 hz2)))
  have hfit : k * 2 + (us.drop ((k + 1) * 2)).length ≤ cur.size := by rw [hld, h5]; omega
  have HF := Lib.hid hfit
  have hbnd : (k : Int) ≤ (n : Int) ∧ (n : Int) + 1 ≤ (cap : Int) ∧ (cap : Int) ≤ 9223372036854775807 := by omega
  obtain ⟨hb1, hb2, hb3⟩ := hbnd
  have hk0 : (0 : Int) ≤ (k : Int) := by omega
  have hk1 : (k : Int) + 1 ≤ (n : Int) + 1 := by omega
  have hk2 : (0 : Int) ≤ (k : Int) + 1 := by omega
  have hk3 : ((k : Int) + 1).toNat = k + 1 := by omega
  have hk4 : (k : Int) ≤ (k : Int) + 1 := by omega
  have hk5 : ((k : Int) == (k : Int) + 1) = false := by rw [beq_eq_false_iff_ne]; omega
  have hkc : k + 1 ≤ cap := by omega
  have hkcap : k ≤ cap := by omega
  have hnk : n + 1 - (k + 1) = n - k := by omega
  have H5 := Lib.hid h5
  clear hb hads hld h6 hi hz0 hz1 hz2 hfit h5 h1 hul
  go_enter Try.func112, Try.ntmps112
  go_wp2_with fail
  go_region_law (first
    | (refine Del.step_append_room w.drew (by rfl) _ _ 30 (by rfl) 117 i0 2 Try.underlying30 HI.out.1 HI.out.2.2.1 g k cap cur HB.out (by rfl) ad (n - k) (cap - (k + 1)) (us.drop ((k + 1) * 2)) (by first | rfl | exact congrArg (fun p => Value.slice p (n - k) (cap - (k + 1))) had | exact congrArg (fun p => Value.slice p (n - k) (cap - (k + 1))) (by have h := had; simp only [Nat.mul_one] at h; exact h)) HLD.out HADS.out H1.out n (by omega) (by omega) HF.out ?_; intro w6 hblk6 hbel6))
  have hn1 : (0 : Int) ≤ (n : Int) + 1 := by omega
  have hn2 : ((n : Int) + 1).toNat = n + 1 := by omega
  have hn3 : (n : Int) ≤ (n : Int) + 1 := by omega
  have hn4 : ¬ cap = n := by omega
  have hn5 : n ≤ cap := by omega
  have hn6 : n + 1 - n = 1 := by omega
  have HB6 := Lib.hid hblk6
  have HBE := Lib.hid hbel6
  clear hblk6 hbel6
  obtain ⟨w7, hrun7, hb7, hbel7⟩ := Del.run_clear (P := Try.prog) w6 30 0 117 i0 (.agg #[.int .i64 0, .int .i64 0]) Try.underlying30 HI.out.1 HI.out.2.1 (by decide) g (n * 2) 1 (cap - n) _ HB6.out (by decide) (Del.wipe_fit (e := 2) rfl HLD.out H5.out hkn hnc)
  try simp only [Nat.mul_one] at hrun7
  have hfin : ∃ cur', Blk w7 g 117 cur' ∧ cur'.size = cap * 2 ∧ cur'.toList.take (n * 2) = us.take (k * 2) ++ us.drop ((k + 1) * 2) ∧ Kept g w w7 :=
    ⟨_, hb7, Del.wipe_size (e := 2) rfl HLD.out H5.out hkn hnc, Del.wipe_cells (e := 2) rfl H5.out H6.out hkn hnc, ((Del.keptDrew g w).trans HBE.out).trans hbel7⟩
  have HFIN := Lib.hid hfin
  clear hb7 hbel7 hfin
  go_wp2_with fail
  go_ret
  exact ⟨rfl, HFIN.out⟩
/-- slices.Delete of one element -/
theorem delIt_spec (els : List (List SC)) (k : Nat) (hk : k < els.length) (hl : els.length ≤ 1000000) : SpecX Try.prog 112 ⟨true, 117, 2, els, none, els.eraseIdx k, none⟩ [rI k, rI ((k : Int) + 1)] := by
  refine ⟨Nat.succ_pos _, ?_, fun h => by simp only at h; subst h; simp at hk⟩
  intro w O b cap us hO hX hus
  obtain ⟨he, cur, hB, hr, hc⟩ := hX
  obtain ⟨hc1, hc2, hc3⟩ := hc rfl
  simp only at he hB hr hc1 hc3
  obtain ⟨u1, us1, rfl, hu1, hus1⟩ := hus.cons_inv
  obtain ⟨u2, us2, rfl, hu2, hus2⟩ := hus1.cons_inv
  obtain rfl := hus2.nil_inv
  obtain rfl := RepS.flat hu1
  obtain rfl := RepS.flat hu2
  obtain ⟨n, hn⟩ : ∃ n, els.length = n + 1 := ⟨els.length - 1, by omega⟩
  have hfl := flatten_len els he
  rw [hn] at hc1 hfl
  have hw := delIt_walk b cap k n cur _ w hB hc3 hc2 hc1 (by omega) (by omega) rfl (fun u hu => by
    rw [← hfl] at hu
    obtain ⟨i, hi, rfl⟩ := List.mem_iff_getElem.1 hu
    exact (hr.2 i (by rw [hr.1]; exact hi) hi).one)
  unfold XR.val
  simp only [hn]
  refine hw.mono ?_
  rintro ex w' ⟨rfl, cur', h1, h2, h3, h4⟩
  have hlen : (els.eraseIdx k).length = n := by rw [List.length_eraseIdx, if_pos hk, hn]; rfl
  refine ⟨_, rfl, b, cap, by rw [hlen], ⟨fun x hx => he x (List.mem_of_mem_eraseIdx hx), cur', h1, ?_, fun _ => ⟨by rw [hlen]; omega, hc2, h2⟩⟩, .inl ⟨rfl, h4⟩⟩
  have hfe := Del.flatten_erase els he k hk
  have hfl2 : (els.eraseIdx k).flatten.length = n * 2 := by
    rw [flatten_len _ (fun x hx => he x (List.mem_of_mem_eraseIdx hx)), hlen]
  rw [hfl2, h3, hfe, ← hfl]
  exact ((hr.take _).append (hr.drop _)).mono (fun x u hx => hx.mono h4.1 (fun k hk hnk => ⟨h4.2.2.2.2 k hk (fun e => hnk (.inr e)), hnk⟩))

theorem dIsPage_spec (p : Int) : Spec Try.prog 86 [rI p] (.val (rB (decide (1 ≤ p ∧ p ≤ 16)))) := by
  refine spec_val mixed fn86 (by simp) ?_
  unfold ac86
  simp -implicitDefEqProofs only [↓aP, aQ, ↓reduceIte, Nat.reduceEqDiff, Nat.reduceAdd, Nat.reduceSub, Nat.reduceMul, Nat.reduceLT, Nat.reduceLeDiff, reduceCtorEq, Nat.reduceBEq, forall_const, implies_true, exists_const, ne_eq, Int.reduceAdd, Int.reduceSub, Int.reduceMul, Int.reduceBEq, Int.reduceEq, Int.reduceLT, Int.reduceLE, Int.reduceToNat, Int.reduceNeg, Int.reduceBNe]
  repeat' ((first | ((first | with_reducible refine fork ?_ ?_ | with_reducible refine gcase ?_ ?_ | with_reducible refine gcaseD ?_ ?_) <;> intro hc <;> (have hp := hc) <;> (try simp only [aB] at hp)) | (have hc := True.intro; first | with_reducible refine askM (by omega) ?_ | with_reducible refine And.intro (by first | omega | decide +kernel) ?_ | fail)) <;> (try simp -implicitDefEqProofs only [↓aP, aQ, ↓reduceIte, Nat.reduceEqDiff, Nat.reduceAdd, Nat.reduceSub, Nat.reduceMul, Nat.reduceLT, Nat.reduceLeDiff, reduceCtorEq, Nat.reduceBEq, forall_const, implies_true, exists_const, ne_eq, Int.reduceAdd, Int.reduceSub, Int.reduceMul, Int.reduceBEq, Int.reduceEq, Int.reduceLT, Int.reduceLE, Int.reduceToNat, Int.reduceNeg, Int.reduceBNe, hc]))
  all_goals first | (rw [eq_comm, decide_eq_decide]; omega) | (symm; simp only [decide_eq_true_eq, decide_eq_false_iff_not]; omega)
theorem dplace1_spec (p : Int) (x : It) : Spec Try.prog 115 [.agg (encIt x), .c (.sptr [.pv (.int .i64 p)])] (.val (rB (x.page == p))) := by
  refine spec_val mixed fn115 (by simp) ?_
  unfold ac115
  simp -implicitDefEqProofs only [↓aP, aQ, ↓reduceIte, Nat.reduceEqDiff, Nat.reduceAdd, Nat.reduceSub, Nat.reduceMul, Nat.reduceLT, Nat.reduceLeDiff, reduceCtorEq, Nat.reduceBEq, forall_const, implies_true, exists_const, ne_eq, Int.reduceAdd, Int.reduceSub, Int.reduceMul, Int.reduceBEq, Int.reduceEq, Int.reduceLT, Int.reduceLE, Int.reduceToNat, Int.reduceNeg, Int.reduceBNe, encIt]
/-- the first one of which it is so; -1: there is none -/
def fst? {α : Type} (p : α → Bool) (l : List α) : Int := match l.findIdx? p with
  | some i => i
  | none => -1
theorem fst_none {α : Type} {p : α → Bool} {l : List α} (h : ∀ x ∈ l, p x = false) : fst? p l = -1 := by
  unfold fst?
  rw [List.findIdx?_eq_none_iff.2 (fun x hx => by simpa using h x hx)]
theorem fst_at {α : Type} {p : α → Bool} {l : List α} {k : Nat} (hk : k < l.length) (h : p l[k] = true) (hno : ∀ x ∈ l.take k, p x = false) : fst? p l = k := by
  unfold fst?
  rw [show l.findIdx? p = some k by
    rw [List.findIdx?_eq_some_iff_getElem]
    exact ⟨hk, h, fun j hj => by simpa using hno _ (List.mem_take_iff_getElem.2 ⟨j, by omega, rfl⟩)⟩]
theorem idxIt_spec (l : List It) (p : It → Bool) (g : Nat) (caps : List SC) (hg : callable Try.prog g = true) (hp : ∀ x, Spec Try.prog g (.agg (encIt x) :: caps.map TV.c) (.val (rB (p x)))) (hl : l.length < 4611686018427387904) :
    Spec Try.prog 114 [rL 2 (l.map encIt), .c (.fn g caps)] (.val (rI (fst? p l))) := by
  refine spec_val mixed fn114 (by simp) ?_
  unfold ac114
  simp -implicitDefEqProofs only [↓aP, aQ, ↓reduceIte, Nat.reduceEqDiff, Nat.reduceAdd, Nat.reduceSub, Nat.reduceMul, Nat.reduceLT, Nat.reduceLeDiff, reduceCtorEq, Nat.reduceBEq, forall_const, implies_true, exists_const, ne_eq, Int.reduceAdd, Int.reduceSub, Int.reduceMul, Int.reduceBEq, Int.reduceEq, Int.reduceLT, Int.reduceLE, Int.reduceToNat, Int.reduceNeg, Int.reduceBNe]
  refine rangeB l.length (fun i σ => (∀ x ∈ l.take i, p x = false) ∧ σ.slot 0 = vL 2 (l.map encIt) ∧ σ.slot 1 = .c (.s (.fn g caps)) ∧ σ.slot 7 = vI l.length ∧ σ.slot 8 = vI i) ?_ ?_ ?_
  · simp -implicitDefEqProofs only [↓aP, aQ, ↓reduceIte, Nat.reduceEqDiff, Nat.reduceAdd, Nat.reduceSub, Nat.reduceMul, Nat.reduceLT, Nat.reduceLeDiff, reduceCtorEq, Nat.reduceBEq, forall_const, implies_true, exists_const, ne_eq, Int.reduceAdd, Int.reduceSub, Int.reduceMul, Int.reduceBEq, Int.reduceEq, Int.reduceLT, Int.reduceLE, Int.reduceToNat, Int.reduceNeg, Int.reduceBNe]
    simp
  · rintro i m σ him hi hlt ⟨hno, s0, s1, s7, s8⟩
    simp -implicitDefEqProofs only [↓aP, aQ, ↓reduceIte, Nat.reduceEqDiff, Nat.reduceAdd, Nat.reduceSub, Nat.reduceMul, Nat.reduceLT, Nat.reduceLeDiff, reduceCtorEq, Nat.reduceBEq, forall_const, implies_true, exists_const, ne_eq, Int.reduceAdd, Int.reduceSub, Int.reduceMul, Int.reduceBEq, Int.reduceEq, Int.reduceLT, Int.reduceLE, Int.reduceToNat, Int.reduceNeg, Int.reduceBNe, hlt, s0, s1, s7, s8, askIdx_map, hi, hg, encIt]
    refine askV (hp l[i]) ?_
    simp -implicitDefEqProofs only [↓aP, aQ, ↓reduceIte, Nat.reduceEqDiff, Nat.reduceAdd, Nat.reduceSub, Nat.reduceMul, Nat.reduceLT, Nat.reduceLeDiff, reduceCtorEq, Nat.reduceBEq, forall_const, implies_true, exists_const, ne_eq, Int.reduceAdd, Int.reduceSub, Int.reduceMul, Int.reduceBEq, Int.reduceEq, Int.reduceLT, Int.reduceLE, Int.reduceToNat, Int.reduceNeg, Int.reduceBNe]
    refine fork ?_ ?_ <;> intro hc
    · simp -implicitDefEqProofs only [↓aP, aQ, ↓reduceIte, Nat.reduceEqDiff, Nat.reduceAdd, Nat.reduceSub, Nat.reduceMul, Nat.reduceLT, Nat.reduceLeDiff, reduceCtorEq, Nat.reduceBEq, forall_const, implies_true, exists_const, ne_eq, Int.reduceAdd, Int.reduceSub, Int.reduceMul, Int.reduceBEq, Int.reduceEq, Int.reduceLT, Int.reduceLE, Int.reduceToNat, Int.reduceNeg, Int.reduceBNe, fst_at hi hc hno]
    · simp -implicitDefEqProofs only [↓aP, aQ, ↓reduceIte, Nat.reduceEqDiff, Nat.reduceAdd, Nat.reduceSub, Nat.reduceMul, Nat.reduceLT, Nat.reduceLeDiff, reduceCtorEq, Nat.reduceBEq, forall_const, implies_true, exists_const, ne_eq, Int.reduceAdd, Int.reduceSub, Int.reduceMul, Int.reduceBEq, Int.reduceEq, Int.reduceLT, Int.reduceLE, Int.reduceToNat, Int.reduceNeg, Int.reduceBNe, s0, s1, s7, s8, wrapS (show i < 4611686018427387904 by omega)]
      refine nextR hi him ?_
      simp -implicitDefEqProofs only [↓aP, aQ, ↓reduceIte, Nat.reduceEqDiff, Nat.reduceAdd, Nat.reduceSub, Nat.reduceMul, Nat.reduceLT, Nat.reduceLeDiff, reduceCtorEq, Nat.reduceBEq, forall_const, implies_true, exists_const, ne_eq, Int.reduceAdd, Int.reduceSub, Int.reduceMul, Int.reduceBEq, Int.reduceEq, Int.reduceLT, Int.reduceLE, Int.reduceToNat, Int.reduceNeg, Int.reduceBNe, s0, s1, s7, s8]
      rw [take_snoc hi]
      intro x hx
      rcases List.mem_append.1 hx with h | h
      · exact hno x h
      · rw [List.mem_singleton.1 h]; exact hc
  · rintro m σ hlt ⟨hno, s0, s1, s7, s8⟩
    rw [List.take_length] at hno
    simp -implicitDefEqProofs only [↓aP, aQ, ↓reduceIte, Nat.reduceEqDiff, Nat.reduceAdd, Nat.reduceSub, Nat.reduceMul, Nat.reduceLT, Nat.reduceLeDiff, reduceCtorEq, Nat.reduceBEq, forall_const, implies_true, exists_const, ne_eq, Int.reduceAdd, Int.reduceSub, Int.reduceMul, Int.reduceBEq, Int.reduceEq, Int.reduceLT, Int.reduceLE, Int.reduceToNat, Int.reduceNeg, Int.reduceBNe, hlt, s0, s1, s7, s8, fst_none hno]

theorem dplace_spec (l : List It) (p : Int) (hl : l.length < 4611686018427387904) : Spec Try.prog 87 [rL 2 (l.map encIt), rI p] (.val (rI (Dy.at' l p))) := by
  refine spec_val mixed fn87 (by simp) ?_
  unfold ac87
  simp -implicitDefEqProofs only [↓aP, aQ, ↓reduceIte, Nat.reduceEqDiff, Nat.reduceAdd, Nat.reduceSub, Nat.reduceMul, Nat.reduceLT, Nat.reduceLeDiff, reduceCtorEq, Nat.reduceBEq, forall_const, implies_true, exists_const, ne_eq, Int.reduceAdd, Int.reduceSub, Int.reduceMul, Int.reduceBEq, Int.reduceEq, Int.reduceLT, Int.reduceLE, Int.reduceToNat, Int.reduceNeg, Int.reduceBNe]
  refine ask (idxIt_spec l (fun x => x.page == p) 115 [.sptr [.pv (.int .i64 p)]] (by kernel_rfl) (fun x => dplace1_spec p x) hl) ?_
  simp -implicitDefEqProofs only [↓aP, aQ, ↓reduceIte, Nat.reduceEqDiff, Nat.reduceAdd, Nat.reduceSub, Nat.reduceMul, Nat.reduceLT, Nat.reduceLeDiff, reduceCtorEq, Nat.reduceBEq, forall_const, implies_true, exists_const, ne_eq, Int.reduceAdd, Int.reduceSub, Int.reduceMul, Int.reduceBEq, Int.reduceEq, Int.reduceLT, Int.reduceLE, Int.reduceToNat, Int.reduceNeg, Int.reduceBNe]
  rfl
end Go.Proofs.Ytcindpblgbpcoaa
