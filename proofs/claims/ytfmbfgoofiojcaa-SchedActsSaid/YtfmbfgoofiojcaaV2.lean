/- layer 4: slices.Delete over requests. -/
import Derived.Test.YtfmbfgoofiojcaaV1
import Derived.Test.YtfmbfgoofiojcaaDelKit
import Derived.Lib.Hide
import Derived.Shelf.RegionOpenPlain
import Derived.WalkKit
import Derived.ProofKit
namespace Go.Proofs.Ytfmbfgoofiojcaa
open Go.RowKit
set_option linter.unusedVariables false
set_option linter.unusedSimpArgs false
theorem infoRq : (Try.prog.info? 129).map (fun i => (i.zero, i.size, i.bytes)) = some (some (.agg #[.int .i64 0, .int .i64 0, .int .i64 0, .string ⟨#[]⟩]), 4, 40) := by kernel_rfl
set_option maxRecDepth 100000 in
set_option maxHeartbeats 1600000 in
theorem delRq_walk (g cap k n : Nat) (cur : Array Value) (us : List Value) (w : World) (hb : Blk w g 129 cur) (h5 : cur.size = cap * 4) (h4 : cap ≤ maxLen) (hnc : n + 1 ≤ cap) (hkn : k ≤ n) (hn40 : n ≤ 1000000) (h6 : cur.toList.take ((n + 1) * 4) = us) (h1 : ∀ u ∈ us, u.oneCell' = true) :
    Calls Try.prog 84 #[.slice (some ⟨g, 0, none⟩) (n + 1) cap, .int .i64 k, .int .i64 ((k : Int) + 1)] w fun e w' => e = .returned (.slice (some ⟨g, 0, none⟩) n cap) ∧ ∃ cur', Blk w' g 129 cur' ∧ cur'.size = cap * 4 ∧ cur'.toList.take (n * 4) = us.take (k * 4) ++ us.drop ((k + 1) * 4) ∧ Kept g w w' := by
  unfold maxLen at h4
  have hul : us.length = (n + 1) * 4 := by rw [← h6, List.length_take, Array.length_toList, h5]; omega
  obtain ⟨ad, had, hads⟩ : ∃ ad : Addr, (if cap = k + 1 then some (⟨g, 0, none⟩ : Addr) else some ⟨g, (k + 1) * 4, none⟩) = some ad ∧ ∀ j u, (us.drop ((k + 1) * 4))[j]? = some u → w.drew.cell? (ad.add j) = some u := by
    by_cases hck : cap = k + 1
    · refine ⟨⟨g, 0, none⟩, by rw [if_pos hck], ?_⟩
      intro j u hju
      rw [List.drop_eq_nil_of_le (by rw [hul]; omega)] at hju
      simp at hju
    · refine ⟨⟨g, (k + 1) * 4, none⟩, by rw [if_neg hck], ?_⟩
      intro j u hju
      rw [List.getElem?_drop, ← h6, List.getElem?_take] at hju
      split at hju
      · rw [add_off, hb.drew.cell]
        simpa using hju
      · simp at hju
  have hld : (us.drop ((k + 1) * 4)).length = (n - k) * 4 := by rw [List.length_drop, hul]; omega
  have HLD := Lib.hid hld
  have HADS := Lib.hid hads
  have HB := Lib.hid hb.drew
  have H6 := Lib.hid h6
  have H1 := Lib.hid (show ∀ u ∈ us.drop ((k + 1) * 4), u.oneCell' = true from fun u hu => h1 u (List.mem_of_mem_drop hu))
  obtain ⟨i0, hi, hz0, hz1, hz2⟩ := info_parts infoRq
  have HI := Lib.hid (And.intro hi (And.intro hz0 (And.intro hz1 hz2)))
  have hfit : k * 4 + (us.drop ((k + 1) * 4)).length ≤ cur.size := by rw [hld, h5]; omega
  have HF := Lib.hid hfit
  have hbnd : (k : Int) ≤ (n : Int) ∧ (n : Int) + 1 ≤ (cap : Int) ∧ (cap : Int) ≤ 9223372036854775807 := by omega
  obtain ⟨hb1, hb2, hb3⟩ := hbnd
  have hk0 : (0 : Int) ≤ (k : Int) := by omega
  have hk1 : (k : Int) + 1 ≤ (n : Int) + 1 := by omega
  have hk2 : (0 : Int) ≤ (k : Int) + 1 := by omega
  have hk3 : ((k : Int) + 1).toNat = k + 1 := by omega
  have hk4 : (k : Int) ≤ (k : Int) + 1 := by omega
  have hk5 : ((k : Int) == (k : Int) + 1) = false := by rw [beq_eq_false_iff_ne]; omega
  have hkc : k + 1 ≤ cap := by omega
  have hkcap : k ≤ cap := by omega
  have hnk : n + 1 - (k + 1) = n - k := by omega
  have H5 := Lib.hid h5
  clear hb hads hld h6 hi hz0 hz1 hz2 hfit h5 h1 hul
  go_enter Try.func84, Try.ntmps84
  go_wp2_with fail
  go_region_law (first
    | (refine Del.step_append_room w.drew (by rfl) _ _ 63 (by rfl) 129 i0 4 Try.underlying63 HI.out.1 HI.out.2.2.1 g k cap cur HB.out (by rfl) ad (n - k) (cap - (k + 1)) (us.drop ((k + 1) * 4)) (by first | rfl | exact congrArg (fun p => Value.slice p (n - k) (cap - (k + 1))) had | exact congrArg (fun p => Value.slice p (n - k) (cap - (k + 1))) (by have h := had; simp only [Nat.mul_one] at h; exact h)) HLD.out HADS.out H1.out n (by omega) (by omega) HF.out ?_; intro w6 hblk6 hbel6))
  have hn1 : (0 : Int) ≤ (n : Int) + 1 := by omega
  have hn2 : ((n : Int) + 1).toNat = n + 1 := by omega
  have hn3 : (n : Int) ≤ (n : Int) + 1 := by omega
  have hn4 : ¬ cap = n := by omega
  have hn5 : n ≤ cap := by omega
  have hn6 : n + 1 - n = 1 := by omega
  have HB6 := Lib.hid hblk6
  have HBE := Lib.hid hbel6
  clear hblk6 hbel6
  obtain ⟨w7, hrun7, hb7, hbel7⟩ := Del.run_clear (P := Try.prog) w6 63 0 129 i0 (.agg #[.int .i64 0, .int .i64 0, .int .i64 0, .string ⟨#[]⟩]) Try.underlying63 HI.out.1 HI.out.2.1 (by decide) g (n * 4) 1 (cap - n) _ HB6.out (by decide) (Del.wipe_fit (e := 4) rfl HLD.out H5.out hkn hnc)
  try simp only [Nat.mul_one] at hrun7
  have hfin : ∃ cur', Blk w7 g 129 cur' ∧ cur'.size = cap * 4 ∧ cur'.toList.take (n * 4) = us.take (k * 4) ++ us.drop ((k + 1) * 4) ∧ Kept g w w7 :=
    ⟨_, hb7, Del.wipe_size (e := 4) rfl HLD.out H5.out hkn hnc, Del.wipe_cells (e := 4) rfl H5.out H6.out hkn hnc, ((Del.keptDrew g w).trans HBE.out).trans hbel7⟩
  have HFIN := Lib.hid hfin
  clear hb7 hbel7 hfin
  go_wp2_with fail
  go_ret
  exact ⟨rfl, HFIN.out⟩
/-- slices.Delete of one element -/
theorem delRq_spec (els : List (List SC)) (k : Nat) (hk : k < els.length) (hl : els.length ≤ 1000000) : SpecX Try.prog 84 ⟨true, 129, 4, els, none, els.eraseIdx k, none⟩ [rI k, rI ((k : Int) + 1)] := by
  refine ⟨Nat.succ_pos _, ?_, fun h => by simp only at h; subst h; simp at hk⟩
  intro w O b cap us hO hX hus
  obtain ⟨he, cur, hB, hr, hc⟩ := hX
  obtain ⟨hc1, hc2, hc3⟩ := hc rfl
  simp only at he hB hr hc1 hc3
  obtain ⟨u1, us1, rfl, hu1, hus1⟩ := hus.cons_inv
  obtain ⟨u2, us2, rfl, hu2, hus2⟩ := hus1.cons_inv
  obtain rfl := hus2.nil_inv
  obtain rfl := RepS.flat hu1
  obtain rfl := RepS.flat hu2
  obtain ⟨n, hn⟩ : ∃ n, els.length = n + 1 := ⟨els.length - 1, by omega⟩
  have hfl := flatten_len els he
  rw [hn] at hc1 hfl
  have hw := delRq_walk b cap k n cur _ w hB hc3 hc2 hc1 (by omega) (by omega) rfl (fun u hu => by
    rw [← hfl] at hu
    obtain ⟨i, hi, rfl⟩ := List.mem_iff_getElem.1 hu
    exact (hr.2 i (by rw [hr.1]; exact hi) hi).one)
  unfold XR.val
  simp only [hn]
  refine hw.mono ?_
  rintro ex w' ⟨rfl, cur', h1, h2, h3, h4⟩
  have hlen : (els.eraseIdx k).length = n := by rw [List.length_eraseIdx, if_pos hk, hn]; rfl
  refine ⟨_, rfl, b, cap, by rw [hlen], ⟨fun x hx => he x (List.mem_of_mem_eraseIdx hx), cur', h1, ?_, fun _ => ⟨by rw [hlen]; omega, hc2, h2⟩⟩, .inl ⟨rfl, h4⟩⟩
  have hfe := Del.flatten_erase els he k hk
  have hfl2 : (els.eraseIdx k).flatten.length = n * 4 := by
    rw [flatten_len _ (fun x hx => he x (List.mem_of_mem_eraseIdx hx)), hlen]
  rw [hfl2, h3, hfe, ← hfl]
  exact ((hr.take _).append (hr.drop _)).mono (fun x u hx => hx.mono h4.1 (fun k hk hnk => ⟨h4.2.2.2.2 k hk (fun e => hnk (.inr e)), hnk⟩))

end Go.Proofs.Ytfmbfgoofiojcaa
