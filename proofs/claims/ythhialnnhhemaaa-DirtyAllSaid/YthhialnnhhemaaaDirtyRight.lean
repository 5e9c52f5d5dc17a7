/- LAYER 14, walked: are these items; since when; are there too many. Conditions: the slice leads to the items. -/
import Derived.Test.YthhialnnhhemaaaDirtyWalks
namespace Go.Proofs.Ythhialnnhhemaaa
open Go.RowKit
set_option linter.unusedVariables false
namespace Dy
theorem dup_iff {l : List It} {k : Nat} (hk : k < l.length) : (at' l l[k].page < (k : Int)) ↔ ((l.take k).all fun o => o.page != l[k].page) = false := by
  rw [List.all_eq_false]
  constructor
  · intro h
    rcases at_cases l l[k].page with ⟨e, hno⟩ | ⟨m, hm, e, h1, _⟩
    · exact absurd rfl (hno _ (List.getElem_mem hk))
    · refine ⟨l[m], ?_, by simpa using h1⟩
      rw [e] at h
      rw [List.mem_take_iff_getElem]
      exact ⟨m, by omega, rfl⟩
  · rintro ⟨o, ho, h1⟩
    rw [List.mem_take_iff_getElem] at ho
    obtain ⟨j, hj, rfl⟩ := ho
    rcases at_cases l l[k].page with ⟨e, hno⟩ | ⟨m, hm, e, _, h2⟩
    · exact absurd rfl (hno _ (List.getElem_mem hk))
    · rw [e]
      have h3 : l[j].page = l[k].page := by simpa using h1
      have : ¬ j < m := fun hjm => h2 j hjm h3
      omega
theorem good_eq {l : List It} {k : Nat} (hk : k < l.length) : good (l.take k) l[k] = decide ((1 ≤ l[k].page ∧ l[k].page ≤ 16) ∧ ¬ at' l l[k].page < (k : Int) ∧ last (l.take k) ≤ l[k].since ∧ l[k].since ≤ 2147483647) := by
  unfold good
  by_cases h : at' l l[k].page < (k : Int)
  · rw [(dup_iff hk).1 h, Bool.false_and, Bool.and_false]
    exact (decide_eq_false (fun h' => h'.2.1 h)).symm
  · have : ((l.take k).all fun o => o.page != l[k].page) = true := by
      cases hb : ((l.take k).all fun o => o.page != l[k].page) with
      | true => rfl
      | false => exact absurd ((dup_iff hk).2 hb) h
    rw [this, Bool.true_and, ← Bool.decide_and, decide_eq_decide]
    exact ⟨fun h' => ⟨h'.1, h, h'.2⟩, fun h' => ⟨h'.1, h'.2.2⟩⟩
theorem bad_of {l : List It} {k : Nat} (hk : k < l.length) (h : good (l.take k) l[k] = false) : right l = false := by
  apply right_of_take (k + 1)
  rw [right_step hk, h, Bool.and_false]
theorem last_take {l : List It} {k : Nat} (hk : k < l.length) : last (l.take (k + 1)) = l[k].since := by
  rw [List.take_succ_eq_append_getElem hk, last_snoc]
end Dy

set_option maxRecDepth 100000 in
set_option maxHeartbeats 800000 in
theorem dright_any (v : Value) (l : List It) (w : World) (h : itE.Sl w v l) :
    Calls Try.prog 29 #[v] w fun e w' => e = .returned (.bool (Dy.right l)) ∧ Below w.heap.size w w' := by
  have HS := Lib.hid h
  obtain ⟨A, cap, rfl, h1, h2, h0, h3⟩ := h
  unfold maxLen at h2
  have H3 := Lib.hid h3
  clear h3 h0
  go_enter Try.func29, Try.ntmps29
  go_wp2_with fail
  go_loopw [3, 4, 5, 8] (fun la _ _ i wr => ∃ k : Nat, k ≤ l.length ∧ i = .int .i64 k ∧ la = .int .i64 (Dy.last (l.take k)) ∧ Dy.right (l.take k) = true ∧ Below w.heap.size w wr) (fun _ _ _ i _ => l.length - (intOf i).toNat)
  case atStart => exact ⟨0, by omega, rfl, rfl, rfl, Below.refl _ _⟩
  case round =>
    obtain ⟨k, hk, rfl, rfl, hrt, hB⟩ := hrel
    have HRT := Lib.hid hrt
    clear hrt
    by_cases hlt : k < l.length
    · obtain ⟨b, off, rfl, hbl, hc⟩ := H3.out (by omega)
      obtain ⟨c0, c1⟩ := it_at (hc.below hB hbl) k hlt
      have hblt : b < wr.heap.size := Nat.lt_of_lt_of_le hbl hB.size
      have HG := Lib.hid (Dy.good_eq hlt)
      have HBAD := Lib.hid (fun hh => Dy.bad_of hlt hh)
      have HSTEP := Lib.hid (Dy.right_step hlt)
      have HLAST := Lib.hid (Dy.last_take hlt)
      have HP := Lib.hid (fun (W : World) (hw : itE.Sl W (.slice (some ⟨b, off, none⟩) l.length cap) l) => place_any _ l l[k].page W hw)
      have HI := Lib.hid (fun W => isPage_any l[k].page W)
      clear hc
      generalize l[k] = a at c0 c1 HG HBAD HSTEP HLAST HP HI
      generalize Dy.last (l.take k) = la at HG ⊢
      generalize Dy.at' l a.page = at1 at HG HP
      go_wp2_with fail
      have hcb := Blk.new wr 61 #[.int .i64 a.page, .int .i64 a.since]
      have hBa := hB.alloc hB.size (.cells #[.int .i64 a.page, .int .i64 a.since] 61)
      generalize hgg : wr.heap.size = g at hcb
      generalize wr.alloc (.cells #[.int .i64 a.page, .int .i64 a.since] 61) = W0 at hcb hBa
      clear c0 c1 hB hblt hgg wr
      refine (HI.out W0).mono ?_
      rintro e W1 ⟨rfl, hB1⟩
      have hcb1 := hcb.keep hB1
      have hBw1 := hBa.trans (hB1.mono hBa.size)
      clear hcb hBa hB1 W0
      have hlt1 := hcb1.lt
      have hf0 := hcb1.cell 0
      rw [show (#[Value.int .i64 a.page, .int .i64 a.since])[0]? = some (.int .i64 a.page) from rfl] at hf0
      by_cases hp : 1 ≤ a.page ∧ a.page ≤ 16
      · rw [decide_eq_true hp]
        go_wp2_with fail
        refine (HP.out W1 (HS.out.below hBw1)).mono ?_
        rintro e W2 ⟨rfl, hB2⟩
        have hcb2 := hcb1.keep hB2
        have hBw2 := hBw1.trans (hB2.mono hBw1.size)
        clear hcb1 hBw1 hB2 hlt1 hf0 W1
        have hlt2 := hcb2.lt
        have hf1 := hcb2.cell 1
        rw [show (#[Value.int .i64 a.page, .int .i64 a.since])[1]? = some (.int .i64 a.since) from rfl] at hf1
        by_cases hd : at1 < (k : Int)
        · have hbad : Dy.right l = false := HBAD.out (HG.out.trans (decide_eq_false (fun h' => by omega)))
          have HBD := Lib.hid hbad
          clear hbad
          go_wp2_with fail
          go_ret
          exact ⟨by rw [HBD.out]; rfl, hBw2⟩
        · have hd2 : (k : Int) ≤ at1 := by omega
          by_cases hs1 : a.since < la
          · have hbad : Dy.right l = false := HBAD.out (HG.out.trans (decide_eq_false (fun h' => by omega)))
            have HBD := Lib.hid hbad
            clear hbad hd
            go_wp2_with fail
            go_ret
            exact ⟨by rw [HBD.out]; rfl, hBw2⟩
          · have hs1' : la ≤ a.since := by omega
            by_cases hs2 : 2147483647 < a.since
            · have hbad : Dy.right l = false := HBAD.out (HG.out.trans (decide_eq_false (fun h' => by omega)))
              have HBD := Lib.hid hbad
              clear hbad hd hs1
              go_wp2_with fail
              go_ret
              exact ⟨by rw [HBD.out]; rfl, hBw2⟩
            · have hs2' : a.since ≤ 2147483647 := by omega
              have hgood : Dy.right (l.take (k + 1)) = true := HSTEP.out.trans (by rw [HRT.out, HG.out]; simp only [Bool.true_and, decide_eq_true_eq]; omega)
              have HGD := Lib.hid hgood
              clear hgood hd hs1 hs2
              go_wp2_with fail
              go_roundw
              case rel => exact ⟨k + 1, by omega, by go_num, by rw [HLAST.out], HGD.out, hBw2⟩
              case measure => simp [intOf]; omega
      · rw [decide_eq_false hp]
        have hbad : Dy.right l = false := HBAD.out (HG.out.trans (decide_eq_false (fun h' => hp h'.1)))
        have HBD := Lib.hid hbad
        clear hbad hp
        go_wp2_with fail
        go_ret
        exact ⟨by rw [HBD.out]; rfl, hBw1⟩
    · obtain rfl : k = l.length := by omega
      have hr := HRT.out
      rw [List.take_length] at hr
      have HR := Lib.hid hr
      clear hr hlt
      go_wp2_with fail
      go_ret
      exact ⟨by rw [HR.out]; rfl, hB⟩
end Go.Proofs.Ythhialnnhhemaaa
