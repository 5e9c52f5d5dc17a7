/- LAYER 10: the document's search over all orders. Conditions: the slices lead to the clients, and to who was served. -/
import Derived.Test.YtjdjdojmgoibbaaBankFirst
namespace Go.Proofs.Ytjdjdojmgoibbaa
open Go.RowKit
set_option linter.unusedVariables false

/-- from sb on lie these flags -/
def BsAt (w : World) (sb : Nat) (sv : List Bool) : Prop := ∀ i (h : i < sv.length), w.cell? ⟨sb, i, none⟩ = some (.bool sv[i])
theorem BsAt.below {w w' : World} {sb : Nat} {sv : List Bool} (h : BsAt w sb sv) (hb : Below w.heap.size w w') (hl : sb < w.heap.size) : BsAt w' sb sv :=
  fun i hi => (hb.cell (p := ⟨sb, i, none⟩) hl).trans (h i hi)
theorem BsAt.of_blk {w : World} {g : Nat} {t : TypeId} {sv : List Bool} (h : Blk w g t (boolCells sv)) : BsAt w g sv := by
  intro i hi
  rw [h.cell]; simp [boolCells, List.getElem?_eq_getElem hi]
theorem BsAt.cells {w : World} {sb : Nat} {sv : List Bool} (h : BsAt w sb sv) : ∀ (j : Nat) (u : Value), (sv.map Value.bool)[j]? = some u → w.cell? ((⟨sb, 0, none⟩ : Addr).add j) = some u := by
  intro j u hj
  have hl : j < sv.length := by
    by_cases hh : j < sv.length
    · exact hh
    · rw [List.getElem?_eq_none (by simpa using hh)] at hj; simp at hj
  rw [List.getElem?_map, List.getElem?_eq_getElem hl] at hj
  have e : (⟨sb, 0, none⟩ : Addr).add j = ⟨sb, j, none⟩ := by
    unfold Addr.add
    by_cases hz : j = 0
    · subst hz; simp
    · simp [hz]
  rw [e, h j hl]
  simpa using hj

theorem Bk.Feas.inv {f : Int} {u : List Cl} (h : Bk.Feas f u) (hne : u ≠ []) : ∃ c ∈ u, Bk.need c ≤ f ∧ Bk.Feas (f + c.held) (u.erase c) := by
  cases h with
  | nil => exact absurd rfl hne
  | cons c hm hn hr => exact ⟨c, hm, hn, hr⟩
def SomeIs (f : Int) (u : List Cl) (e : Ending) : Prop := ∃ r : Bool, e = .returned (.bool r) ∧ (r = true ↔ Bk.Feas f u)

theorem unserved_nil {l : List Cl} {sv : List Bool} (hs : sv.length = l.length) (h : ∀ j, j < l.length → sv.getD j true = true) : Bk.unserved l sv = [] := by
  rw [List.eq_nil_iff_forall_not_mem]
  intro c hc
  obtain ⟨i, hi, h1, _⟩ := (Bk.mem_unserved hs).1 hc
  rw [h i hi] at h1
  exact Bool.noConfusion h1

set_option maxRecDepth 100000 in
set_option maxHeartbeats 2000000 in
theorem some_any (n : Nat) : ∀ (f : Int) (b off cap : Nat) (l : List Cl) (sb sc : Nat) (sv : List Bool) (w : World), sv.count false = n → 0 ≤ f → f ≤ 1000000 - 100 * (sv.count false : Int) → l.length ≤ 8 → Bk.Good l → b < w.heap.size → ClsAt w b off l → sb < w.heap.size → BsAt w sb sv → sv.length = l.length →
    Calls Try.prog 31 #[.int .i64 f, .slice (some ⟨b, off, none⟩) l.length cap, .slice (some ⟨sb, 0, none⟩) l.length sc] w fun e w' => SomeIs f (Bk.unserved l sv) e ∧ Below w.heap.size w w' := by
  induction n using Nat.strongRecOn with
  | ind n ih =>
    intro f b off cap l sb sc sv w hcnt hf1 hf2 hl8 hgood hb hc hsb hs hsl
    have IH := Lib.hid ih
    have HC := Lib.hid hc
    have HS := Lib.hid hs
    have HG := Lib.hid hgood
    have HSL := Lib.hid hsl
    have HCNT := Lib.hid hcnt
    clear ih hc hs hgood hsl hcnt
    go_enter Try.func31, Try.ntmps31
    go_wp2_with fail
    go_loop [7, 8] (fun t i => ∃ (k : Nat) (r : Bool), k ≤ l.length ∧ i = .int .i64 k ∧ t = .bool r ∧ (r = false → ∀ j, j < k → sv.getD j true = true) ∧ (r = true → ∃ j, j < k ∧ sv.getD j true = false)) (fun _ i => l.length - (intOf i).toNat)
    case atStart => exact ⟨0, false, by omega, rfl, rfl, fun _ j hj => by omega, fun h => by simp at h⟩
    case round =>
      obtain ⟨k, r, hk, rfl, rfl, hr0, hr1⟩ := hrel
      have HR0 := Lib.hid hr0
      have HR1 := Lib.hid hr1
      clear hr0 hr1
      by_cases hlt : k < l.length
      · have hsk : k < sv.length := by rw [HSL.out]; exact hlt
        have hcell := HS.out k hsk
        have hsd : sv.getD k true = sv[k] := by rw [List.getD_eq_getElem?_getD, List.getElem?_eq_getElem hsk]; rfl
        generalize sv[k] = s at hcell hsd
        have HSD := Lib.hid hsd
        clear hsd
        cases r with
        | true =>
          go_wp2_with fail
          go_round
          case rel => exact ⟨k + 1, true, by omega, by go_num, rfl, fun h => by simp at h, fun h => by obtain ⟨j, hj, h2⟩ := HR1.out rfl; exact ⟨j, by omega, h2⟩⟩
          case measure => simp [intOf]; omega
        | false =>
          cases s with
          | true =>
            go_wp2_with fail
            go_round
            case rel =>
              refine ⟨k + 1, false, by omega, by go_num, rfl, fun _ j hj => ?_, fun h => by simp at h⟩
              by_cases e : j = k
              · subst e; exact HSD.out
              · exact HR0.out rfl j (by omega)
            case measure => simp [intOf]; omega
          | false =>
            go_wp2_with fail
            go_round
            case rel => exact ⟨k + 1, true, by omega, by go_num, rfl, fun h => by simp at h, fun _ => ⟨k, by omega, HSD.out⟩⟩
            case measure => simp [intOf]; omega
      · obtain rfl : k = l.length := by omega
        cases r with
        | false =>
          have hun := unserved_nil HSL.out (HR0.out rfl)
          have HUN := Lib.hid hun
          clear hlt hun
          go_wp2_with fail
          go_ret
          refine ⟨⟨true, rfl, ?_⟩, Below.refl _ _⟩
          rw [HUN.out]
          exact ⟨fun _ => .nil f, fun _ => rfl⟩
        | true =>
          clear hlt
          go_wp2_with fail
          have HSOME := Lib.hid (HR1.out (by trivial))
          clear HR0 HR1 hk
          go_loopw [9, 10] (fun i _ wr => ∃ (k : Nat), k ≤ l.length ∧ i = .int .i64 k ∧ (∀ j (h : j < l.length), j < k → sv.getD j true = false → Bk.need l[j] ≤ f → ¬ Bk.Feas (f + l[j].held) (Bk.unserved l (sv.set j true))) ∧ Below w.heap.size w wr) (fun i _ _ => l.length - (intOf i).toNat)
          case atStart => exact ⟨0, by omega, rfl, fun j _ hj => by omega, Below.refl _ _⟩
          case round =>
            obtain ⟨k, hk, rfl, hno, hB⟩ := hrel
            have HNO := Lib.hid hno
            clear hno
            by_cases hlt : k < l.length
            · have hsk : k < sv.length := by rw [HSL.out]; exact hlt
              have hcell := HS.out.below hB hsb k hsk
              have hsblt : sb < wr.heap.size := Nat.lt_of_lt_of_le hsb hB.size
              have hblt : b < wr.heap.size := Nat.lt_of_lt_of_le hb hB.size
              obtain ⟨c0, c1, c2⟩ := (HC.out.below hB hb) k hlt
              have hgk := HG.out l[k] (List.getElem_mem hlt)
              have hsd : sv.getD k true = sv[k] := by rw [List.getD_eq_getElem?_getD, List.getElem?_eq_getElem hsk]; rfl
              have hneed : Bk.need l[k] = l[k].claim - l[k].held := rfl
              have hki : (k : Int) < (l.length : Int) := by omega
              have hk0 : (0 : Int) ≤ (k : Int) := by omega
              have hstep : (¬ (sv.getD k true = false ∧ Bk.need l[k] ≤ f ∧ Bk.Feas (f + l[k].held) (Bk.unserved l (sv.set k true)))) → ∀ j (h : j < l.length), j < k + 1 → sv.getD j true = false → Bk.need l[j] ≤ f → ¬ Bk.Feas (f + l[j].held) (Bk.unserved l (sv.set j true)) := by
                intro hh j hj hjk h1 h2 h3
                by_cases e : j = k
                · subst e; exact hh ⟨h1, h2, h3⟩
                · exact HNO.out j hj (by omega) h1 h2 h3
              have HSTEP := Lib.hid hstep
              clear hstep
              generalize hcc : l[k] = c at c0 c1 c2 hgk hneed HSTEP
              generalize hss : sv[k] = s at hcell hsd
              have HCC := Lib.hid hcc
              have HSS := Lib.hid hss
              have HSD := Lib.hid hsd
              have HNEED := Lib.hid hneed
              clear hcc hss hsd hneed
              obtain ⟨m1, m2, m3, m4⟩ := hgk
              cases s with
              | true =>
                go_wp2_with fail
                go_quiet (fail)
                go_wp2_with fail
                go_roundw
                case rel => exact ⟨k + 1, by omega, by go_num, HSTEP.out (by rw [HSD.out]; simp), hB.trans (drewN_below _ _ _)⟩
                case measure => simp [intOf]; omega
              | false =>
                by_cases hgt : f < c.claim - c.held
                · go_wp2_with fail
                  go_quiet (fail)
                  go_wp2_with fail
                  go_roundw
                  case rel => exact ⟨k + 1, by omega, by go_num, HSTEP.out (by rw [HNEED.out]; omega), hB.trans (drewN_below _ _ _)⟩
                  case measure => simp [intOf]; omega
                · have hle : c.claim - c.held ≤ f := by omega
                  have hdd : decide (f < c.claim - c.held) = false := decide_eq_false hgt
                  go_wp2_with fail
                  go_quiet (fail)
                  have hB2 : Below w.heap.size w (wr.drewN nq) := hB.trans (drewN_below _ _ _)
                  have hS2 := HS.out.below hB2 hsb
                  have hsblt2 : sb < (wr.drewN nq).heap.size := hsblt
                  generalize wr.drewN nq = W at *
                  have hnil : W.ownsRow w.heap.size 4 1 (.slice none 0 0) 0 [] := ⟨rfl, .inl ⟨rfl, rfl⟩⟩
                  obtain ⟨i0, hi, hz0, hz1, hz2⟩ := info_parts infoB
                  have hm7 : 0 + l.length ≤ maxLen := by unfold maxLen; omega
                  have hm8 : (0 + l.length) * 1 ≤ 140737488355328 := by omega
                  have hml : (sv.map Value.bool).length = l.length * 1 := by rw [List.length_map, HSL.out, Nat.mul_one]
                  have hone : ∀ u ∈ sv.map Value.bool, u.oneCell' = true := by
                    intro u hu
                    obtain ⟨x, _, rfl⟩ := List.mem_map.1 hu
                    rfl
                  have CE := Lib.hid hS2.cells
                  have HML := Lib.hid hml
                  clear hml
                  go_wp2_with (at_builtin; go_must (refine wpList_append_own _ rfl _ _ 43 rfl w.heap.size 4 i0 (.bool false) 1 1 Try.underlying43 hi hz0 hz1 hz2 rfl (by decide) _ _ _ rfl hnil ⟨sb, 0, none⟩ l.length sc (sv.map Value.bool) rfl HML.out CE.out hone hm7 hm8 hB2.size ?_))
                  intro v' w1 hown1 hgrow _
                  have hB3 : Below w.heap.size w w1 := hB2.grown hgrow hB2.size (own_base hnil)
                  obtain ⟨A', c', rfl⟩ := own_form hown1
                  have hrow : w1.ownsRow w.heap.size 4 1 (.slice A' l.length c') l.length (sv.map Value.bool) := by simpa using hown1
                  rcases hrow.2 with ⟨_, hz⟩ | ⟨g', c'', cur', hv', hg', hh', hcc, hc7, hc8, hc9⟩
                  · omega
                  simp only [Value.slice.injEq, true_and] at hv'
                  obtain ⟨rfl, rfl⟩ := hv'
                  have hcnt2 := count_set HSD.out
                  have hf3 : f + c.held ≤ 1000000 - 100 * (((sv.set k true).count false : Nat) : Int) := by omega
                  have hst := hrow.stored k (.bool true)
                  have hfr := hrow.frozenAt k
                  have hcl : w1.cell? ⟨g', k, none⟩ = some (.bool false) := by
                    rw [hrow.cellAt k (by omega), List.getElem?_map, List.getElem?_eq_getElem hsk, HSS.out]; rfl
                  have hset : (sv.map Value.bool).set k (.bool true) = (sv.set k true).map Value.bool := by rw [List.map_set]
                  rw [hset] at hst
                  have hB4 : Below w.heap.size w (w1.setCell ⟨g', k, none⟩ (.bool true)) := hB3.setCell (by exact hg') _
                  have hgl : g' < (w1.setCell ⟨g', k, none⟩ (.bool true)).heap.size := by
                    have : g' < w1.heap.size := Blk.lt (show Blk w1 g' 4 cur' from hh')
                    simpa using this
                  have hbs : BsAt (w1.setCell ⟨g', k, none⟩ (.bool true)) g' (sv.set k true) := by
                    intro j hj
                    rw [hst.1.cellAt j (by rw [List.length_set, HSL.out] at hj; omega), List.getElem?_map, List.getElem?_eq_getElem hj]
                    rfl
                  have hcl4 := HC.out.below hB4 hb
                  have hbl4 : b < (w1.setCell ⟨g', k, none⟩ (.bool true)).heap.size := Nat.lt_of_lt_of_le hb hB4.size
                  have R := Lib.hid (IH.out ((sv.set k true).count false) (by have := HCNT.out; omega) (f + c.held) b off cap l g' c' (sv.set k true) (w1.setCell ⟨g', k, none⟩ (.bool true)) rfl (by omega) hf3 hl8 HG.out hbl4 hcl4 hgl hbs (by rw [List.length_set]; exact HSL.out))
                  obtain ⟨k0, k1, k2⟩ := hcl4 k hlt
                  rw [HCC.out] at k0 k1 k2
                  have hiff : Bk.Feas (f + c.held) (Bk.unserved l (sv.set k true)) → Bk.Feas f (Bk.unserved l sv) := by
                    intro hq
                    have hp := Bk.unserved_set k hlt HSL.out HSD.out
                    have hm : l[k] ∈ Bk.unserved l sv := (Bk.mem_unserved HSL.out).2 ⟨k, hlt, HSD.out, rfl⟩
                    rw [HCC.out] at hp hm
                    exact .cons c hm (by rw [HNEED.out]; exact hle) (hq.perm hp)
                  have HIFF := Lib.hid hiff
                  have hfw : f + c.held ≤ 9223372036854775807 := by omega
                  clear hst hset hbs hcl4 hrow hown1 hgrow hh' hc7 hc8 hc9 hiff hS2 hi hz0 hz1 hz2 hone hnil hcnt2
                  go_wp2_with fail
                  refine R.out.mono ?_
                  rintro e W5 ⟨⟨r, rfl, hr⟩, hB5⟩
                  have hB6 := hB4.trans (hB5.mono hB4.size)
                  have HRR := Lib.hid hr
                  clear hr R hB5 hB4 hB3 hB2
                  cases r with
                  | true =>
                    have hq := HIFF.out (HRR.out.1 (by trivial))
                    have HQ := Lib.hid hq
                    clear hq
                    go_wp2_with fail
                    go_ret
                    exact ⟨⟨true, rfl, ⟨fun _ => HQ.out, fun _ => by trivial⟩⟩, hB6⟩
                  | false =>
                    have hnq : ¬ Bk.Feas (f + c.held) (Bk.unserved l (sv.set k true)) := fun h => by have := HRR.out.2 h; simp at this
                    have HNQ := Lib.hid hnq
                    clear hnq
                    go_wp2_with fail
                    go_roundw
                    case rel => exact ⟨k + 1, by omega, by go_num, HSTEP.out (fun h => HNQ.out h.2.2), hB6⟩
                    case measure => simp [intOf]; omega
            · obtain rfl : k = l.length := by omega
              have hfin : ¬ Bk.Feas f (Bk.unserved l sv) := by
                intro hf
                have hne : Bk.unserved l sv ≠ [] := by
                  intro hq
                  obtain ⟨j, hj, hj2⟩ := HSOME.out
                  have : l[j]'hj ∈ Bk.unserved l sv := (Bk.mem_unserved HSL.out).2 ⟨j, hj, hj2, rfl⟩
                  rw [hq] at this
                  simp at this
                obtain ⟨c, hm, hn, hrest⟩ := hf.inv hne
                obtain ⟨j, hj, hj2, hjc⟩ := (Bk.mem_unserved HSL.out).1 hm
                have hp := Bk.unserved_set j hj HSL.out hj2
                subst hjc
                exact HNO.out j hj hj hj2 hn (hrest.perm hp.symm)
              have HF := Lib.hid hfin
              clear hlt hfin
              go_wp2_with fail
              go_ret
              refine ⟨⟨false, rfl, ?_⟩, hB⟩
              exact ⟨fun h => by simp at h, fun h => absurd h HF.out⟩
end Go.Proofs.Ytjdjdojmgoibbaa
