/- LAYER 10: the document's order, walked. Conditions: the slice leads to clients. -/
import Derived.Test.YtjdjdojmgoibbaaBankRef
namespace Go.Proofs.Ytjdjdojmgoibbaa
open Go.RowKit
set_option linter.unusedVariables false

def Bk.cand (f : Int) (l : List Cl) (sv : List Bool) (j : Nat) : Bool := !sv.getD j true && Bk.can f (l.getD j default)
/-- a row of places of the call's own -/
def RowIs (B : Nat) (ord : List Nat) (e : Ending) (w' : World) : Prop :=
  ∃ v, e = .returned v ∧ w'.ownsRow B 3 1 v ord.length (ord.map fun i : Nat => Value.int .i64 (i : Int))
/-- what the search from the last one on has found -/
def Found (f : Int) (l : List Cl) (sv : List Bool) (k : Nat) (a : Int) : Prop :=
  (a = -1 ∧ ∀ j, k ≤ j → j < l.length → Bk.cand f l sv j = false) ∨ (∃ m : Nat, a = (m : Int) ∧ k ≤ m ∧ m < l.length ∧ Bk.cand f l sv m = true ∧ ∀ j, k ≤ j → j < m → Bk.cand f l sv j = false)
theorem Found.no {f : Int} {l : List Cl} {sv : List Bool} {k : Nat} {a : Int} (h : Found f l sv (k + 1) a) (hc : Bk.cand f l sv k = false) : Found f l sv k a := by
  rcases h with ⟨h1, h2⟩ | ⟨m, h1, h2, h3, h4, h5⟩
  · refine .inl ⟨h1, fun j hj hl => ?_⟩
    by_cases e : j = k
    · subst e; exact hc
    · exact h2 j (by omega) hl
  · refine .inr ⟨m, h1, by omega, h3, h4, fun j hj hl => ?_⟩
    by_cases e : j = k
    · subst e; exact hc
    · exact h5 j (by omega) hl
theorem Found.yes {f : Int} {l : List Cl} {sv : List Bool} {k : Nat} (hk : k < l.length) (hc : Bk.cand f l sv k = true) : Found f l sv k (k : Int) :=
  .inr ⟨k, rfl, Nat.le_refl _, hk, hc, fun j hj hl => by omega⟩
theorem Found.next {f : Int} {l : List Cl} {sv : List Bool} {a : Int} (h : Found f l sv 0 a) : (a = -1 ∧ Bk.next f l sv = none) ∨ (∃ m : Nat, a = (m : Int) ∧ Bk.next f l sv = some m) := by
  rcases h with ⟨h1, h2⟩ | ⟨m, h1, h2, h3, h4, h5⟩
  · exact .inl ⟨h1, find_range_none _ (fun i hi => h2 i (by omega) hi)⟩
  · exact .inr ⟨m, h1, find_range_some _ m h3 h4 (fun i hi => h5 i (by omega) hi)⟩

set_option maxRecDepth 100000 in
set_option maxHeartbeats 2000000 in
theorem refOrder_yes (free : Int) (b off cap : Nat) (l : List Cl) (w : World) (hfr : 0 ≤ free ∧ free ≤ 1000) (hr : Bk.right l = true) (hb : b < w.heap.size) (hc : ClsAt w b off l) :
    Calls Try.prog 29 #[.int .i64 free, .slice (some ⟨b, off, none⟩) l.length cap] w fun e w' => RowIs w.heap.size (Bk.order free l) e w' ∧ Below w.heap.size w w' := by
  obtain ⟨hgood, hl8⟩ := Bk.good_of_right hr
  obtain ⟨hf1, hf2⟩ := hfr
  have hmk := madeB l.length (by omega)
  obtain ⟨i0, hi, hz0, hz1, hz2⟩ := info_parts infoI
  have HC := Lib.hid hc
  have HG := Lib.hid hgood
  have HI := Lib.hid (And.intro hi (And.intro hz0 (And.intro hz1 hz2)))
  clear hc hgood hr hi hz0 hz1 hz2
  go_enter Try.func29, Try.ntmps29
  go_wp2_with fail
  clear hmk
  have hsb := Blk.new w 4 (boolCells (List.replicate l.length false))
  have hB2 : Below w.heap.size w (w.alloc (.cells (boolCells (List.replicate l.length false)) 4)) := (Below.refl _ _).alloc (Nat.le_refl _) _
  have hsbw : w.heap.size ≤ w.heap.size := Nat.le_refl _
  generalize hsbb : w.heap.size = sb at hsb hsbw
  have HSB := Lib.hid hsbb
  generalize w.alloc (.cells (boolCells (List.replicate l.length false)) 4) = W2 at hsb hB2
  clear hsbb
  go_loopw [0, 5, 7, 8, 9] (fun f v nn _ _ wr => ∃ (fr : Int) (ord : List Nat) (sv : List Bool) (A : Option Addr) (c : Nat), f = .int .i64 fr ∧ 0 ≤ fr ∧ fr ≤ 1000 + 100 * (ord.length : Int) ∧ nn = .int .i64 (ord.length : Int) ∧ ord.length ≤ l.length ∧ v = .slice A ord.length c ∧ wr.ownsRow sb 3 1 (.slice A ord.length c) ord.length (ord.map fun i : Nat => Value.int .i64 (i : Int)) ∧ Blk wr sb 4 (boolCells sv) ∧ sv.length = l.length ∧ sv.count false = l.length - ord.length ∧ Below sb w wr ∧ Bk.go (l.length + 1 - ord.length) fr l sv ord = Bk.order free l) (fun _ _ nn _ _ _ => l.length - (intOf nn).toNat)
  case atStart => exact ⟨free, [], List.replicate l.length false, none, 0, rfl, hf1, by simpa using hf2, by simp, by simp, rfl, ⟨rfl, .inl ⟨rfl, rfl⟩⟩, hsb, by simp, by simp, by rw [← HSB.out]; exact hB2, rfl⟩
  case round =>
    obtain ⟨fr, ord, sv, A, c, rfl, hr1, hr2, rfl, hol, rfl, hown, hsb3, hsl, hcnt, hB3, hgo⟩ := hrel
    have HGO := Lib.hid hgo
    have HSL := Lib.hid hsl
    have HCNT := Lib.hid hcnt
    clear hgo hsl hcnt hsb hB2 W2
    have hbw : b < sb := by rw [← HSB.out]; exact hb
    by_cases hlt : ord.length < l.length
    · have hltw : (ord.length : Int) < (l.length : Int) := by omega
      go_wp2_with fail
      have hW0 : wr.heap.size ≤ wr.heap.size := Nat.le_refl _
      have HOWN := Lib.hid hown
      have HB3 := Lib.hid hB3
      have HSB3 := Lib.hid hsb3
      clear hown hB3 hsb3
      obtain ⟨wo, hwo⟩ : ∃ wo : World, wo = wr := ⟨_, rfl⟩
      subst hwo
      go_loopw [8, 9] (fun a i ws => ∃ (k : Nat) (x y : Int), k ≤ l.length ∧ y = (k : Int) - 1 ∧ i = .int .i64 y ∧ a = .int .i64 x ∧ Found fr l sv k x ∧ Below wo.heap.size wo ws) (fun _ i _ => (intOf i + 1).toNat)
      case atStart => exact ⟨l.length, -1, _, Nat.le_refl _, rfl, rfl, rfl, .inl ⟨rfl, fun j h1 h2 => by omega⟩, Below.refl _ _⟩
      case round =>
        obtain ⟨k, x, y, hk, hy, rfl, rfl, hfo, hBi⟩ := hrel
        have HFO := Lib.hid hfo
        clear hfo
        by_cases hk0 : k = 0
        · subst hk0
          have hy0 : y < 0 := by omega
          clear hy
          have hB4 : Below sb w wr := HB3.out.trans (hBi.mono (by rw [← HSB.out]; exact HB3.out.size))
          have hown4 := own_keep HOWN.out hBi
          have hsb4 := HSB3.out.keep hBi
          rcases HFO.out.next with ⟨hx, hnx⟩ | ⟨m, rfl, hnx⟩
          · have hx0 : x < 0 := by omega
            clear hx
            have hord : Bk.order free l = ord := by rw [← HGO.out, Bk.go_none hnx]
            have HO := Lib.hid hord
            clear hnx hord
            go_wp2_with fail
            go_ret
            refine ⟨?_, by rw [HSB.out]; exact hB4⟩
            rw [HO.out, HSB.out]
            exact ⟨_, rfl, hown4⟩
          · obtain ⟨hml, hsvm, hcan⟩ := Bk.next_lt hnx
            have hgo2 : Bk.go (l.length + 1 - (ord.length + 1)) (fr + (l.getD m default).held) l (sv.set m true) (ord ++ [m]) = Bk.order free l := by
              rw [← HGO.out, show l.length + 1 - ord.length = (l.length + 1 - (ord.length + 1)) + 1 by omega, Bk.go_some hnx]
            have hcnt2 : (sv.set m true).count false = l.length - (ord.length + 1) := by
              have h1 := HCNT.out
              have h2 := count_set hsvm
              omega
            have HGO2 := Lib.hid hgo2
            have HCNT2 := Lib.hid hcnt2
            clear hgo2 hcnt2 hnx hcan hsvm
            have hsm : m < sv.length := by rw [HSL.out]; exact hml
            have hsc : wr.cell? ⟨sb, m, none⟩ = some (.bool sv[m]) := by rw [hsb4.cell]; simp [boolCells, List.getElem?_eq_getElem hsm]
            generalize sv[m] = s at hsc
            have hsf := hsb4.frozen m
            have hput := own_put hown4 hsb4 (show (4 : Nat) ≠ 3 by decide) m (.bool true)
            have hsb6 := hsb4.put m (.bool true)
            have hB6 := hB4.setCell (p := ⟨sb, m, none⟩) (Nat.le_refl _) (.bool true)
            have hmi : (m : Int) < (l.length : Int) := by omega
            have hm0 : (0 : Int) ≤ (m : Int) := by omega
            obtain ⟨c0, c1, c2⟩ := (HC.out.below (w' := wr.setCell ⟨sb, m, none⟩ (.bool true)) (by rw [HSB.out]; exact hB6) (by rw [HSB.out]; exact hbw)) m hml
            have hgk := HG.out l[m] (List.getElem_mem hml)
            have hld : l.getD m default = l[m] := by rw [List.getD_eq_getElem?_getD, List.getElem?_eq_getElem hml]; rfl
            rw [hld] at HGO2
            generalize l[m] = d at c0 c1 c2 hgk HGO2
            obtain ⟨m1, m2, m3, m4⟩ := hgk
            obtain ⟨hi, hz0, hz1, hz2⟩ := HI.out
            have hord7 : ord.length + 1 ≤ maxLen := by unfold maxLen; omega
            have hord8 : (ord.length + 1) * 8 ≤ 140737488355328 := by omega
            clear hld hown4 hsb4 hB4
            go_wp2_with (at_builtin; go_must (refine wpList_append_own _ rfl _ _ 50 rfl sb 3 i0 (.int .i64 0) 1 8 Try.underlying50 hi hz0 hz1 hz2 rfl (by decide) _ _ _ rfl (hput.alloc _) ⟨wr.heap.size, 0, none⟩ 1 1 [.int .i64 m] rfl rfl ?c1 (by simp [Value.oneCell']) hord7 hord8 ?c5 ?_))
            case c1 => intro j u h; have := cell_one_new (wr.setCell ⟨sb, m, none⟩ (.bool true)) (.int .i64 (m : Int)) 3 j u h; simpa using this
            case c5 => have := hsb6.lt; simp at this ⊢; omega
            intro v' w1 hown1 hgrow _
            have hB7 : Below sb w w1 := (hB6.alloc (by have := hsb6.lt; omega) _).grown hgrow (by have := hsb6.lt; simp at this ⊢; omega) (own_base hput)
            have hsb7 : Blk w1 sb 4 ((boolCells sv).setIfInBounds m (.bool true)) := (hsb6.alloc _).grown hgrow (own_ne hput hsb6 (show (4 : Nat) ≠ 3 by decide))
            have hset : (boolCells sv).setIfInBounds m (.bool true) = boolCells (sv.set m true) := by simp [boolCells, List.map_set]
            rw [hset] at hsb7
            obtain ⟨A', c', rfl⟩ := own_form hown1
            have hown2 : w1.ownsRow sb 3 1 (.slice A' (ord.length + 1) c') (ord.length + 1) ((ord ++ [m]).map fun i : Nat => Value.int .i64 (i : Int)) := by
              rw [List.map_append]; exact hown1
            clear hput hsb6 hB6 hown1 hgrow hsc hsf hi hz0 hz1 hz2 hset c0 c1 c2
            go_wp2_with fail
            go_roundw
            case rel =>
              refine ⟨fr + d.held, ord ++ [m], sv.set m true, A', c', rfl, by omega, ?_, ?_, ?_, ?_, ?_, hsb7, ?_, ?_, hB7, ?_⟩
              · rw [List.length_append]; simp; omega
              · rw [List.length_append]; simp
              · rw [List.length_append]; simp; omega
              · rw [List.length_append]; rfl
              · rw [List.length_append]; exact hown2
              · rw [List.length_set]; exact HSL.out
              · rw [List.length_append]; exact HCNT2.out
              · rw [List.length_append]; exact HGO2.out
            case measure => simp only [intOf]; omega
        · obtain ⟨j, rfl⟩ : ∃ j, k = j + 1 := ⟨k - 1, by omega⟩
          obtain rfl : y = (j : Int) := by omega
          clear hy
          have hjl : j < l.length := by omega
          have hji : (j : Int) < (l.length : Int) := by omega
          have hj0 : (0 : Int) ≤ (j : Int) := by omega
          have hB4 : Below sb w wr := HB3.out.trans (hBi.mono (by rw [← HSB.out]; exact HB3.out.size))
          have hc4 := (HC.out.below (by rw [HSB.out]; exact hB4) (by rw [HSB.out]; exact hbw)) j hjl
          obtain ⟨c0, c1, c2⟩ := hc4
          have hsb4 := HSB3.out.keep hBi
          have hsj : j < sv.length := by rw [HSL.out]; exact hjl
          have hcs : wr.cell? ⟨sb, j, none⟩ = some (.bool sv[j]) := by rw [hsb4.cell]; simp [boolCells, List.getElem?_eq_getElem hsj]
          have hgk := HG.out l[j] (List.getElem_mem hjl)
          have hsd : sv.getD j true = sv[j] := by rw [List.getD_eq_getElem?_getD, List.getElem?_eq_getElem hsj]; rfl
          have hld : l.getD j default = l[j] := by rw [List.getD_eq_getElem?_getD, List.getElem?_eq_getElem hjl]; rfl
          have hkey : Bk.cand fr l sv j = (!sv[j] && decide (l[j].claim - l[j].held ≤ fr)) := by unfold Bk.cand; rw [hsd, hld]; rfl
          have hblt : b < wr.heap.size := by have := hsb4.lt; omega
          have hsblt := hsb4.lt
          generalize l[j] = d at c0 c1 c2 hgk hkey
          generalize sv[j] = s at hcs hkey
          have HKEY := Lib.hid hkey
          clear hkey hsd hld hsb4 hB4
          obtain ⟨m1, m2, m3, m4⟩ := hgk
          cases s with
          | true =>
            go_wp2_with fail
            go_quiet (fail)
            go_wp2_with fail
            go_roundw
            case rel => exact ⟨j, x, _, by omega, rfl, rfl, rfl, HFO.out.no (by rw [HKEY.out]; rfl), hBi.trans (drewN_below _ _ _)⟩
            case measure => simp only [intOf]; omega
          | false =>
            by_cases hle : d.claim - d.held ≤ fr
            · have hdd : decide (d.claim - d.held ≤ fr) = true := decide_eq_true hle
              have HDD := Lib.hid hdd
              clear hdd
              go_wp2_with fail
              go_quiet (fail)
              go_wp2_with fail
              go_roundw
              case rel => exact ⟨j, _, _, by omega, rfl, rfl, rfl, Found.yes hjl (by rw [HKEY.out, HDD.out]; rfl), hBi.trans (drewN_below _ _ _)⟩
              case measure => simp only [intOf]; omega
            · have hgt : fr < d.claim - d.held := by omega
              have hdd : decide (d.claim - d.held ≤ fr) = false := decide_eq_false hle
              have HDD := Lib.hid hdd
              clear hle
              go_wp2_with fail
              go_quiet (fail)
              go_wp2_with fail
              go_roundw
              case rel => exact ⟨j, x, _, by omega, rfl, rfl, rfl, HFO.out.no (by rw [HKEY.out, HDD.out]; rfl), hBi.trans (drewN_below _ _ _)⟩
              case measure => simp only [intOf]; omega
    · have hge : (l.length : Int) ≤ (ord.length : Int) := by omega
      have hnx : Bk.next fr l sv = none := by
        cases hx : Bk.next fr l sv with
        | none => rfl
        | some i =>
          have h1 := count_set (Bk.next_lt hx).2.1
          have h2 := HCNT.out
          omega
      have hord : Bk.order free l = ord := by rw [← HGO.out, Bk.go_none hnx]
      have HO := Lib.hid hord
      clear hnx hord hlt
      go_wp2_with fail
      go_ret
      refine ⟨?_, by rw [HSB.out]; exact hB3⟩
      rw [HO.out, HSB.out]
      exact ⟨_, rfl, hown⟩
end Go.Proofs.Ytjdjdojmgoibbaa
