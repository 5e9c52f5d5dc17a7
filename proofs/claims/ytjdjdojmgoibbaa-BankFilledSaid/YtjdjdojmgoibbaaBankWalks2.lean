/- THE WALKS of layer 10: who can be served next; the order. Conditions: the slices' cells hold the clients, and who was served. -/
import Derived.Test.YtjdjdojmgoibbaaBankWalks
import Derived.Laws.MakeOwn
namespace Go.Proofs.Ytjdjdojmgoibbaa
open Go.RowKit
set_option linter.unusedVariables false

namespace Bk
def can (free : Int) (c : Cl) : Bool := decide (c.claim - c.held ≤ free)
def next (free : Int) (l : List Cl) (sv : List Bool) : Option Nat := (List.range l.length).find? fun i => !sv.getD i true && can free (l.getD i default)
def go : Nat → Int → List Cl → List Bool → List Nat → List Nat
  | 0, _, _, _, ord => ord
  | n + 1, free, l, sv, ord => match next free l sv with
    | none => ord
    | some i => go n (free + (l.getD i default).held) l (sv.set i true) (ord ++ [i])
def order (free : Int) (l : List Cl) : List Nat := go (l.length + 1) free l (List.replicate l.length false) []
def Good (l : List Cl) : Prop := ∀ c ∈ l, 0 ≤ c.claim ∧ c.claim ≤ 100 ∧ 0 ≤ c.held ∧ c.held ≤ c.claim
end Bk
theorem Bk.good_of_right {l : List Cl} (h : Bk.right l = true) : Bk.Good l ∧ l.length ≤ 8 := by
  unfold Bk.right at h
  rw [Bool.and_eq_true, decide_eq_true_iff, List.all_eq_true] at h
  refine ⟨?_, h.1⟩
  intro c hc
  obtain ⟨i, hi, rfl⟩ := List.getElem_of_mem hc
  have h2 := h.2 i (by simpa using hi)
  unfold Bk.okAt at h2
  rw [List.getElem?_eq_getElem hi] at h2
  simp only [Bool.and_eq_true] at h2
  have h3 := h2.1
  unfold Bk.good at h3
  rw [decide_eq_true_iff] at h3
  omega
/-- a block of flags -/
def boolCells (sv : List Bool) : Array Value := (sv.map Value.bool).toArray

/-- what next tells: the place, and whether there is one -/
def NextIs (o : Option Nat) (e : Ending) : Prop := match o with
  | some i => e = .returned (.tuple #[.int .i64 i, .bool true])
  | none => e = .returned (.tuple #[.int .i64 0, .bool false])
theorem find_range_none {p : Nat → Bool} (n : Nat) (h : ∀ i, i < n → p i = false) : (List.range n).find? p = none := by
  rw [List.find?_eq_none]; intro i hi; rw [h i (by simpa using hi)]; simp
theorem find_range_some {p : Nat → Bool} (n k : Nat) (hk : k < n) (hp : p k = true) (h : ∀ i, i < k → p i = false) : (List.range n).find? p = some k := by
  rw [List.find?_range_eq_some]
  exact ⟨hp, by simpa using hk, fun j hj => by rw [h j hj]; rfl⟩

set_option maxRecDepth 100000 in
set_option maxHeartbeats 400000 in
theorem next_any (free : Int) (b off cap : Nat) (l : List Cl) (sb sc : Nat) (sv : List Bool) (w : World) (hfr : 0 ≤ free ∧ free ≤ 1000000) (hl8 : l.length ≤ 8) (hgood : Bk.Good l) (hb : b < w.heap.size) (hc : ClsAt w b off l) (hs : Blk w sb 4 (boolCells sv)) (hsl : sv.length = l.length) :
    Calls Try.prog 39 #[.int .i64 free, .slice (some ⟨b, off, none⟩) l.length cap, .slice (some ⟨sb, 0, none⟩) l.length sc] w fun e w' => NextIs (Bk.next free l sv) e ∧ Below w.heap.size w w' := by
  have HC := Lib.hid hc
  have HS := Lib.hid hs
  have HG := Lib.hid hgood
  have HSL := Lib.hid hsl
  clear hc hs hgood hsl
  obtain ⟨hf1, hf2⟩ := hfr
  go_enter Try.func39, Try.ntmps39
  go_wp2_with fail
  go_loopw [8, 9, 12] (fun _ _ i wr => ∃ k : Nat, k ≤ l.length ∧ i = .int .i64 k ∧ (∀ j, j < k → (!sv.getD j true && Bk.can free (l.getD j default)) = false) ∧ Below w.heap.size w wr) (fun _ _ i _ => l.length - (intOf i).toNat)
  case atStart => exact ⟨0, by omega, rfl, fun j hj => by omega, Below.refl _ _⟩
  case round =>
    obtain ⟨k, hk, rfl, hno, hB⟩ := hrel
    have HNO := Lib.hid hno
    clear hno
    by_cases hlt : k < l.length
    · obtain ⟨c0, c1, c2⟩ := (HC.out.below hB hb) k hlt
      have hblt : b < wr.heap.size := Nat.lt_of_lt_of_le hb hB.size
      have hbs := HS.out.keep hB
      have hsbl := hbs.lt
      have hcs := hbs.cell k
      have hgk := HG.out l[k] (List.getElem_mem hlt)
      have hld : l.getD k default = l[k] := by rw [List.getD_eq_getElem?_getD, List.getElem?_eq_getElem hlt]; rfl
      have hsk : k < sv.length := by rw [HSL.out]; exact hlt
      have hsd : sv.getD k true = sv[k] := by rw [List.getD_eq_getElem?_getD, List.getElem?_eq_getElem hsk]; rfl
      have hcs2 : wr.cell? ⟨sb, k, none⟩ = some (.bool sv[k]) := by
        rw [hcs]; simp [boolCells, List.getElem?_eq_getElem hsk]
      clear hcs hbs
      generalize l[k] = c at c0 c1 c2 hgk hld
      generalize sv[k] = s at hsd hcs2
      have HLD := Lib.hid hld
      have HSD := Lib.hid hsd
      clear hld hsd
      obtain ⟨g1, g2, g3, g4⟩ := hgk
      have hkey : (!sv.getD k true && Bk.can free (l.getD k default)) = (!s && decide (c.claim - c.held ≤ free)) := by rw [HSD.out, HLD.out]; rfl
      have HK := Lib.hid hkey
      clear hkey
      have hstep : (!s && decide (c.claim - c.held ≤ free)) = false → ∀ j, j < k + 1 → (!sv.getD j true && Bk.can free (l.getD j default)) = false := by
        intro h j hj
        by_cases e : j = k
        · subst e; rw [HK.out]; exact h
        · exact HNO.out j (by omega)
      have HSTEP := Lib.hid hstep
      clear hstep
      cases s with
      | true =>
        go_wp2_with fail
        go_roundw
        case rel => exact ⟨k + 1, by omega, by go_num, HSTEP.out rfl, hB.alloc hB.size _⟩
        case measure => simp [intOf]; omega
      | false =>
        by_cases hcan : c.claim - c.held ≤ free
        · have hfound : Bk.next free l sv = some k := by
            refine find_range_some _ k hlt ?_ HNO.out
            rw [HK.out, decide_eq_true hcan]; rfl
          have HF := Lib.hid hfound
          clear hfound
          go_wp2_with fail
          go_ret2
          refine ⟨?_, hB.alloc hB.size _⟩
          rw [HF.out]; rfl
        · have hcan2 : free < c.claim - c.held := by omega
          have hd := decide_eq_false hcan
          have HD := Lib.hid hd
          clear hcan hd
          go_wp2_with fail
          go_roundw
          case rel => exact ⟨k + 1, by omega, by go_num, HSTEP.out (by rw [HD.out]; rfl), hB.alloc hB.size _⟩
          case measure => simp [intOf]; omega
    · obtain rfl : k = l.length := by omega
      have hnone : Bk.next free l sv = none := find_range_none _ HNO.out
      have HN := Lib.hid hnone
      clear hnone hlt
      go_wp2_with fail
      go_ret2
      refine ⟨?_, hB⟩
      rw [HN.out]; rfl
end Go.Proofs.Ytjdjdojmgoibbaa
