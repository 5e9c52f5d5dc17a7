/- LAYER 9, walked: the sweep. Conditions: the slice leads to the frames. -/
import Derived.Test.YthhialnnhhemaaaClockRight
import Derived.Deep.LoopGhost
namespace Go.Proofs.Ythhialnnhhemaaa
open Go.RowKit
set_option linter.unusedVariables false

namespace Ck
theorem right_parts {l : List Fr} {h : Int} (hr : right l h = true) : l.length ≤ 8 ∧ (∃ H : Nat, h = (H : Int) ∧ H < l.length) ∧ ∀ f ∈ l, good f = true := by
  unfold right at hr
  rw [Bool.and_eq_true, decide_eq_true_iff, List.all_eq_true] at hr
  obtain ⟨⟨h1, h2, h3⟩, h4⟩ := hr
  exact ⟨h1, ⟨h.toNat, by omega, by omega⟩, h4⟩
theorem anyFree_iff {l : List Fr} (hg : ∀ f ∈ l, good f = true) : anyFree l = true ↔ ∃ f ∈ l, f.pins = 0 := by
  unfold anyFree
  rw [List.any_eq_true]
  constructor
  · rintro ⟨f, hf, h⟩
    have := hg f hf
    unfold good at this
    rw [decide_eq_true_iff] at this
    simp at h
    exact ⟨f, hf, by omega⟩
  · rintro ⟨f, hf, h⟩
    exact ⟨f, hf, by simp; omega⟩
theorem set_eq_modify {l : List Fr} {i : Nat} (hi : i < l.length) (g : Fr → Fr) : l.modify i g = l.set i (g l[i]) := by
  apply List.ext_getElem (by simp)
  intro j h1 h2
  rw [List.getElem_modify, List.getElem_set]
  split
  · rename_i e; subst e; rfl
  · rfl
theorem set_self {l : List Fr} {i : Nat} (hi : i < l.length) : l.set i l[i] = l := by simp
end Ck
/-- a flag that turns is one cell that turns -/
theorem flat_used (l : List Fr) (i : Nat) (hi : i < l.length) (b : Bool) : frE.flat (l.set i { l[i] with used := b }) = (frE.flat l).set (i * 3 + 2) (.bool b) := by
  have e1 : l.set i { l[i] with used := b } = l.take i ++ ({ l[i] with used := b } :: l.drop (i + 1)) := by
    rw [List.set_eq_take_append_cons_drop, if_pos hi]
  have e2 : l = l.take i ++ (l[i] :: l.drop (i + 1)) := by
    rw [List.getElem_cons_drop, List.take_append_drop]
  have e3 : frE.flat l = frE.flat (l.take i) ++ (frE.enc l[i] ++ frE.flat (l.drop (i + 1))) := by
    conv => lhs; rw [e2]
    rw [frE.flat_append, frE.flat_cons]
  have hl : (frE.flat (l.take i)).length = i * 3 := by rw [frE.flat_length, List.length_take, Nat.min_eq_left (by omega)]; rfl
  rw [e1, frE.flat_append, frE.flat_cons, e3]
  rw [List.set_append_right _ _ (by rw [hl]; omega), hl, show i * 3 + 2 - i * 3 = 2 by omega]
  congr 1

/-- nobody goes: the clock as it is -/
def SweepNo (v : Value) (h : Int) (e : Ending) : Prop := e = .returned (.tuple #[.agg #[v, .int .i64 h], .int .i64 0, .bool false])
/-- one goes: the frames behind, a row of the call's own -/
def SweepYes (B : Nat) (l : List Fr) (H N : Nat) (e : Ending) (w' : World) : Prop :=
  ∃ u, e = .returned (.tuple #[.agg #[u, .int .i64 (((H + N + 1) % l.length : Nat) : Int)], .int .i64 (((H + N) % l.length : Nat) : Int), .bool true]) ∧ frE.Own w' B 42 u (Ck.after l H N)

/-- a pair of cells that is written anew -/
theorem pair_stored {w : World} {g : Nat} {t : TypeId} {x0 x1 : Value} (h : Blk w g t #[x0, x1]) (a b : Value) :
    (w.setCell ⟨g, 0, none⟩ a).cell? ⟨g, 0, none⟩ = some a ∧ ((w.setCell ⟨g, 0, none⟩ a).setCell ⟨g, 1, none⟩ b).cell? ⟨g, 0, none⟩ = some a ∧ ((w.setCell ⟨g, 0, none⟩ a).setCell ⟨g, 1, none⟩ b).cell? ⟨g, 1, none⟩ = some b ∧ Blk ((w.setCell ⟨g, 0, none⟩ a).setCell ⟨g, 1, none⟩ b) g t #[a, b] := by
  have h1 : Blk (w.setCell ⟨g, 0, none⟩ a) g t #[a, x1] := by have := h.put 0 a; simpa using this
  have h2 : Blk ((w.setCell ⟨g, 0, none⟩ a).setCell ⟨g, 1, none⟩ b) g t #[a, b] := by have := h1.put 1 b; simpa using this
  exact ⟨by rw [h1.cell]; rfl, by rw [h2.cell]; rfl, by rw [h2.cell]; rfl, h2⟩
/-- the two cells of a block -/
theorem pair_cells {w : World} {g : Nat} {t : TypeId} {x0 x1 : Value} (h : Blk w g t #[x0, x1]) : w.cell? ⟨g, 0, none⟩ = some x0 ∧ w.cell? ⟨g, 1, none⟩ = some x1 ∧ w.frozen? ⟨g, 0, none⟩ = false ∧ w.frozen? ⟨g, 1, none⟩ = false ∧ g < w.heap.size :=
  ⟨by rw [h.cell]; rfl, by rw [h.cell]; rfl, h.frozen 0, h.frozen 1, h.lt⟩

set_option maxRecDepth 100000 in
set_option maxHeartbeats 800000 in
theorem sweep_no (v : Value) (l : List Fr) (h : Int) (w : World) (hs : frE.Sl w v l) (hno : Ck.right l h = false ∨ Ck.anyFree l = false) :
    Calls Try.prog 16 #[.agg #[v, .int .i64 h]] w fun e w' => SweepNo v h e ∧ Below w.heap.size w w' := by
  have HS := Lib.hid hs
  obtain ⟨A, cap, rfl, _⟩ := hs
  have hY : Below w.heap.size w ((w.alloc (.cells #[.slice A l.length cap, .int .i64 h] 24)).alloc (.cells #[.slice none 0 0, .int .i64 0] 24)) := ((Below.refl _ _).alloc (Nat.le_refl _) _).alloc (by simp) _
  have hb1 : Blk ((w.alloc (.cells #[.slice A l.length cap, .int .i64 h] 24)).alloc (.cells #[.slice none 0 0, .int .i64 0] 24)) w.heap.size 24 #[.slice A l.length cap, .int .i64 h] := (Blk.new w _ _).alloc _
  have hb2 : Blk ((w.alloc (.cells #[.slice A l.length cap, .int .i64 h] 24)).alloc (.cells #[.slice none 0 0, .int .i64 0] 24)) (w.heap.size + 1) 24 #[.slice none 0 0, .int .i64 0] := by
    have := Blk.new (w.alloc (.cells #[.slice A l.length cap, .int .i64 h] 24)) 24 #[.slice none 0 0, .int .i64 0]
    simpa using this
  have HY := Lib.hid hY
  have HB1 := Lib.hid hb1
  have HB2 := Lib.hid hb2
  have S := cright_any (.slice A l.length cap) l h _ (HS.out.below hY)
  have SC := Lib.hid (fun W hw => contains_any (.slice A l.length cap) l W hw)
  clear hY hb1 hb2
  cases hr : Ck.right l h with
  | false =>
    rw [hr] at S
    have S := Lib.hid S
    clear hr hno
    go_enter Try.func16, Try.ntmps16
    go_wp2_with fail
    refine S.out.mono ?_
    rintro e W1 ⟨rfl, hB1⟩
    have hb := HY.out.trans (hB1.mono HY.out.size)
    have hx2 := HB2.out.keep hB1
    obtain ⟨f10, f11, y10, y11, l1⟩ := pair_cells (HB1.out.keep hB1)
    obtain ⟨f20, f21, z20, z21, l2⟩ := pair_cells hx2
    obtain ⟨d0, d1, d2, _⟩ := pair_stored hx2 (.slice A l.length cap) (.int .i64 h)
    have hf : Below w.heap.size w ((W1.setCell ⟨w.heap.size + 1, 0, none⟩ (.slice A l.length cap)).setCell ⟨w.heap.size + 1, 1, none⟩ (.int .i64 h)) := (hb.setCell (by simp) _).setCell (by simp) _
    clear hB1 hx2 S
    go_wp2_with fail
    exact bodyPost_ret (v := .tuple #[.agg #[.slice A l.length cap, .int .i64 h], .int .i64 0, .bool false]) (by simp [results, Try.results16, go_sem, d1, d2]) rfl ⟨rfl, hf⟩
  | true =>
    rw [hr] at S
    have S := Lib.hid S
    have hn : Ck.anyFree l = false := by
      rcases hno with h | h
      · rw [h] at hr; exact Bool.noConfusion hr
      · exact h
    rw [hn] at SC
    clear hr hno hn
    go_enter Try.func16, Try.ntmps16
    go_wp2_with fail
    refine S.out.mono ?_
    rintro e W0 ⟨rfl, hB0⟩
    have hb0 := HY.out.trans (hB0.mono HY.out.size)
    have HB1 := Lib.hid (HB1.out.keep hB0)
    have HB2 := Lib.hid (HB2.out.keep hB0)
    obtain ⟨f10, f11, y10, y11, l1⟩ := pair_cells HB1.out
    have SS := Lib.hid (SC.out W0 (HS.out.below hb0))
    clear hB0 S
    go_wp2_with fail
    refine SS.out.mono ?_
    rintro e W1 ⟨rfl, hB1⟩
    have hb := hb0.trans (hB1.mono hb0.size)
    have hx2 := HB2.out.keep hB1
    obtain ⟨g10, g11, u10, u11, m1⟩ := pair_cells (HB1.out.keep hB1)
    obtain ⟨f20, f21, z20, z21, l2⟩ := pair_cells hx2
    obtain ⟨d0, d1, d2, _⟩ := pair_stored hx2 (.slice A l.length cap) (.int .i64 h)
    have hf : Below w.heap.size w ((W1.setCell ⟨w.heap.size + 1, 0, none⟩ (.slice A l.length cap)).setCell ⟨w.heap.size + 1, 1, none⟩ (.int .i64 h)) := (hb.setCell (by simp) _).setCell (by simp) _
    clear hB1 hx2 SS f10 f11 y10 y11 l1
    go_wp2_with fail
    exact bodyPost_ret (v := .tuple #[.agg #[.slice A l.length cap, .int .i64 h], .int .i64 0, .bool false]) (by simp [results, Try.results16, go_sem, d1, d2]) rfl ⟨rfl, hf⟩
end Go.Proofs.Ythhialnnhhemaaa
