/- layer 5, plain: lanes in which one waits alone. No condition. -/
import Derived.Test.YtfmbfgoofiojcaaL11
namespace Go.Proofs.Ytfmbfgoofiojcaa
open Lk
set_option linter.unusedVariables false
def encU (s : Int) : List SC := [.pv (.int .u8 s)]
namespace Lk
def wOf (b : Int) : Int := 1 + b.tmod 8
def U8 (l : List Int) : Prop := ∀ u ∈ l, 0 ≤ u ∧ u ≤ 255
theorem tmod8 {b : Int} (h : 0 ≤ b ∧ b ≤ 255) : 0 ≤ b.tmod 8 ∧ b.tmod 8 ≤ 7 := by
  rw [Int.tmod_eq_emod_of_nonneg h.1]
  omega
theorem wOf_ok {b : Int} (h : 0 ≤ b ∧ b ≤ 255) : okW (wOf b) = true ∧ okC (wOf b) = true := by
  have := tmod8 h
  unfold okW okC wOf
  simp only [decide_eq_true_eq]
  omega
theorem map_okC {l : List Int} (h : U8 l) : (l.map wOf).all okC = true := by
  rw [List.all_eq_true]
  intro c hc
  obtain ⟨b, hb, rfl⟩ := List.mem_map.1 hc
  exact (wOf_ok (h b hb)).2
theorem okNew_map {l : List Int} (h : U8 l) (h1 : 1 ≤ l.length) (h6 : l.length ≤ 6) : okNew (l.map wOf) = true := by
  unfold okNew
  simp only [Bool.and_eq_true, decide_eq_true_eq, List.all_eq_true, List.length_map]
  refine ⟨⟨h1, h6⟩, fun w hw => ?_⟩
  obtain ⟨b, hb, rfl⟩ := List.mem_map.1 hw
  exact (wOf_ok (h b hb)).1
def one (W : List Int) (k : Nat) (cs : List Int) : Ls := ⟨(W.map fresh).set k ⟨W.getD k 0, 0, cs⟩, 0, false⟩
theorem one_nil {W : List Int} {k : Nat} (hk : k < W.length) : one W k [] = ⟨W.map fresh, 0, false⟩ := by
  unfold one
  congr 1
  apply List.ext_getElem?
  intro j
  rw [List.getElem?_set]
  split
  · rename_i e
    subst e
    rw [if_pos (by simpa using hk), List.getElem?_map, List.getElem?_eq_getElem hk]
    simp [fresh, List.getElem?_eq_getElem hk]
  · rfl
theorem one_right {W : List Int} {k : Nat} {cs : List Int} (hW : okNew W = true) (hk : k < W.length) (hl : cs.length ≤ 200) (hc : cs.all okC = true) : right (one W k cs) = true := by
  unfold okNew at hW
  simp only [Bool.and_eq_true, decide_eq_true_eq, List.all_eq_true] at hW
  rw [right_iff]
  unfold one
  simp only [List.length_set, List.length_map]
  refine ⟨by omega, fun j hj => ?_⟩
  have hm : most ⟨(W.map fresh).set k ⟨W.getD k 0, 0, cs⟩, 0, false⟩ (j : Int) = 7 := if_neg (fun h => by simp at h)
  rw [hm, List.getElem_set]
  split
  · refine okL_iff.2 ⟨?_, ⟨Int.le_refl 0, (by decide : (0 : Int) ≤ 7)⟩, hl, hc⟩
    rw [List.getD_eq_getElem?_getD, List.getElem?_eq_getElem hk]
    exact hW.2 _ (List.getElem_mem hk)
  · rw [List.getElem_map]
    exact okL_iff.2 ⟨hW.2 _ (List.getElem_mem (by simpa using hj)), ⟨Int.le_refl 0, (by decide : (0 : Int) ≤ 7)⟩, by simp [fresh], by simp [fresh]⟩
theorem one_push {W : List Int} {k : Nat} {cs : List Int} {c : Int} (hW : okNew W = true) (hk : k < W.length) (hl : cs.length < 200) (hc : cs.all okC = true) (hcc : okC c = true) : pushI (one W k cs) k c = (one W k (cs ++ [c]), 0) := by
  have hr := one_right hW hk (by omega) hc
  have hlen : (one W k cs).l.length = W.length := by simp [one]
  have hk2 : k < (one W k cs).l.length := by omega
  have hg : (one W k cs).l[k] = ⟨W.getD k 0, 0, cs⟩ := List.getElem_set_self _
  rw [push_ok (x := one W k cs) (fun h => ?_) hk2 (by rw [hg]; simp; omega), hg]
  · unfold one
    simp only [List.set_set]
  · rcases h with h | h | h | h
    · rw [hr] at h; simp at h
    · omega
    · omega
    · rw [hcc] at h; simp at h
theorem one_costs {W : List Int} {k : Nat} {cs : List Int} : costs (one W k cs) = (List.replicate W.length []).set k cs := by
  unfold costs one
  rw [List.map_set, List.map_map]
  congr 1
  rw [List.eq_replicate_iff]
  exact ⟨by simp, fun b hb => by obtain ⟨w, _, rfl⟩ := List.mem_map.1 hb; rfl⟩
/-- one waits alone: it comes -/
theorem next_one {x : Ls} {n k : Nat} {c : Int} {cs : List Int} (h : right x = true) (hk : k < n) (hc : costs x = (List.replicate n []).set k (c :: cs)) :
    ∃ x', nextI x = (x', (k : Int), c, true) ∧ right x' = true ∧ costs x' = (List.replicate n []).set k cs := by
  have hw : waits x = true := by
    rw [waits_iff, hc, List.any_eq_true]
    exact ⟨c :: cs, List.mem_iff_getElem?.2 ⟨k, by rw [List.getElem?_set_self (by simpa using hk)]⟩, by simp⟩
  obtain ⟨k', hk', e1, e2, e3, e4, e5, _, _⟩ := next_facts h hw
  have hkk : k = k' := by
    by_cases e : k = k'
    · exact e
    · rw [hc, List.getElem?_set_ne e] at e4
      by_cases hn : k' < n
      · rw [List.getElem?_eq_getElem (by simpa using hn)] at e4
        simp at e4
      · rw [List.getElem?_eq_none (by simp; omega)] at e4
        simp at e4
  subst hkk
  rw [hc, List.getElem?_set_self (by simpa using hk)] at e4 e5
  simp only [Option.getD_some, List.tail_cons, Option.some.injEq, List.cons.injEq, and_true] at e4 e5
  rw [List.set_set] at e5
  refine ⟨(nextI x).1, ?_, e3, e5⟩
  rw [← e1, e4, ← e2]
theorem next_over {x : Ls} {n k : Nat} (hc : costs x = (List.replicate n []).set k []) : nextI x = (x, 0, 0, false) := by
  refine next_none ?_
  rw [waits_iff, hc, List.any_eq_false]
  intro y hy
  rcases List.mem_or_eq_of_mem_set hy with hy | rfl
  · rw [List.eq_of_mem_replicate hy]; simp
  · simp
theorem right_small {x : Ls} (h : right x = true) : Small x := ⟨by have := right_len h; omega, fun y hy => by
  obtain ⟨k, hk, rfl⟩ := List.getElem_of_mem hy
  have := (okL_iff.1 (right_get h hk)).2.2.1
  omega⟩
end Lk
end Go.Proofs.Ytfmbfgoofiojcaa
