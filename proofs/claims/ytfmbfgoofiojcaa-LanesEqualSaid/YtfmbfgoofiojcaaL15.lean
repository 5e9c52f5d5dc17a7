/- layer 5, plain: lanes filled with 150 costs each. No condition. -/
import Derived.Test.YtfmbfgoofiojcaaL12
namespace Go.Proofs.Ytfmbfgoofiojcaa
open Lk
set_option linter.unusedVariables false
namespace Lk
def cAt (K : List (List Int)) (i k : Nat) : Int := match K[i]? with
  | some r => if 0 < r.length then wOf (r.getD (k % r.length) 0) else 1 + (((i + k) % 8 : Nat) : Int)
  | none => 1 + (((i + k) % 8 : Nat) : Int)
theorem cAt_ok {K : List (List Int)} (h : ∀ r ∈ K, U8 r) (i k : Nat) : okC (cAt K i k) = true := by
  have h8 : okC (1 + (((i + k) % 8 : Nat) : Int)) = true := by unfold okC; simp only [decide_eq_true_eq]; omega
  unfold cAt
  split
  · rename_i r hr
    split
    · rename_i h0
      have hm : k % r.length < r.length := Nat.mod_lt _ h0
      rw [List.getD_eq_getElem?_getD, List.getElem?_eq_getElem hm]
      exact (wOf_ok (h r (List.mem_of_getElem? hr) _ (List.getElem_mem hm))).2
    · exact h8
  · exact h8
def fillC (K : List (List Int)) (i k j : Nat) : List Int := if j < i then (List.range 150).map (cAt K j) else if j = i then (List.range k).map (cAt K j) else []
def fillL (W : List Int) (K : List (List Int)) (i k : Nat) : Ls := ⟨(List.range W.length).map fun j => ⟨W.getD j 0, 0, fillC K i k j⟩, 0, false⟩
theorem fill_len {W : List Int} {K : List (List Int)} {i k : Nat} : (fillL W K i k).l.length = W.length := by simp [fillL]
theorem fill_get {W : List Int} {K : List (List Int)} {i k j : Nat} (hj : j < (fillL W K i k).l.length) : (fillL W K i k).l[j] = ⟨W.getD j 0, 0, fillC K i k j⟩ := by simp [fillL]
theorem fillC_ok {K : List (List Int)} (h : ∀ r ∈ K, U8 r) {i k j : Nat} (hk : k ≤ 150) : (fillC K i k j).length ≤ 150 ∧ (fillC K i k j).all okC = true := by
  unfold fillC
  split
  · exact ⟨by simp, by rw [List.all_eq_true]; intro c hc; obtain ⟨m, _, rfl⟩ := List.mem_map.1 hc; exact cAt_ok h _ _⟩
  · split
    · exact ⟨by simpa using hk, by rw [List.all_eq_true]; intro c hc; obtain ⟨m, _, rfl⟩ := List.mem_map.1 hc; exact cAt_ok h _ _⟩
    · exact ⟨by simp, rfl⟩
theorem fill_right {W : List Int} {K : List (List Int)} {i k : Nat} (hW : okNew W = true) (hK : ∀ r ∈ K, U8 r) (hk : k ≤ 150) : right (fillL W K i k) = true := by
  unfold okNew at hW
  simp only [Bool.and_eq_true, decide_eq_true_eq, List.all_eq_true] at hW
  rw [right_iff]
  have hl := @fill_len W K i k
  refine ⟨⟨by omega, Int.le_refl 0, by rw [hl]; show (0 : Int) < _; omega⟩, fun j hj => ?_⟩
  have hm : most (fillL W K i k) (j : Int) = 7 := if_neg (fun h => by simp [fillL] at h)
  rw [hm, fill_get]
  obtain ⟨c1, c2⟩ := @fillC_ok K hK i k j hk
  have hj2 : j < W.length := by omega
  refine okL_iff.2 ⟨?_, ⟨Int.le_refl 0, (by decide : (0 : Int) ≤ 7)⟩, by simp only; omega, c2⟩
  rw [List.getD_eq_getElem?_getD, List.getElem?_eq_getElem hj2]
  exact hW.2 _ (List.getElem_mem hj2)
theorem fill_push {W : List Int} {K : List (List Int)} {i k : Nat} (hW : okNew W = true) (hK : ∀ r ∈ K, U8 r) (hi : i < W.length) (hk : k < 150) : pushI (fillL W K i k) i (cAt K i k) = (fillL W K i (k + 1), 0) := by
  have hr := @fill_right W K i k hW hK (by omega)
  have hi2 : i < (fillL W K i k).l.length := by rw [fill_len]; exact hi
  have hc : fillC K i k i = (List.range k).map (cAt K i) := by unfold fillC; rw [if_neg (by omega), if_pos rfl]
  rw [push_ok (fun h => ?_) hi2 (by rw [fill_get, hc]; simp; omega), fill_get, hc]
  · have e : (fillL W K i k).l.set i ⟨W.getD i 0, 0, (List.range k).map (cAt K i) ++ [cAt K i k]⟩ = (fillL W K i (k + 1)).l := by
      apply List.ext_getElem?
      intro j
      rw [List.getElem?_set]
      by_cases e1 : i = j
      · subst e1
        rw [if_pos rfl, if_pos hi2, List.getElem?_eq_getElem (by rw [fill_len]; exact hi), fill_get]
        unfold fillC
        rw [if_neg (by omega), if_pos rfl, List.range_succ, List.map_append]; rfl
      · rw [if_neg e1]
        by_cases hj : j < W.length
        · rw [List.getElem?_eq_getElem (by rw [fill_len]; exact hj), List.getElem?_eq_getElem (by rw [fill_len]; exact hj), fill_get, fill_get]
          unfold fillC
          split
          · rfl
          · rw [if_neg (fun h => e1 h.symm), if_neg (fun h => e1 h.symm)]
        · rw [List.getElem?_eq_none (by rw [fill_len]; omega), List.getElem?_eq_none (by rw [fill_len]; omega)]
    simp only [e]
    rfl
  · rcases h with h | h | h | h
    · rw [hr] at h; simp at h
    · omega
    · omega
    · rw [cAt_ok hK] at h; simp at h
theorem fill_next {W : List Int} {K : List (List Int)} {i : Nat} : fillL W K i 150 = fillL W K (i + 1) 0 := by
  unfold fillL
  congr 1
  apply List.map_congr_left
  intro j _
  congr 1
  unfold fillC
  by_cases h1 : j < i
  · rw [if_pos h1, if_pos (by omega)]
  · by_cases h2 : j = i
    · rw [if_neg h1, if_pos h2, if_pos (by omega)]
    · rw [if_neg h1, if_neg h2, if_neg (by omega)]
      split
      · simp
      · rfl
theorem fill_start {W : List Int} {K : List (List Int)} : fillL W K 0 0 = ⟨W.map fresh, 0, false⟩ := by
  unfold fillL
  congr 1
  apply List.ext_getElem?
  intro j
  by_cases hj : j < W.length
  · rw [List.getElem?_map, List.getElem?_map, List.getElem?_range hj, List.getElem?_eq_getElem hj]
    simp only [Option.map_some, fresh, List.getD_eq_getElem?_getD, List.getElem?_eq_getElem hj, Option.getD_some]
    unfold fillC
    rw [if_neg (by omega)]
    split <;> simp
  · rw [List.getElem?_eq_none (by simp; omega), List.getElem?_eq_none (by simp; omega)]
end Lk
end Go.Proofs.Ytfmbfgoofiojcaa
