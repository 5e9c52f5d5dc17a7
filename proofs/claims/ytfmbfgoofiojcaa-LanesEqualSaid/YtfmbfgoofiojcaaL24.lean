/- layer 5: LanesEqual: its lanes, by computation. -/
import Derived.Test.YtfmbfgoofiojcaaL18
namespace Go.Proofs.Ytfmbfgoofiojcaa
open Go.RowKit Lk
set_option linter.unusedVariables false
set_option linter.unusedSimpArgs false
namespace Lk
def pS (n : Nat) (c : Int) (i k : Nat) : Ls := ⟨(List.range n).map fun j => ⟨1, 0, List.replicate (if j < i then 60 else if j = i then k else 0) c⟩, 0, false⟩
def leC (n : Nat) (c : Int) (e : Nat) : Nat → Nat → Ls → Bool
  | 0, _, _ => true
  | m + 1, k, x => (nextI x).2.2.2 && decide ((nextI x).2.1 = ((k / e % n : Nat) : Int)) && decide ((nextI x).2.2.1 = c) && leC n c e m (k + 1) (nextI x).1
def itN (x : Ls) : Nat → Ls
  | 0 => x
  | k + 1 => (nextI (itN x k)).1
theorem itN_shift (x : Ls) : ∀ k, itN (nextI x).1 k = itN x (k + 1)
  | 0 => rfl
  | k + 1 => by rw [itN, itN_shift x k]; rfl
theorem leC_at {n : Nat} {c : Int} {e : Nat} : ∀ (m k : Nat) (x : Ls), leC n c e m k x = true → ∀ j, j < m → (nextI (itN x j)).2.2.2 = true ∧ (nextI (itN x j)).2.1 = (((k + j) / e % n : Nat) : Int) ∧ (nextI (itN x j)).2.2.1 = c
  | 0, k, x, _, j, hj => by omega
  | m + 1, k, x, h, j, hj => by
    unfold leC at h
    simp only [Bool.and_eq_true, decide_eq_true_eq] at h
    obtain ⟨⟨⟨h1, h2⟩, h3⟩, h4⟩ := h
    cases j with
    | zero => exact ⟨h1, h2, h3⟩
    | succ j =>
      have := leC_at m (k + 1) _ h4 j (by omega)
      rw [itN_shift, show k + 1 + j = k + (j + 1) by omega] at this
      exact this
theorem le_all : ∀ n, n < 7 → 2 ≤ n → leC n 4 1 60 0 (pS n 4 n 0) = true ∧ leC n 2 2 60 0 (pS n 2 n 0) = true := by decide +kernel
theorem ps_right {n i k : Nat} {c : Int} (hn : 2 ≤ n ∧ n ≤ 6) (hk : k ≤ 60) (hc : okC c = true) : right (pS n c i k) = true := by
  rw [right_iff]
  have hlen : (pS n c i k).l.length = n := by simp [pS]
  refine ⟨⟨by omega, by simp [pS], by simp [pS]; omega⟩, fun j hj => ?_⟩
  have hg : (pS n c i k).l[j] = ⟨1, 0, List.replicate (if j < i then 60 else if j = i then k else 0) c⟩ := by simp [pS]
  rw [hg, okL_iff]
  refine ⟨(by decide : okW 1 = true), ⟨by simp, ?_⟩, ?_, ?_⟩
  · unfold most
    show (0 : Int) ≤ if (pS n c i k).g = true ∧ (j : Int) = (pS n c i k).at' then 39 else 7
    split <;> omega
  · simp only [List.length_replicate]; split <;> (try split) <;> omega
  · simp only [List.all_eq_true]; intro y hy; rw [List.eq_of_mem_replicate hy]; exact hc
theorem ps_push {n i k : Nat} {c : Int} (hn : 2 ≤ n ∧ n ≤ 6) (hi : i < n) (hk : k < 60) (hc : okC c = true) : (pushI (pS n c i k) i c).1 = pS n c i (k + 1) := by
  have hlen : (pS n c i k).l.length = n := by simp [pS]
  have hg : (pS n c i k).l[i]? = some ⟨1, 0, List.replicate k c⟩ := by
    rw [List.getElem?_eq_getElem (by omega)]
    simp [pS]
  unfold pushI
  rw [if_neg (by rw [ps_right hn (by omega) hc, hlen, hc]; simp; omega), Int.toNat_natCast, hg]
  simp only [List.length_replicate]
  rw [if_neg (by omega)]
  unfold pS
  simp only [Ls.mk.injEq, and_true]
  refine List.ext_getElem (by simp) (fun j h1 h2 => ?_)
  rw [List.getElem_set]
  simp only [List.getElem_map, List.getElem_range]
  by_cases e : i = j
  · subst e
    rw [if_pos rfl, if_neg (by omega), if_pos rfl, List.replicate_succ']
  · rw [if_neg e, if_neg (show ¬ j = i by omega), if_neg (show ¬ j = i by omega)]
theorem ps_next {n i : Nat} {c : Int} : pS n c i 60 = pS n c (i + 1) 0 := by
  unfold pS
  simp only [Ls.mk.injEq, and_true]
  refine List.map_congr_left (fun j _ => ?_)
  congr 2
  by_cases h1 : j < i
  · rw [if_pos h1, if_pos (by omega)]
  · rw [if_neg h1]
    by_cases h2 : j = i
    · rw [if_pos h2, if_pos (by omega)]
    · rw [if_neg h2, if_neg (by omega)]; simp
theorem ps_new {n : Nat} {c : Int} (hn : 2 ≤ n ∧ n ≤ 6) : newI (List.replicate n 1) = (pS n c 0 0, 0) := by
  unfold newI
  have : okNew (List.replicate n 1) = true := by
    unfold okNew
    simp only [List.length_replicate, Bool.and_eq_true, decide_eq_true_eq, List.all_eq_true]
    exact ⟨by omega, fun y hy => by rw [List.eq_of_mem_replicate hy]; decide⟩
  rw [if_pos this]
  unfold pS fresh
  congr 2
  refine List.ext_getElem (by simp) (fun j h1 h2 => ?_)
  simp
theorem next_right {x : Ls} (h : (nextI x).2.2.2 = true) : right x = true := by
  unfold nextI at h
  split at h
  · rename_i hh; exact hh.1
  · cases h
end Lk
end Go.Proofs.Ytfmbfgoofiojcaa
