/- layer 5, plain: what is served and what is left are whole shares. No condition. -/
import Derived.Test.YtfmbfgoofiojcaaL15
namespace Go.Proofs.Ytfmbfgoofiojcaa
open Lk
set_option linter.unusedVariables false
namespace Lk
def wd (y : Ln) : Int × Int := (y.w, y.d)
def Step (x z : Ls) : Prop := ∀ j : Nat, ∃ q : Int, (z.l[j]?).map wd = (x.l[j]?).map fun y => (y.w, y.d + q * (4 * y.w))
theorem Step.refl (x : Ls) : Step x x := fun j => ⟨0, by cases x.l[j]? <;> simp [wd]⟩
theorem Step.trans {x y z : Ls} (h : Step x y) (g : Step y z) : Step x z := fun j => by
  obtain ⟨q, hq⟩ := h j
  obtain ⟨r, hr⟩ := g j
  refine ⟨q + r, ?_⟩
  rw [hr]
  cases hx : x.l[j]? with
  | none =>
    rw [hx] at hq
    cases hy : y.l[j]? with
    | none => rfl
    | some b => rw [hy] at hq; simp at hq
  | some a =>
    rw [hx] at hq
    cases hy : y.l[j]? with
    | none => rw [hy] at hq; simp at hq
    | some b =>
      rw [hy] at hq
      simp only [Option.map_some, Option.some.injEq, wd, Prod.mk.injEq] at hq ⊢
      obtain ⟨h1, h2⟩ := hq
      refine ⟨h1, ?_⟩
      rw [h1, h2, Int.add_mul]
      omega
theorem turn_step {x : Ls} (h : right x = true) (hne : ∀ c ∈ costs x, c ≠ []) : Step x (turn x).2 := by
  obtain ⟨h1, h2⟩ := right_iff.1 h
  obtain ⟨a, ha⟩ : ∃ a : Nat, x.at' = a := ⟨x.at'.toNat, by omega⟩
  have hl : a < x.l.length := by omega
  have hg := getL_eq ha hl
  have hat : x.at'.toNat = a := by omega
  have he : ¬ x.l[a].cs = [] := hne _ (List.mem_map_of_mem (List.getElem_mem hl))
  have key : (turn x).2.l = x.l.set a (shared x) := by
    unfold turn
    rw [hg, if_neg he]
    split
    · simp only [hat]
    · simp only [over, hat]
  have hsh : ∃ q : Int, wd (shared x) = (x.l[a].w, x.l[a].d + q * (4 * x.l[a].w)) := by
    unfold shared
    rw [hg]
    cases x.g
    · exact ⟨1, by simp [wd, bump]; omega⟩
    · exact ⟨0, by simp [wd]⟩
  intro j
  rw [key, List.getElem?_set]
  by_cases e : a = j
  · subst e
    obtain ⟨q, hq⟩ := hsh
    exact ⟨q, by rw [if_pos rfl, if_pos hl, List.getElem?_eq_getElem hl]; simp [hq]⟩
  · rw [if_neg e]
    exact ⟨0, by cases x.l[j]? <;> simp [wd]⟩
theorem run_step : ∀ (n : Nat) {x : Ls}, right x = true → (∀ c ∈ costs x, c ≠ []) → Step x (run n x)
  | 0, x, _, _ => Step.refl x
  | n + 1, x, h, hne => by
    have h1 := turn_step h hne
    unfold run
    split
    · exact h1
    · exact h1.trans (run_step n (turn_right h) (by rw [(turn_same h).1]; exact hne))
/-- one is taken from lanes of which none gets empty -/
theorem next_step {x : Ls} (h : right x = true) (hl : 0 < x.l.length) (hc : ∀ c ∈ costs x, 2 ≤ c.length) : ∃ (x' : Ls) (k : Nat) (c : Int), nextI x = (x', (k : Int), c, true) ∧ right x' = true ∧ x'.at' = k ∧ k < x.l.length ∧ x'.l.length = x.l.length ∧ (1 ≤ c ∧ c ≤ 8) ∧
    weights x' = weights x ∧ (∀ m, (∀ c ∈ costs x, m + 1 ≤ c.length) → ∀ c ∈ costs x', m ≤ c.length) ∧ ∀ j : Nat, ∃ q : Int, (x'.l[j]?).map wd = (x.l[j]?).map fun y => (y.w, y.d + q * (4 * y.w) - if k = j then c else 0) := by
  have hne : ∀ c ∈ costs x, c ≠ [] := fun c hcm e => by have := hc c hcm; rw [e] at this; simp at this
  have hw : waits x = true := by
    rw [waits_iff, List.any_eq_true]
    have hm : x.l[0].cs ∈ costs x := List.mem_map_of_mem (List.getElem_mem hl)
    exact ⟨_, hm, by have := hc _ hm; simp; omega⟩
  obtain ⟨k, hk, e1, e2, e3, e4, e5, e6, e7⟩ := next_facts h hw
  have hn : nextI x = (⟨(run 14 x).l.set (run 14 x).at'.toNat (takeL (getL (run 14 x))), (run 14 x).at', (run 14 x).g⟩, (run 14 x).at', (getL (run 14 x)).cs.headD 0, true) := if_pos ⟨h, hw⟩
  obtain ⟨r1, r2, r3⟩ := run_same 14 h
  have hst := run_step 14 h hne
  have hlen : (run 14 x).l.length = x.l.length := by have := congrArg List.length r2; simpa [costs] using this
  have hk2 : (run 14 x).at' = k := by rw [hn] at e1; exact e1
  have hk3 : k < (run 14 x).l.length := by omega
  have hgl := getL_eq hk2 hk3
  have hkm : (run 14 x).l[k].cs ∈ costs x := by rw [← r2]; exact List.mem_map_of_mem (List.getElem_mem hk3)
  have hk22 := hc _ hkm
  have hwk : okL (if (run 14 x).g = true then 39 else 7) (run 14 x).l[k] = true := right_own r1 hk2 hk3
  have hhead := head_ok hwk (hne _ hkm)
  refine ⟨(nextI x).1, k, (nextI x).2.2.1, by rw [← e1, ← e2], e3, e7, hk, ?_, ?_, e6, ?_, ?_⟩
  · rw [hn]; simp [hlen]
  · rw [hn]; simp only [hgl]; exact hhead
  · intro m hm c hcm
    rw [e5] at hcm
    rcases List.mem_or_eq_of_mem_set hcm with h1 | h1
    · have := hm c h1; omega
    · rw [h1, List.length_tail]
      have hmm := hm ((costs x)[k]?.getD []) (by rw [e4]; exact List.mem_of_getElem? e4)
      omega
  · intro j
    obtain ⟨q, hq⟩ := hst j
    refine ⟨q, ?_⟩
    rw [hn]
    simp only [hgl]
    rw [show (run 14 x).at'.toNat = k by omega, List.getElem?_set]
    by_cases e : k = j
    · subst e
      rw [if_pos rfl, if_pos hk3]
      rw [List.getElem?_eq_getElem hk3, List.getElem?_eq_getElem hk] at hq
      rw [List.getElem?_eq_getElem hk]
      simp only [Option.map_some, Option.some.injEq, wd, Prod.mk.injEq] at hq ⊢
      unfold takeL
      rw [if_neg (by omega)]
      exact ⟨hq.1, by simp only [if_true]; rw [hq.2]⟩
    · rw [if_neg e, hq]
      simp [e]
end Lk
end Go.Proofs.Ytfmbfgoofiojcaa
