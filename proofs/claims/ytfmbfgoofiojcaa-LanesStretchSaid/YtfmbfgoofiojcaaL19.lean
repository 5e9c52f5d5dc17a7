/- layer 5, plain: how many shares each lane had. No condition. -/
import Derived.Test.YtfmbfgoofiojcaaL17
namespace Go.Proofs.Ytfmbfgoofiojcaa
open Lk
set_option linter.unusedVariables false
namespace Lk
/-- a lane's shares, r rounds behind it -/
def sh (x : Ls) (r : Int) (j : Nat) : Int := if (j : Int) < x.at' ∨ ((j : Int) = x.at' ∧ x.g = true) then r + 1 else r
/-- what each was served, V, and what is left, are its shares -/
def Fair (x : Ls) (r : Int) (V : List Int) : Prop := ∀ j (h : j < x.l.length), V.getD j 0 + x.l[j].d = 4 * x.l[j].w * sh x r j
theorem turn_fair {x : Ls} {r : Int} {V : List Int} (h : right x = true) (hne : ∀ c ∈ costs x, c ≠ []) (hf : Fair x r V) : ∃ r', Fair (turn x).2 r' V := by
  obtain ⟨h1, h2⟩ := right_iff.1 h
  obtain ⟨a, ha⟩ : ∃ a : Nat, x.at' = a := ⟨x.at'.toNat, by omega⟩
  have hl : a < x.l.length := by omega
  have hg := getL_eq ha hl
  have hat : x.at'.toNat = a := by omega
  have he : ¬ x.l[a].cs = [] := hne _ (List.mem_map_of_mem (List.getElem_mem hl))
  -- the lane at hand has one share more
  have hsa : V.getD a 0 + (shared x).d = 4 * (shared x).w * (r + 1) := by
    have h3 := hf a hl
    unfold sh at h3
    unfold shared
    rw [hg]
    cases hgx : x.g
    · rw [if_neg (by rw [hgx]; simp; omega)] at h3
      simp only [Bool.false_eq_true, if_false, bump]
      rw [Int.mul_add, ← h3]
      omega
    · rw [if_pos (.inr ⟨ha.symm, hgx⟩)] at h3
      simp only [if_true]
      exact h3
  have hother : ∀ j (hj : j < x.l.length), j ≠ a → V.getD j 0 + x.l[j].d = 4 * x.l[j].w * (if j < a then r + 1 else r) := by
    intro j hj hja
    have h3 := hf j hj
    unfold sh at h3
    by_cases hlt : j < a
    · rw [if_pos (.inl (by omega))] at h3
      rw [if_pos hlt]; exact h3
    · rw [if_neg (by rintro (h | h) <;> omega)] at h3
      rw [if_neg hlt]; exact h3
  have gen : ∀ (at2 : Int) (g2 : Bool) (r2 : Int), sh ⟨x.l.set a (shared x), at2, g2⟩ r2 a = r + 1 → (∀ j, j < x.l.length → j ≠ a → sh ⟨x.l.set a (shared x), at2, g2⟩ r2 j = if j < a then r + 1 else r) → Fair ⟨x.l.set a (shared x), at2, g2⟩ r2 V := by
    intro at2 g2 r2 k1 k2 j hj
    have hj2 : j < x.l.length := by simpa using hj
    by_cases e : a = j
    · subst e
      rw [k1]
      simp only [List.getElem_set_self]
      exact hsa
    · rw [k2 j hj2 (fun h => e h.symm)]
      simp only [List.getElem_set_ne e]
      exact hother j hj2 (fun h => e h.symm)
  have hend : (turn x).2 = ⟨x.l.set a (shared x), (a : Int), true⟩ ∨ (turn x).2 = ⟨x.l.set a (shared x), (((a + 1) % x.l.length : Nat) : Int), false⟩ := by
    unfold turn
    rw [hg, if_neg he]
    split
    · left; rw [hat, ha]
    · right; simp only [over, hat]
  rcases hend with e | e
  · rw [e]
    refine ⟨r, gen _ _ _ ?_ (fun j hj hja => ?_)⟩
    · unfold sh; rw [if_pos (.inr ⟨rfl, rfl⟩)]
    · unfold sh
      by_cases hlt : j < a
      · rw [if_pos (.inl (by simp only; omega)), if_pos hlt]
      · rw [if_neg (by rintro (h | h) <;> simp only at h <;> omega), if_neg hlt]
  · rw [e]
    by_cases hw : a + 1 = x.l.length
    · rw [hw, Nat.mod_self]
      refine ⟨r + 1, gen _ _ _ ?_ (fun j hj hja => ?_)⟩
      · unfold sh; rw [if_neg (by rintro (h | h) <;> simp at h <;> omega)]
      · unfold sh
        rw [if_neg (by rintro (h | h) <;> simp at h <;> omega), if_pos (by omega)]
    · rw [Nat.mod_eq_of_lt (by omega)]
      refine ⟨r, gen _ _ _ ?_ (fun j hj hja => ?_)⟩
      · unfold sh; rw [if_pos (.inl (by simp only; omega))]
      · unfold sh
        by_cases hlt : j < a
        · rw [if_pos (.inl (by simp only; omega)), if_pos hlt]
        · rw [if_neg (by rintro (h | h) <;> simp at h <;> omega), if_neg hlt]
theorem run_fair : ∀ (n : Nat) {x : Ls} {r : Int} {V : List Int}, right x = true → (∀ c ∈ costs x, c ≠ []) → Fair x r V → ∃ r', Fair (run n x) r' V
  | 0, x, r, V, _, _, hf => ⟨r, hf⟩
  | n + 1, x, r, V, h, hne, hf => by
    obtain ⟨r1, h1⟩ := turn_fair h hne hf
    unfold run
    split
    · exact ⟨r1, h1⟩
    · exact run_fair n (turn_right h) (by rw [(turn_same h).1]; exact hne) h1
end Lk
end Go.Proofs.Ytfmbfgoofiojcaa
