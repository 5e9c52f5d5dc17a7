/- layer 5, plain: the document's bound. No condition. -/
import Derived.Test.YtfmbfgoofiojcaaL20
namespace Go.Proofs.Ytfmbfgoofiojcaa
open Lk
set_option linter.unusedVariables false
namespace Lk
theorem sh_cases (x : Ls) (r : Int) (j : Nat) : sh x r j = r ∨ sh x r j = r + 1 := by
  unfold sh
  split
  · exact .inr rfl
  · exact .inl rfl
theorem bound_alg {vi vj wi wj di dj si sj : Int} (h1 : vi + di = 4 * wi * si) (h2 : vj + dj = 4 * wj * sj) (hwi : 1 ≤ wi) (hwj : 1 ≤ wj) (hdi : 0 ≤ di) (hs : (si - sj ≤ 1 ∧ dj ≤ 7) ∨ (si - sj ≤ 0 ∧ dj ≤ 7 + 4 * wj)) :
    vi * wj - vj * wi ≤ wi * wj * 4 + 7 * wi := by
  have e1 : vi = 4 * wi * si - di := by omega
  have e2 : vj = 4 * wj * sj - dj := by omega
  have e3 : vi * wj - vj * wi = 4 * (wi * wj) * (si - sj) - di * wj + dj * wi := by
    rw [e1, e2]; grind
  have hP : 0 ≤ 4 * (wi * wj) := by have := Int.mul_nonneg (show 0 ≤ wi by omega) (show 0 ≤ wj by omega); omega
  have hQ : 0 ≤ di * wj := Int.mul_nonneg hdi (by omega)
  rw [e3]
  rcases hs with ⟨a, b⟩ | ⟨a, b⟩
  · have k1 : 4 * (wi * wj) * (si - sj) ≤ 4 * (wi * wj) * 1 := Int.mul_le_mul_of_nonneg_left a hP
    have k2 : dj * wi ≤ 7 * wi := Int.mul_le_mul_of_nonneg_right b (by omega)
    omega
  · have k1 : 4 * (wi * wj) * (si - sj) ≤ 4 * (wi * wj) * 0 := Int.mul_le_mul_of_nonneg_left a hP
    have k2 : dj * wi ≤ (7 + 4 * wj) * wi := Int.mul_le_mul_of_nonneg_right b (by omega)
    have k3 : (7 + 4 * wj) * wi = 7 * wi + 4 * (wi * wj) := by grind
    omega
theorem fair_bound {x : Ls} {r : Int} {V : List Int} (h : right x = true) (hf : Fair x r V) (hv : Giv x) {i j : Nat} (hi : i < x.l.length) (hj : j < x.l.length) :
    V.getD i 0 * x.l[j].w - V.getD j 0 * x.l[i].w ≤ x.l[i].w * x.l[j].w * 4 + 7 * x.l[i].w := by
  obtain ⟨h1, h2⟩ := right_iff.1 h
  obtain ⟨pi, ⟨di, _⟩, _, _⟩ := okL_iff.1 (h2 i hi)
  obtain ⟨pj, ⟨dj, dj2⟩, _, _⟩ := okL_iff.1 (h2 j hj)
  have wi := okW_iff.1 pi
  have wj := okW_iff.1 pj
  refine bound_alg (hf i hi) (hf j hj) wi.1 wj.1 di ?_
  have ci := sh_cases x r i
  have cj := sh_cases x r j
  by_cases hg : x.g = true ∧ (j : Int) = x.at'
  · right
    have e : sh x r j = r + 1 := if_pos (.inr ⟨hg.2, hg.1⟩)
    exact ⟨by rcases ci with c | c <;> omega, hv hg.1 j hj hg.2⟩
  · left
    unfold most at dj2
    rw [if_neg (fun hh => hg ⟨hh.1, hh.2⟩)] at dj2
    exact ⟨by rcases ci with c | c <;> rcases cj with c2 | c2 <;> omega, dj2⟩
end Lk
end Go.Proofs.Ytfmbfgoofiojcaa
