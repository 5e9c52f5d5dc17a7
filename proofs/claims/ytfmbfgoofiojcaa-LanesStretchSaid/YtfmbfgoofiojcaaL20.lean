/- layer 5, plain: shares by rounds, over Next. No condition. -/
import Derived.Test.YtfmbfgoofiojcaaL19
namespace Go.Proofs.Ytfmbfgoofiojcaa
open Lk
set_option linter.unusedVariables false
namespace Lk
/-- what the given lane has left at most -/
def Giv (x : Ls) : Prop := x.g = true → ∀ j (h : j < x.l.length), (j : Int) = x.at' → x.l[j].d ≤ 7 + 4 * x.l[j].w
theorem turn_giv {x : Ls} (h : right x = true) (hne : ∀ c ∈ costs x, c ≠ []) (hv : Giv x) : Giv (turn x).2 := by
  obtain ⟨h1, h2⟩ := right_iff.1 h
  obtain ⟨a, ha⟩ : ∃ a : Nat, x.at' = a := ⟨x.at'.toNat, by omega⟩
  have hl : a < x.l.length := by omega
  have hg := getL_eq ha hl
  have hat : x.at'.toNat = a := by omega
  have he : ¬ x.l[a].cs = [] := hne _ (List.mem_map_of_mem (List.getElem_mem hl))
  have hs : (shared x).d ≤ 7 + 4 * (shared x).w := by
    have hy := right_own h ha hl
    obtain ⟨_, ⟨k2, k3⟩, _, _⟩ := okL_iff.1 hy
    unfold shared
    rw [hg]
    cases hgx : x.g
    · rw [hgx] at k3
      simp only [Bool.false_eq_true, if_false, bump] at k3 ⊢
      omega
    · simp only [if_true]
      exact hv hgx a hl ha.symm
  have hend : (turn x).2 = ⟨x.l.set a (shared x), (a : Int), true⟩ ∨ (turn x).2 = ⟨x.l.set a (shared x), (((a + 1) % x.l.length : Nat) : Int), false⟩ := by
    unfold turn
    rw [hg, if_neg he]
    split
    · left; rw [hat, ha]
    · right; simp only [over, hat]
  rcases hend with e | e
  · rw [e]
    intro _ j hj hja
    simp only at hja
    obtain rfl : j = a := by omega
    simp only [List.getElem_set_self]
    exact hs
  · rw [e]
    intro hgg
    simp at hgg
theorem run_giv : ∀ (n : Nat) {x : Ls}, right x = true → (∀ c ∈ costs x, c ≠ []) → Giv x → Giv (run n x)
  | 0, x, _, _, hv => hv
  | n + 1, x, h, hne, hv => by
    have h1 := turn_giv h hne hv
    unfold run
    split
    · exact h1
    · exact run_giv n (turn_right h) (by rw [(turn_same h).1]; exact hne) h1
theorem next_fair {x x' : Ls} {r c : Int} {k : Nat} {V : List Int} (h : right x = true) (hc : ∀ c ∈ costs x, 2 ≤ c.length) (hw : waits x = true) (hn : nextI x = (x', (k : Int), c, true)) (hV : V.length = x.l.length) (hf : Fair x r V) (hv : Giv x) :
    (∃ r', Fair x' r' (V.set k (V.getD k 0 + c))) ∧ Giv x' := by
  have hne : ∀ c ∈ costs x, c ≠ [] := fun c hcm e => by have := hc c hcm; rw [e] at this; simp at this
  have hn2 : nextI x = (⟨(run 14 x).l.set (run 14 x).at'.toNat (takeL (getL (run 14 x))), (run 14 x).at', (run 14 x).g⟩, (run 14 x).at', (getL (run 14 x)).cs.headD 0, true) := if_pos ⟨h, hw⟩
  obtain ⟨r1, r2, r3⟩ := run_same 14 h
  obtain ⟨r', hf2⟩ := run_fair 14 h hne hf
  have hv2 := run_giv 14 h hne hv
  have hlen : (run 14 x).l.length = x.l.length := by have := congrArg List.length r2; simpa [costs] using this
  rw [hn2] at hn
  generalize run 14 x = R at *
  simp only [Prod.mk.injEq, and_true] at hn
  obtain ⟨e1, e2, e3⟩ := hn
  have hk3 : k < R.l.length := by
    have := (right_iff.1 r1).1
    omega
  have hgl := getL_eq e2 hk3
  rw [hgl] at e1 e3
  have hkk : R.at'.toNat = k := by omega
  rw [hkk] at e1
  have hkm : R.l[k].cs ∈ costs x := by rw [← r2]; exact List.mem_map_of_mem (List.getElem_mem hk3)
  have hk22 := hc _ hkm
  have htk : takeL R.l[k] = ⟨R.l[k].w, R.l[k].d - c, R.l[k].cs.tail⟩ := by
    unfold takeL
    rw [if_neg (by omega), e3]
  have hc1 : 1 ≤ c := by
    have := head_ok (right_own r1 e2 hk3) (hne _ hkm)
    omega
  rw [htk] at e1
  subst e1
  refine ⟨⟨r', fun j hj => ?_⟩, fun hg j hj hja => ?_⟩
  · have hj2 : j < R.l.length := by simpa using hj
    have h3 := hf2 j hj2
    have hs : sh ⟨R.l.set k ⟨R.l[k].w, R.l[k].d - c, R.l[k].cs.tail⟩, R.at', R.g⟩ r' j = sh R r' j := rfl
    rw [hs]
    by_cases e : k = j
    · subst e
      simp only [List.getElem_set_self]
      rw [List.getD_eq_getElem?_getD, List.getElem?_set_self (by omega)]
      simp only [Option.getD_some]
      omega
    · simp only [List.getElem_set_ne e]
      rw [List.getD_eq_getElem?_getD, List.getElem?_set_ne e, ← List.getD_eq_getElem?_getD]
      exact h3
  · have hj2 : j < R.l.length := by simpa using hj
    have h3 := hv2 hg j hj2 hja
    by_cases e : k = j
    · subst e
      simp only [List.getElem_set_self]
      omega
    · simp only [List.getElem_set_ne e]
      exact h3
end Lk
end Go.Proofs.Ytfmbfgoofiojcaa
