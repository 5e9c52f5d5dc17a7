/- layer 5, plain: what Next does, said without the turns. No condition. -/
import Derived.Test.YtfmbfgoofiojcaaL10
namespace Go.Proofs.Ytfmbfgoofiojcaa
open Lk
set_option linter.unusedVariables false
namespace Lk
def costs (x : Ls) : List (List Int) := x.l.map Ln.cs
def weights (x : Ls) : List Int := x.l.map Ln.w
theorem map_set_same {α β : Type} (f : α → β) (l : List α) (a : Nat) (y : α) (h : ∀ hl : a < l.length, f y = f l[a]) : (l.set a y).map f = l.map f := by
  rw [List.map_set]
  apply List.ext_getElem?
  intro j
  rw [List.getElem?_set]
  split
  · rename_i e
    subst e
    split
    · rename_i hl
      have hl' : a < l.length := by simpa using hl
      rw [List.getElem?_map, List.getElem?_eq_getElem hl', h hl']; rfl
    · rename_i hl
      rw [List.getElem?_eq_none (by simpa using hl)]
  · rfl
theorem shared_same {x : Ls} : (shared x).cs = (getL x).cs ∧ (shared x).w = (getL x).w := by
  unfold shared
  split
  · exact ⟨rfl, rfl⟩
  · exact ⟨rfl, rfl⟩
theorem turn_same {x : Ls} (h : right x = true) : costs (turn x).2 = costs x ∧ weights (turn x).2 = weights x := by
  obtain ⟨h1, h2⟩ := right_iff.1 h
  obtain ⟨a, ha⟩ : ∃ a : Nat, x.at' = a := ⟨x.at'.toNat, by omega⟩
  have hl : a < x.l.length := by omega
  have hg := getL_eq ha hl
  have hat : x.at'.toNat = a := by omega
  obtain ⟨q1, q2⟩ := @shared_same x
  rw [hg] at q1 q2
  unfold turn over costs weights
  rw [hg, hat]
  split
  · exact ⟨map_set_same _ _ _ _ (fun _ => rfl), map_set_same _ _ _ _ (fun _ => rfl)⟩
  · split
    · exact ⟨map_set_same _ _ _ _ (fun _ => q1), map_set_same _ _ _ _ (fun _ => q2)⟩
    · exact ⟨map_set_same _ _ _ _ (fun _ => q1), map_set_same _ _ _ _ (fun _ => q2)⟩
theorem turn_end {x : Ls} (h : right x = true) (he : (turn x).1 = true) : (getL (turn x).2).cs ≠ [] ∧ (getL (turn x).2).cs.headD 0 ≤ (getL (turn x).2).d ∧ (turn x).2.g = true := by
  obtain ⟨h1, h2⟩ := right_iff.1 h
  obtain ⟨a, ha⟩ : ∃ a : Nat, x.at' = a := ⟨x.at'.toNat, by omega⟩
  have hl : a < x.l.length := by omega
  have hg := getL_eq ha hl
  have hat : x.at'.toNat = a := by omega
  obtain ⟨q1, q2⟩ := @shared_same x
  by_cases e1 : (getL x).cs = []
  · unfold turn at he
    rw [if_pos e1] at he
    simp at he
  · by_cases e2 : (getL x).cs.headD 0 ≤ (shared x).d
    · have ht : turn x = (true, ⟨x.l.set x.at'.toNat (shared x), x.at', true⟩) := by unfold turn; rw [if_neg e1, if_pos e2]
      rw [ht]
      have hgs : getL ⟨x.l.set x.at'.toNat (shared x), x.at', true⟩ = shared x := by
        rw [getL_eq (x := ⟨x.l.set x.at'.toNat (shared x), x.at', true⟩) ha (by simpa using hl)]
        simp only [hat]
        exact List.getElem_set_self _
      simp only [hgs]
      rw [q1]
      exact ⟨e1, e2, trivial⟩
    · unfold turn at he
      rw [if_neg e1, if_neg e2] at he
      simp at he
theorem run_same : ∀ (n : Nat) {x : Ls}, right x = true → right (run n x) = true ∧ costs (run n x) = costs x ∧ weights (run n x) = weights x
  | 0, x, h => ⟨h, rfl, rfl⟩
  | n + 1, x, h => by
    have h1 := turn_right h
    obtain ⟨h2, h3⟩ := turn_same h
    unfold run
    split
    · exact ⟨h1, h2, h3⟩
    · obtain ⟨i1, i2, i3⟩ := run_same n h1
      exact ⟨i1, i2.trans h2, i3.trans h3⟩
theorem run_end : ∀ (n : Nat) {x : Ls}, right x = true → Stops n x → (getL (run n x)).cs ≠ [] ∧ (getL (run n x)).cs.headD 0 ≤ (getL (run n x)).d ∧ (run n x).g = true
  | 0, x, _, hs => hs.elim
  | n + 1, x, h, hs => by
    unfold run
    by_cases he : (turn x).1 = true
    · rw [if_pos he]; exact turn_end h he
    · rw [if_neg he]
      exact run_end n (turn_right h) (hs.resolve_left he)
/-- one is taken: which, and what is behind it -/
theorem next_facts {x : Ls} (h : right x = true) (hw : waits x = true) : ∃ k : Nat, k < x.l.length ∧ (nextI x).2.1 = k ∧ (nextI x).2.2.2 = true ∧ right (nextI x).1 = true ∧
    (costs x)[k]? = some ((nextI x).2.2.1 :: ((costs x)[k]?.getD []).tail) ∧ costs (nextI x).1 = (costs x).set k ((costs x)[k]?.getD []).tail ∧ weights (nextI x).1 = weights x ∧ (nextI x).1.at' = k := by
  have hn : nextI x = (⟨(run 14 x).l.set (run 14 x).at'.toNat (takeL (getL (run 14 x))), (run 14 x).at', (run 14 x).g⟩, (run 14 x).at', (getL (run 14 x)).cs.headD 0, true) := if_pos ⟨h, hw⟩
  obtain ⟨r1, r2, r3⟩ := run_same 14 h
  obtain ⟨e1, e2, e3⟩ := run_end 14 h (stops14 h hw)
  generalize run 14 x = R at *
  rw [hn]
  obtain ⟨h1, h2⟩ := right_iff.1 r1
  obtain ⟨k, hk⟩ : ∃ k : Nat, R.at' = k := ⟨R.at'.toNat, by omega⟩
  have hl : k < R.l.length := by omega
  have hlen : R.l.length = x.l.length := by have := congrArg List.length r2; simpa [costs] using this
  have hg := getL_eq hk hl
  have hat : R.at'.toNat = k := by omega
  rw [hg] at e1 e2 ⊢
  have hcx : (costs x)[k]? = some R.l[k].cs := by rw [← r2]; unfold costs; rw [List.getElem?_map, List.getElem?_eq_getElem hl]; rfl
  obtain ⟨c, cs, hcs⟩ : ∃ c cs, R.l[k].cs = c :: cs := by
    cases hh : R.l[k].cs with
    | nil => exact absurd hh e1
    | cons c cs => exact ⟨c, cs, rfl⟩
  rw [hcs] at e2 hcx
  have hok := right_own r1 hk hl
  rw [e3] at hok
  obtain ⟨q1, ⟨q2, q3⟩, q4, q5⟩ := okL_iff.1 hok
  rw [hcs] at q4 q5
  simp only [List.all_cons, Bool.and_eq_true, List.length_cons] at q4 q5
  simp only [if_true] at q3
  have hc1 : 1 ≤ c := by have := q5.1; simp [okC] at this; omega
  simp only [List.headD_cons] at e2
  refine ⟨k, by omega, hk, rfl, ?_, ?_, ?_, ?_, hk⟩
  · rw [hat]
    refine right_set r1 hk ⟨by omega, by omega⟩ ?_
    rw [if_pos ⟨e3, hk.symm⟩]
    unfold takeL
    rw [hcs]
    refine okL_iff.2 ⟨q1, ⟨?_, ?_⟩, by simp; omega, q5.2⟩
    · simp only [List.headD_cons]; split <;> omega
    · simp only [List.headD_cons]; split <;> omega
  · rw [hcx, hcs]; rfl
  · rw [hat]
    unfold costs
    rw [List.map_set]
    rw [show List.map Ln.cs R.l = costs R from rfl, r2, show List.map Ln.cs x.l = costs x from rfl, hcx]
    unfold takeL
    rw [hcs]; rfl
  · rw [hat]
    refine Eq.trans ?_ r3
    unfold weights
    exact map_set_same _ _ _ _ (fun _ => rfl)
theorem next_none {x : Ls} (hw : waits x = false) : nextI x = (x, 0, 0, false) := if_neg (by simp [hw])
theorem waits_iff {x : Ls} : waits x = (costs x).any fun c => decide (0 < c.length) := by
  unfold waits costs
  rw [List.any_map]; rfl
end Lk
end Go.Proofs.Ytfmbfgoofiojcaa
