/- layer 18: the document's table, plain. -/
import Derived.Test.YtbpipdgkkdifgaaO5
namespace Go.Proofs.Ytbpipdgkkdifgaa
set_option linter.unusedVariables false
set_option linter.unusedSimpArgs false

namespace Ok
/-! the document's table of all pages -/
def tabL (l : List Pg) : List Pg := l.foldl (fun t p => t.set p.id.toNat p) (List.replicate 17 zP)
theorem tab_len {l : List Pg} : (tabL l).length = 17 := by
  unfold tabL
  suffices h : ∀ (l : List Pg) (t : List Pg), (l.foldl (fun t p => t.set p.id.toNat p) t).length = t.length by rw [h]; simp
  intro l
  induction l with
  | nil => intro t; rfl
  | cons p ps ih => intro t; simp [ih]
theorem tab_snoc {l : List Pg} {p : Pg} : tabL (l ++ [p]) = (tabL l).set p.id.toNat p := by unfold tabL; rw [List.foldl_append]; rfl
theorem mono_snoc {l : List Pg} {p : Pg} (h : Mono (l ++ [p])) : Mono l ∧ ∀ q ∈ l, q.id < p.id := by
  unfold Mono at h
  rw [List.pairwise_append] at h
  exact ⟨h.1, fun q hq => h.2.2 q hq p (by simp)⟩
theorem tab_look : ∀ {n : Nat} {l : List Pg}, l.length = n → Mono l → (∀ p ∈ l, 1 ≤ p.id ∧ p.id ≤ 16) → ∀ k : Nat, k < 17 → (tabL l).getD k zP = (look l (k : Int)).getD zP
  | 0, l, hn, _, _, k, hk => by
    obtain rfl := List.eq_nil_of_length_eq_zero hn
    unfold tabL look
    simp only [List.foldl_nil, List.find?_nil, Option.getD_none, List.getD_eq_getElem?_getD, List.getElem?_replicate, hk, if_true, Option.getD_some]
  | n + 1, l, hn, hm, hp, k, hk => by
    obtain ⟨a, p, rfl⟩ : ∃ a p, l = a ++ [p] := ⟨l.dropLast, l.getLast (by intro h; rw [h] at hn; simp at hn), (List.dropLast_concat_getLast _).symm⟩
    obtain ⟨h1, h2⟩ := mono_snoc hm
    have ih := tab_look (n := n) (l := a) (by simp at hn; omega) h1 (fun q hq => hp q (by simp [hq])) k hk
    have hpp := hp p (by simp)
    rw [tab_snoc, List.getD_eq_getElem?_getD, List.getElem?_set]
    by_cases e : p.id.toNat = k
    · rw [if_pos e, if_pos (by rw [tab_len]; omega)]
      have e2 : look (a ++ [p]) (k : Int) = some p := (look_mem hm).2 ⟨by simp, by omega⟩
      rw [e2]
    · rw [if_neg e, ← List.getD_eq_getElem?_getD, ih]
      congr 1
      unfold look
      rw [List.find?_append]
      have e3 : ([p].find? fun q => decide (q.id = (k : Int))) = none := by
        rw [List.find?_eq_none]
        intro q hq
        rw [List.mem_singleton.1 hq]
        simp; omega
      rw [e3]; simp
/-- the table, told -/
theorem tab_tell {T l : List Pg} (hT : T.length = 17) (hl : rightM l = true) (h : ∀ k : Nat, 1 ≤ k → k < 17 → T.getD k zP = (look l (k : Int)).getD zP) : ((T.drop 1).filter fun p => p.id != 0) = l := by
  obtain ⟨hok, hm⟩ := right_iff.1 hl
  have hid : ∀ k : Nat, 1 ≤ k → (hk : k < 17) → T[k].id ≠ 0 → look l (k : Int) = some T[k] ∧ T[k].id = k := by
    intro k h1 hk h0
    have h2 := h k h1 hk
    rw [List.getD_eq_getElem?_getD, List.getElem?_eq_getElem (by omega)] at h2
    simp only [Option.getD_some] at h2
    cases hl : look l (k : Int) with
    | none => rw [hl] at h2; simp only [Option.getD_none] at h2; rw [h2] at h0; exact absurd rfl h0
    | some p =>
      rw [hl] at h2
      simp only [Option.getD_some] at h2
      rw [h2]
      exact ⟨rfl, look_id hl⟩
  refine mono_ext ?_ hm (fun p => ?_)
  · unfold Mono
    rw [List.pairwise_filter, List.pairwise_iff_getElem]
    intro i j hi hj hij h1 h2
    simp only [List.length_drop] at hi hj
    rw [List.getElem_drop] at h1 ⊢
    rw [List.getElem_drop] at h2 ⊢
    have e1 := (hid (1 + i) (by omega) (by omega) (by simpa using h1)).2
    have e2 := (hid (1 + j) (by omega) (by omega) (by simpa using h2)).2
    rw [e1, e2]; omega
  · rw [List.mem_filter]
    constructor
    · rintro ⟨h1, h2⟩
      obtain ⟨i, hi, rfl⟩ := List.getElem_of_mem h1
      simp only [List.length_drop] at hi
      rw [List.getElem_drop] at h2 ⊢
      exact ((look_mem hm).1 (hid (1 + i) (by omega) (by omega) (by simpa using h2)).1).1
    · intro hp
      have hb := okP_iff.1 (hok p hp)
      have hk := h p.id.toNat (by omega) (by omega)
      have e : ((p.id.toNat : Nat) : Int) = p.id := by omega
      rw [e, (look_mem hm).2 ⟨hp, rfl⟩, List.getD_eq_getElem?_getD, List.getElem?_eq_getElem (by omega)] at hk
      simp only [Option.getD_some] at hk
      refine ⟨?_, by simp; omega⟩
      rw [List.mem_iff_getElem]
      refine ⟨p.id.toNat - 1, by simp; omega, ?_⟩
      rw [List.getElem_drop]
      have e2 : 1 + (p.id.toNat - 1) = p.id.toNat := by omega
      simp only [e2]
      exact hk
end Ok
end Go.Proofs.Ytbpipdgkkdifgaa
