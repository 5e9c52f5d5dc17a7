/- layer 7: deletion keeps the ranks, plain. -/
import Derived.Test.YtkiddlkmodclhaaT10
namespace Go.Proofs.Ytkiddlkmodclhaa
set_option linter.unusedVariables false
set_option linter.unusedSimpArgs false
namespace Ta
def W (q : Int) (k0 o : Nat) : Nat := (ahead q k0 + o) % 16
theorem w_off {q : Int} {k0 o : Nat} (hk : k0 < 16) : ahead q ((k0 + o) % 16) = W q k0 o := by unfold W ahead; omega
theorem w_base {q : Int} {k0 : Nat} : ahead q k0 < 16 := ahead_lt
def Ranked (k0 : Nat) (r : Int → Nat) (F : Nat → Sl) : Prop := ∀ o j, o < 16 → j < 16 → free (F o) = false → W (F o).p k0 j < W (F o).p k0 o → free (F j) = false ∧ r (F j).p < r (F o).p
structure Dl (k0 : Nat) (r : Int → Nat) (F : Nat → Sl) (o0 i H : Nat) : Prop where
  a : F o0 = z
  lt : o0 < i
  le : i ≤ 16
  b : ∀ o j, o < 16 → j < 16 → free (F o) = false → W (F o).p k0 j < W (F o).p k0 o → j ≠ o0 → free (F j) = false ∧ r (F j).p < r (F o).p
  c : ∀ o, o < 16 → free (F o) = false → W (F o).p k0 o0 < W (F o).p k0 o → H < r (F o).p
  d : ∀ o, o0 < o → o < i → free (F o) = false → ¬ W (F o).p k0 o0 < W (F o).p k0 o
  e : ∀ o, o < o0 → free (F o) = false → o < W (F o).p k0 o → r (F o).p ≤ H
theorem geo1 {c o0 i o : Nat} (hc : c < 16) (h0 : o0 < i) (hi : i < 16) (ho : o < 16) (h : (c + o0) % 16 < (c + o) % 16) (hn : ¬ (o0 ≤ o ∧ o ≤ i)) : (c + i) % 16 < (c + o) % 16 := by omega
theorem geo2 {c o0 o : Nat} (hc : c < 16) (h0 : o0 < o) (ho : o < 16) (h : o < (c + o) % 16) : (c + o0) % 16 < (c + o) % 16 := by omega
theorem geo3 {c o0 o : Nat} (hc : c < 16) (h0 : o < o0) (ho : o0 < 16) (h : (c + o0) % 16 < (c + o) % 16) : o < (c + o) % 16 := by omega
def mv (F : Nat → Sl) (o0 i : Nat) (j : Nat) : Sl := if j = i then z else if j = o0 then F i else F j
theorem free_z2 : free z = true := rfl
theorem dl_move {k0 : Nat} {r : Int → Nat} {F : Nat → Sl} {o0 i H : Nat} (h : Dl k0 r F o0 i H) (hi : i < 16) (hf : free (F i) = false) (hw : W (F i).p k0 o0 < W (F i).p k0 i) : Dl k0 r (mv F o0 i) i (i + 1) (r (F i).p) := by
  have hlt := h.lt
  have mi : mv F o0 i i = z := by unfold mv; rw [if_pos rfl]
  have m0 : mv F o0 i o0 = F i := by unfold mv; rw [if_neg (by omega), if_pos rfl]
  have mo : ∀ j, j ≠ i → j ≠ o0 → mv F o0 i j = F j := fun j h1 h2 => by unfold mv; rw [if_neg h1, if_neg h2]
  have hH := h.c i hi hf hw
  -- whose way met the old hole, and who is not the mover, has a higher rank than the mover
  have key : ∀ o, o < 16 → o ≠ i → free (F o) = false → W (F o).p k0 o0 < W (F o).p k0 o → r (F i).p < r (F o).p := by
    intro o ho hoi hfo hwo
    have ho0 : o ≠ o0 := fun e => by rw [e] at hwo; omega
    by_cases hb : o0 ≤ o ∧ o ≤ i
    · exact absurd hwo (h.d o (by omega) (by omega) hfo)
    · have := geo1 (w_base (q := (F o).p) (k0 := k0)) hlt hi ho hwo hb
      exact (h.b o i ho hi hfo this (by omega)).2
  refine ⟨mi, by omega, by omega, ?_, ?_, fun o h1 h2 => by omega, ?_⟩
  · intro o j ho hj hfo hwo hji
    by_cases eo : o = i
    · rw [eo, mi] at hfo; cases hfo
    by_cases e0 : o = o0
    · subst e0
      rw [m0] at hfo hwo ⊢
      have hj0 : j ≠ o := fun e => by rw [e] at hwo; omega
      rw [mo j hji hj0]
      exact h.b i j hi hj hf (by omega) hj0
    · rw [mo o eo e0] at hfo hwo ⊢
      by_cases ej : j = o0
      · subst ej
        rw [m0]
        exact ⟨hf, key o ho eo hfo hwo⟩
      · rw [mo j hji ej]
        exact h.b o j ho hj hfo hwo ej
  · intro o ho hfo hwo
    by_cases eo : o = i
    · rw [eo, mi] at hfo; cases hfo
    by_cases e0 : o = o0
    · subst e0
      rw [m0] at hfo hwo ⊢
      omega
    · rw [mo o eo e0] at hfo hwo ⊢
      exact (h.b o i ho hi hfo hwo (by omega)).2
  · intro o ho hfo hwo
    by_cases e0 : o = o0
    · subst e0
      rw [m0]; exact Nat.le_refl _
    · rw [mo o (by omega) e0] at hfo hwo ⊢
      rcases Nat.lt_or_ge o o0 with h1 | h1
      · have := h.e o h1 hfo hwo; omega
      · have := geo2 (w_base (q := (F o).p) (k0 := k0)) (show o0 < o by omega) (by omega) hwo
        exact absurd this (h.d o (by omega) ho hfo)
theorem dl_stay {k0 : Nat} {r : Int → Nat} {F : Nat → Sl} {o0 i H : Nat} (h : Dl k0 r F o0 i H) (hi : i < 16) (hw : ¬ W (F i).p k0 o0 < W (F i).p k0 i) : Dl k0 r F o0 (i + 1) H := by
  have := h.lt
  refine ⟨h.a, by omega, by omega, h.b, h.c, fun o h1 h2 hf => ?_, h.e⟩
  by_cases e : o = i
  · rw [e]; exact hw
  · exact h.d o h1 (by omega) hf
theorem dl_ranked {k0 : Nat} {r : Int → Nat} {F : Nat → Sl} {o0 i H : Nat} (h : Dl k0 r F o0 i H) (he : i = 16 ∨ (i < 16 ∧ free (F i) = true)) : Ranked k0 r F := by
  have hlt := h.lt
  have hle := h.le
  have no : ∀ o, o < 16 → free (F o) = false → ¬ W (F o).p k0 o0 < W (F o).p k0 o := by
    intro o ho hf hw
    have ho0 : o ≠ o0 := fun e => by rw [e] at hw; omega
    by_cases h1 : o0 < o ∧ o < i
    · exact h.d o h1.1 h1.2 hf hw
    · rcases he with e16 | ⟨hi, hfi⟩
      · have hoo : o < o0 := by omega
        have h2 := geo3 (w_base (q := (F o).p) (k0 := k0)) hoo (by omega) hw
        have h3 := h.e o hoo hf h2
        have h4 := h.c o ho hf hw
        omega
      · have hoi : o ≠ i := fun e => by rw [e, hfi] at hf; cases hf
        have h2 := geo1 (w_base (q := (F o).p) (k0 := k0)) hlt hi ho hw (by omega)
        have := (h.b o i ho hi hf h2 (by omega)).1
        rw [hfi] at this; cases this
  intro o j ho hj hf hw
  by_cases e : j = o0
  · subst e; exact absurd hw (no o ho hf)
  · exact h.b o j ho hj hf hw e
def nf (t : List Sl) : List Sl := t.filter fun s => !free s
theorem nf_set {t : List Sl} {k : Nat} {x : Sl} (hk : k < t.length) (h0 : free t[k] = true) (hx : free x = false) : (nf (t.set k x)).Perm (x :: nf t) := by
  have e1 : t.set k x = t.take k ++ x :: t.drop (k + 1) := List.set_eq_take_append_cons_drop.trans (by rw [if_pos hk])
  have e2 : t = t.take k ++ t[k] :: t.drop (k + 1) := by
    rw [← List.drop_eq_getElem_cons]
    exact (List.take_append_drop _ _).symm
  have f2 : nf t = nf (t.take k) ++ nf (t.drop (k + 1)) := by
    conv => lhs; rw [e2]
    unfold nf
    rw [List.filter_append, List.filter_cons_of_neg (by rw [h0]; simp)]
  rw [e1, f2]
  unfold nf
  rw [List.filter_append, List.filter_cons_of_pos (by rw [hx]; rfl)]
  exact List.perm_middle
theorem nf_del {t : List Sl} {k : Nat} (hk : k < t.length) (h0 : free t[k] = false) : (t[k] :: nf (t.set k z)).Perm (nf t) := by
  have h := nf_set (t := t.set k z) (k := k) (x := t[k]) (by simpa using hk) (by simp [free_z2]) h0
  rw [List.set_set, List.set_getElem_self hk] at h
  exact h.symm
theorem nf_move {t : List Sl} {k j : Nat} (hk : k < t.length) (hj : j < t.length) (hkj : k ≠ j) (h0 : free t[k] = true) (hs : free t[j] = false) : (nf ((t.set k t[j]).set j z)).Perm (nf t) := by
  have h1 := nf_set hk h0 hs
  have hj2 : j < (t.set k t[j]).length := by simpa using hj
  have hg : (t.set k t[j])[j] = t[j] := by rw [List.getElem_set, if_neg hkj]
  have h2 := nf_del hj2 (by rw [hg]; exact hs)
  rw [hg] at h2
  exact (h2.trans h1).cons_inv
theorem qf_eq {k0 : Nat} {F : Nat → Sl} {o : Nat} (hk : k0 < 16) (ho : o < 16) : (QF k0 F)[(k0 + o) % 16]'(by rw [qf_len]; omega) = F o := by
  rw [← at_get]; exact at_off hk ho
theorem delL_ranked {k0 : Nat} {r : Int → Nat} (hk : k0 < 16) : ∀ (n i o0 H : Nat) (F : Nat → Sl), n + i = 16 → 1 ≤ i → Dl k0 r F o0 i H → ∃ G, delL k0 n ((k0 + o0) % 16) (QF k0 F) = QF k0 G ∧ Ranked k0 r G ∧ (nf (QF k0 G)).Perm (nf (QF k0 F))
  | 0, i, o0, H, F, hni, h1, h => ⟨F, rfl, dl_ranked h (.inl (by omega)), .refl _⟩
  | n + 1, i, o0, H, F, hni, h1, h => by
    have hi : i < 16 := by omega
    have hlt := h.lt
    have e : (k0 + (15 - n)) % 16 = (k0 + i) % 16 := by omega
    rw [delL, e, at_off hk hi]
    cases hf : free (F i)
    · rw [if_neg (by simp), w_off hk, w_off hk]
      by_cases hw : W (F i).p k0 o0 < W (F i).p k0 i
      · rw [if_pos hw]
        have hx : ((QF k0 F).set ((k0 + o0) % 16) (F i)).set ((k0 + i) % 16) z = QF k0 (mv F o0 i) := by
          rw [qf_set hk (by omega), qf_set hk hi]; rfl
        obtain ⟨G, g1, g2, g3⟩ := delL_ranked hk n (i + 1) i _ _ (by omega) (by omega) (dl_move h hi hf hw)
        rw [hx]
        refine ⟨G, g1, g2, g3.trans ?_⟩
        rw [← hx]
        have hkl : (k0 + o0) % 16 < (QF k0 F).length := by rw [qf_len]; omega
        have hjl : (k0 + i) % 16 < (QF k0 F).length := by rw [qf_len]; omega
        have := nf_move hkl hjl (by omega) (by rw [qf_eq hk (by omega), h.a]; rfl) (by rw [qf_eq hk hi]; exact hf)
        rw [qf_eq hk hi] at this
        exact this
      · rw [if_neg hw]
        exact delL_ranked hk n (i + 1) o0 H F (by omega) (by omega) (dl_stay h hi hw)
    · rw [if_pos rfl]
      exact ⟨F, rfl, dl_ranked h (.inr ⟨hi, hf⟩), .refl _⟩
end Ta
end Go.Proofs.Ytkiddlkmodclhaa
