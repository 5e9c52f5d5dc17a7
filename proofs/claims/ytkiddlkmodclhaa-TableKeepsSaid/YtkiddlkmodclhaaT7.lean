/- layer 7: put and deleted at once, plain; the law TableBack. -/
import Derived.Test.YtkiddlkmodclhaaT6
namespace Go.Proofs.Ytkiddlkmodclhaa
open Go.RowKit
set_option linter.unusedVariables false
set_option linter.unusedSimpArgs false
namespace Ta
theorem at_set {t : List Sl} {k j : Nat} {x : Sl} (hk : k < t.length) : at' (t.set k x) j = if j = k then x else at' t j := by
  unfold at'
  rw [List.getD_eq_getElem?_getD, List.getD_eq_getElem?_getD, List.getElem?_set]
  by_cases e : k = j
  · rw [if_pos e, if_pos e.symm, if_pos hk]; rfl
  · rw [if_neg e, if_neg (fun h => e h.symm)]
theorem pl_inj {p : Int} {i j : Nat} (hi : i < 16) (hj : j < 16) (h : pl p i = pl p j) : i = j := by unfold pl at h; omega
theorem free_z {s : Sl} (h : free s = true) : s = z := by
  obtain ⟨h1, h2⟩ := free_p h
  cases s; simp only at h1 h2; subst h1; subst h2; rfl
/-- where it is put -/
theorem put_ok {t : List Sl} {p f : Int} (h : (put t p f).2 = 0) : right t = true ∧ isP p = true ∧ isF f = true ∧ ∃ i, i < 16 ∧ seek t p = (pl p i : Nat) ∧ free (at' t (pl p i)) = true ∧ (∀ j, j < i → hit t p (pl p j) = false) ∧ put t p f = (t.set (pl p i) ⟨p, f⟩, 0) := by
  unfold put at h ⊢
  split at h
  · cases h
  rename_i h1
  split at h
  · cases h
  rename_i h2
  split at h
  · cases h
  rename_i h3
  rw [if_neg h1, if_neg h2, if_neg h3]
  simp only [not_or, Bool.not_eq_false] at h1
  refine ⟨h1.1, h1.2.1, h1.2.2, ?_⟩
  rcases seek_range (t := t) (p := p) with hr | ⟨i, hi, hr, hh, hno⟩
  · rw [hr] at h3; omega
  · refine ⟨i, hi, hr, ?_, hno, by rw [hr]; rfl⟩
    unfold slot at h2
    rw [if_pos h1.2.1, hr] at h2
    simp only [Int.toNat_natCast, Bool.not_eq_true, decide_eq_false_iff_not] at h2
    unfold hit at hh
    rw [Bool.or_eq_true] at hh
    rcases hh with hh | hh
    · exact absurd ⟨by omega, by simpa using hh⟩ h2
    · exact hh
theorem right_put {t : List Sl} {p f : Int} {i : Nat} (hr : right t = true) (hp : isP p = true) (hf : isF f = true) (hi : i < 16) (hfr : free (at' t (pl p i)) = true) (hno : ∀ j, j < i → hit t p (pl p j) = false) : right (t.set (pl p i) ⟨p, f⟩) = true ∧ seek (t.set (pl p i) ⟨p, f⟩) p = (pl p i : Nat) := by
  obtain ⟨h1, h2⟩ := right_iff.1 hr
  have hk : pl p i < t.length := by have := pl_lt (p := p) (i := i); omega
  have hs : seek (t.set (pl p i) ⟨p, f⟩) p = (pl p i : Nat) := by
    refine seek_at hi (by unfold hit; rw [at_set hk, if_pos rfl]; simp) (fun j hj => ?_)
    have hne : pl p j ≠ pl p i := fun e => by have := pl_inj (by omega) hi e; omega
    have := hno j hj
    unfold hit at this ⊢
    rw [at_set hk, if_neg hne]
    exact this
  refine ⟨right_iff.2 ⟨by simpa using h1, fun j hj => ?_⟩, hs⟩
  unfold okS
  rw [at_set hk]
  by_cases e : j = pl p i
  · rw [if_pos e, hp, hf, hs, e]; simp
  · rw [if_neg e]
    have h0 := h2 j hj
    unfold okS at h0
    cases hfj : free (at' t j)
    · rw [hfj, Bool.false_or, Bool.and_eq_true, decide_eq_true_eq] at h0
      rw [Bool.false_or, h0.1, Bool.true_and, decide_eq_true_eq]
      rcases seek_range (t := t) (p := (at' t j).p) with hh | ⟨m, hm, hh, hhit, hmno⟩
      · have := h0.2; rw [hh] at this; omega
      · have hmj : pl (at' t j).p m = j := by have := h0.2; rw [hh] at this; omega
        have := seek_at (t := t.set (pl p i) ⟨p, f⟩) (p := (at' t j).p) hm (by
          unfold hit; rw [hmj, at_set hk, if_neg e]; simp) (fun l hl => by
          have hl2 := hmno l hl
          have hne : pl (at' t j).p l ≠ pl p i := fun ee => by
            unfold hit at hl2
            rw [ee, hfr, Bool.or_true] at hl2
            cases hl2
          unfold hit at hl2 ⊢
          rw [at_set hk, if_neg hne]
          exact hl2)
        rw [this, hmj]
    · rfl
theorem delL_free {t : List Sl} {k : Nat} (hr : right t = true) (hk : k < 16) (hf : free (at' t k) = true) : ∀ n, delL k n k t = t
  | 0 => rfl
  | n + 1 => by
    rw [delL]
    obtain ⟨nx, hnx⟩ : ∃ nx, nx = (k + (15 - n)) % 16 := ⟨_, rfl⟩
    rw [← hnx]
    have hn16 : nx < 16 := by omega
    cases hfn : free (at' t nx)
    · rw [if_neg (by simp), if_neg, delL_free hr hk hf n]
      intro hlt
      have h0 := (right_iff.1 hr).2 nx hn16
      unfold okS at h0
      rw [hfn, Bool.false_or, Bool.and_eq_true, decide_eq_true_eq] at h0
      rcases seek_range (t := t) (p := (at' t nx).p) with hh | ⟨m, hm, hh, hhit, hmno⟩
      · have := h0.2; rw [hh] at this; omega
      · have hmj : pl (at' t nx).p m = nx := by have := h0.2; rw [hh] at this; omega
        have hma := ahead_pl hm hmj
        have := hmno (ahead (at' t nx).p k) (by omega)
        unfold hit at this
        rw [pl_ahead hk, hf, Bool.or_true] at this
        cases this
    · rw [if_pos rfl]
theorem back {t : List Sl} {p f : Int} (h : (put t p f).2 = 0) : right (put t p f).1 = true ∧ right t = true ∧ find (put t p f).1 p = (f, true) ∧ del (put t p f).1 p = (t, 0) ∧ (pages (put t p f).1).length = (pages t).length + 1 := by
  obtain ⟨hr, hp, hf, i, hi, hs, hfr, hno, e⟩ := put_ok h
  obtain ⟨hu, hsu⟩ := right_put (f := f) hr hp hf hi hfr hno
  have h16 := (right_iff.1 hr).1
  have hpl := pl_lt (p := p) (i := i)
  have hk : pl p i < t.length := by omega
  rw [e]
  have hslot : slot (t.set (pl p i) ⟨p, f⟩) p = (((pl p i : Nat) : Int), true) := by
    unfold slot
    rw [if_pos hp, hsu, Int.toNat_natCast, at_set hk, if_pos rfl, decide_eq_true ⟨by omega, rfl⟩]
  have hz : t[pl p i] = z := by rw [← at_get hk]; exact free_z hfr
  have hset : t.set (pl p i) z = t := by
    rw [← hz]; exact List.set_getElem_self hk
  refine ⟨hu, hr, ?_, ?_, ?_⟩
  · unfold find
    simp only [hslot]
    rw [if_pos ⟨hu, trivial⟩, Int.toNat_natCast, at_set hk, if_pos rfl]
  · unfold del
    simp only [hslot]
    rw [if_neg (by rw [hu]; simp), if_neg (by simp), Int.toNat_natCast, List.set_set, hset, delL_free hr hpl hfr]
  · rw [pages_len hu, pages_len hr]
    have hP1 : 1 ≤ p := by unfold isP at hp; simp at hp; exact hp.1
    have hfx : free ⟨p, f⟩ = false := by unfold free; simp; omega
    have e1 : t.set (pl p i) ⟨p, f⟩ = t.take (pl p i) ++ ⟨p, f⟩ :: t.drop (pl p i + 1) := List.set_eq_take_append_cons_drop.trans (by rw [if_pos hk])
    have e2 : t = t.take (pl p i) ++ t[pl p i] :: t.drop (pl p i + 1) := by
      rw [← List.drop_eq_getElem_cons]
      exact (List.take_append_drop _ _).symm
    have f1 : (pgs (t.set (pl p i) ⟨p, f⟩)).length = (pgs (t.take (pl p i))).length + ((pgs (t.drop (pl p i + 1))).length + 1) := by
      rw [e1]; unfold pgs
      rw [List.filter_append, List.filter_cons_of_pos (by rw [hfx]; rfl)]
      simp
    have f2 : (pgs t).length = (pgs (t.take (pl p i))).length + (pgs (t.drop (pl p i + 1))).length := by
      conv => lhs; rw [e2]
      unfold pgs
      rw [List.filter_append, List.filter_cons_of_neg (by rw [hz]; decide)]
      simp
    omega
theorem put_err {t : List Sl} {p f : Int} (h : (put t p f).2 ≠ 0) : (put t p f).1 = t := by
  unfold put at h ⊢
  split
  · rfl
  split
  · rfl
  split
  · rfl
  · rename_i h1 h2 h3
    rw [if_neg h1, if_neg h2, if_neg h3] at h
    exact absurd rfl h
end Ta
end Go.Proofs.Ytkiddlkmodclhaa
