/- layer 18: plain facts for the laws. -/
import Derived.Test.YtbpipdgkkdifgaaO6
namespace Go.Proofs.Ytbpipdgkkdifgaa
set_option linter.unusedVariables false
set_option linter.unusedSimpArgs false

namespace Ok
/-! for the laws -/
theorem write_err {l : List Pg} {i : Nat} {b : ByteArray} (h : (writeM l i b).2.e ≠ 0) : (writeM l i b).1 = l ∧ (writeM l i b).2.p = zP := by
  unfold writeM at h ⊢
  split at h
  · rename_i h1; rw [if_pos h1]; exact ⟨rfl, rfl⟩
  · rename_i h1
    rw [if_neg h1]
    split at h
    · rename_i h2; rw [if_pos h2]; exact ⟨rfl, rfl⟩
    · exact absurd rfl h
theorem do_err {l : List Pg} {o : Opr} (h : (doM l o).2.e ≠ 0) : (doM l o).1 = l ∧ (doM l o).2.p = zP := by
  unfold doM at h ⊢
  split
  · exact ⟨rfl, rfl⟩
  rename_i h1
  rw [if_neg h1] at h
  split
  · rename_i h2
    rw [if_pos h2] at h
    split
    · exact ⟨rfl, rfl⟩
    · rename_i h3; rw [if_neg h3] at h; exact absurd rfl h
  rename_i h2
  rw [if_neg h2] at h
  split
  · exact ⟨rfl, rfl⟩
  rename_i h3
  rw [if_neg h3] at h
  split
  · rename_i h4; rw [if_pos h4] at h; exact write_err h
  rename_i h4
  rw [if_neg h4] at h
  split
  · rename_i h5; rw [if_pos h5] at h; exact absurd rfl h
  · rename_i h5; rw [if_neg h5] at h; exact absurd rfl h
theorem do_right {l : List Pg} {o : Opr} : rightM (doM l o).1 = rightM l := by
  cases h : rightM l
  · rw [do_wrong h]; exact h
  · exact (do_good h).1
/-- operations of unlike pages -/
theorem do_apart {l : List Pg} {a b : Opr} (hab : a.id ≠ b.id) : (doM (doM l a).1 b).1 = (doM (doM l b).1 a).1 ∧ (doM l a).2 = (doM (doM l b).1 a).2 ∧ (doM (doM l a).1 b).2 = (doM l b).2 := by
  cases h : rightM l
  · simp only [do_wrong h]
    exact ⟨trivial, trivial, trivial⟩
  · obtain ⟨a1, a2, a3⟩ := do_good (o := a) h
    obtain ⟨b1, b2, b3⟩ := do_good (o := b) h
    obtain ⟨c1, c2, c3⟩ := do_good (o := b) a1
    obtain ⟨d1, d2, d3⟩ := do_good (o := a) b1
    have e1 : look (doM l a).1 b.id = look l b.id := by rw [a3, if_neg (fun x => hab x.symm)]
    have e2 : look (doM l b).1 a.id = look l a.id := by rw [b3, if_neg hab]
    refine ⟨right_ext c1 d1 fun id => ?_, by rw [d2, a2, e2], by rw [c2, b2, e1]⟩
    rw [c3, d3, e1, e2, a3, b3]
    by_cases x1 : id = a.id
    · rw [if_neg (fun x2 => hab (x1.symm.trans x2)), if_pos x1, if_pos x1]
    · by_cases x2 : id = b.id
      · rw [if_pos x2, if_neg x1, if_pos x2]
      · rw [if_neg x2, if_neg x1, if_neg x1, if_neg x2]
theorem look_out {l : List Pg} (h : rightM l = true) {id : Int} (hid : id < 1 ∨ 16 < id) : look l id = none := by
  rw [look_none]
  intro p hp e
  have := okP_iff.1 ((right_iff.1 h).1 p hp)
  omega
theorem do_read {l : List Pg} {id : Int} : (doM l ⟨2, id, ⟨#[]⟩⟩).1 = l ∧ (doM l ⟨2, id, ⟨#[]⟩⟩).2.p = (getM l id).1 ∧ ((doM l ⟨2, id, ⟨#[]⟩⟩).2.e == 0) = (getM l id).2 := by
  cases h : rightM l
  · rw [do_wrong h]
    have e : getM l id = (zP, false) := if_neg (fun x => by rw [h] at x; simp at x)
    rw [e]
    exact ⟨rfl, rfl, rfl⟩
  · obtain ⟨a1, a2, a3⟩ := do_good (o := ⟨2, id, ⟨#[]⟩⟩) h
    have h0 : (step (look l id) ⟨2, id, ⟨#[]⟩⟩).1 = look l id := by
      unfold step
      split
      · rfl
      · split <;> simp_all
    refine ⟨right_ext a1 h fun k => ?_, ?_⟩
    · rw [a3]
      split
      · rename_i e; subst e; exact h0
      · rfl
    · rw [a2, get_look h]
      show (step (look l id) _).2.p = _ ∧ ((step (look l id) _).2.e == 0) = _
      unfold step
      by_cases hb : badK ⟨2, id, ⟨#[]⟩⟩
      · rw [if_pos hb]
        have : id < 1 ∨ 16 < id := by unfold badK at hb; simp only at hb; omega
        rw [look_out h this]
        exact ⟨rfl, rfl⟩
      · rw [if_neg hb]
        cases hl : look l id with
        | none => exact ⟨rfl, rfl⟩
        | some p => exact ⟨rfl, rfl⟩
/-- a page that is new, and deleted, and the other way round -/
theorem do_back {l : List Pg} {id : Int} :
    ((doM l ⟨1, id, ⟨#[]⟩⟩).2.e = 0 ∧ (doM (doM l ⟨1, id, ⟨#[]⟩⟩).1 ⟨4, id, ⟨#[]⟩⟩).2.e = 0 ∧ (doM (doM l ⟨1, id, ⟨#[]⟩⟩).1 ⟨4, id, ⟨#[]⟩⟩).1 = l ∧ (doM l ⟨4, id, ⟨#[]⟩⟩).2.e = 3 ∧ (doM (doM l ⟨4, id, ⟨#[]⟩⟩).1 ⟨1, id, ⟨#[]⟩⟩).2 = (doM l ⟨1, id, ⟨#[]⟩⟩).2) ∨
    ((doM l ⟨1, id, ⟨#[]⟩⟩).2.e = 4 ∧ (doM l ⟨4, id, ⟨#[]⟩⟩).2.e = 0 ∧ (doM (doM l ⟨4, id, ⟨#[]⟩⟩).1 ⟨1, id, ⟨#[]⟩⟩).2.p = newP id ∧ getM (doM (doM l ⟨4, id, ⟨#[]⟩⟩).1 ⟨1, id, ⟨#[]⟩⟩).1 id = (newP id, true) ∧ (doM (doM l ⟨4, id, ⟨#[]⟩⟩).1 ⟨1, id, ⟨#[]⟩⟩).1.length = l.length) ∨
    ((doM l ⟨1, id, ⟨#[]⟩⟩).2.e = 1 ∧ (doM (doM l ⟨1, id, ⟨#[]⟩⟩).1 ⟨4, id, ⟨#[]⟩⟩).2.e = 1 ∧ (doM (doM l ⟨1, id, ⟨#[]⟩⟩).1 ⟨4, id, ⟨#[]⟩⟩).1 = l ∧ (doM l ⟨4, id, ⟨#[]⟩⟩).2.e = 1 ∧ (doM (doM l ⟨4, id, ⟨#[]⟩⟩).1 ⟨1, id, ⟨#[]⟩⟩).2.e = 1) := by
  by_cases hbad : badO l ⟨1, id, ⟨#[]⟩⟩
  · have hbad2 : badO l ⟨4, id, ⟨#[]⟩⟩ := by
      rcases hbad with h | h | h | h | h
      · exact .inl h
      · exact absurd h (by show ¬ (1 : Int) < 1; omega)
      · exact absurd h (by show ¬ (4 : Int) < 1; omega)
      · exact .inr (.inr (.inr (.inl h)))
      · exact .inr (.inr (.inr (.inr h)))
    have e1 : doM l ⟨1, id, ⟨#[]⟩⟩ = (l, ⟨1, zP⟩) := if_pos hbad
    have e2 : doM l ⟨4, id, ⟨#[]⟩⟩ = (l, ⟨1, zP⟩) := if_pos hbad2
    refine .inr (.inr ?_)
    simp only [e1, e2]
    exact ⟨trivial, trivial, trivial, trivial, trivial⟩
  have h : rightM l = true := by unfold badO at hbad; cases hr : rightM l <;> simp_all
  have hb1 : ¬ badK ⟨1, id, ⟨#[]⟩⟩ := fun x => hbad ((right_bad h).2 x)
  have hb4 : ¬ badK ⟨4, id, ⟨#[]⟩⟩ := by unfold badK at hb1 ⊢; simp only at hb1 ⊢; omega
  obtain ⟨a1, a2, a3⟩ := do_good (o := ⟨1, id, ⟨#[]⟩⟩) h
  obtain ⟨b1, b2, b3⟩ := do_good (o := ⟨4, id, ⟨#[]⟩⟩) h
  obtain ⟨c1, c2, c3⟩ := do_good (o := ⟨4, id, ⟨#[]⟩⟩) a1
  obtain ⟨d1, d2, d3⟩ := do_good (o := ⟨1, id, ⟨#[]⟩⟩) b1
  simp only at a2 a3 b2 b3 c2 c3 d2 d3
  have ak := a3 id
  have bk := b3 id
  rw [if_pos rfl] at ak bk
  cases hl : look l id with
  | none =>
    have s1 : step none ⟨1, id, ⟨#[]⟩⟩ = (some (newP id), ⟨0, newP id⟩) := by unfold step; rw [if_neg hb1]; rfl
    have s4 : step none ⟨4, id, ⟨#[]⟩⟩ = (none, ⟨3, zP⟩) := by unfold step; rw [if_neg hb4]; rfl
    have s4' : step (some (newP id)) ⟨4, id, ⟨#[]⟩⟩ = (none, ⟨0, zP⟩) := by unfold step; rw [if_neg hb4]; rfl
    rw [hl, s1] at ak a2
    rw [hl, s4] at bk b2
    rw [ak, s4'] at c2
    rw [bk, s1] at d2
    refine .inl ⟨by rw [a2], by rw [c2], right_ext c1 h fun k => ?_, by rw [b2], by rw [d2, a2]⟩
    rw [c3]
    split
    · rename_i e; subst e; rw [ak, s4', hl]
    · rename_i e; rw [a3, if_neg e]
  | some p =>
    have s1 : step (some p) ⟨1, id, ⟨#[]⟩⟩ = (some p, ⟨4, zP⟩) := by unfold step; rw [if_neg hb1]; rfl
    have s4 : step (some p) ⟨4, id, ⟨#[]⟩⟩ = (none, ⟨0, zP⟩) := by unfold step; rw [if_neg hb4]; rfl
    have s1' : step none ⟨1, id, ⟨#[]⟩⟩ = (some (newP id), ⟨0, newP id⟩) := by unfold step; rw [if_neg hb1]; rfl
    rw [hl, s1] at a2
    rw [hl, s4] at bk b2
    rw [bk, s1'] at d2
    have hm := (right_iff.1 h).2
    have hh : hasM l id = true := by rw [has_look hm, hl]; rfl
    obtain ⟨hp, _⟩ := has_at hh
    have e4 : doM l ⟨4, id, ⟨#[]⟩⟩ = (l.eraseIdx (posM l id), ⟨0, zP⟩) := by
      unfold doM
      rw [if_neg (fun x => hb4 ((right_bad h).1 x)), if_neg (by show ¬ (4 : Int) = 1; omega), if_neg (by simp [hh]), if_neg (by show ¬ (4 : Int) = 3; omega), if_pos rfl]
    have hh1 : hasM (doM l ⟨4, id, ⟨#[]⟩⟩).1 id = false := by rw [has_look (right_iff.1 b1).2, bk]; rfl
    have e1 : (doM (doM l ⟨4, id, ⟨#[]⟩⟩).1 ⟨1, id, ⟨#[]⟩⟩).1.length = (doM l ⟨4, id, ⟨#[]⟩⟩).1.length + 1 := by
      generalize doM l ⟨4, id, ⟨#[]⟩⟩ = D at *
      unfold doM
      rw [if_neg (fun x => hb1 ((right_bad b1).1 x)), if_pos rfl, if_neg (by simp [hh1])]
      have := pos_le (l := (doM l ⟨4, id, ⟨#[]⟩⟩).1) (id := id)
      simp
      omega
    refine .inr (.inl ⟨by rw [a2], by rw [b2], by rw [d2], ?_, ?_⟩)
    · rw [get_look d1, d3, if_pos rfl, bk, s1']; rfl
    · rw [e1, e4]
      simp only [List.length_eraseIdx, if_pos hp]
      omega
end Ok
end Go.Proofs.Ytbpipdgkkdifgaa
