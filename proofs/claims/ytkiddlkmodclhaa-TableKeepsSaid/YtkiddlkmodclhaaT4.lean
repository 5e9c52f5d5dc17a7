/- layer 7: the contracts: the law's ref, awake; the document's there, Find, Same, Right. -/
import Derived.Test.YtkiddlkmodclhaaT3
namespace Go.Proofs.Ytkiddlkmodclhaa
open Go.RowKit
set_option linter.unusedVariables false
set_option linter.unusedSimpArgs false
namespace Ta
def refM (t : List Sl) : List Sl × Bool := if 40 < t.length then ([], false) else (t, true)
def cnt (t : List Sl) (p : Int) : Nat := (t.map Sl.p).count p
def findM (t : List Sl) (p : Int) : Int := if p = 0 then -1 else match t.findIdx? (fun s => s.p == p) with
  | some i => i
  | none => -1
def okR (t : List Sl) (i : Nat) : Bool := free (at' t i) || (isP (at' t i).p && isF (at' t i).f && decide (cnt t (at' t i).p = 1) && (List.range (ahead (at' t i).p i)).all fun n => (at' t (pl (at' t i).p n)).p != 0)
def rightR (t : List Sl) : Bool := decide (t.length = 16) && (List.range 16).all (okR t)
theorem pl_ahead {p : Int} {i : Nat} (hi : i < 16) : pl p (ahead p i) = i := by unfold pl ahead; omega
theorem ahead_pl {p : Int} {i n : Nat} (hn : n < 16) (h : pl p n = i) : n = ahead p i := by unfold pl at h; unfold ahead; omega
theorem ahead_lt {p : Int} {i : Nat} : ahead p i < 16 := Nat.mod_lt _ (by decide)
theorem free_p {s : Sl} (h : free s = true) : s.p = 0 ∧ s.f = 0 := by unfold free at h; simpa using h
theorem cnt_one {t : List Sl} {p : Int} {i : Nat} (hi : i < t.length) (hp : t[i].p = p) : cnt t p = 1 ↔ ∀ j (hj : j < t.length), t[j].p = p → j = i := by
  unfold cnt
  have e : t.map Sl.p = (t.map Sl.p).take i ++ (t.map Sl.p)[i]'(by simpa using hi) :: (t.map Sl.p).drop (i + 1) := by
    rw [← List.drop_eq_getElem_cons]
    exact (List.take_append_drop i _).symm
  have e2 : (t.map Sl.p).count p = ((t.map Sl.p).take i).count p + 1 + ((t.map Sl.p).drop (i + 1)).count p := by
    conv => lhs; rw [e]
    rw [List.count_append, List.count_cons]
    simp [hp]; omega
  rw [e2]
  constructor
  · intro h j hj hjp
    have h1 : ((t.map Sl.p).take i).count p = 0 := by omega
    have h2 : ((t.map Sl.p).drop (i + 1)).count p = 0 := by omega
    rw [List.count_eq_zero] at h1 h2
    rcases Nat.lt_trichotomy j i with h3 | h3 | h3
    · exact absurd (List.mem_take_iff_getElem.2 ⟨j, by simp; omega, by simpa using hjp⟩) h1
    · exact h3
    · refine absurd ?_ h2
      rw [List.mem_iff_getElem]
      exact ⟨j - (i + 1), by simp; omega, by simp only [List.getElem_drop, List.getElem_map, show i + 1 + (j - (i + 1)) = j by omega]; exact hjp⟩
  · intro h
    have h1 : ((t.map Sl.p).take i).count p = 0 := by
      rw [List.count_eq_zero]
      intro hm
      obtain ⟨j, hj, e⟩ := List.mem_take_iff_getElem.1 hm
      have hj2 : j < t.length := by simp at hj; omega
      have := h j hj2 (by simpa using e)
      simp at hj; omega
    have h2 : ((t.map Sl.p).drop (i + 1)).count p = 0 := by
      rw [List.count_eq_zero]
      intro hm
      obtain ⟨j, hj, e⟩ := List.getElem_of_mem hm
      rw [List.getElem_drop] at e
      have hj2 : i + 1 + j < t.length := by simp at hj; omega
      have := h (i + 1 + j) hj2 (by simpa using e)
      omega
    omega
theorem okR_of {t : List Sl} (ht : t.length = 16) (h : ∀ k, k < 16 → okS t k = true) {i : Nat} (hi : i < 16) : okR t i = true := by
  have h0 := h i hi
  unfold okS at h0
  unfold okR
  cases hf : free (at' t i)
  · rw [hf, Bool.false_or, Bool.and_eq_true, Bool.and_eq_true, decide_eq_true_eq] at h0
    obtain ⟨⟨hP, hF⟩, hs⟩ := h0
    have hil : i < t.length := by omega
    rw [Bool.false_or, hP, hF, Bool.true_and, Bool.true_and, Bool.and_eq_true, decide_eq_true_eq]
    have hP1 : 1 ≤ (at' t i).p := by unfold isP at hP; simp at hP; exact hP.1
    constructor
    · rw [cnt_one hil (by rw [at_get hil])]
      intro j hj hjp
      have hk := h j (by omega)
      unfold okS at hk
      rw [at_get hj, hjp] at hk
      cases hfj : free t[j]
      · rw [hfj, Bool.false_or, Bool.and_eq_true, decide_eq_true_eq] at hk
        have := hk.2.symm.trans hs
        omega
      · have := (free_p hfj).1
        omega
    · rw [List.all_eq_true]
      intro n hn
      rw [List.mem_range] at hn
      rw [bne_iff_ne]
      intro h00
      rcases seek_range (t := t) (p := (at' t i).p) with hr | ⟨m, hm, hr, hh, hno⟩
      · rw [hr] at hs; omega
      · rw [hr] at hs
        have hmi : m = ahead (at' t i).p i := ahead_pl hm (by omega)
        have hn2 := hno n (by omega)
        have hk := h _ (pl_lt (p := (at' t i).p) (i := n))
        unfold okS at hk
        unfold hit at hn2
        rw [Bool.or_eq_false_iff] at hn2
        rw [hn2.2, Bool.false_or, h00] at hk
        exact absurd hk (by simp [isP])
  · rfl
theorem okS_of {t : List Sl} (ht : t.length = 16) (h : ∀ k, k < 16 → okR t k = true) {i : Nat} (hi : i < 16) : okS t i = true := by
  have h0 := h i hi
  unfold okR at h0
  unfold okS
  cases hf : free (at' t i)
  · rw [hf, Bool.false_or, Bool.and_eq_true, Bool.and_eq_true, Bool.and_eq_true, decide_eq_true_eq, List.all_eq_true] at h0
    obtain ⟨⟨⟨hP, hF⟩, hc⟩, hpath⟩ := h0
    rw [Bool.false_or, hP, hF, Bool.true_and, Bool.true_and, decide_eq_true_eq]
    have hil : i < t.length := by omega
    have e := seek_at (t := t) (p := (at' t i).p) (i := ahead (at' t i).p i) ahead_lt
      (by rw [pl_ahead hi]; unfold hit; simp)
      (fun j hj => by
        have hp0 := hpath j (List.mem_range.2 hj)
        have hpl := pl_lt (p := (at' t i).p) (i := j)
        have hpll : pl (at' t i).p j < t.length := by omega
        unfold hit
        rw [Bool.or_eq_false_iff]
        constructor
        · rw [beq_eq_false_iff_ne]
          intro ee
          rw [at_get hpll] at ee
          have := (cnt_one hil (by rw [at_get hil])).1 hc _ hpll ee
          have h2 := ahead_pl (p := (at' t i).p) (n := j) (by have := ahead_lt (p := (at' t i).p) (i := i); omega) this
          omega
        · cases hfj : free (at' t (pl (at' t i).p j))
          · rfl
          · rw [(free_p hfj).1] at hp0; simp at hp0)
    rw [pl_ahead hi] at e
    exact e
  · rfl
theorem right_eq {t : List Sl} : rightR t = right t := by
  rw [Bool.eq_iff_iff, right_iff]
  unfold rightR
  simp only [Bool.and_eq_true, decide_eq_true_eq, List.all_eq_true, List.mem_range]
  constructor
  · rintro ⟨h1, h2⟩; exact ⟨h1, fun k hk => okS_of h1 h2 hk⟩
  · rintro ⟨h1, h2⟩; exact ⟨h1, fun k hk => okR_of h1 h2 hk⟩
end Ta
end Go.Proofs.Ytkiddlkmodclhaa
