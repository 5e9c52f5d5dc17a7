/- LAYER 9, plain: frames, the hand, who goes. No condition. -/
import Derived.Test.YtcindpblgbpcoaaY2
namespace Go.Proofs.Ytcindpblgbpcoaa
open Go.RowKit
set_option linter.unusedVariables false

structure Fr where
  page : Int
  pins : Int
  used : Bool
deriving DecidableEq, Inhabited
namespace Ck
def fits (n : Int) : Prop := -9223372036854775808 ≤ n ∧ n ≤ 9223372036854775807
def Fit (l : List Fr) : Prop := ∀ a ∈ l, fits a.page ∧ fits a.pins
def good (f : Fr) : Bool := decide (0 ≤ f.page ∧ f.page ≤ 16 ∧ 0 ≤ f.pins ∧ f.pins ≤ 2147483647)
def right (l : List Fr) (h : Int) : Bool := decide (l.length ≤ 8 ∧ 0 ≤ h ∧ h < l.length) && l.all good
def free (f : Fr) : Bool := f.pins == 0
def fresh (f : Fr) : Bool := f.pins == 0 && !f.used
/-- the first one behind h that is so: how far -/
def first (p : Fr → Bool) (l : List Fr) (h : Nat) : Option Nat := (List.range l.length).find? fun d => p (l.getD ((h + d) % l.length) default)
/-- where the search ends: how far behind h, a whole round counted -/
def stop (l : List Fr) (h : Nat) : Option Nat := match first fresh l h with
  | some d => some d
  | none => (first free l h).map (l.length + ·)
def clearAt (l : List Fr) (h N i : Nat) (f : Fr) : Fr := if f.pins == 0 && decide ((i + l.length - h) % l.length < N) then { f with used := false } else f
/-- the frames behind so many steps -/
def after (l : List Fr) (h N : Nat) : List Fr := l.mapIdx (clearAt l h N)
def touch (l : List Fr) (k : Nat) : List Fr := l.modify k fun f => { f with used := true }
theorem after_length (l : List Fr) (h N : Nat) : (after l h N).length = l.length := by simp [after]
theorem after_get (l : List Fr) (h N i : Nat) (hi : i < l.length) : (after l h N)[i]'(by rw [after_length]; exact hi) = clearAt l h N i l[i] := by simp [after]
theorem clear_page (l : List Fr) (h N i : Nat) (f : Fr) : (clearAt l h N i f).page = f.page := by unfold clearAt; split <;> rfl
theorem clear_pins (l : List Fr) (h N i : Nat) (f : Fr) : (clearAt l h N i f).pins = f.pins := by unfold clearAt; split <;> rfl
theorem clear_used (l : List Fr) (h N i : Nat) (f : Fr) : (clearAt l h N i f).used = true → f.used = true := by unfold clearAt; split <;> simp
theorem after_zero (l : List Fr) (h : Nat) : after l h 0 = l := by
  unfold after
  apply List.ext_getElem (by simp)
  intro i h1 h2
  simp [clearAt]
/-- where step N stands lies N behind h -/
theorem dist {n h N : Nat} (hh : h < n) (hN : N < n) : ((h + N) % n + n - h) % n = N := by
  by_cases hlt : h + N < n
  · rw [Nat.mod_eq_of_lt hlt, show h + N + n - h = N + n by omega, Nat.add_mod_right, Nat.mod_eq_of_lt hN]
  · have e : (h + N) % n = h + N - n := by rw [Nat.mod_eq_sub_mod (by omega), Nat.mod_eq_of_lt (by omega)]
    rw [e, show h + N - n + n - h = N by omega, Nat.mod_eq_of_lt hN]
theorem dist_back {n h i : Nat} (hh : h < n) (hi : i < n) : (h + (i + n - h) % n) % n = i := by
  by_cases hlt : i < h
  · rw [Nat.mod_eq_of_lt (show i + n - h < n by omega), show h + (i + n - h) = i + n by omega, Nat.add_mod_right, Nat.mod_eq_of_lt hi]
  · rw [show i + n - h = (i - h) + n by omega, Nat.add_mod_right, Nat.mod_eq_of_lt (show i - h < n by omega), show h + (i - h) = i by omega, Nat.mod_eq_of_lt hi]
theorem dist_inj {n h i N : Nat} (hh : h < n) (hi : i < n) (hN : N < n) : (i + n - h) % n = N ↔ i = (h + N) % n := by
  constructor
  · rintro rfl; exact (dist_back hh hi).symm
  · rintro rfl; exact dist hh hN
theorem getD_eq {l : List Fr} {i : Nat} (h : i < l.length) : l.getD i default = l[i] := by rw [List.getD_eq_getElem?_getD, List.getElem?_eq_getElem h]; rfl
theorem mod_lt' {l : List Fr} {h d : Nat} (hh : h < l.length) : (h + d) % l.length < l.length := Nat.mod_lt _ (by omega)
theorem first_some {p : Fr → Bool} {l : List Fr} {h d : Nat} (hd : d < l.length) (h1 : p (l.getD ((h + d) % l.length) default) = true) (h2 : ∀ j, j < d → p (l.getD ((h + j) % l.length) default) = false) : first p l h = some d := by
  unfold first
  rw [List.find?_range_eq_some]
  exact ⟨h1, by simpa using hd, fun j hj => by rw [h2 j hj]; rfl⟩
theorem first_none {p : Fr → Bool} {l : List Fr} {h : Nat} (h2 : ∀ j, j < l.length → p (l.getD ((h + j) % l.length) default) = false) : first p l h = none := by
  unfold first
  rw [List.find?_eq_none]; intro i hi; rw [h2 i (by simpa using hi)]; simp
theorem first_iff {p : Fr → Bool} {l : List Fr} {h d : Nat} : first p l h = some d ↔ d < l.length ∧ p (l.getD ((h + d) % l.length) default) = true ∧ ∀ j, j < d → p (l.getD ((h + j) % l.length) default) = false := by
  constructor
  · intro e
    unfold first at e
    rw [List.find?_range_eq_some] at e
    exact ⟨by simpa using e.2.1, e.1, fun j hj => by simpa using e.2.2 j hj⟩
  · rintro ⟨a, b, c⟩; exact first_some a b c
theorem first_none_iff {p : Fr → Bool} {l : List Fr} {h : Nat} : first p l h = none ↔ ∀ j, j < l.length → p (l.getD ((h + j) % l.length) default) = false := by
  constructor
  · intro e j hj
    unfold first at e
    rw [List.find?_eq_none] at e
    simpa using e j (by simpa using hj)
  · exact first_none
/-- none anywhere -/
theorem first_none_all {p : Fr → Bool} {l : List Fr} {h : Nat} (hh : h < l.length) : first p l h = none ↔ ∀ f ∈ l, p f = false := by
  rw [first_none_iff]
  constructor
  · intro e f hf
    obtain ⟨i, hi, rfl⟩ := List.getElem_of_mem hf
    have := e ((i + l.length - h) % l.length) (Nat.mod_lt _ (by omega))
    rw [dist_back hh hi, getD_eq hi] at this
    exact this
  · intro e j hj
    rw [getD_eq (mod_lt' hh)]
    exact e _ (List.getElem_mem _)

/-- at step N, is it the end? -/
def ends (l : List Fr) (h N : Nat) : Bool := free (l.getD ((h + N) % l.length) default) && (!(l.getD ((h + N) % l.length) default).used || decide (l.length ≤ N))
/-- the search ends at the first step at which it may -/
theorem stop_of_ends {l : List Fr} {h N : Nat} (hh : h < l.length) (hN : N < 2 * l.length) (h1 : ends l h N = true) (h2 : ∀ j, j < N → ends l h j = false) : stop l h = some N := by
  unfold stop
  by_cases hlt : N < l.length
  · have e : first fresh l h = some N := by
      apply first_some hlt
      · unfold ends at h1; unfold fresh; rw [Bool.and_eq_true, Bool.or_eq_true, decide_eq_true_iff] at h1
        obtain ⟨ha, hb⟩ := h1
        rcases hb with hb | hb
        · unfold free at ha; rw [ha, hb]; rfl
        · omega
      · intro j hj
        have := h2 j hj
        unfold ends at this
        rw [Bool.and_eq_false_iff, Bool.or_eq_false_iff] at this
        unfold fresh
        rcases this with hc | hc
        · unfold free at hc; rw [hc]; rfl
        · rw [hc.1, Bool.and_false]
    rw [e]
  · have e : first fresh l h = none := by
      apply first_none
      intro j hj
      have := h2 j (by omega)
      unfold ends at this
      rw [Bool.and_eq_false_iff, Bool.or_eq_false_iff] at this
      unfold fresh
      rcases this with hc | hc
      · unfold free at hc; rw [hc]; rfl
      · rw [hc.1, Bool.and_false]
    have hm : ∀ d, (h + (l.length + d)) % l.length = (h + d) % l.length := by
      intro d; rw [show h + (l.length + d) = h + d + l.length by omega, Nat.add_mod_right]
    have e2 : first free l h = some (N - l.length) := by
      apply first_some (by omega)
      · unfold ends at h1
        rw [Bool.and_eq_true] at h1
        have := h1.1
        rw [show N = l.length + (N - l.length) by omega, hm] at this
        exact this
      · intro j hj
        have := h2 (l.length + j) (by omega)
        unfold ends at this
        rw [hm, Bool.and_eq_false_iff, Bool.or_eq_false_iff] at this
        rcases this with hc | hc
        · exact hc
        · have := hc.2; rw [decide_eq_false_iff_not] at this; omega
    rw [e, e2]
    simp
    omega
/-- with one without pins it ends within two rounds -/
theorem ends_some {l : List Fr} {h : Nat} (hh : h < l.length) (hf : ∃ f ∈ l, f.pins = 0) (hno : ∀ j, j < 2 * l.length - 1 → ends l h j = false) : ends l h (2 * l.length - 1) = true := by
  obtain ⟨f, hf, h0⟩ := hf
  obtain ⟨i, hi, rfl⟩ := List.getElem_of_mem hf
  have hd : (i + l.length - h) % l.length < l.length := Nat.mod_lt _ (by omega)
  have e : ends l h (l.length + (i + l.length - h) % l.length) = true := by
    unfold ends
    rw [show h + (l.length + (i + l.length - h) % l.length) = h + (i + l.length - h) % l.length + l.length by omega, Nat.add_mod_right, dist_back hh hi, getD_eq hi]
    unfold free
    rw [h0]
    simp
  by_cases hl : l.length + (i + l.length - h) % l.length < 2 * l.length - 1
  · rw [hno _ hl] at e; exact Bool.noConfusion e
  · rw [show 2 * l.length - 1 = l.length + (i + l.length - h) % l.length by omega]; exact e
/-- one step further: the frame at the hand is cleared, if it has no pins -/
theorem after_succ {l : List Fr} {h N : Nat} (hh : h < l.length) : after l h (N + 1) = (after l h N).modify ((h + N) % l.length) fun f => if f.pins == 0 then { f with used := false } else f := by
  apply List.ext_getElem (by simp [after_length])
  intro i h1 h2
  have hi : i < l.length := by rw [after_length] at h1; exact h1
  rw [List.getElem_modify, after_get _ _ _ _ hi, after_get _ _ _ _ hi]
  have hd : (i + l.length - h) % l.length < l.length := Nat.mod_lt _ (by omega)
  by_cases hN : N < l.length
  · by_cases e : (h + N) % l.length = i
    · rw [if_pos e]
      have e2 : (i + l.length - h) % l.length = N := (dist_inj hh hi hN).2 e.symm
      unfold clearAt
      rw [e2]
      by_cases hp : l[i].pins == 0 <;> simp [hp]
    · rw [if_neg e]
      have e2 : (i + l.length - h) % l.length ≠ N := fun h' => e ((dist_inj hh hi hN).1 h').symm
      unfold clearAt
      have e3 : decide ((i + l.length - h) % l.length < N + 1) = decide ((i + l.length - h) % l.length < N) := by rw [decide_eq_decide]; omega
      rw [e3]
  · have e3 : decide ((i + l.length - h) % l.length < N + 1) = true := decide_eq_true (by omega)
    have e4 : decide ((i + l.length - h) % l.length < N) = true := decide_eq_true (by omega)
    unfold clearAt
    rw [e3, e4]
    cases hp : (l[i].pins == 0) <;> simp [hp]
/-- what stands at step N -/
theorem after_at {l : List Fr} {h N : Nat} (hh : h < l.length) (hN : N < 2 * l.length) : (after l h N)[(h + N) % l.length]'(by rw [after_length]; exact mod_lt' hh) = (let f := l[(h + N) % l.length]'(mod_lt' hh); if f.pins == 0 && decide (l.length ≤ N) then { f with used := false } else f) := by
  rw [after_get _ _ _ _ (mod_lt' hh)]
  unfold clearAt
  by_cases hlt : N < l.length
  · rw [dist hh hlt]
    have e1 : decide (N < N) = false := decide_eq_false (by omega)
    have e2 : decide (l.length ≤ N) = false := decide_eq_false (by omega)
    simp only [e1, e2]
  · have hd : ((h + N) % l.length + l.length - h) % l.length < l.length := Nat.mod_lt _ (by omega)
    have e1 : decide (((h + N) % l.length + l.length - h) % l.length < N) = true := decide_eq_true (by omega)
    have e2 : decide (l.length ≤ N) = true := decide_eq_true (by omega)
    simp only [e1, e2]
end Ck
end Go.Proofs.Ytcindpblgbpcoaa
