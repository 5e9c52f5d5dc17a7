/- LAYER 9, plain: what the laws say of a sweep. No condition. -/
import Derived.Test.YthhialnnhhemaaaClockPlain
namespace Go.Proofs.Ythhialnnhhemaaa
open Go.RowKit
set_option linter.unusedVariables false
namespace Ck
/-- the sweep: the frames, who goes, the hand -/
def sweep (l : List Fr) (h : Nat) : Option (List Fr × Nat) := (stop l h).map fun N => (after l h N, (h + N) % l.length)
theorem stop_none_iff {l : List Fr} {h : Nat} (hh : h < l.length) : stop l h = none ↔ ∀ f ∈ l, free f = false := by
  unfold stop
  constructor
  · intro e
    cases h1 : first fresh l h with
    | some d => rw [h1] at e; simp at e
    | none =>
      rw [h1] at e
      simp only [Option.map_eq_none_iff] at e
      exact (first_none_all hh).1 e
  · intro e
    rw [(first_none_all hh).2 (fun f hf => by have := e f hf; unfold free at this; unfold fresh; rw [this]; rfl)]
    simp only [Option.map_eq_none_iff]
    exact (first_none_all hh).2 e
theorem modlt {x n : Nat} (h : x < n) : x % n = x := Nat.mod_eq_of_lt h
theorem modge {x n : Nat} (h : n ≤ x) (h2 : x < 2 * n) : x % n = x - n := by rw [Nat.mod_eq_sub_mod h, Nat.mod_eq_of_lt (by omega)]
/-- what a stop means -/
theorem stop_cases {l : List Fr} {h N : Nat} (hh : h < l.length) (e : stop l h = some N) :
    (N < l.length ∧ fresh (l.getD ((h + N) % l.length) default) = true ∧ ∀ j, j < N → fresh (l.getD ((h + j) % l.length) default) = false) ∨
    (l.length ≤ N ∧ N < 2 * l.length ∧ (∀ f ∈ l, fresh f = false) ∧ free (l.getD ((h + N) % l.length) default) = true) := by
  unfold stop at e
  cases h1 : first fresh l h with
  | some d =>
    rw [h1] at e
    obtain rfl : d = N := by simpa using e
    exact .inl (first_iff.1 h1)
  | none =>
    rw [h1] at e
    simp only [Option.map_eq_some_iff] at e
    obtain ⟨d, hd, rfl⟩ := e
    obtain ⟨a, b, c⟩ := first_iff.1 hd
    refine .inr ⟨by omega, by omega, (first_none_all hh).1 h1, ?_⟩
    rw [show h + (l.length + d) = h + d + l.length by omega, Nat.add_mod_right]
    exact b
theorem stop_lt {l : List Fr} {h N : Nat} (hh : h < l.length) (e : stop l h = some N) : N < 2 * l.length := by
  rcases stop_cases hh e with h1 | h1 <;> omega

theorem trail_arith {n h i N k : Nat} (hh : h < n) (hi : i < n) (hN : N < n) (hc : ¬ (i + n - h) % n < N) (he : ¬ (i + n - h) % n = N) (hb : ((h + N + 1) % n + n - 1 - i) % n < k + 1) : (h + n - 1 - i) % n < k := by
  have hd : (i + n - h) % n < n := Nat.mod_lt _ (by omega)
  by_cases h1 : i < h
  · rw [modlt (show i + n - h < n by omega)] at hc he hd
    by_cases h2 : h + N + 1 < n
    · rw [modlt h2] at hb
      by_cases h3 : h + N + 1 + n - 1 - i < n
      · omega
      · rw [modge (show n ≤ h + N + 1 + n - 1 - i by omega) (by omega)] at hb
        rw [modge (show n ≤ h + n - 1 - i by omega) (by omega)]
        omega
    · rw [modge (show n ≤ h + N + 1 by omega) (by omega)] at hb
      by_cases h3 : h + N + 1 - n + n - 1 - i < n
      · rw [modlt h3] at hb
        rw [modge (show n ≤ h + n - 1 - i by omega) (by omega)]
        omega
      · omega
  · rw [modge (show n ≤ i + n - h by omega) (by omega)] at hc he hd
    have h2 : h + N + 1 < n := by omega
    rw [modlt h2] at hb
    by_cases h3 : h + N + 1 + n - 1 - i < n
    · rw [modlt h3] at hb
      rw [modlt (show h + n - 1 - i < n by omega)]
      omega
    · omega
/-- of the last k places behind the hand none is used -/
def Trail (l : List Fr) (h k : Nat) : Prop := ∀ i (hi : i < l.length), (h + l.length - 1 - i) % l.length < k → l[i].used = false
theorem Trail.sweep {l : List Fr} {h k N : Nat} (hh : h < l.length) (h0 : ∀ f ∈ l, f.pins = 0) (ht : Trail l h k) (e : stop l h = some N) : Trail (after l h N) ((h + N + 1) % l.length) (k + 1) := by
  intro i hi hb
  rw [after_length] at hi hb
  rw [after_get _ _ _ _ hi]
  have hp : (l[i].pins == 0) = true := by simpa using h0 _ (List.getElem_mem hi)
  unfold clearAt
  rw [hp, Bool.true_and]
  by_cases hc : (i + l.length - h) % l.length < N
  · rw [decide_eq_true hc]; rfl
  · rw [decide_eq_false hc]
    simp only [Bool.false_eq_true, if_false]
    have hd : (i + l.length - h) % l.length < l.length := Nat.mod_lt _ (by omega)
    rcases stop_cases hh e with ⟨hN, hf, _⟩ | ⟨hN, _⟩
    · by_cases he : (i + l.length - h) % l.length = N
      · rw [← (dist_inj hh hi hN).1 he, getD_eq hi] at hf
        unfold fresh at hf
        rw [hp, Bool.true_and] at hf
        simpa using hf
      · apply ht i hi
        exact trail_arith hh hi hN hc he hb
    · omega
theorem Trail.all {l : List Fr} {h k : Nat} (hh : h < l.length) (ht : Trail l h k) (hk : l.length ≤ k) : ∀ f ∈ l, f.used = false := by
  intro f hf
  obtain ⟨i, hi, rfl⟩ := List.getElem_of_mem hf
  exact ht i hi (by have := Nat.mod_lt (h + l.length - 1 - i) (show 0 < l.length by omega); omega)
theorem stop_unused {l : List Fr} {h : Nat} (hh : h < l.length) (h0 : ∀ f ∈ l, f.pins = 0) (hu : ∀ f ∈ l, f.used = false) : stop l h = some 0 := by
  unfold stop
  have e : first fresh l h = some 0 := by
    apply first_some (by omega)
    · rw [getD_eq (mod_lt' hh)]
      unfold fresh
      rw [h0 _ (List.getElem_mem _), hu _ (List.getElem_mem _)]
      rfl
    · intro j hj; omega
  rw [e]
theorem stop_free {l : List Fr} {h : Nat} (hh : h < l.length) (hf : ∃ f ∈ l, f.pins = 0) : ∃ N, stop l h = some N := by
  cases e : stop l h with
  | some N => exact ⟨N, rfl⟩
  | none =>
    obtain ⟨f, hf, h0⟩ := hf
    have := (stop_none_iff hh).1 e f hf
    unfold free at this
    rw [h0] at this
    simp at this
theorem after_pins {l : List Fr} {h N : Nat} (h0 : ∀ f ∈ l, f.pins = 0) : ∀ f ∈ after l h N, f.pins = 0 := by
  intro f hf
  obtain ⟨i, hi, rfl⟩ := List.getElem_of_mem hf
  rw [after_length] at hi
  rw [after_get _ _ _ _ hi, clear_pins]
  exact h0 _ (List.getElem_mem hi)
/-- frames of which at most one, the k-th, is used; of the others some are gone -/
structure Tch (l : List Fr) (n k : Nat) (gone : Nat → Bool) : Prop where
  len : l.length = n
  page : ∀ i (h : i < l.length), l[i].page = 0
  pins : ∀ i (h : i < l.length), l[i].pins = if gone i then 1 else 0
  used : ∀ i (h : i < l.length), i ≠ k → l[i].used = false
  stays : gone k = false
theorem touch_length (l : List Fr) (k : Nat) : (touch l k).length = l.length := by simp [touch]
theorem touch_get (l : List Fr) (k i : Nat) (hi : i < l.length) : (touch l k)[i]'(by rw [touch_length]; exact hi) = if k = i then { l[i] with used := true } else l[i] := by
  unfold touch; rw [List.getElem_modify]
theorem Tch.touch {l : List Fr} {n k : Nat} {gone : Nat → Bool} (h : Tch l n k gone) : Tch (touch l k) n k gone := by
  refine ⟨by rw [touch_length]; exact h.len, ?_, ?_, ?_, h.stays⟩
  · intro i hi; rw [touch_length] at hi; rw [touch_get _ _ _ hi]; split <;> exact h.page i hi
  · intro i hi; rw [touch_length] at hi; rw [touch_get _ _ _ hi]; split <;> exact h.pins i hi
  · intro i hi hne; rw [touch_length] at hi; rw [touch_get _ _ _ hi, if_neg (fun e => hne e.symm)]; exact h.used i hi hne
/-- as long as another one is there it goes ahead of the k-th -/
theorem Tch.goes {l : List Fr} {n k h N : Nat} {gone : Nat → Bool} (ht : Tch l n k gone) (hh : h < n) (hk : k < n) (hu : (l[k]'(by rw [ht.len]; exact hk)).used = true) (hex : ∃ i, i < n ∧ i ≠ k ∧ gone i = false) (e : stop l h = some N) :
    (h + N) % n ≠ k ∧ gone ((h + N) % n) = false ∧ N < n := by
  obtain ⟨i, hi, hne, hg⟩ := hex
  have hl := ht.len
  have hil : i < l.length := by omega
  have hfi : fresh l[i] = true := by
    unfold fresh
    rw [ht.pins i hil, hg, ht.used i hil hne]
    rfl
  rcases stop_cases (by omega) e with ⟨hN, hf, _⟩ | ⟨_, _, hf, _⟩
  · have hm : (h + N) % n < n := Nat.mod_lt _ (by omega)
    rw [hl] at hf hN
    rw [getD_eq (by omega)] at hf
    unfold fresh at hf
    rw [Bool.and_eq_true] at hf
    obtain ⟨f1, f2⟩ := hf
    refine ⟨?_, ?_, hN⟩
    · intro e
      have : (l[(h + N) % n]'(by omega)).used = true := by simp only [e]; exact hu
      rw [this] at f2
      exact Bool.noConfusion f2
    · rw [ht.pins _ (by omega)] at f1
      cases hgg : gone ((h + N) % n) with
      | false => rfl
      | true => rw [hgg] at f1; simp at f1
  · have := hf _ (List.getElem_mem hil)
    rw [hfi] at this
    exact Bool.noConfusion this
/-- when all others are gone the k-th goes -/
theorem Tch.least {l : List Fr} {n k h N : Nat} {gone : Nat → Bool} (ht : Tch l n k gone) (hh : h < n) (hk : k < n) (hall : ∀ i, i < n → i ≠ k → gone i = true) (e : stop l h = some N) : (h + N) % n = k := by
  have hl := ht.len
  have hm : (h + N) % n < n := Nat.mod_lt _ (by omega)
  have hfr : free (l.getD ((h + N) % l.length) default) = true := by
    rcases stop_cases (by omega) e with ⟨hN, hf, _⟩ | ⟨_, _, _, hf⟩
    · unfold fresh at hf; rw [Bool.and_eq_true] at hf; exact hf.1
    · exact hf
  rw [hl, getD_eq (by omega)] at hfr
  unfold free at hfr
  by_cases e : (h + N) % n = k
  · exact e
  · rw [ht.pins _ (by omega), hall _ hm e] at hfr
    simp at hfr
theorem Tch.sweep {l : List Fr} {n k h N : Nat} {gone : Nat → Bool} (ht : Tch l n k gone) (hne : (h + N) % n ≠ k) (hm : (h + N) % n < n) :
    Tch ((after l h N).modify ((h + N) % n) fun f => { f with pins := 1 }) n k (fun i => gone i || i == (h + N) % n) := by
  have hl := ht.len
  have hlen : ((after l h N).modify ((h + N) % n) fun f => { f with pins := 1 }).length = l.length := by rw [List.length_modify, after_length]
  refine ⟨by rw [hlen]; exact hl, ?_, ?_, ?_, ?_⟩
  · intro i hi
    rw [hlen] at hi
    rw [List.getElem_modify, after_get _ _ _ _ hi]
    split
    · simp only; rw [clear_page]; exact ht.page i hi
    · rw [clear_page]; exact ht.page i hi
  · intro i hi
    rw [hlen] at hi
    rw [List.getElem_modify, after_get _ _ _ _ hi]
    split
    · rename_i e; subst e; simp
    · rename_i e
      rw [clear_pins, ht.pins i hi]
      have : (i == (h + N) % n) = false := by rw [beq_eq_false_iff_ne]; exact fun e2 => e e2.symm
      rw [this, Bool.or_false]
  · intro i hi hne2
    rw [hlen] at hi
    rw [List.getElem_modify, after_get _ _ _ _ hi]
    have hc : (clearAt l h N i l[i]).used = false := by
      cases hcu : (clearAt l h N i l[i]).used with
      | false => rfl
      | true => have := clear_used _ _ _ _ _ hcu; rw [ht.used i hi hne2] at this; exact Bool.noConfusion this
    split
    · simp only; exact hc
    · exact hc
  · simp only [ht.stays, Bool.false_or]
    rw [beq_eq_false_iff_ne]
    exact fun e => hne e.symm
/-- how many are gone -/
def goneN (gone : Nat → Bool) (n : Nat) : Nat := (List.range n).countP gone
theorem goneN_add {gone : Nat → Bool} {n m : Nat} (hm : m < n) (hg : gone m = false) : goneN (fun i => gone i || i == m) n = goneN gone n + 1 := by
  unfold goneN
  induction n with
  | zero => omega
  | succ n ih =>
    rw [List.range_succ, List.countP_append, List.countP_append]
    by_cases e : m = n
    · subst e
      have h1 : (List.range m).countP (fun i => gone i || i == m) = (List.range m).countP gone := by
        apply List.countP_congr
        intro i hi
        have : i < m := by simpa using hi
        have : (i == m) = false := by rw [beq_eq_false_iff_ne]; omega
        rw [this, Bool.or_false]
      rw [h1]
      simp [hg]
    · rw [ih (by omega)]
      have : (n == m) = false := by rw [beq_eq_false_iff_ne]; omega
      simp [this]
      omega
theorem goneN_le {gone : Nat → Bool} {n k : Nat} (hk : k < n) (hg : gone k = false) : goneN gone n < n := by
  unfold goneN
  have := List.countP_le_length (p := gone) (l := List.range n)
  rw [List.length_range] at this
  have h2 : (List.range n).countP gone ≠ n := by
    intro e
    have := List.countP_eq_length (p := gone) (l := List.range n)
    rw [List.length_range] at this
    have := this.1 e k (by simpa using hk)
    rw [hg] at this
    exact Bool.noConfusion this
  omega
theorem gone_ex {gone : Nat → Bool} {n k : Nat} (hk : k < n) (hg : gone k = false) (h : goneN gone n + 1 < n) : ∃ i, i < n ∧ i ≠ k ∧ gone i = false := by
  apply Classical.byContradiction
  intro hno
  have h1 : ∀ i, i < n → i ≠ k → gone i = true := by
    intro i hi hne
    cases hgi : gone i with
    | true => rfl
    | false => exact absurd ⟨i, hi, hne, hgi⟩ hno
  have h2 : goneN (fun i => gone i || i == k) n = n := by
    unfold goneN
    have := List.countP_eq_length (p := fun i => gone i || i == k) (l := List.range n)
    rw [List.length_range] at this
    apply this.2
    intro i hi
    by_cases e : i = k
    · simp [e]
    · rw [h1 i (by simpa using hi) e]; rfl
  rw [goneN_add hk hg] at h2
  omega
theorem gone_all {gone : Nat → Bool} {n k : Nat} (hk : k < n) (hg : gone k = false) (h : goneN gone n + 1 = n) : ∀ i, i < n → i ≠ k → gone i = true := by
  have h2 : goneN (fun i => gone i || i == k) n = n := by rw [goneN_add hk hg]; exact h
  unfold goneN at h2
  have := List.countP_eq_length (p := fun i => gone i || i == k) (l := List.range n)
  rw [List.length_range] at this
  intro i hi hne
  have h3 := this.1 h2 i (by simpa using hi)
  have h4 : (i == k) = false := by rw [beq_eq_false_iff_ne]; exact hne
  rw [h4, Bool.or_false] at h3
  exact h3
end Ck
end Go.Proofs.Ythhialnnhhemaaa
