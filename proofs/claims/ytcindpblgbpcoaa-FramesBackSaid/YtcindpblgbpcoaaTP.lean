/- layer 7: the contracts: the law's ref, awake; the document's there, Find, Same, Right. -/
import Derived.Test.YtcindpblgbpcoaaT3
namespace Go.Proofs.Ytcindpblgbpcoaa
open Go.RowKit
set_option linter.unusedVariables false
set_option linter.unusedSimpArgs false
namespace Ta
def refM (t : List Sl) : List Sl × Bool := if 40 < t.length then ([], false) else (t, true)
def cnt (t : List Sl) (p : Int) : Nat := (t.map Sl.p).count p
def findM (t : List Sl) (p : Int) : Int := if p = 0 then -1 else match t.findIdx? (fun s => s.p == p) with
  | some i => i
  | none => -1
def okR (t : List Sl) (i : Nat) : Bool := free (at' t i) || (isP (at' t i).p && isF (at' t i).f && decide (cnt t (at' t i).p = 1) && (List.range (ahead (at' t i).p i)).all fun n => (at' t (pl (at' t i).p n)).p != 0)
def rightR (t : List Sl) : Bool := decide (t.length = 16) && (List.range 16).all (okR t)
theorem pl_ahead {p : Int} {i : Nat} (hi : i < 16) : pl p (ahead p i) = i := by unfold pl ahead; omega
theorem ahead_pl {p : Int} {i n : Nat} (hn : n < 16) (h : pl p n = i) : n = ahead p i := by unfold pl at h; unfold ahead; omega
theorem ahead_lt {p : Int} {i : Nat} : ahead p i < 16 := Nat.mod_lt _ (by decide)
theorem free_p {s : Sl} (h : free s = true) : s.p = 0 ∧ s.f = 0 := by unfold free at h; simpa using h
theorem cnt_one {t : List Sl} {p : Int} {i : Nat} (hi : i < t.length) (hp : t[i].p = p) : cnt t p = 1 ↔ ∀ j (hj : j < t.length), t[j].p = p → j = i := by
  unfold cnt
  have e : t.map Sl.p = (t.map Sl.p).take i ++ (t.map Sl.p)[i]'(by simpa using hi) :: (t.map Sl.p).drop (i + 1) := by
    rw [← List.drop_eq_getElem_cons]
    exact (List.take_append_drop i _).symm
  have e2 : (t.map Sl.p).count p = ((t.map Sl.p).take i).count p + 1 + ((t.map Sl.p).drop (i + 1)).count p := by
    conv => lhs; rw [e]
    rw [List.count_append, List.count_cons]
    simp [hp]; omega
  rw [e2]
  constructor
  · intro h j hj hjp
    have h1 : ((t.map Sl.p).take i).count p = 0 := by omega
    have h2 : ((t.map Sl.p).drop (i + 1)).count p = 0 := by omega
    rw [List.count_eq_zero] at h1 h2
    rcases Nat.lt_trichotomy j i with h3 | h3 | h3
    · exact absurd (List.mem_take_iff_getElem.2 ⟨j, by simp; omega, by simpa using hjp⟩) h1
    · exact h3
    · refine absurd ?_ h2
      rw [List.mem_iff_getElem]
      exact ⟨j - (i + 1), by simp; omega, by simp only [List.getElem_drop, List.getElem_map, show i + 1 + (j - (i + 1)) = j by omega]; exact hjp⟩
  · intro h
    have h1 : ((t.map Sl.p).take i).count p = 0 := by
      rw [List.count_eq_zero]
      intro hm
      obtain ⟨j, hj, e⟩ := List.mem_take_iff_getElem.1 hm
      have hj2 : j < t.length := by simp at hj; omega
      have := h j hj2 (by simpa using e)
      simp at hj; omega
    have h2 : ((t.map Sl.p).drop (i + 1)).count p = 0 := by
      rw [List.count_eq_zero]
      intro hm
      obtain ⟨j, hj, e⟩ := List.getElem_of_mem hm
      rw [List.getElem_drop] at e
      have hj2 : i + 1 + j < t.length := by simp at hj; omega
      have := h (i + 1 + j) hj2 (by simpa using e)
      omega
    omega
theorem okR_of {t : List Sl} (ht : t.length = 16) (h : ∀ k, k < 16 → okS t k = true) {i : Nat} (hi : i < 16) : okR t i = true := by
  have h0 := h i hi
  unfold okS at h0
  unfold okR
  cases hf : free (at' t i)
  · rw [hf, Bool.false_or, Bool.and_eq_true, Bool.and_eq_true, decide_eq_true_eq] at h0
    obtain ⟨⟨hP, hF⟩, hs⟩ := h0
    have hil : i < t.length := by omega
    rw [Bool.false_or, hP, hF, Bool.true_and, Bool.true_and, Bool.and_eq_true, decide_eq_true_eq]
    have hP1 : 1 ≤ (at' t i).p := by unfold isP at hP; simp at hP; exact hP.1
    constructor
    · rw [cnt_one hil (by rw [at_get hil])]
      intro j hj hjp
      have hk := h j (by omega)
      unfold okS at hk
      rw [at_get hj, hjp] at hk
      cases hfj : free t[j]
      · rw [hfj, Bool.false_or, Bool.and_eq_true, decide_eq_true_eq] at hk
        have := hk.2.symm.trans hs
        omega
      · have := (free_p hfj).1
        omega
    · rw [List.all_eq_true]
      intro n hn
      rw [List.mem_range] at hn
      rw [bne_iff_ne]
      intro h00
      rcases seek_range (t := t) (p := (at' t i).p) with hr | ⟨m, hm, hr, hh, hno⟩
      · rw [hr] at hs; omega
      · rw [hr] at hs
        have hmi : m = ahead (at' t i).p i := ahead_pl hm (by omega)
        have hn2 := hno n (by omega)
        have hk := h _ (pl_lt (p := (at' t i).p) (i := n))
        unfold okS at hk
        unfold hit at hn2
        rw [Bool.or_eq_false_iff] at hn2
        rw [hn2.2, Bool.false_or, h00] at hk
        exact absurd hk (by simp [isP])
  · rfl
theorem okS_of {t : List Sl} (ht : t.length = 16) (h : ∀ k, k < 16 → okR t k = true) {i : Nat} (hi : i < 16) : okS t i = true := by
  have h0 := h i hi
  unfold okR at h0
  unfold okS
  cases hf : free (at' t i)
  · rw [hf, Bool.false_or, Bool.and_eq_true, Bool.and_eq_true, Bool.and_eq_true, decide_eq_true_eq, List.all_eq_true] at h0
    obtain ⟨⟨⟨hP, hF⟩, hc⟩, hpath⟩ := h0
    rw [Bool.false_or, hP, hF, Bool.true_and, Bool.true_and, decide_eq_true_eq]
    have hil : i < t.length := by omega
    have e := seek_at (t := t) (p := (at' t i).p) (i := ahead (at' t i).p i) ahead_lt
      (by rw [pl_ahead hi]; unfold hit; simp)
      (fun j hj => by
        have hp0 := hpath j (List.mem_range.2 hj)
        have hpl := pl_lt (p := (at' t i).p) (i := j)
        have hpll : pl (at' t i).p j < t.length := by omega
        unfold hit
        rw [Bool.or_eq_false_iff]
        constructor
        · rw [beq_eq_false_iff_ne]
          intro ee
          rw [at_get hpll] at ee
          have := (cnt_one hil (by rw [at_get hil])).1 hc _ hpll ee
          have h2 := ahead_pl (p := (at' t i).p) (n := j) (by have := ahead_lt (p := (at' t i).p) (i := i); omega) this
          omega
        · cases hfj : free (at' t (pl (at' t i).p j))
          · rfl
          · rw [(free_p hfj).1] at hp0; simp at hp0)
    rw [pl_ahead hi] at e
    exact e
  · rfl
theorem right_eq {t : List Sl} : rightR t = right t := by
  rw [Bool.eq_iff_iff, right_iff]
  unfold rightR
  simp only [Bool.and_eq_true, decide_eq_true_eq, List.all_eq_true, List.mem_range]
  constructor
  · rintro ⟨h1, h2⟩; exact ⟨h1, fun k hk => okS_of h1 h2 hk⟩
  · rintro ⟨h1, h2⟩; exact ⟨h1, fun k hk => okR_of h1 h2 hk⟩
end Ta
end Go.Proofs.Ytcindpblgbpcoaa
namespace Go.Proofs.Ytcindpblgbpcoaa
open Go.RowKit
set_option linter.unusedVariables false
set_option linter.unusedSimpArgs false
namespace Ta
theorem pages_len {t : List Sl} (h : right t = true) : (pages t).length = (pgs t).length := by
  unfold pages
  rw [if_pos h, srt_len]
theorem at_set {t : List Sl} {k j : Nat} {x : Sl} (hk : k < t.length) : at' (t.set k x) j = if j = k then x else at' t j := by
  unfold at'
  rw [List.getD_eq_getElem?_getD, List.getD_eq_getElem?_getD, List.getElem?_set]
  by_cases e : k = j
  · rw [if_pos e, if_pos e.symm, if_pos hk]; rfl
  · rw [if_neg e, if_neg (fun h => e h.symm)]
theorem pl_inj {p : Int} {i j : Nat} (hi : i < 16) (hj : j < 16) (h : pl p i = pl p j) : i = j := by unfold pl at h; omega
theorem free_z {s : Sl} (h : free s = true) : s = z := by
  obtain ⟨h1, h2⟩ := free_p h
  cases s; simp only at h1 h2; subst h1; subst h2; rfl
/-- where it is put -/
theorem put_ok {t : List Sl} {p f : Int} (h : (put t p f).2 = 0) : right t = true ∧ isP p = true ∧ isF f = true ∧ ∃ i, i < 16 ∧ seek t p = (pl p i : Nat) ∧ free (at' t (pl p i)) = true ∧ (∀ j, j < i → hit t p (pl p j) = false) ∧ put t p f = (t.set (pl p i) ⟨p, f⟩, 0) := by
  unfold put at h ⊢
  split at h
  · cases h
  rename_i h1
  split at h
  · cases h
  rename_i h2
  split at h
  · cases h
  rename_i h3
  rw [if_neg h1, if_neg h2, if_neg h3]
  simp only [not_or, Bool.not_eq_false] at h1
  refine ⟨h1.1, h1.2.1, h1.2.2, ?_⟩
  rcases seek_range (t := t) (p := p) with hr | ⟨i, hi, hr, hh, hno⟩
  · rw [hr] at h3; omega
  · refine ⟨i, hi, hr, ?_, hno, by rw [hr]; rfl⟩
    unfold slot at h2
    rw [if_pos h1.2.1, hr] at h2
    simp only [Int.toNat_natCast, Bool.not_eq_true, decide_eq_false_iff_not] at h2
    unfold hit at hh
    rw [Bool.or_eq_true] at hh
    rcases hh with hh | hh
    · exact absurd ⟨by omega, by simpa using hh⟩ h2
    · exact hh
theorem right_put {t : List Sl} {p f : Int} {i : Nat} (hr : right t = true) (hp : isP p = true) (hf : isF f = true) (hi : i < 16) (hfr : free (at' t (pl p i)) = true) (hno : ∀ j, j < i → hit t p (pl p j) = false) : right (t.set (pl p i) ⟨p, f⟩) = true ∧ seek (t.set (pl p i) ⟨p, f⟩) p = (pl p i : Nat) := by
  obtain ⟨h1, h2⟩ := right_iff.1 hr
  have hk : pl p i < t.length := by have := pl_lt (p := p) (i := i); omega
  have hs : seek (t.set (pl p i) ⟨p, f⟩) p = (pl p i : Nat) := by
    refine seek_at hi (by unfold hit; rw [at_set hk, if_pos rfl]; simp) (fun j hj => ?_)
    have hne : pl p j ≠ pl p i := fun e => by have := pl_inj (by omega) hi e; omega
    have := hno j hj
    unfold hit at this ⊢
    rw [at_set hk, if_neg hne]
    exact this
  refine ⟨right_iff.2 ⟨by simpa using h1, fun j hj => ?_⟩, hs⟩
  unfold okS
  rw [at_set hk]
  by_cases e : j = pl p i
  · rw [if_pos e, hp, hf, hs, e]; simp
  · rw [if_neg e]
    have h0 := h2 j hj
    unfold okS at h0
    cases hfj : free (at' t j)
    · rw [hfj, Bool.false_or, Bool.and_eq_true, decide_eq_true_eq] at h0
      rw [Bool.false_or, h0.1, Bool.true_and, decide_eq_true_eq]
      rcases seek_range (t := t) (p := (at' t j).p) with hh | ⟨m, hm, hh, hhit, hmno⟩
      · have := h0.2; rw [hh] at this; omega
      · have hmj : pl (at' t j).p m = j := by have := h0.2; rw [hh] at this; omega
        have := seek_at (t := t.set (pl p i) ⟨p, f⟩) (p := (at' t j).p) hm (by
          unfold hit; rw [hmj, at_set hk, if_neg e]; simp) (fun l hl => by
          have hl2 := hmno l hl
          have hne : pl (at' t j).p l ≠ pl p i := fun ee => by
            unfold hit at hl2
            rw [ee, hfr, Bool.or_true] at hl2
            cases hl2
          unfold hit at hl2 ⊢
          rw [at_set hk, if_neg hne]
          exact hl2)
        rw [this, hmj]
    · rfl
theorem delL_free {t : List Sl} {k : Nat} (hr : right t = true) (hk : k < 16) (hf : free (at' t k) = true) : ∀ n, delL k n k t = t
  | 0 => rfl
  | n + 1 => by
    rw [delL]
    obtain ⟨nx, hnx⟩ : ∃ nx, nx = (k + (15 - n)) % 16 := ⟨_, rfl⟩
    rw [← hnx]
    have hn16 : nx < 16 := by omega
    cases hfn : free (at' t nx)
    · rw [if_neg (by simp), if_neg, delL_free hr hk hf n]
      intro hlt
      have h0 := (right_iff.1 hr).2 nx hn16
      unfold okS at h0
      rw [hfn, Bool.false_or, Bool.and_eq_true, decide_eq_true_eq] at h0
      rcases seek_range (t := t) (p := (at' t nx).p) with hh | ⟨m, hm, hh, hhit, hmno⟩
      · have := h0.2; rw [hh] at this; omega
      · have hmj : pl (at' t nx).p m = nx := by have := h0.2; rw [hh] at this; omega
        have hma := ahead_pl hm hmj
        have := hmno (ahead (at' t nx).p k) (by omega)
        unfold hit at this
        rw [pl_ahead hk, hf, Bool.or_true] at this
        cases this
    · rw [if_pos rfl]
theorem back {t : List Sl} {p f : Int} (h : (put t p f).2 = 0) : right (put t p f).1 = true ∧ right t = true ∧ find (put t p f).1 p = (f, true) ∧ del (put t p f).1 p = (t, 0) ∧ (pages (put t p f).1).length = (pages t).length + 1 := by
  obtain ⟨hr, hp, hf, i, hi, hs, hfr, hno, e⟩ := put_ok h
  obtain ⟨hu, hsu⟩ := right_put (f := f) hr hp hf hi hfr hno
  have h16 := (right_iff.1 hr).1
  have hpl := pl_lt (p := p) (i := i)
  have hk : pl p i < t.length := by omega
  rw [e]
  have hslot : slot (t.set (pl p i) ⟨p, f⟩) p = (((pl p i : Nat) : Int), true) := by
    unfold slot
    rw [if_pos hp, hsu, Int.toNat_natCast, at_set hk, if_pos rfl, decide_eq_true ⟨by omega, rfl⟩]
  have hz : t[pl p i] = z := by rw [← at_get hk]; exact free_z hfr
  have hset : t.set (pl p i) z = t := by
    rw [← hz]; exact List.set_getElem_self hk
  refine ⟨hu, hr, ?_, ?_, ?_⟩
  · unfold find
    simp only [hslot]
    rw [if_pos ⟨hu, trivial⟩, Int.toNat_natCast, at_set hk, if_pos rfl]
  · unfold del
    simp only [hslot]
    rw [if_neg (by rw [hu]; simp), if_neg (by simp), Int.toNat_natCast, List.set_set, hset, delL_free hr hpl hfr]
  · rw [pages_len hu, pages_len hr]
    have hP1 : 1 ≤ p := by unfold isP at hp; simp at hp; exact hp.1
    have hfx : free ⟨p, f⟩ = false := by unfold free; simp; omega
    have e1 : t.set (pl p i) ⟨p, f⟩ = t.take (pl p i) ++ ⟨p, f⟩ :: t.drop (pl p i + 1) := List.set_eq_take_append_cons_drop.trans (by rw [if_pos hk])
    have e2 : t = t.take (pl p i) ++ t[pl p i] :: t.drop (pl p i + 1) := by
      rw [← List.drop_eq_getElem_cons]
      exact (List.take_append_drop _ _).symm
    have f1 : (pgs (t.set (pl p i) ⟨p, f⟩)).length = (pgs (t.take (pl p i))).length + ((pgs (t.drop (pl p i + 1))).length + 1) := by
      rw [e1]; unfold pgs
      rw [List.filter_append, List.filter_cons_of_pos (by rw [hfx]; rfl)]
      simp
    have f2 : (pgs t).length = (pgs (t.take (pl p i))).length + (pgs (t.drop (pl p i + 1))).length := by
      conv => lhs; rw [e2]
      unfold pgs
      rw [List.filter_append, List.filter_cons_of_neg (by rw [hz]; decide)]
      simp
    omega
theorem put_err {t : List Sl} {p f : Int} (h : (put t p f).2 ≠ 0) : (put t p f).1 = t := by
  unfold put at h ⊢
  split
  · rfl
  split
  · rfl
  split
  · rfl
  · rename_i h1 h2 h3
    rw [if_neg h1, if_neg h2, if_neg h3] at h
    exact absurd rfl h
end Ta
end Go.Proofs.Ytcindpblgbpcoaa
namespace Go.Proofs.Ytcindpblgbpcoaa
set_option linter.unusedVariables false
set_option linter.unusedSimpArgs false
namespace Ta
def QF (h : Nat) (F : Nat → Sl) : List Sl := (List.range 16).map fun k => F ((k + 16 - h) % 16)
def QH (h : Nat) (L : List Sl) : List Sl := QF h fun o => L.getD o z
theorem qf_len {h : Nat} {F : Nat → Sl} : (QF h F).length = 16 := by simp [QF]
theorem at_qf {h : Nat} {F : Nat → Sl} {k : Nat} (hk : k < 16) : at' (QF h F) k = F ((k + 16 - h) % 16) := by
  rw [at_get (by rw [qf_len]; exact hk)]
  simp [QF]
theorem at_off {h o : Nat} {F : Nat → Sl} (hh : h < 16) (ho : o < 16) : at' (QF h F) ((h + o) % 16) = F o := by
  rw [at_qf (Nat.mod_lt _ (by decide)), show ((h + o) % 16 + 16 - h) % 16 = o by omega]
theorem qf_set {h o : Nat} {F : Nat → Sl} {x : Sl} (hh : h < 16) (ho : o < 16) : (QF h F).set ((h + o) % 16) x = QF h fun j => if j = o then x else F j := by
  refine List.ext_getElem (by simp [qf_len]) (fun k h1 h2 => ?_)
  have hk : k < 16 := by simpa [qf_len] using h2
  rw [List.getElem_set]
  simp only [QF, List.getElem_map, List.getElem_range]
  by_cases e : (h + o) % 16 = k
  · rw [if_pos e, if_pos (by omega)]
  · rw [if_neg e, if_neg (by omega)]
theorem qf_ext {h : Nat} {F G : Nat → Sl} (e : ∀ o, o < 16 → F o = G o) : QF h F = QF h G := by
  unfold QF
  refine List.map_congr_left (fun k _ => e _ (Nat.mod_lt _ (by decide)))
structure Hm (h : Nat) (L : List Sl) : Prop where
  hh : h < 16
  le : L.length ≤ 16
  ok : ∀ s ∈ L, isP s.p = true ∧ isF s.f = true ∧ s.p.toNat % 16 = h
  nd : (L.map Sl.p).Nodup
theorem pl_off {h i : Nat} {p : Int} (hp : p.toNat % 16 = h) (hi : i < 16) : pl p i = (h + i) % 16 := by unfold pl; omega
theorem ahead_off {h o : Nat} {p : Int} (hp : p.toNat % 16 = h) (ho : o < 16) : ahead p ((h + o) % 16) = o := by unfold ahead; omega
theorem getD_lt {L : List Sl} {i : Nat} (hi : i < L.length) : L.getD i z = L[i] := by rw [List.getD_eq_getElem?_getD, List.getElem?_eq_getElem hi]; rfl
theorem getD_ge {L : List Sl} {i : Nat} (hi : L.length ≤ i) : L.getD i z = z := by rw [List.getD_eq_getElem?_getD, List.getElem?_eq_none hi]; rfl
theorem isP_free {s : Sl} (h : isP s.p = true) : free s = false := by
  unfold isP at h
  simp only [decide_eq_true_eq] at h
  unfold free
  rw [Bool.and_eq_false_iff]
  left
  rw [beq_eq_false_iff_ne]
  omega
theorem hit_off {h i : Nat} {L : List Sl} {p : Int} (hm : Hm h L) (hp : p.toNat % 16 = h) (hi : i < 16) : hit (QH h L) p (pl p i) = ((L.getD i z).p == p || free (L.getD i z)) := by
  unfold hit QH
  rw [pl_off hp hi, at_off hm.hh hi]
theorem hm_ne {h : Nat} {L : List Sl} (hm : Hm h L) {i j : Nat} (hi : i < L.length) (hj : j < i) : L[j].p ≠ L[i].p := by
  have := List.pairwise_iff_getElem.1 hm.nd j i (by simp; omega) (by simpa using hi) hj
  simpa using this
theorem seek_Q {h : Nat} {L : List Sl} (hm : Hm h L) {i : Nat} (hi : i < L.length) : seek (QH h L) L[i].p = (((h + i) % 16 : Nat) : Int) := by
  have hle := hm.le
  obtain ⟨o1, o2, o3⟩ := hm.ok _ (List.getElem_mem hi)
  rw [← pl_off o3 (show i < 16 by omega)]
  refine seek_at (by omega) (by rw [hit_off hm o3 (by omega), getD_lt hi]; simp) (fun j hj => ?_)
  rw [hit_off hm o3 (by omega), getD_lt (show j < L.length by omega)]
  rw [Bool.or_eq_false_iff]
  exact ⟨by rw [beq_eq_false_iff_ne]; exact hm_ne hm hi hj, isP_free (hm.ok _ (List.getElem_mem (by omega))).1⟩
theorem right_Q {h : Nat} {L : List Sl} (hm : Hm h L) : right (QH h L) = true := by
  have hh := hm.hh
  refine right_iff.2 ⟨qf_len, fun k hk => ?_⟩
  obtain ⟨o, ho, rfl⟩ : ∃ o, o < 16 ∧ k = (h + o) % 16 := ⟨(k + 16 - h) % 16, Nat.mod_lt _ (by decide), by omega⟩
  unfold okS
  have e : at' (QH h L) ((h + o) % 16) = L.getD o z := at_off hm.hh ho
  rw [e]
  rcases Nat.lt_or_ge o L.length with h1 | h1
  · rw [getD_lt h1]
    obtain ⟨o1, o2, o3⟩ := hm.ok _ (List.getElem_mem h1)
    rw [o1, o2, seek_Q hm h1]; simp
  · rw [getD_ge h1]; rfl
theorem put_Q {h : Nat} {L : List Sl} {p f : Int} (hm : Hm h L) (hp : isP p = true) (hf : isF f = true) (hph : p.toNat % 16 = h) (hn : p ∉ L.map Sl.p) : put (QH h L) p f = if L.length = 16 then (QH h L, 7) else (QH h (L ++ [⟨p, f⟩]), 0) := by
  have hle := hm.le
  have hno : ∀ j, j < L.length → hit (QH h L) p (pl p j) = false := fun j hj => by
    rw [hit_off hm hph (by omega), getD_lt hj, Bool.or_eq_false_iff]
    exact ⟨by rw [beq_eq_false_iff_ne]; exact fun e => hn (List.mem_map.2 ⟨_, List.getElem_mem hj, e⟩), isP_free (hm.ok _ (List.getElem_mem hj)).1⟩
  unfold put
  rw [if_neg (by rw [right_Q hm, hp, hf]; simp)]
  by_cases h16 : L.length = 16
  · have hs : seek (QH h L) p = -1 := seek_none (fun j hj => hno j (by omega))
    rw [if_pos h16, if_neg (by unfold slot; rw [if_pos hp, hs]; simp), if_pos (by rw [hs]; decide)]
  · have hs : seek (QH h L) p = (pl p L.length : Nat) := seek_at (by omega) (by rw [hit_off hm hph (by omega), getD_ge (Nat.le_refl _), Bool.or_eq_true]; exact .inr rfl) hno
    have hP := hp
    unfold isP at hP
    simp only [decide_eq_true_eq] at hP
    have hat : at' (QH h L) (pl p L.length) = z := by
      rw [pl_off hph (by omega)]
      exact (at_off hm.hh (by omega)).trans (getD_ge (Nat.le_refl _))
    rw [if_neg h16, if_neg (by unfold slot; rw [if_pos hp, hs, Int.toNat_natCast, hat]; simp [z]; omega), if_neg (by rw [hs]; omega), hs, Int.toNat_natCast, pl_off hph (by omega)]
    unfold QH
    rw [qf_set hm.hh (by omega)]
    congr 1
    refine qf_ext (fun o ho => ?_)
    simp only [List.getD_eq_getElem?_getD]
    by_cases e : o = L.length
    · rw [if_pos e, e]; simp
    · rw [if_neg e]
      rcases Nat.lt_or_ge o L.length with h1 | h1
      · rw [List.getElem?_append_left h1]
      · rw [List.getElem?_eq_none h1, List.getElem?_eq_none (by simp; omega)]
/-- the one at i is out, the hole went on by m -/
def HL (L : List Sl) (i m : Nat) (o : Nat) : Sl := if o < i then L.getD o z else if o < i + m then L.getD (o + 1) z else if o = i + m then z else L.getD o z
theorem er_getD {L : List Sl} {i o : Nat} : (L.eraseIdx i).getD o z = if o < i then L.getD o z else L.getD (o + 1) z := by
  simp only [List.getD_eq_getElem?_getD, List.getElem?_eraseIdx]
  split <;> rfl
theorem hl_end {h : Nat} {L : List Sl} {i m : Nat} (hm : Hm h L) (hi : i < L.length) (he : L.length ≤ i + m + 1) (hlt : i + m < L.length) : QF h (HL L i m) = QH h (L.eraseIdx i) := by
  have hle := hm.le
  refine qf_ext (fun o ho => ?_)
  try simp only
  rw [er_getD]
  unfold HL
  by_cases h1 : o < i
  · rw [if_pos h1, if_pos h1]
  · rw [if_neg h1, if_neg h1]
    by_cases h2 : o < i + m
    · rw [if_pos h2]
    · rw [if_neg h2]
      by_cases h3 : o = i + m
      · rw [if_pos h3, getD_ge (by omega)]
      · rw [if_neg h3, getD_ge (by omega), getD_ge (by omega)]
theorem stay {h : Nat} {L : List Sl} {i m : Nat} (hm : Hm h L) (h16 : L.length = 16) (him : i + m = 15) : ∀ n, n ≤ i → delL ((h + i) % 16) n ((h + (i + m)) % 16) (QF h (HL L i m)) = QF h (HL L i m)
  | 0, _ => rfl
  | n + 1, hn => by
    rw [delL]
    have e : ((h + i) % 16 + (15 - n)) % 16 = (h + (i - 1 - n)) % 16 := by omega
    have hat : at' (QF h (HL L i m)) ((h + (i - 1 - n)) % 16) = L[i - 1 - n]'(by omega) := by
      rw [at_off hm.hh (by omega)]
      unfold HL
      rw [if_pos (by omega), getD_lt]
    obtain ⟨o1, o2, o3⟩ := hm.ok _ (List.getElem_mem (show i - 1 - n < L.length by omega))
    rw [e, hat, if_neg (by rw [isP_free o1]; simp), if_neg (by rw [ahead_off o3 (by omega), ahead_off o3 (by omega)]; omega)]
    exact stay hm h16 him n (by omega)
theorem delL_Q {h : Nat} {L : List Sl} (hm : Hm h L) {i : Nat} (hi : i < L.length) : ∀ n m, n + m = 15 → i + m < L.length → delL ((h + i) % 16) n ((h + (i + m)) % 16) (QF h (HL L i m)) = QH h (L.eraseIdx i)
  | 0, m, hnm, hlt => by
    have hle := hm.le
    exact hl_end hm hi (by omega) hlt
  | n + 1, m, hnm, hlt => by
    have hle := hm.le
    have hh := hm.hh
    by_cases h16 : i + m = 15
    · have := stay hm (show L.length = 16 by omega) h16 (n + 1) (by omega)
      rw [this]
      exact hl_end hm hi (by omega) hlt
    rw [delL]
    have e : ((h + i) % 16 + (15 - n)) % 16 = (h + (i + (m + 1))) % 16 := by omega
    have hat : at' (QF h (HL L i m)) ((h + (i + (m + 1))) % 16) = L.getD (i + (m + 1)) z := by
      rw [at_off hm.hh (by omega)]
      unfold HL
      rw [if_neg (by omega), if_neg (by omega), if_neg (by omega)]
    rw [e, hat]
    by_cases hl : i + (m + 1) < L.length
    · rw [getD_lt hl]
      obtain ⟨o1, o2, o3⟩ := hm.ok _ (List.getElem_mem hl)
      rw [if_neg (by rw [isP_free o1]; simp), if_pos (by rw [ahead_off o3 (by omega), ahead_off o3 (by omega)]; omega), qf_set hm.hh (by omega), qf_set hm.hh (by omega)]
      have := delL_Q hm hi n (m + 1) (by omega) hl
      rw [← this]
      congr 1
      refine qf_ext (fun o ho => ?_)
      try simp only
      unfold HL
      by_cases c1 : o = i + (m + 1)
      · rw [if_pos c1, if_neg (by omega), if_neg (by omega), if_pos c1]
      · rw [if_neg c1]
        by_cases c2 : o = i + m
        · rw [if_pos c2, if_neg (by omega), if_pos (by omega), c2]; exact (getD_lt hl).symm
        · rw [if_neg c2]
          by_cases c3 : o < i
          · rw [if_pos c3, if_pos c3]
          · rw [if_neg c3, if_neg c3]
            by_cases c4 : o < i + m
            · rw [if_pos c4, if_pos (by omega)]
            · rw [if_neg c4, if_neg c2, if_neg (show ¬ o < i + (m + 1) by omega), if_neg c1]
    · rw [getD_ge (by omega), if_pos (show free z = true from rfl)]
      exact hl_end hm hi (by omega) hlt
theorem del_Q {h : Nat} {L : List Sl} (hm : Hm h L) {i : Nat} (hi : i < L.length) : del (QH h L) L[i].p = (QH h (L.eraseIdx i), 0) ∧ Hm h (L.eraseIdx i) := by
  have hle := hm.le
  have hh := hm.hh
  obtain ⟨o1, o2, o3⟩ := hm.ok _ (List.getElem_mem hi)
  have hsl : slot (QH h L) L[i].p = ((((h + i) % 16 : Nat) : Int), true) := by
    unfold slot
    have e : at' (QH h L) ((h + i) % 16) = L[i] := (at_off hm.hh (by omega)).trans (getD_lt hi)
    rw [if_pos o1, seek_Q hm hi, Int.toNat_natCast, e, decide_eq_true ⟨by omega, rfl⟩]
  constructor
  · unfold del
    simp only [hsl]
    rw [if_neg (by rw [right_Q hm]; simp), if_neg (by simp), Int.toNat_natCast]
    have h0 := delL_Q hm hi 15 0 rfl (by omega)
    have e : (QH h L).set ((h + i) % 16) z = QF h (HL L i 0) := by
      unfold QH
      rw [qf_set hm.hh (by omega)]
      refine qf_ext (fun o ho => ?_)
      try simp only
      unfold HL
      by_cases c1 : o = i
      · rw [if_pos c1, if_neg (by omega), if_neg (by omega), if_pos (by omega)]
      · rw [if_neg c1]
        by_cases c2 : o < i
        · rw [if_pos c2]
        · rw [if_neg c2, if_neg (by omega), if_neg (by omega)]
    rw [e]
    rw [Nat.add_zero] at h0
    rw [h0]
  · have hs := List.eraseIdx_sublist L i
    exact ⟨hm.hh, by have := hs.length_le; omega, fun s hs2 => hm.ok s (hs.subset hs2), hm.nd.sublist (hs.map _)⟩
end Ta
end Go.Proofs.Ytcindpblgbpcoaa
namespace Go.Proofs.Ytcindpblgbpcoaa
set_option linter.unusedVariables false
set_option linter.unusedSimpArgs false
namespace Ta
def W (q : Int) (k0 o : Nat) : Nat := (ahead q k0 + o) % 16
theorem w_off {q : Int} {k0 o : Nat} (hk : k0 < 16) : ahead q ((k0 + o) % 16) = W q k0 o := by unfold W ahead; omega
theorem w_base {q : Int} {k0 : Nat} : ahead q k0 < 16 := ahead_lt
def Ranked (k0 : Nat) (r : Int → Nat) (F : Nat → Sl) : Prop := ∀ o j, o < 16 → j < 16 → free (F o) = false → W (F o).p k0 j < W (F o).p k0 o → free (F j) = false ∧ r (F j).p < r (F o).p
structure Dl (k0 : Nat) (r : Int → Nat) (F : Nat → Sl) (o0 i H : Nat) : Prop where
  a : F o0 = z
  lt : o0 < i
  le : i ≤ 16
  b : ∀ o j, o < 16 → j < 16 → free (F o) = false → W (F o).p k0 j < W (F o).p k0 o → j ≠ o0 → free (F j) = false ∧ r (F j).p < r (F o).p
  c : ∀ o, o < 16 → free (F o) = false → W (F o).p k0 o0 < W (F o).p k0 o → H < r (F o).p
  d : ∀ o, o0 < o → o < i → free (F o) = false → ¬ W (F o).p k0 o0 < W (F o).p k0 o
  e : ∀ o, o < o0 → free (F o) = false → o < W (F o).p k0 o → r (F o).p ≤ H
theorem geo1 {c o0 i o : Nat} (hc : c < 16) (h0 : o0 < i) (hi : i < 16) (ho : o < 16) (h : (c + o0) % 16 < (c + o) % 16) (hn : ¬ (o0 ≤ o ∧ o ≤ i)) : (c + i) % 16 < (c + o) % 16 := by omega
theorem geo2 {c o0 o : Nat} (hc : c < 16) (h0 : o0 < o) (ho : o < 16) (h : o < (c + o) % 16) : (c + o0) % 16 < (c + o) % 16 := by omega
theorem geo3 {c o0 o : Nat} (hc : c < 16) (h0 : o < o0) (ho : o0 < 16) (h : (c + o0) % 16 < (c + o) % 16) : o < (c + o) % 16 := by omega
def mv (F : Nat → Sl) (o0 i : Nat) (j : Nat) : Sl := if j = i then z else if j = o0 then F i else F j
theorem free_z2 : free z = true := rfl
theorem dl_move {k0 : Nat} {r : Int → Nat} {F : Nat → Sl} {o0 i H : Nat} (h : Dl k0 r F o0 i H) (hi : i < 16) (hf : free (F i) = false) (hw : W (F i).p k0 o0 < W (F i).p k0 i) : Dl k0 r (mv F o0 i) i (i + 1) (r (F i).p) := by
  have hlt := h.lt
  have mi : mv F o0 i i = z := by unfold mv; rw [if_pos rfl]
  have m0 : mv F o0 i o0 = F i := by unfold mv; rw [if_neg (by omega), if_pos rfl]
  have mo : ∀ j, j ≠ i → j ≠ o0 → mv F o0 i j = F j := fun j h1 h2 => by unfold mv; rw [if_neg h1, if_neg h2]
  have hH := h.c i hi hf hw
  -- whose way met the old hole, and who is not the mover, has a higher rank than the mover
  have key : ∀ o, o < 16 → o ≠ i → free (F o) = false → W (F o).p k0 o0 < W (F o).p k0 o → r (F i).p < r (F o).p := by
    intro o ho hoi hfo hwo
    have ho0 : o ≠ o0 := fun e => by rw [e] at hwo; omega
    by_cases hb : o0 ≤ o ∧ o ≤ i
    · exact absurd hwo (h.d o (by omega) (by omega) hfo)
    · have := geo1 (w_base (q := (F o).p) (k0 := k0)) hlt hi ho hwo hb
      exact (h.b o i ho hi hfo this (by omega)).2
  refine ⟨mi, by omega, by omega, ?_, ?_, fun o h1 h2 => by omega, ?_⟩
  · intro o j ho hj hfo hwo hji
    by_cases eo : o = i
    · rw [eo, mi] at hfo; cases hfo
    by_cases e0 : o = o0
    · subst e0
      rw [m0] at hfo hwo ⊢
      have hj0 : j ≠ o := fun e => by rw [e] at hwo; omega
      rw [mo j hji hj0]
      exact h.b i j hi hj hf (by omega) hj0
    · rw [mo o eo e0] at hfo hwo ⊢
      by_cases ej : j = o0
      · subst ej
        rw [m0]
        exact ⟨hf, key o ho eo hfo hwo⟩
      · rw [mo j hji ej]
        exact h.b o j ho hj hfo hwo ej
  · intro o ho hfo hwo
    by_cases eo : o = i
    · rw [eo, mi] at hfo; cases hfo
    by_cases e0 : o = o0
    · subst e0
      rw [m0] at hfo hwo ⊢
      omega
    · rw [mo o eo e0] at hfo hwo ⊢
      exact (h.b o i ho hi hfo hwo (by omega)).2
  · intro o ho hfo hwo
    by_cases e0 : o = o0
    · subst e0
      rw [m0]; exact Nat.le_refl _
    · rw [mo o (by omega) e0] at hfo hwo ⊢
      rcases Nat.lt_or_ge o o0 with h1 | h1
      · have := h.e o h1 hfo hwo; omega
      · have := geo2 (w_base (q := (F o).p) (k0 := k0)) (show o0 < o by omega) (by omega) hwo
        exact absurd this (h.d o (by omega) ho hfo)
theorem dl_stay {k0 : Nat} {r : Int → Nat} {F : Nat → Sl} {o0 i H : Nat} (h : Dl k0 r F o0 i H) (hi : i < 16) (hw : ¬ W (F i).p k0 o0 < W (F i).p k0 i) : Dl k0 r F o0 (i + 1) H := by
  have := h.lt
  refine ⟨h.a, by omega, by omega, h.b, h.c, fun o h1 h2 hf => ?_, h.e⟩
  by_cases e : o = i
  · rw [e]; exact hw
  · exact h.d o h1 (by omega) hf
theorem dl_ranked {k0 : Nat} {r : Int → Nat} {F : Nat → Sl} {o0 i H : Nat} (h : Dl k0 r F o0 i H) (he : i = 16 ∨ (i < 16 ∧ free (F i) = true)) : Ranked k0 r F := by
  have hlt := h.lt
  have hle := h.le
  have no : ∀ o, o < 16 → free (F o) = false → ¬ W (F o).p k0 o0 < W (F o).p k0 o := by
    intro o ho hf hw
    have ho0 : o ≠ o0 := fun e => by rw [e] at hw; omega
    by_cases h1 : o0 < o ∧ o < i
    · exact h.d o h1.1 h1.2 hf hw
    · rcases he with e16 | ⟨hi, hfi⟩
      · have hoo : o < o0 := by omega
        have h2 := geo3 (w_base (q := (F o).p) (k0 := k0)) hoo (by omega) hw
        have h3 := h.e o hoo hf h2
        have h4 := h.c o ho hf hw
        omega
      · have hoi : o ≠ i := fun e => by rw [e, hfi] at hf; cases hf
        have h2 := geo1 (w_base (q := (F o).p) (k0 := k0)) hlt hi ho hw (by omega)
        have := (h.b o i ho hi hf h2 (by omega)).1
        rw [hfi] at this; cases this
  intro o j ho hj hf hw
  by_cases e : j = o0
  · subst e; exact absurd hw (no o ho hf)
  · exact h.b o j ho hj hf hw e
def nf (t : List Sl) : List Sl := t.filter fun s => !free s
theorem nf_set {t : List Sl} {k : Nat} {x : Sl} (hk : k < t.length) (h0 : free t[k] = true) (hx : free x = false) : (nf (t.set k x)).Perm (x :: nf t) := by
  have e1 : t.set k x = t.take k ++ x :: t.drop (k + 1) := List.set_eq_take_append_cons_drop.trans (by rw [if_pos hk])
  have e2 : t = t.take k ++ t[k] :: t.drop (k + 1) := by
    rw [← List.drop_eq_getElem_cons]
    exact (List.take_append_drop _ _).symm
  have f2 : nf t = nf (t.take k) ++ nf (t.drop (k + 1)) := by
    conv => lhs; rw [e2]
    unfold nf
    rw [List.filter_append, List.filter_cons_of_neg (by rw [h0]; simp)]
  rw [e1, f2]
  unfold nf
  rw [List.filter_append, List.filter_cons_of_pos (by rw [hx]; rfl)]
  exact List.perm_middle
theorem nf_del {t : List Sl} {k : Nat} (hk : k < t.length) (h0 : free t[k] = false) : (t[k] :: nf (t.set k z)).Perm (nf t) := by
  have h := nf_set (t := t.set k z) (k := k) (x := t[k]) (by simpa using hk) (by simp [free_z2]) h0
  rw [List.set_set, List.set_getElem_self hk] at h
  exact h.symm
theorem nf_move {t : List Sl} {k j : Nat} (hk : k < t.length) (hj : j < t.length) (hkj : k ≠ j) (h0 : free t[k] = true) (hs : free t[j] = false) : (nf ((t.set k t[j]).set j z)).Perm (nf t) := by
  have h1 := nf_set hk h0 hs
  have hj2 : j < (t.set k t[j]).length := by simpa using hj
  have hg : (t.set k t[j])[j] = t[j] := by rw [List.getElem_set, if_neg hkj]
  have h2 := nf_del hj2 (by rw [hg]; exact hs)
  rw [hg] at h2
  exact (h2.trans h1).cons_inv
theorem qf_eq {k0 : Nat} {F : Nat → Sl} {o : Nat} (hk : k0 < 16) (ho : o < 16) : (QF k0 F)[(k0 + o) % 16]'(by rw [qf_len]; omega) = F o := by
  rw [← at_get]; exact at_off hk ho
theorem delL_ranked {k0 : Nat} {r : Int → Nat} (hk : k0 < 16) : ∀ (n i o0 H : Nat) (F : Nat → Sl), n + i = 16 → 1 ≤ i → Dl k0 r F o0 i H → ∃ G, delL k0 n ((k0 + o0) % 16) (QF k0 F) = QF k0 G ∧ Ranked k0 r G ∧ (nf (QF k0 G)).Perm (nf (QF k0 F))
  | 0, i, o0, H, F, hni, h1, h => ⟨F, rfl, dl_ranked h (.inl (by omega)), .refl _⟩
  | n + 1, i, o0, H, F, hni, h1, h => by
    have hi : i < 16 := by omega
    have hlt := h.lt
    have e : (k0 + (15 - n)) % 16 = (k0 + i) % 16 := by omega
    rw [delL, e, at_off hk hi]
    cases hf : free (F i)
    · rw [if_neg (by simp), w_off hk, w_off hk]
      by_cases hw : W (F i).p k0 o0 < W (F i).p k0 i
      · rw [if_pos hw]
        have hx : ((QF k0 F).set ((k0 + o0) % 16) (F i)).set ((k0 + i) % 16) z = QF k0 (mv F o0 i) := by
          rw [qf_set hk (by omega), qf_set hk hi]; rfl
        obtain ⟨G, g1, g2, g3⟩ := delL_ranked hk n (i + 1) i _ _ (by omega) (by omega) (dl_move h hi hf hw)
        rw [hx]
        refine ⟨G, g1, g2, g3.trans ?_⟩
        rw [← hx]
        have hkl : (k0 + o0) % 16 < (QF k0 F).length := by rw [qf_len]; omega
        have hjl : (k0 + i) % 16 < (QF k0 F).length := by rw [qf_len]; omega
        have := nf_move hkl hjl (by omega) (by rw [qf_eq hk (by omega), h.a]; rfl) (by rw [qf_eq hk hi]; exact hf)
        rw [qf_eq hk hi] at this
        exact this
      · rw [if_neg hw]
        exact delL_ranked hk n (i + 1) o0 H F (by omega) (by omega) (dl_stay h hi hw)
    · rw [if_pos rfl]
      exact ⟨F, rfl, dl_ranked h (.inr ⟨hi, hf⟩), .refl _⟩
end Ta
end Go.Proofs.Ytcindpblgbpcoaa
namespace Go.Proofs.Ytcindpblgbpcoaa
set_option linter.unusedVariables false
set_option linter.unusedSimpArgs false
namespace Ta
def RankedT (t : List Sl) (r : Int → Nat) : Prop := ∀ o j, o < 16 → j < 16 → free (at' t o) = false → ahead (at' t o).p j < ahead (at' t o).p o → free (at' t j) = false ∧ r (at' t j).p < r (at' t o).p
structure Kp (t : List Sl) (r : Int → Nat) (N : Nat) : Prop where
  len : t.length = 16
  ok : ∀ s ∈ nf t, isP s.p = true ∧ isF s.f = true
  rk : RankedT t r
  hi : ∀ s ∈ nf t, r s.p < N
theorem nf_at {t : List Sl} {s : Sl} (hl : t.length = 16) : s ∈ nf t ↔ ∃ k, k < 16 ∧ at' t k = s ∧ free s = false := by
  unfold nf
  rw [List.mem_filter]
  constructor
  · rintro ⟨h1, h2⟩
    obtain ⟨k, hk, rfl⟩ := List.getElem_of_mem h1
    exact ⟨k, by omega, at_get hk, by simpa using h2⟩
  · rintro ⟨k, hk, rfl, h2⟩
    rw [at_get (by omega)] at h2 ⊢
    exact ⟨List.getElem_mem _, by simpa using h2⟩
theorem kp_seek {t : List Sl} {r : Int → Nat} {N : Nat} (h : Kp t r N) {k : Nat} (hk : k < 16) (hf : free (at' t k) = false) : seek t (at' t k).p = (k : Nat) := by
  have e := seek_at (t := t) (p := (at' t k).p) (i := ahead (at' t k).p k) ahead_lt (by rw [pl_ahead hk]; unfold hit; simp) (fun j hj => by
    have hpl := pl_lt (p := (at' t k).p) (i := j)
    have hj16 : j < 16 := by have := ahead_lt (p := (at' t k).p) (i := k); omega
    have haj : ahead (at' t k).p (pl (at' t k).p j) = j := (ahead_pl hj16 rfl).symm
    obtain ⟨g1, g2⟩ := h.rk k _ hk hpl hf (by rw [haj]; exact hj)
    unfold hit
    rw [g1, Bool.or_false, beq_eq_false_iff_ne]
    intro ee
    rw [ee] at g2; omega)
  rw [pl_ahead hk] at e
  exact e
theorem kp_right {t : List Sl} {r : Int → Nat} {N : Nat} (h : Kp t r N) : right t = true := by
  refine right_iff.2 ⟨h.len, fun k hk => ?_⟩
  unfold okS
  cases hf : free (at' t k)
  · obtain ⟨o1, o2⟩ := h.ok _ ((nf_at h.len).2 ⟨k, hk, rfl, hf⟩)
    rw [o1, o2, kp_seek h hk hf]; simp
  · rfl
theorem kp_in {t : List Sl} {r : Int → Nat} {N : Nat} (h : Kp t r N) {s : Sl} (hs : s ∈ nf t) : ∃ k, k < 16 ∧ at' t k = s ∧ slot t s.p = (((k : Nat) : Int), true) ∧ find t s.p = (s.f, true) := by
  obtain ⟨k, hk, e, hf⟩ := (nf_at h.len).1 hs
  have hP := (h.ok _ hs).1
  have hsk : seek t s.p = (k : Nat) := by rw [← e]; exact kp_seek h hk (by rw [e]; exact hf)
  have hsl : slot t s.p = (((k : Nat) : Int), true) := by
    unfold slot
    rw [if_pos hP, hsk, Int.toNat_natCast, e, decide_eq_true ⟨by omega, rfl⟩]
  refine ⟨k, hk, e, hsl, ?_⟩
  unfold find
  rw [hsl]
  simp only
  rw [if_pos ⟨kp_right h, trivial⟩, Int.toNat_natCast, e]
theorem kp_out {t : List Sl} {r : Int → Nat} {N : Nat} (h : Kp t r N) {q : Int} (hq : 1 ≤ q) (hs : ∀ s ∈ nf t, s.p ≠ q) : (slot t q).2 = false ∧ find t q = (0, false) := by
  have : (slot t q).2 = false := by
    unfold slot
    split
    · simp only [decide_eq_false_iff_not]
      rintro ⟨h1, h2⟩
      rcases seek_range (t := t) (p := q) with hr | ⟨i, hi, hr, _, _⟩
      · rw [hr] at h1; omega
      · rw [hr, Int.toNat_natCast] at h2
        refine hs _ ((nf_at h.len).2 ⟨_, pl_lt, rfl, ?_⟩) h2
        unfold free
        rw [h2, Bool.and_eq_false_iff]
        left
        rw [beq_eq_false_iff_ne]; omega
    · rfl
  refine ⟨this, ?_⟩
  unfold find
  rw [this, if_neg (by simp)]
theorem kp_new : Kp (List.replicate 16 z) (fun _ => 0) 0 := by
  have e : nf (List.replicate 16 z) = [] := by decide +kernel
  refine ⟨by simp, by rw [e]; simp, ?_, by rw [e]; simp⟩
  intro o j ho hj hf
  have : at' (List.replicate 16 z) o = z := by rw [at_get (by simpa using ho)]; exact List.eq_of_mem_replicate (List.getElem_mem _)
  rw [this] at hf; cases hf
theorem kp_room {t : List Sl} (hl : t.length = 16) {p : Int} (hs : (nf t).length < 16) : 0 ≤ seek t p := by
  rcases seek_range (t := t) (p := p) with hr | ⟨i, hi, hr, _, _⟩
  · exfalso
    have hall : ∀ s ∈ t, (!free s) = true := by
      intro s hm
      obtain ⟨k, hk, rfl⟩ := List.getElem_of_mem hm
      have hn : hit t p (pl p (ahead p k)) = false := by
        unfold seek at hr
        split at hr
        · omega
        · rename_i hnone
          rw [List.find?_eq_none] at hnone
          simpa using hnone _ (List.mem_range.2 (ahead_lt (p := p) (i := k)))
      rw [pl_ahead (by omega), ] at hn
      unfold hit at hn
      rw [Bool.or_eq_false_iff, at_get hk] at hn
      rw [hn.2]; rfl
    have : nf t = t := by unfold nf; rw [List.filter_eq_self]; exact hall
    rw [this] at hs; omega
  · rw [hr]; omega
theorem kp_full {t : List Sl} (hl : t.length = 16) {p : Int} (hs : (nf t).length = 16) (hno : ∀ s ∈ nf t, s.p ≠ p) : seek t p = -1 := by
  have e : nf t = t := by
    unfold nf
    exact (List.filter_sublist).eq_of_length (by unfold nf at hs; omega)
  refine seek_none (fun j hj => ?_)
  have hpl := pl_lt (p := p) (i := j)
  have hm : at' t (pl p j) ∈ nf t := by rw [e, at_get (by omega)]; exact List.getElem_mem _
  have hf : free (at' t (pl p j)) = false := by
    unfold nf at hm
    have := (List.mem_filter.1 hm).2
    simpa using this
  unfold hit
  rw [hf, Bool.or_false, beq_eq_false_iff_ne]
  exact hno _ hm
theorem kp_put {t : List Sl} {r : Int → Nat} {N : Nat} (h : Kp t r N) {p f : Int} (hp : isP p = true) (hf : isF f = true) (hno : ∀ s ∈ nf t, s.p ≠ p) (hs : (nf t).length < 16) : ∃ u r', put t p f = (u, 0) ∧ Kp u r' (N + 1) ∧ (nf u).Perm (⟨p, f⟩ :: nf t) := by
  have hr := kp_right h
  have hP1 : 1 ≤ p := by unfold isP at hp; simp at hp; exact hp.1
  have hsl := (kp_out h hP1 hno).1
  have hroom := kp_room h.len (p := p) hs
  have h2 : (put t p f).2 = 0 := by
    unfold put
    rw [if_neg (by rw [hr, hp, hf]; simp), if_neg (by rw [hsl]; simp), if_neg (by omega)]
  obtain ⟨_, _, _, i, hi, hse, hfr, hnh, e⟩ := put_ok h2
  obtain ⟨k, hk⟩ : ∃ k, k = pl p i := ⟨_, rfl⟩
  have hk16 : k < 16 := by rw [hk]; exact pl_lt
  rw [← hk] at hfr e
  have hkl : k < t.length := by rw [h.len]; exact hk16
  have hfx : free (⟨p, f⟩ : Sl) = false := isP_free hp
  have hperm : (nf (t.set k ⟨p, f⟩)).Perm (⟨p, f⟩ :: nf t) := nf_set hkl (by rw [← at_get hkl]; exact hfr) hfx
  have hak : ahead p k = i := by rw [hk]; exact (ahead_pl hi rfl).symm
  refine ⟨_, fun q => if q = p then N else r q, e, ⟨by simpa using h.len, ?_, ?_, ?_⟩, hperm⟩
  · intro s hm
    rcases List.mem_cons.1 (hperm.mem_iff.1 hm) with rfl | hm
    · exact ⟨hp, hf⟩
    · exact h.ok s hm
  · intro o j ho hj hfo hw
    rw [at_set hkl] at hfo hw ⊢
    rw [at_set hkl]
    by_cases eo : o = k
    · rw [if_pos eo] at hw hfo ⊢
      simp only at hw ⊢
      have hjk : j ≠ k := fun ee => by rw [ee, eo] at hw; omega
      rw [if_neg hjk]
      rw [eo, hak] at hw
      have hh := hnh (ahead p j) hw
      rw [pl_ahead hj] at hh
      unfold hit at hh
      rw [Bool.or_eq_false_iff, beq_eq_false_iff_ne] at hh
      refine ⟨hh.2, ?_⟩
      rw [if_neg hh.1, if_pos trivial]
      exact h.hi _ ((nf_at h.len).2 ⟨j, hj, rfl, hh.2⟩)
    · rw [if_neg eo] at hw hfo ⊢
      obtain ⟨g1, g2⟩ := h.rk o j ho hj hfo hw
      have hjk : j ≠ k := fun ee => by rw [ee, hfr] at g1; cases g1
      rw [if_neg hjk]
      refine ⟨g1, ?_⟩
      show (if (at' t j).p = p then N else r (at' t j).p) < (if (at' t o).p = p then N else r (at' t o).p)
      rw [if_neg (hno _ ((nf_at h.len).2 ⟨j, hj, rfl, g1⟩)), if_neg (hno _ ((nf_at h.len).2 ⟨o, ho, rfl, hfo⟩))]
      exact g2
  · intro s hm
    rcases List.mem_cons.1 (hperm.mem_iff.1 hm) with rfl | hm
    · show (if p = p then N else r p) < N + 1
      rw [if_pos rfl]; omega
    · show (if s.p = p then N else r s.p) < N + 1
      rw [if_neg (hno s hm)]
      have := h.hi s hm; omega
theorem kp_del {t : List Sl} {r : Int → Nat} {N : Nat} (h : Kp t r N) {s : Sl} (hs : s ∈ nf t) : ∃ u, del t s.p = (u, 0) ∧ Kp u r N ∧ (s :: nf u).Perm (nf t) := by
  obtain ⟨k, hk, e, hsl, _⟩ := kp_in h hs
  have hl := h.len
  have hfs : free s = false := by obtain ⟨_, _, _, hf⟩ := (nf_at h.len).1 hs; exact hf
  have hkl : k < t.length := by omega
  have htk : t[k] = s := by rw [← at_get hkl]; exact e
  obtain ⟨F, hF⟩ : ∃ F : Nat → Sl, F = fun o => at' (t.set k z) ((k + o) % 16) := ⟨_, rfl⟩
  have hQ : QF k F = t.set k z := by
    refine List.ext_getElem (by simp [qf_len, hl]) (fun j h1 h2 => ?_)
    have hj : j < 16 := by rw [qf_len] at h1; exact h1
    rw [← at_get h1, ← at_get h2, at_qf hj, hF]
    simp only
    congr 1
    omega
  have F0 : F 0 = z := by rw [hF]; simp only; rw [at_set hkl, if_pos (by omega)]
  have Fo : ∀ o, o < 16 → o ≠ 0 → F o = at' t ((k + o) % 16) := fun o ho h0 => by rw [hF]; simp only; rw [at_set hkl, if_neg (by omega)]
  have hdl : Dl k r F 0 1 (r s.p) := by
    refine ⟨F0, by omega, by omega, ?_, ?_, fun o h1 h2 => by omega, fun o h1 => by omega⟩
    · intro o j ho hj hfo hw hj0
      have ho0 : o ≠ 0 := fun ee => by rw [ee, F0] at hfo; cases hfo
      rw [Fo o ho ho0] at hfo hw ⊢
      rw [Fo j hj hj0]
      exact h.rk _ _ (Nat.mod_lt _ (by decide)) (Nat.mod_lt _ (by decide)) hfo (by rw [w_off hk, w_off hk]; exact hw)
    · intro o ho hfo hw
      have ho0 : o ≠ 0 := fun ee => by rw [ee, F0] at hfo; cases hfo
      rw [Fo o ho ho0] at hfo hw ⊢
      have := (h.rk _ k (Nat.mod_lt _ (by decide)) hk hfo (by
        have h0 := w_off (q := (at' t ((k + o) % 16)).p) (o := 0) hk
        rw [show (k + 0) % 16 = k by omega] at h0
        rw [h0, w_off hk]; exact hw)).2
      rw [e] at this
      exact this
  obtain ⟨G, g1, g2, g3⟩ := delL_ranked hk 15 1 0 _ F (by omega) (by omega) hdl
  rw [hQ, show (k + 0) % 16 = k by omega] at g1
  have hp2 : (s :: nf (t.set k z)).Perm (nf t) := by
    have := nf_del hkl (by rw [htk]; exact hfs)
    rw [htk] at this; exact this
  rw [hQ] at g3
  have hperm : (s :: nf (QF k G)).Perm (nf t) := (g3.cons s).trans hp2
  have hsub : ∀ x ∈ nf (QF k G), x ∈ nf t := fun x hx => hperm.mem_iff.1 (List.mem_cons_of_mem _ hx)
  refine ⟨QF k G, ?_, ⟨qf_len, fun x hx => h.ok x (hsub x hx), ?_, fun x hx => h.hi x (hsub x hx)⟩, hperm⟩
  · unfold del
    rw [hsl]
    simp only
    rw [if_neg (by rw [kp_right h]; simp), if_neg (by simp), Int.toNat_natCast, g1]
  · intro o j ho hj hfo hw
    obtain ⟨o', ho', eo⟩ : ∃ o', o' < 16 ∧ o = (k + o') % 16 := ⟨(o + 16 - k) % 16, Nat.mod_lt _ (by decide), by omega⟩
    obtain ⟨j', hj', ej⟩ : ∃ j', j' < 16 ∧ j = (k + j') % 16 := ⟨(j + 16 - k) % 16, Nat.mod_lt _ (by decide), by omega⟩
    subst eo; subst ej
    rw [at_off hk ho'] at hfo hw ⊢
    rw [at_off hk hj']
    rw [w_off hk, w_off hk] at hw
    exact g2 o' j' ho' hj' hfo hw
def upT (f : Int → Int) (k v : Int) : Int → Int := fun n => if n = k then v else f n
structure Wn (t : List Sl) (w : Int → Int) : Prop where
  f : ∀ s ∈ nf t, (1 ≤ s.p ∧ s.p ≤ 64) ∧ w s.p = s.f ∧ s.f ≠ 0
  b : ∀ q, 1 ≤ q ∧ q ≤ 64 → w q ≠ 0 → ∃ s ∈ nf t, s.p = q
  nd : ((nf t).map Sl.p).Nodup
theorem wn_no {t : List Sl} {w : Int → Int} (h : Wn t w) {q : Int} (hw : w q = 0) : ∀ s ∈ nf t, s.p ≠ q := fun s hs e => by
  obtain ⟨_, h2, h3⟩ := h.f s hs
  rw [e, hw] at h2
  exact h3 h2.symm
theorem wn_find {t : List Sl} {r : Int → Nat} {N : Nat} {w : Int → Int} (hk : Kp t r N) (h : Wn t w) {q : Int} (hq : 1 ≤ q ∧ q ≤ 64) : find t q = (w q, w q != 0) := by
  by_cases e : w q = 0
  · rw [(kp_out hk hq.1 (wn_no h e)).2, e]; rfl
  · obtain ⟨s, hs, rfl⟩ := h.b q hq e
    obtain ⟨_, _, _, _, hf⟩ := kp_in hk hs
    rw [hf, (h.f s hs).2.1]
    have : (s.f != 0) = true := by simpa using (h.f s hs).2.2
    rw [this]
theorem wn_put {t u : List Sl} {w : Int → Int} (h : Wn t w) {p f : Int} (hp : 1 ≤ p ∧ p ≤ 64) (hf : f ≠ 0) (hw : w p = 0) (hperm : (nf u).Perm (⟨p, f⟩ :: nf t)) : Wn u (upT w p f) := by
  have hno := wn_no h hw
  refine ⟨?_, ?_, ?_⟩
  · intro s hs
    rcases List.mem_cons.1 (hperm.mem_iff.1 hs) with rfl | hs
    · exact ⟨hp, by unfold upT; rw [if_pos rfl], hf⟩
    · unfold upT
      rw [if_neg (hno s hs)]
      exact h.f s hs
  · intro q hq hq0
    unfold upT at hq0
    by_cases e : q = p
    · exact ⟨⟨p, f⟩, hperm.mem_iff.2 (by simp), e.symm⟩
    · rw [if_neg e] at hq0
      obtain ⟨s, hs, e2⟩ := h.b q hq hq0
      exact ⟨s, hperm.mem_iff.2 (List.mem_cons_of_mem _ hs), e2⟩
  · rw [(hperm.map Sl.p).nodup_iff, List.map_cons, List.nodup_cons]
    refine ⟨fun hm => ?_, h.nd⟩
    obtain ⟨s, hs, e⟩ := List.mem_map.1 hm
    exact hno s hs e
theorem wn_del {t u : List Sl} {w : Int → Int} (h : Wn t w) {s : Sl} (hperm : (s :: nf u).Perm (nf t)) : Wn u (upT w s.p 0) := by
  have hnd := h.nd
  rw [← (hperm.map Sl.p).nodup_iff, List.map_cons, List.nodup_cons] at hnd
  have hno : ∀ x ∈ nf u, x.p ≠ s.p := fun x hx e => hnd.1 (List.mem_map.2 ⟨x, hx, e⟩)
  refine ⟨?_, ?_, hnd.2⟩
  · intro x hx
    unfold upT
    rw [if_neg (hno x hx)]
    exact h.f x (hperm.mem_iff.1 (List.mem_cons_of_mem _ hx))
  · intro q hq hq0
    unfold upT at hq0
    by_cases e : q = s.p
    · rw [if_pos e] at hq0; exact absurd rfl hq0
    · rw [if_neg e] at hq0
      obtain ⟨x, hx, e2⟩ := h.b q hq hq0
      rcases List.mem_cons.1 (hperm.mem_iff.2 hx) with rfl | hx
      · exact absurd e2.symm e
      · exact ⟨x, hx, e2⟩
theorem wn_new : Wn (List.replicate 16 z) (fun _ => 0) := by
  have e : nf (List.replicate 16 z) = [] := by decide +kernel
  exact ⟨by rw [e]; simp, fun q _ h => absurd rfl h, by rw [e]; simp⟩
theorem nf_pgs {t : List Sl} : (pgs t).length = (nf t).length := by unfold pgs nf; rw [List.length_map]
theorem nf_le {t : List Sl} : (nf t).length ≤ t.length := List.length_filter_le _ _
def Tw (f : Int → Int) : List Int := (List.range 65).map fun k : Nat => f (k : Int)
theorem tw_len {f : Int → Int} : (Tw f).length = 65 := by simp [Tw]
theorem tw_at {f : Int → Int} {n : Int} (hn : 0 ≤ n ∧ n ≤ 64) (h : n.toNat < (Tw f).length) : (Tw f)[n.toNat] = f n := by
  have e : ((n.toNat : Nat) : Int) = n := by omega
  simp only [Tw, List.getElem_map, List.getElem_range, e]
theorem tw_nat {f : Int → Int} {n : Nat} (h : n < (Tw f).length) : (Tw f)[n] = f n := by
  simp only [Tw, List.getElem_map, List.getElem_range]
theorem tw_set {f : Int → Int} {n v : Int} (hn : 0 ≤ n ∧ n ≤ 64) : (Tw f).set n.toNat v = Tw (upT f n v) := by
  refine List.ext_getElem (by simp [tw_len]) (fun k h1 h2 => ?_)
  rw [List.getElem_set]
  simp only [Tw, List.getElem_map, List.getElem_range, upT]
  by_cases e : n.toNat = k
  · rw [if_pos e, if_pos (by omega)]
  · rw [if_neg e, if_neg (by omega)]
end Ta
end Go.Proofs.Ytcindpblgbpcoaa
