/- layer 7: tables that come of New, Put and Del, plain. -/
import Derived.Test.YtkiddlkmodclhaaT11
namespace Go.Proofs.Ytkiddlkmodclhaa
set_option linter.unusedVariables false
set_option linter.unusedSimpArgs false
namespace Ta
def RankedT (t : List Sl) (r : Int → Nat) : Prop := ∀ o j, o < 16 → j < 16 → free (at' t o) = false → ahead (at' t o).p j < ahead (at' t o).p o → free (at' t j) = false ∧ r (at' t j).p < r (at' t o).p
structure Kp (t : List Sl) (r : Int → Nat) (N : Nat) : Prop where
  len : t.length = 16
  ok : ∀ s ∈ nf t, isP s.p = true ∧ isF s.f = true
  rk : RankedT t r
  hi : ∀ s ∈ nf t, r s.p < N
theorem nf_at {t : List Sl} {s : Sl} (hl : t.length = 16) : s ∈ nf t ↔ ∃ k, k < 16 ∧ at' t k = s ∧ free s = false := by
  unfold nf
  rw [List.mem_filter]
  constructor
  · rintro ⟨h1, h2⟩
    obtain ⟨k, hk, rfl⟩ := List.getElem_of_mem h1
    exact ⟨k, by omega, at_get hk, by simpa using h2⟩
  · rintro ⟨k, hk, rfl, h2⟩
    rw [at_get (by omega)] at h2 ⊢
    exact ⟨List.getElem_mem _, by simpa using h2⟩
theorem kp_seek {t : List Sl} {r : Int → Nat} {N : Nat} (h : Kp t r N) {k : Nat} (hk : k < 16) (hf : free (at' t k) = false) : seek t (at' t k).p = (k : Nat) := by
  have e := seek_at (t := t) (p := (at' t k).p) (i := ahead (at' t k).p k) ahead_lt (by rw [pl_ahead hk]; unfold hit; simp) (fun j hj => by
    have hpl := pl_lt (p := (at' t k).p) (i := j)
    have hj16 : j < 16 := by have := ahead_lt (p := (at' t k).p) (i := k); omega
    have haj : ahead (at' t k).p (pl (at' t k).p j) = j := (ahead_pl hj16 rfl).symm
    obtain ⟨g1, g2⟩ := h.rk k _ hk hpl hf (by rw [haj]; exact hj)
    unfold hit
    rw [g1, Bool.or_false, beq_eq_false_iff_ne]
    intro ee
    rw [ee] at g2; omega)
  rw [pl_ahead hk] at e
  exact e
theorem kp_right {t : List Sl} {r : Int → Nat} {N : Nat} (h : Kp t r N) : right t = true := by
  refine right_iff.2 ⟨h.len, fun k hk => ?_⟩
  unfold okS
  cases hf : free (at' t k)
  · obtain ⟨o1, o2⟩ := h.ok _ ((nf_at h.len).2 ⟨k, hk, rfl, hf⟩)
    rw [o1, o2, kp_seek h hk hf]; simp
  · rfl
theorem kp_in {t : List Sl} {r : Int → Nat} {N : Nat} (h : Kp t r N) {s : Sl} (hs : s ∈ nf t) : ∃ k, k < 16 ∧ at' t k = s ∧ slot t s.p = (((k : Nat) : Int), true) ∧ find t s.p = (s.f, true) := by
  obtain ⟨k, hk, e, hf⟩ := (nf_at h.len).1 hs
  have hP := (h.ok _ hs).1
  have hsk : seek t s.p = (k : Nat) := by rw [← e]; exact kp_seek h hk (by rw [e]; exact hf)
  have hsl : slot t s.p = (((k : Nat) : Int), true) := by
    unfold slot
    rw [if_pos hP, hsk, Int.toNat_natCast, e, decide_eq_true ⟨by omega, rfl⟩]
  refine ⟨k, hk, e, hsl, ?_⟩
  unfold find
  rw [hsl]
  simp only
  rw [if_pos ⟨kp_right h, trivial⟩, Int.toNat_natCast, e]
theorem kp_out {t : List Sl} {r : Int → Nat} {N : Nat} (h : Kp t r N) {q : Int} (hq : 1 ≤ q) (hs : ∀ s ∈ nf t, s.p ≠ q) : (slot t q).2 = false ∧ find t q = (0, false) := by
  have : (slot t q).2 = false := by
    unfold slot
    split
    · simp only [decide_eq_false_iff_not]
      rintro ⟨h1, h2⟩
      rcases seek_range (t := t) (p := q) with hr | ⟨i, hi, hr, _, _⟩
      · rw [hr] at h1; omega
      · rw [hr, Int.toNat_natCast] at h2
        refine hs _ ((nf_at h.len).2 ⟨_, pl_lt, rfl, ?_⟩) h2
        unfold free
        rw [h2, Bool.and_eq_false_iff]
        left
        rw [beq_eq_false_iff_ne]; omega
    · rfl
  refine ⟨this, ?_⟩
  unfold find
  rw [this, if_neg (by simp)]
theorem kp_new : Kp (List.replicate 16 z) (fun _ => 0) 0 := by
  have e : nf (List.replicate 16 z) = [] := by decide +kernel
  refine ⟨by simp, by rw [e]; simp, ?_, by rw [e]; simp⟩
  intro o j ho hj hf
  have : at' (List.replicate 16 z) o = z := by rw [at_get (by simpa using ho)]; exact List.eq_of_mem_replicate (List.getElem_mem _)
  rw [this] at hf; cases hf
theorem kp_room {t : List Sl} (hl : t.length = 16) {p : Int} (hs : (nf t).length < 16) : 0 ≤ seek t p := by
  rcases seek_range (t := t) (p := p) with hr | ⟨i, hi, hr, _, _⟩
  · exfalso
    have hall : ∀ s ∈ t, (!free s) = true := by
      intro s hm
      obtain ⟨k, hk, rfl⟩ := List.getElem_of_mem hm
      have hn : hit t p (pl p (ahead p k)) = false := by
        unfold seek at hr
        split at hr
        · omega
        · rename_i hnone
          rw [List.find?_eq_none] at hnone
          simpa using hnone _ (List.mem_range.2 (ahead_lt (p := p) (i := k)))
      rw [pl_ahead (by omega), ] at hn
      unfold hit at hn
      rw [Bool.or_eq_false_iff, at_get hk] at hn
      rw [hn.2]; rfl
    have : nf t = t := by unfold nf; rw [List.filter_eq_self]; exact hall
    rw [this] at hs; omega
  · rw [hr]; omega
theorem kp_full {t : List Sl} (hl : t.length = 16) {p : Int} (hs : (nf t).length = 16) (hno : ∀ s ∈ nf t, s.p ≠ p) : seek t p = -1 := by
  have e : nf t = t := by
    unfold nf
    exact (List.filter_sublist).eq_of_length (by unfold nf at hs; omega)
  refine seek_none (fun j hj => ?_)
  have hpl := pl_lt (p := p) (i := j)
  have hm : at' t (pl p j) ∈ nf t := by rw [e, at_get (by omega)]; exact List.getElem_mem _
  have hf : free (at' t (pl p j)) = false := by
    unfold nf at hm
    have := (List.mem_filter.1 hm).2
    simpa using this
  unfold hit
  rw [hf, Bool.or_false, beq_eq_false_iff_ne]
  exact hno _ hm
theorem kp_put {t : List Sl} {r : Int → Nat} {N : Nat} (h : Kp t r N) {p f : Int} (hp : isP p = true) (hf : isF f = true) (hno : ∀ s ∈ nf t, s.p ≠ p) (hs : (nf t).length < 16) : ∃ u r', put t p f = (u, 0) ∧ Kp u r' (N + 1) ∧ (nf u).Perm (⟨p, f⟩ :: nf t) := by
  have hr := kp_right h
  have hP1 : 1 ≤ p := by unfold isP at hp; simp at hp; exact hp.1
  have hsl := (kp_out h hP1 hno).1
  have hroom := kp_room h.len (p := p) hs
  have h2 : (put t p f).2 = 0 := by
    unfold put
    rw [if_neg (by rw [hr, hp, hf]; simp), if_neg (by rw [hsl]; simp), if_neg (by omega)]
  obtain ⟨_, _, _, i, hi, hse, hfr, hnh, e⟩ := put_ok h2
  obtain ⟨k, hk⟩ : ∃ k, k = pl p i := ⟨_, rfl⟩
  have hk16 : k < 16 := by rw [hk]; exact pl_lt
  rw [← hk] at hfr e
  have hkl : k < t.length := by rw [h.len]; exact hk16
  have hfx : free (⟨p, f⟩ : Sl) = false := isP_free hp
  have hperm : (nf (t.set k ⟨p, f⟩)).Perm (⟨p, f⟩ :: nf t) := nf_set hkl (by rw [← at_get hkl]; exact hfr) hfx
  have hak : ahead p k = i := by rw [hk]; exact (ahead_pl hi rfl).symm
  refine ⟨_, fun q => if q = p then N else r q, e, ⟨by simpa using h.len, ?_, ?_, ?_⟩, hperm⟩
  · intro s hm
    rcases List.mem_cons.1 (hperm.mem_iff.1 hm) with rfl | hm
    · exact ⟨hp, hf⟩
    · exact h.ok s hm
  · intro o j ho hj hfo hw
    rw [at_set hkl] at hfo hw ⊢
    rw [at_set hkl]
    by_cases eo : o = k
    · rw [if_pos eo] at hw hfo ⊢
      simp only at hw ⊢
      have hjk : j ≠ k := fun ee => by rw [ee, eo] at hw; omega
      rw [if_neg hjk]
      rw [eo, hak] at hw
      have hh := hnh (ahead p j) hw
      rw [pl_ahead hj] at hh
      unfold hit at hh
      rw [Bool.or_eq_false_iff, beq_eq_false_iff_ne] at hh
      refine ⟨hh.2, ?_⟩
      rw [if_neg hh.1, if_pos trivial]
      exact h.hi _ ((nf_at h.len).2 ⟨j, hj, rfl, hh.2⟩)
    · rw [if_neg eo] at hw hfo ⊢
      obtain ⟨g1, g2⟩ := h.rk o j ho hj hfo hw
      have hjk : j ≠ k := fun ee => by rw [ee, hfr] at g1; cases g1
      rw [if_neg hjk]
      refine ⟨g1, ?_⟩
      show (if (at' t j).p = p then N else r (at' t j).p) < (if (at' t o).p = p then N else r (at' t o).p)
      rw [if_neg (hno _ ((nf_at h.len).2 ⟨j, hj, rfl, g1⟩)), if_neg (hno _ ((nf_at h.len).2 ⟨o, ho, rfl, hfo⟩))]
      exact g2
  · intro s hm
    rcases List.mem_cons.1 (hperm.mem_iff.1 hm) with rfl | hm
    · show (if p = p then N else r p) < N + 1
      rw [if_pos rfl]; omega
    · show (if s.p = p then N else r s.p) < N + 1
      rw [if_neg (hno s hm)]
      have := h.hi s hm; omega
theorem kp_del {t : List Sl} {r : Int → Nat} {N : Nat} (h : Kp t r N) {s : Sl} (hs : s ∈ nf t) : ∃ u, del t s.p = (u, 0) ∧ Kp u r N ∧ (s :: nf u).Perm (nf t) := by
  obtain ⟨k, hk, e, hsl, _⟩ := kp_in h hs
  have hl := h.len
  have hfs : free s = false := by obtain ⟨_, _, _, hf⟩ := (nf_at h.len).1 hs; exact hf
  have hkl : k < t.length := by omega
  have htk : t[k] = s := by rw [← at_get hkl]; exact e
  obtain ⟨F, hF⟩ : ∃ F : Nat → Sl, F = fun o => at' (t.set k z) ((k + o) % 16) := ⟨_, rfl⟩
  have hQ : QF k F = t.set k z := by
    refine List.ext_getElem (by simp [qf_len, hl]) (fun j h1 h2 => ?_)
    have hj : j < 16 := by rw [qf_len] at h1; exact h1
    rw [← at_get h1, ← at_get h2, at_qf hj, hF]
    simp only
    congr 1
    omega
  have F0 : F 0 = z := by rw [hF]; simp only; rw [at_set hkl, if_pos (by omega)]
  have Fo : ∀ o, o < 16 → o ≠ 0 → F o = at' t ((k + o) % 16) := fun o ho h0 => by rw [hF]; simp only; rw [at_set hkl, if_neg (by omega)]
  have hdl : Dl k r F 0 1 (r s.p) := by
    refine ⟨F0, by omega, by omega, ?_, ?_, fun o h1 h2 => by omega, fun o h1 => by omega⟩
    · intro o j ho hj hfo hw hj0
      have ho0 : o ≠ 0 := fun ee => by rw [ee, F0] at hfo; cases hfo
      rw [Fo o ho ho0] at hfo hw ⊢
      rw [Fo j hj hj0]
      exact h.rk _ _ (Nat.mod_lt _ (by decide)) (Nat.mod_lt _ (by decide)) hfo (by rw [w_off hk, w_off hk]; exact hw)
    · intro o ho hfo hw
      have ho0 : o ≠ 0 := fun ee => by rw [ee, F0] at hfo; cases hfo
      rw [Fo o ho ho0] at hfo hw ⊢
      have := (h.rk _ k (Nat.mod_lt _ (by decide)) hk hfo (by
        have h0 := w_off (q := (at' t ((k + o) % 16)).p) (o := 0) hk
        rw [show (k + 0) % 16 = k by omega] at h0
        rw [h0, w_off hk]; exact hw)).2
      rw [e] at this
      exact this
  obtain ⟨G, g1, g2, g3⟩ := delL_ranked hk 15 1 0 _ F (by omega) (by omega) hdl
  rw [hQ, show (k + 0) % 16 = k by omega] at g1
  have hp2 : (s :: nf (t.set k z)).Perm (nf t) := by
    have := nf_del hkl (by rw [htk]; exact hfs)
    rw [htk] at this; exact this
  rw [hQ] at g3
  have hperm : (s :: nf (QF k G)).Perm (nf t) := (g3.cons s).trans hp2
  have hsub : ∀ x ∈ nf (QF k G), x ∈ nf t := fun x hx => hperm.mem_iff.1 (List.mem_cons_of_mem _ hx)
  refine ⟨QF k G, ?_, ⟨qf_len, fun x hx => h.ok x (hsub x hx), ?_, fun x hx => h.hi x (hsub x hx)⟩, hperm⟩
  · unfold del
    rw [hsl]
    simp only
    rw [if_neg (by rw [kp_right h]; simp), if_neg (by simp), Int.toNat_natCast, g1]
  · intro o j ho hj hfo hw
    obtain ⟨o', ho', eo⟩ : ∃ o', o' < 16 ∧ o = (k + o') % 16 := ⟨(o + 16 - k) % 16, Nat.mod_lt _ (by decide), by omega⟩
    obtain ⟨j', hj', ej⟩ : ∃ j', j' < 16 ∧ j = (k + j') % 16 := ⟨(j + 16 - k) % 16, Nat.mod_lt _ (by decide), by omega⟩
    subst eo; subst ej
    rw [at_off hk ho'] at hfo hw ⊢
    rw [at_off hk hj']
    rw [w_off hk, w_off hk] at hw
    exact g2 o' j' ho' hj' hfo hw
def upT (f : Int → Int) (k v : Int) : Int → Int := fun n => if n = k then v else f n
structure Wn (t : List Sl) (w : Int → Int) : Prop where
  f : ∀ s ∈ nf t, (1 ≤ s.p ∧ s.p ≤ 64) ∧ w s.p = s.f ∧ s.f ≠ 0
  b : ∀ q, 1 ≤ q ∧ q ≤ 64 → w q ≠ 0 → ∃ s ∈ nf t, s.p = q
  nd : ((nf t).map Sl.p).Nodup
theorem wn_no {t : List Sl} {w : Int → Int} (h : Wn t w) {q : Int} (hw : w q = 0) : ∀ s ∈ nf t, s.p ≠ q := fun s hs e => by
  obtain ⟨_, h2, h3⟩ := h.f s hs
  rw [e, hw] at h2
  exact h3 h2.symm
theorem wn_find {t : List Sl} {r : Int → Nat} {N : Nat} {w : Int → Int} (hk : Kp t r N) (h : Wn t w) {q : Int} (hq : 1 ≤ q ∧ q ≤ 64) : find t q = (w q, w q != 0) := by
  by_cases e : w q = 0
  · rw [(kp_out hk hq.1 (wn_no h e)).2, e]; rfl
  · obtain ⟨s, hs, rfl⟩ := h.b q hq e
    obtain ⟨_, _, _, _, hf⟩ := kp_in hk hs
    rw [hf, (h.f s hs).2.1]
    have : (s.f != 0) = true := by simpa using (h.f s hs).2.2
    rw [this]
theorem wn_put {t u : List Sl} {w : Int → Int} (h : Wn t w) {p f : Int} (hp : 1 ≤ p ∧ p ≤ 64) (hf : f ≠ 0) (hw : w p = 0) (hperm : (nf u).Perm (⟨p, f⟩ :: nf t)) : Wn u (upT w p f) := by
  have hno := wn_no h hw
  refine ⟨?_, ?_, ?_⟩
  · intro s hs
    rcases List.mem_cons.1 (hperm.mem_iff.1 hs) with rfl | hs
    · exact ⟨hp, by unfold upT; rw [if_pos rfl], hf⟩
    · unfold upT
      rw [if_neg (hno s hs)]
      exact h.f s hs
  · intro q hq hq0
    unfold upT at hq0
    by_cases e : q = p
    · exact ⟨⟨p, f⟩, hperm.mem_iff.2 (by simp), e.symm⟩
    · rw [if_neg e] at hq0
      obtain ⟨s, hs, e2⟩ := h.b q hq hq0
      exact ⟨s, hperm.mem_iff.2 (List.mem_cons_of_mem _ hs), e2⟩
  · rw [(hperm.map Sl.p).nodup_iff, List.map_cons, List.nodup_cons]
    refine ⟨fun hm => ?_, h.nd⟩
    obtain ⟨s, hs, e⟩ := List.mem_map.1 hm
    exact hno s hs e
theorem wn_del {t u : List Sl} {w : Int → Int} (h : Wn t w) {s : Sl} (hperm : (s :: nf u).Perm (nf t)) : Wn u (upT w s.p 0) := by
  have hnd := h.nd
  rw [← (hperm.map Sl.p).nodup_iff, List.map_cons, List.nodup_cons] at hnd
  have hno : ∀ x ∈ nf u, x.p ≠ s.p := fun x hx e => hnd.1 (List.mem_map.2 ⟨x, hx, e⟩)
  refine ⟨?_, ?_, hnd.2⟩
  · intro x hx
    unfold upT
    rw [if_neg (hno x hx)]
    exact h.f x (hperm.mem_iff.1 (List.mem_cons_of_mem _ hx))
  · intro q hq hq0
    unfold upT at hq0
    by_cases e : q = s.p
    · rw [if_pos e] at hq0; exact absurd rfl hq0
    · rw [if_neg e] at hq0
      obtain ⟨x, hx, e2⟩ := h.b q hq hq0
      rcases List.mem_cons.1 (hperm.mem_iff.2 hx) with rfl | hx
      · exact absurd e2.symm e
      · exact ⟨x, hx, e2⟩
theorem wn_new : Wn (List.replicate 16 z) (fun _ => 0) := by
  have e : nf (List.replicate 16 z) = [] := by decide +kernel
  exact ⟨by rw [e]; simp, fun q _ h => absurd rfl h, by rw [e]; simp⟩
theorem nf_pgs {t : List Sl} : (pgs t).length = (nf t).length := by unfold pgs nf; rw [List.length_map]
theorem nf_le {t : List Sl} : (nf t).length ≤ t.length := List.length_filter_le _ _
def Tw (f : Int → Int) : List Int := (List.range 65).map fun k : Nat => f (k : Int)
theorem tw_len {f : Int → Int} : (Tw f).length = 65 := by simp [Tw]
theorem tw_at {f : Int → Int} {n : Int} (hn : 0 ≤ n ∧ n ≤ 64) (h : n.toNat < (Tw f).length) : (Tw f)[n.toNat] = f n := by
  have e : ((n.toNat : Nat) : Int) = n := by omega
  simp only [Tw, List.getElem_map, List.getElem_range, e]
theorem tw_nat {f : Int → Int} {n : Nat} (h : n < (Tw f).length) : (Tw f)[n] = f n := by
  simp only [Tw, List.getElem_map, List.getElem_range]
theorem tw_set {f : Int → Int} {n v : Int} (hn : 0 ≤ n ∧ n ≤ 64) : (Tw f).set n.toNat v = Tw (upT f n v) := by
  refine List.ext_getElem (by simp [tw_len]) (fun k h1 h2 => ?_)
  rw [List.getElem_set]
  simp only [Tw, List.getElem_map, List.getElem_range, upT]
  by_cases e : n.toNat = k
  · rw [if_pos e, if_pos (by omega)]
  · rw [if_neg e, if_neg (by omega)]
end Ta
end Go.Proofs.Ytkiddlkmodclhaa
