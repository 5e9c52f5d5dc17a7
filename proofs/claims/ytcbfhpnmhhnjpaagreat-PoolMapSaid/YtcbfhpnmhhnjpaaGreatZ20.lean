import Derived.Test.YtcbfhpnmhhnjpaaGreatZ19
set_option linter.unusedVariables false
set_option linter.unusedSimpArgs false
namespace Go.Proofs.YtcbfhpnmhhnjpaaGreat
namespace Ta
def RankedT (t : List Sl) (r : Int → Nat) : Prop := ∀ o j, o < 16 → j < 16 → free (at' t o) = false → ahead (at' t o).p j < ahead (at' t o).p o → free (at' t j) = false ∧ r (at' t j).p < r (at' t o).p
structure Kp (t : List Sl) (r : Int → Nat) (N : Nat) : Prop where
  len : t.length = 16
  ok : ∀ s ∈ nf t, isP s.p = true ∧ isF s.f = true
  rk : RankedT t r
  hi : ∀ s ∈ nf t, r s.p < N
theorem nf_at {t : List Sl} {s : Sl} (hl : t.length = 16) : s ∈ nf t ↔ ∃ k, k < 16 ∧ at' t k = s ∧ free s = false := by
  unfold nf
  rw [List.mem_filter]
  constructor
  · rintro ⟨h1, h2⟩
    obtain ⟨k, hk, rfl⟩ := List.getElem_of_mem h1
    exact ⟨k, by omega, at_get hk, by simpa using h2⟩
  · rintro ⟨k, hk, rfl, h2⟩
    rw [at_get (by omega)] at h2 ⊢
    exact ⟨List.getElem_mem _, by simpa using h2⟩
theorem kp_seek {t : List Sl} {r : Int → Nat} {N : Nat} (h : Kp t r N) {k : Nat} (hk : k < 16) (hf : free (at' t k) = false) : seek t (at' t k).p = (k : Nat) := by
  have e := seek_at (t := t) (p := (at' t k).p) (i := ahead (at' t k).p k) ahead_lt (by rw [pl_ahead hk]; unfold hit; simp) (fun j hj => by
    have hpl := pl_lt (p := (at' t k).p) (i := j)
    have hj16 : j < 16 := by have := ahead_lt (p := (at' t k).p) (i := k); omega
    have haj : ahead (at' t k).p (pl (at' t k).p j) = j := (ahead_pl hj16 rfl).symm
    obtain ⟨g1, g2⟩ := h.rk k _ hk hpl hf (by rw [haj]; exact hj)
    unfold hit
    rw [g1, Bool.or_false, beq_eq_false_iff_ne]
    intro ee
    rw [ee] at g2; omega)
  rw [pl_ahead hk] at e
  exact e
theorem kp_right {t : List Sl} {r : Int → Nat} {N : Nat} (h : Kp t r N) : right t = true := by
  refine right_iff.2 ⟨h.len, fun k hk => ?_⟩
  unfold okS
  cases hf : free (at' t k)
  · obtain ⟨o1, o2⟩ := h.ok _ ((nf_at h.len).2 ⟨k, hk, rfl, hf⟩)
    rw [o1, o2, kp_seek h hk hf]; simp
  · rfl
theorem kp_in {t : List Sl} {r : Int → Nat} {N : Nat} (h : Kp t r N) {s : Sl} (hs : s ∈ nf t) : ∃ k, k < 16 ∧ at' t k = s ∧ slot t s.p = (((k : Nat) : Int), true) ∧ find t s.p = (s.f, true) := by
  obtain ⟨k, hk, e, hf⟩ := (nf_at h.len).1 hs
  have hP := (h.ok _ hs).1
  have hsk : seek t s.p = (k : Nat) := by rw [← e]; exact kp_seek h hk (by rw [e]; exact hf)
  have hsl : slot t s.p = (((k : Nat) : Int), true) := by
    unfold slot
    rw [if_pos hP, hsk, Int.toNat_natCast, e, decide_eq_true ⟨by omega, rfl⟩]
  refine ⟨k, hk, e, hsl, ?_⟩
  unfold find
  rw [hsl]
  simp only
  rw [if_pos ⟨kp_right h, trivial⟩, Int.toNat_natCast, e]
theorem kp_out {t : List Sl} {r : Int → Nat} {N : Nat} (h : Kp t r N) {q : Int} (hq : 1 ≤ q) (hs : ∀ s ∈ nf t, s.p ≠ q) : (slot t q).2 = false ∧ find t q = (0, false) := by
  have : (slot t q).2 = false := by
    unfold slot
    split
    · simp only [decide_eq_false_iff_not]
      rintro ⟨h1, h2⟩
      rcases seek_range (t := t) (p := q) with hr | ⟨i, hi, hr, _, _⟩
      · rw [hr] at h1; omega
      · rw [hr, Int.toNat_natCast] at h2
        refine hs _ ((nf_at h.len).2 ⟨_, pl_lt, rfl, ?_⟩) h2
        unfold free
        rw [h2, Bool.and_eq_false_iff]
        left
        rw [beq_eq_false_iff_ne]; omega
    · rfl
  refine ⟨this, ?_⟩
  unfold find
  rw [this, if_neg (by simp)]
theorem kp_room {t : List Sl} (hl : t.length = 16) {p : Int} (hs : (nf t).length < 16) : 0 ≤ seek t p := by
  rcases seek_range (t := t) (p := p) with hr | ⟨i, hi, hr, _, _⟩
  · exfalso
    have hall : ∀ s ∈ t, (!free s) = true := by
      intro s hm
      obtain ⟨k, hk, rfl⟩ := List.getElem_of_mem hm
      have hn : hit t p (pl p (ahead p k)) = false := by
        unfold seek at hr
        split at hr
        · omega
        · rename_i hnone
          rw [List.find?_eq_none] at hnone
          simpa using hnone _ (List.mem_range.2 (ahead_lt (p := p) (i := k)))
      rw [pl_ahead (by omega), ] at hn
      unfold hit at hn
      rw [Bool.or_eq_false_iff, at_get hk] at hn
      rw [hn.2]; rfl
    have : nf t = t := by unfold nf; rw [List.filter_eq_self]; exact hall
    rw [this] at hs; omega
  · rw [hr]; omega
theorem kp_put {t : List Sl} {r : Int → Nat} {N : Nat} (h : Kp t r N) {p f : Int} (hp : isP p = true) (hf : isF f = true) (hno : ∀ s ∈ nf t, s.p ≠ p) (hs : (nf t).length < 16) : ∃ u r', put t p f = (u, 0) ∧ Kp u r' (N + 1) ∧ (nf u).Perm (⟨p, f⟩ :: nf t) := by
  have hr := kp_right h
  have hP1 : 1 ≤ p := by unfold isP at hp; simp at hp; exact hp.1
  have hsl := (kp_out h hP1 hno).1
  have hroom := kp_room h.len (p := p) hs
  have h2 : (put t p f).2 = 0 := by
    unfold put
    rw [if_neg (by rw [hr, hp, hf]; simp), if_neg (by rw [hsl]; simp), if_neg (by omega)]
  obtain ⟨_, _, _, i, hi, hse, hfr, hnh, e⟩ := put_ok h2
  obtain ⟨k, hk⟩ : ∃ k, k = pl p i := ⟨_, rfl⟩
  have hk16 : k < 16 := by rw [hk]; exact pl_lt
  rw [← hk] at hfr e
  have hkl : k < t.length := by rw [h.len]; exact hk16
  have hfx : free (⟨p, f⟩ : Sl) = false := isP_free hp
  have hperm : (nf (t.set k ⟨p, f⟩)).Perm (⟨p, f⟩ :: nf t) := nf_set hkl (by rw [← at_get hkl]; exact hfr) hfx
  have hak : ahead p k = i := by rw [hk]; exact (ahead_pl hi rfl).symm
  refine ⟨_, fun q => if q = p then N else r q, e, ⟨by simpa using h.len, ?_, ?_, ?_⟩, hperm⟩
  · intro s hm
    rcases List.mem_cons.1 (hperm.mem_iff.1 hm) with rfl | hm
    · exact ⟨hp, hf⟩
    · exact h.ok s hm
  · intro o j ho hj hfo hw
    rw [at_set hkl] at hfo hw ⊢
    rw [at_set hkl]
    by_cases eo : o = k
    · rw [if_pos eo] at hw hfo ⊢
      simp only at hw ⊢
      have hjk : j ≠ k := fun ee => by rw [ee, eo] at hw; omega
      rw [if_neg hjk]
      rw [eo, hak] at hw
      have hh := hnh (ahead p j) hw
      rw [pl_ahead hj] at hh
      unfold hit at hh
      rw [Bool.or_eq_false_iff, beq_eq_false_iff_ne] at hh
      refine ⟨hh.2, ?_⟩
      rw [if_neg hh.1, if_pos trivial]
      exact h.hi _ ((nf_at h.len).2 ⟨j, hj, rfl, hh.2⟩)
    · rw [if_neg eo] at hw hfo ⊢
      obtain ⟨g1, g2⟩ := h.rk o j ho hj hfo hw
      have hjk : j ≠ k := fun ee => by rw [ee, hfr] at g1; cases g1
      rw [if_neg hjk]
      refine ⟨g1, ?_⟩
      show (if (at' t j).p = p then N else r (at' t j).p) < (if (at' t o).p = p then N else r (at' t o).p)
      rw [if_neg (hno _ ((nf_at h.len).2 ⟨j, hj, rfl, g1⟩)), if_neg (hno _ ((nf_at h.len).2 ⟨o, ho, rfl, hfo⟩))]
      exact g2
  · intro s hm
    rcases List.mem_cons.1 (hperm.mem_iff.1 hm) with rfl | hm
    · show (if p = p then N else r p) < N + 1
      rw [if_pos rfl]; omega
    · show (if s.p = p then N else r s.p) < N + 1
      rw [if_neg (hno s hm)]
      have := h.hi s hm; omega
theorem kp_del {t : List Sl} {r : Int → Nat} {N : Nat} (h : Kp t r N) {s : Sl} (hs : s ∈ nf t) : ∃ u, del t s.p = (u, 0) ∧ Kp u r N ∧ (s :: nf u).Perm (nf t) := by
  obtain ⟨k, hk, e, hsl, _⟩ := kp_in h hs
  have hl := h.len
  have hfs : free s = false := by obtain ⟨_, _, _, hf⟩ := (nf_at h.len).1 hs; exact hf
  have hkl : k < t.length := by omega
  have htk : t[k] = s := by rw [← at_get hkl]; exact e
  obtain ⟨F, hF⟩ : ∃ F : Nat → Sl, F = fun o => at' (t.set k z) ((k + o) % 16) := ⟨_, rfl⟩
  have hQ : QF k F = t.set k z := by
    refine List.ext_getElem (by simp [qf_len, hl]) (fun j h1 h2 => ?_)
    have hj : j < 16 := by rw [qf_len] at h1; exact h1
    rw [← at_get h1, ← at_get h2, at_qf hj, hF]
    simp only
    congr 1
    omega
  have F0 : F 0 = z := by rw [hF]; simp only; rw [at_set hkl, if_pos (by omega)]
  have Fo : ∀ o, o < 16 → o ≠ 0 → F o = at' t ((k + o) % 16) := fun o ho h0 => by rw [hF]; simp only; rw [at_set hkl, if_neg (by omega)]
  have hdl : Dl k r F 0 1 (r s.p) := by
    refine ⟨F0, by omega, by omega, ?_, ?_, fun o h1 h2 => by omega, fun o h1 => by omega⟩
    · intro o j ho hj hfo hw hj0
      have ho0 : o ≠ 0 := fun ee => by rw [ee, F0] at hfo; cases hfo
      rw [Fo o ho ho0] at hfo hw ⊢
      rw [Fo j hj hj0]
      exact h.rk _ _ (Nat.mod_lt _ (by decide)) (Nat.mod_lt _ (by decide)) hfo (by rw [w_off hk, w_off hk]; exact hw)
    · intro o ho hfo hw
      have ho0 : o ≠ 0 := fun ee => by rw [ee, F0] at hfo; cases hfo
      rw [Fo o ho ho0] at hfo hw ⊢
      have := (h.rk _ k (Nat.mod_lt _ (by decide)) hk hfo (by
        have h0 := w_off (q := (at' t ((k + o) % 16)).p) (o := 0) hk
        rw [show (k + 0) % 16 = k by omega] at h0
        rw [h0, w_off hk]; exact hw)).2
      rw [e] at this
      exact this
  obtain ⟨G, g1, g2, g3⟩ := delL_ranked hk 15 1 0 _ F (by omega) (by omega) hdl
  rw [hQ, show (k + 0) % 16 = k by omega] at g1
  have hp2 : (s :: nf (t.set k z)).Perm (nf t) := by
    have := nf_del hkl (by rw [htk]; exact hfs)
    rw [htk] at this; exact this
  rw [hQ] at g3
  have hperm : (s :: nf (QF k G)).Perm (nf t) := (g3.cons s).trans hp2
  have hsub : ∀ x ∈ nf (QF k G), x ∈ nf t := fun x hx => hperm.mem_iff.1 (List.mem_cons_of_mem _ hx)
  refine ⟨QF k G, ?_, ⟨qf_len, fun x hx => h.ok x (hsub x hx), ?_, fun x hx => h.hi x (hsub x hx)⟩, hperm⟩
  · unfold del
    rw [hsl]
    simp only
    rw [if_neg (by rw [kp_right h]; simp), if_neg (by simp), Int.toNat_natCast, g1]
  · intro o j ho hj hfo hw
    obtain ⟨o', ho', eo⟩ : ∃ o', o' < 16 ∧ o = (k + o') % 16 := ⟨(o + 16 - k) % 16, Nat.mod_lt _ (by decide), by omega⟩
    obtain ⟨j', hj', ej⟩ : ∃ j', j' < 16 ∧ j = (k + j') % 16 := ⟨(j + 16 - k) % 16, Nat.mod_lt _ (by decide), by omega⟩
    subst eo; subst ej
    rw [at_off hk ho'] at hfo hw ⊢
    rw [at_off hk hj']
    rw [w_off hk, w_off hk] at hw
    exact g2 o' j' ho' hj' hfo hw
theorem nf_pgs {t : List Sl} : (pgs t).length = (nf t).length := by unfold pgs nf; rw [List.length_map]
end Ta
end Go.Proofs.YtcbfhpnmhhnjpaaGreat

namespace Go.Proofs.YtcbfhpnmhhnjpaaGreat
open Go.RowKit
namespace Ta
theorem kp_of_right {t : List Sl} (h : right t = true) {k0 : Nat} (hk : k0 < 16) (hf : free (at' t k0) = true) : Kp t (fun p => ((seek t p).toNat + 16 - k0) % 16) 16 := by
  obtain ⟨hl, hok⟩ := right_iff.1 h
  have ent : ∀ o, o < 16 → free (at' t o) = false → isP (at' t o).p = true ∧ isF (at' t o).f = true ∧ seek t (at' t o).p = (o : Nat) := fun o ho hfo => by
    have := hok o ho
    unfold okS at this
    rw [hfo, Bool.false_or] at this
    simp only [Bool.and_eq_true, decide_eq_true_eq] at this
    exact ⟨this.1.1, this.1.2, this.2⟩
  refine ⟨hl, fun s hs => ?_, fun o j ho hj hfo hlt => ?_, fun s _ => Nat.mod_lt _ (by decide)⟩
  · obtain ⟨k, hk2, rfl, hf2⟩ := (nf_at hl).1 hs
    exact ⟨(ent k hk2 hf2).1, (ent k hk2 hf2).2.1⟩
  · have hso := (ent o ho hfo).2.2
    obtain ⟨i, hi, e1, e2, e3⟩ := (seek_range (t := t) (p := (at' t o).p)).resolve_left (by rw [hso]; omega)
    have ei : i = ahead (at' t o).p o := ahead_pl hi (by have := hso.symm.trans e1; omega)
    have hj2 := e3 (ahead (at' t o).p j) (by rw [ei]; exact hlt)
    rw [pl_ahead hj] at hj2
    unfold hit at hj2
    rw [Bool.or_eq_false_iff] at hj2
    have hk3 : ¬ ahead (at' t o).p k0 ≤ i := fun hle => by
      by_cases e : ahead (at' t o).p k0 = i
      · have : k0 = o := by rw [← pl_ahead (p := (at' t o).p) hk, e, ei, pl_ahead ho]
        rw [this, hfo] at hf; exact Bool.noConfusion hf
      · have := e3 (ahead (at' t o).p k0) (by omega)
        rw [pl_ahead hk] at this
        unfold hit at this
        rw [hf, Bool.or_true] at this; exact Bool.noConfusion this
    refine ⟨hj2.2, ?_⟩
    show ((seek t (at' t j).p).toNat + 16 - k0) % 16 < ((seek t (at' t o).p).toNat + 16 - k0) % 16
    rw [(ent j hj hj2.2).2.2, hso, Int.toNat_natCast, Int.toNat_natCast]
    rw [ei] at hk3
    unfold ahead at hk3 hlt
    omega
theorem nf_full {t : List Sl} (hl : t.length = 16) (h : ∀ k, k < 16 → free (at' t k) = false) : (nf t).length = 16 := by
  unfold nf
  rw [List.filter_eq_self.2 (fun s hs => ?_), hl]
  obtain ⟨k, hk, rfl⟩ := List.getElem_of_mem hs
  have := h k (by omega)
  rw [at_get hk] at this
  rw [this]; rfl
theorem kp_some {t : List Sl} (h : right t = true) (hn : (nf t).length < 16) : ∃ r, Kp t r 16 := by
  by_cases hx : ∃ k, k < 16 ∧ free (at' t k) = true
  · obtain ⟨k, hk, hf⟩ := hx
    exact ⟨_, kp_of_right h hk hf⟩
  · have := nf_full (right_iff.1 h).1 (fun k hk => by
      cases e : free (at' t k)
      · rfl
      · exact absurd ⟨k, hk, e⟩ hx)
    omega
theorem find_nf {t : List Sl} {q x : Int} (hl : t.length = 16) (h : find t q = (x, true)) : ⟨q, x⟩ ∈ nf t := by
  obtain ⟨hp, h0, h1, h2⟩ := find_true h
  have hk : (seek t q).toNat < 16 := by
    rcases seek_range (t := t) (p := q) with e | ⟨i, hi, e, _⟩
    · omega
    · have := @pl_lt q i
      rw [e]; omega
  refine (nf_at hl).2 ⟨_, hk, ?_, ?_⟩
  · cases hs : at' t (seek t q).toNat with
    | mk a b => rw [hs] at h1 h2; simp only at h1 h2; rw [h1, h2]
  · unfold free
    unfold isP at hp
    rw [decide_eq_true_iff] at hp
    rw [show ((⟨q, x⟩ : Sl).p == 0) = false from beq_eq_false_iff_ne.2 (by show q ≠ 0; omega)]; rfl
theorem nf_find {t : List Sl} {r : Int → Nat} {N : Nat} (h : Kp t r N) {s : Sl} (hs : s ∈ nf t) : find t s.p = (s.f, true) := by
  obtain ⟨_, _, _, _, e⟩ := kp_in h hs
  exact e
end Ta
end Go.Proofs.YtcbfhpnmhhnjpaaGreat

namespace Go.Proofs.YtcbfhpnmhhnjpaaGreat
open Go.RowKit
theorem rt_nf {f : Fs} (h : Rt f) : (Ta.nf f.tb).length ≤ 8 := by
  rw [← Ta.nf_pgs, h.many]
  have h8 := (right_fr h.clock).1
  have := h.same
  exact Nat.le_trans (List.countP_le_length) (by omega)
theorem clean_ok {l : List It} {p : Int} (h : Dy.right l = true) : Dy.right (cleanI l p).1 = true ∧ ∀ i ∈ (cleanI l p).1, i ∈ l ∧ i.page ≠ p := by
  unfold cleanI
  rw [if_neg (by simp [h])]
  rcases Dy.at_cases l p with ⟨e, hno⟩ | ⟨k, hk, e, hkp, _⟩
  · rw [if_pos (by omega)]
    exact ⟨h, fun i hi => ⟨hi, by have := hno i hi; simpa using this⟩⟩
  · rw [if_neg (by omega), e, Int.toNat_natCast]
    have ho := (Dy.right_iff l).1 h
    refine ⟨(Dy.right_iff _).2 (ho.erase k), fun i hi => ?_⟩
    show i ∈ l ∧ i.page ≠ p
    have hi2 : i ∈ l.eraseIdx k := hi
    refine ⟨List.mem_of_mem_eraseIdx hi2, fun ep => ?_⟩
    obtain ⟨j, hj, e2⟩ := List.mem_iff_getElem.1 hi2
    rw [List.getElem_eraseIdx] at e2
    have hap := ho.apart
    have hap2 : ∀ a b (ha : a < l.length) (hb : b < l.length), a < b → l[a].page ≠ l[b].page := fun a b ha hb hab => by
      have := List.pairwise_iff_getElem.1 hap a b (by simpa using ha) (by simpa using hb) hab
      simpa using this
    have hlen : (l.eraseIdx k).length = l.length - 1 := List.length_eraseIdx_of_lt hk
    split at e2
    · rename_i hjk
      exact hap2 j k (by omega) hk hjk (by rw [e2, ep, hkp])
    · rename_i hjk
      exact hap2 k (j + 1) hk (by omega) (by omega) (by rw [e2, ep, hkp])
theorem set_getD_fr {l : List Fr} {k j : Nat} {x : Fr} (hk : k < l.length) : (l.set k x).getD j zF = if k = j then x else l.getD j zF := by
  rw [List.getD_eq_getElem?_getD, List.getD_eq_getElem?_getD, List.getElem?_set]
  by_cases e : k = j
  · rw [if_pos e, if_pos e, if_pos hk]; rfl
  · rw [if_neg e, if_neg e]
theorem set_getD_pg {l : List Pg} {k j : Nat} {x : Pg} (hk : k < l.length) : (l.set k x).getD j zP = if k = j then x else l.getD j zP := by
  rw [List.getD_eq_getElem?_getD, List.getD_eq_getElem?_getD, List.getElem?_set]
  by_cases e : k = j
  · rw [if_pos e, if_pos e, if_pos hk]; rfl
  · rw [if_neg e, if_neg e]
theorem taken_set {l : List Pg} {k : Nat} {x : Pg} (hk : k < l.length) : Fm.taken (l.set k x) + (if l[k].id = 0 then 0 else 1) = Fm.taken l + (if x.id = 0 then 0 else 1) := by
  have h1 : l = l.take k ++ l[k] :: l.drop (k + 1) := by rw [List.getElem_cons_drop, List.take_append_drop]
  have h2 : l.set k x = l.take k ++ x :: l.drop (k + 1) := List.set_eq_take_append_cons_drop .. |>.trans (by rw [if_pos hk])
  have e1 : Fm.taken l = Fm.taken (l.take k) + ((if l[k].id = 0 then 0 else 1) + Fm.taken (l.drop (k + 1))) := by
    conv => lhs; rw [h1]
    unfold Fm.taken
    rw [List.countP_append, List.countP_cons]
    by_cases e : l[k].id = 0 <;> simp [e] <;> omega
  have e2 : Fm.taken (l.set k x) = Fm.taken (l.take k) + ((if x.id = 0 then 0 else 1) + Fm.taken (l.drop (k + 1))) := by
    rw [h2]
    unfold Fm.taken
    rw [List.countP_append, List.countP_cons]
    by_cases e : x.id = 0 <;> simp [e] <;> omega
  omega
theorem right_set {l : List Fr} {h : Int} {k : Nat} {x : Fr} (hr : Ck.right l h = true) (hx : Ck.good x = true) : Ck.right (l.set k x) h = true := by
  unfold Ck.right at hr ⊢
  rw [Bool.and_eq_true, decide_eq_true_iff, List.all_eq_true] at hr
  rw [Bool.and_eq_true, decide_eq_true_iff, List.all_eq_true, List.length_set]
  exact ⟨hr.1, fun y hy => (List.mem_or_eq_of_mem_set hy).elim (hr.2 y) (fun e => e ▸ hx)⟩
theorem rt_empty {f : Fs} (h : Rt f) {k : Nat} (hk : k < f.pg.length) (hz : f.pg[k].id ≠ 0) : Rt (Fm.empty f k) := by
  have hkc : k < f.ck.fr.length := by have := h.same; omega
  obtain ⟨a1, a2, a3⟩ := rt_at h hk hz
  have hn := rt_nf h
  have hl := (Ta.right_iff.1 h.table).1
  obtain ⟨r, kp⟩ := Ta.kp_some h.table (by omega)
  have hs := Ta.find_nf hl a3
  obtain ⟨u, d1, d2, d3⟩ := Ta.kp_del kp hs
  have e : Fm.empty f k = ⟨⟨f.ck.fr.set k zF, f.ck.hand⟩, u, f.pg.set k zP, (cleanI f.dt f.pg[k].id).1⟩ := by
    unfold Fm.empty
    rw [pg_getD hk, show Ta.del f.tb f.pg[k].id = (u, 0) from d1]
  have keep : ∀ q x : Int, q ≠ f.pg[k].id → Ta.find f.tb q = (x, true) → Ta.find u q = (x, true) := fun q x hq hf => by
    have hm := (d3.mem_iff (a := (⟨q, x⟩ : Sl))).2 (Ta.find_nf hl hf)
    rcases List.mem_cons.1 hm with e2 | hm
    · exact absurd (congrArg Sl.p e2) hq
    · exact Ta.nf_find d2 hm
  obtain ⟨c1, c2⟩ := clean_ok (p := f.pg[k].id) h.dirty
  rw [e]
  refine ⟨right_set h.clock (by decide), Ta.kp_right d2, c1, by simp [h.same], fun j hj => ?_, ?_, fun i hi => ?_⟩
  · have hj2 : j < f.pg.length := by simpa using hj
    have hjc : j < f.ck.fr.length := by have := h.same; omega
    unfold Fm.okAt
    simp only
    rw [set_getD_fr hkc, set_getD_pg hk]
    by_cases ek : k = j
    · rw [if_pos ek, if_pos ek, if_pos (show zF.page = 0 from rfl)]; decide
    · rw [if_neg ek, if_neg ek]
      have ho := h.all j hj2
      unfold Fm.okAt at ho
      rw [fr_getD hjc, pg_getD hj2] at ho ⊢
      by_cases hp : f.ck.fr[j].page = 0
      · rw [if_pos hp] at ho ⊢; exact ho
      · rw [if_neg hp] at ho ⊢
        simp only [Bool.and_eq_true, beq_iff_eq] at ho ⊢
        obtain ⟨⟨o1, o2⟩, o3, o4⟩ := ho
        have hne : f.ck.fr[j].page ≠ f.pg[k].id := fun e2 => by
          rw [e2, a3] at o4
          simp only at o4
          omega
        have := keep _ _ hne (Prod.ext o4 o3)
        rw [this]
        exact ⟨⟨o1, o2⟩, rfl, rfl⟩
  · have t1 := taken_set (x := zP) hk
    rw [if_neg hz, if_pos (show zP.id = 0 from rfl)] at t1
    have t2 := d3.length_eq
    rw [List.length_cons] at t2
    have t3 := h.many
    rw [Ta.nf_pgs] at t3 ⊢
    show (Ta.nf u).length = Fm.taken (f.pg.set k zP)
    omega
  · obtain ⟨i1, i2⟩ := c2 i hi
    have := h.items i i1
    have hk2 := keep i.page (Ta.find f.tb i.page).1 i2 (Prod.ext rfl this)
    rw [hk2]
end Go.Proofs.YtcbfhpnmhhnjpaaGreat

namespace Go.Proofs.YtcbfhpnmhhnjpaaGreat
open Go.RowKit
theorem stop_pins {l : List Fr} {h N : Nat} (hh : h < l.length) (e : Ck.stop l h = some N) : (l[(h + N) % l.length]'(Nat.mod_lt _ (by omega))).pins = 0 := by
  have hk : ∀ d, (h + d) % l.length < l.length := fun d => Nat.mod_lt _ (by omega)
  unfold Ck.stop at e
  cases e1 : Ck.first Ck.fresh l h with
  | some d =>
    rw [e1] at e
    simp only [Option.some.injEq] at e
    subst e
    have := (Ck.first_iff.1 e1).2.1
    rw [Ck.getD_eq (hk d)] at this
    unfold Ck.fresh at this
    rw [Bool.and_eq_true, beq_iff_eq] at this
    exact this.1
  | none =>
    rw [e1] at e
    cases e2 : Ck.first Ck.free l h with
    | none => rw [e2] at e; simp at e
    | some d =>
      rw [e2] at e
      simp only [Option.map_some, Option.some.injEq] at e
      subst e
      have := (Ck.first_iff.1 e2).2.1
      rw [Ck.getD_eq (hk d)] at this
      unfold Ck.free at this
      rw [beq_iff_eq] at this
      have e3 : (h + (l.length + d)) % l.length = (h + d) % l.length := by rw [show h + (l.length + d) = h + d + l.length by omega, Nat.add_mod_right]
      simp only [e3]
      exact this
theorem rt_sweep {f : Fs} (h : Rt f) (hw : (sweepC f.ck).2.2 = true) : ∃ k : Nat, (sweepC f.ck).2.1 = k ∧ ∃ hk : k < f.ck.fr.length, f.ck.fr[k].pins = 0 ∧ Rt ⟨(sweepC f.ck).1, f.tb, f.pg, f.dt⟩ := by
  obtain ⟨h8, h0, h1, hg⟩ := right_fr h.clock
  have hh : f.ck.hand.toNat < f.ck.fr.length := by omega
  cases e : Ck.stop f.ck.fr f.ck.hand.toNat with
  | none =>
    unfold sweepC at hw
    rw [if_pos h.clock, e] at hw
    exact Bool.noConfusion hw
  | some N =>
    have es : sweepC f.ck = (Clk.mk (Ck.after f.ck.fr f.ck.hand.toNat N) ((((f.ck.hand.toNat + N) % f.ck.fr.length + 1) % f.ck.fr.length : Nat) : Int), (((f.ck.hand.toNat + N) % f.ck.fr.length : Nat) : Int), true) := by unfold sweepC; rw [if_pos h.clock, e]
    have hl := Ck.after_length f.ck.fr f.ck.hand.toNat N
    have hm : ∀ x, x % f.ck.fr.length < f.ck.fr.length := fun x => Nat.mod_lt _ (by omega)
    rw [es]
    refine ⟨_, rfl, hm _, stop_pins hh e, ?_, h.table, h.dirty, by show f.pg.length = _; rw [hl]; exact h.same, fun j hj => ?_, h.many, h.items⟩
    · unfold Ck.right
      rw [Bool.and_eq_true, decide_eq_true_iff, List.all_eq_true]
      have := hm ((f.ck.hand.toNat + N) % f.ck.fr.length + 1)
      refine ⟨⟨by show (Ck.after f.ck.fr f.ck.hand.toNat N).length ≤ 8; rw [hl]; exact h8, Int.natCast_nonneg _, by show (((((f.ck.hand.toNat + N) % f.ck.fr.length + 1) % f.ck.fr.length : Nat)) : Int) < ((Ck.after f.ck.fr f.ck.hand.toNat N).length : Int); rw [hl]; exact Int.ofNat_lt.2 (hm _)⟩, fun x hx => ?_⟩
      obtain ⟨i, hi, rfl⟩ := List.getElem_of_mem hx
      have hi2 : i < f.ck.fr.length := by rw [← hl]; exact hi
      have hgi := hg _ (List.getElem_mem hi2)
      rw [Ck.after_get _ _ _ _ hi2]
      unfold Ck.good at hgi ⊢
      rw [Ck.clear_page, Ck.clear_pins]
      exact hgi
    · have hj2 : j < f.ck.fr.length := by have := h.same; have : j < f.pg.length := hj; omega
      have ho := h.all j hj
      have ga : (Ck.after f.ck.fr f.ck.hand.toNat N).getD j zF = Ck.clearAt f.ck.fr f.ck.hand.toNat N j f.ck.fr[j] := by
        rw [fr_getD (by rw [hl]; exact hj2), Ck.after_get _ _ _ _ hj2]
      unfold Fm.okAt at ho ⊢
      simp only
      rw [fr_getD hj2] at ho
      rw [ga, Ck.clear_page, Ck.clear_pins]
      exact ho
theorem fst_neg {α : Type} {p : α → Bool} {l : List α} : (0 ≤ fst? p l) ↔ l.any p = true := by
  rw [← any_fst, decide_eq_true_iff]
theorem page_id {f : Fs} (h : Rt f) {k : Nat} (hk : k < f.pg.length) : ((f.ck.fr[k]'(by have := h.same; omega)).page = 0) ↔ f.pg[k].id = 0 := by
  have hc : k < f.ck.fr.length := by have := h.same; omega
  constructor
  · intro e
    have ho := h.all k hk
    unfold Fm.okAt at ho
    rw [fr_getD hc, pg_getD hk, if_pos e, Bool.and_eq_true, decide_eq_true_iff] at ho
    rw [ho.1]; rfl
  · intro e
    refine Decidable.byContradiction fun hne => ?_
    have ho := h.all k hk
    unfold Fm.okAt at ho
    rw [fr_getD hc, pg_getD hk, if_neg hne] at ho
    simp only [Bool.and_eq_true, beq_iff_eq] at ho
    exact hne (ho.1.1.trans e)
theorem any_same {f : Fs} (h : Rt f) : f.ck.fr.any (fun c => c.page == 0) = f.pg.any fun p => p.id == 0 := by
  have hs := h.same
  rw [Bool.eq_iff_iff, List.any_eq_true, List.any_eq_true]
  constructor
  · rintro ⟨x, hx, e⟩
    obtain ⟨k, hk, rfl⟩ := List.getElem_of_mem hx
    exact ⟨_, List.getElem_mem (by omega : k < f.pg.length), by rw [beq_iff_eq] at e ⊢; exact (page_id h (by omega)).1 e⟩
  · rintro ⟨x, hx, e⟩
    obtain ⟨k, hk, rfl⟩ := List.getElem_of_mem hx
    exact ⟨_, List.getElem_mem (by omega : k < f.ck.fr.length), by rw [beq_iff_eq] at e ⊢; exact (page_id h hk).2 e⟩
theorem room_free {f : Fs} (h : Rt f) (ha : (f.pg.any fun p => p.id == 0) = true) : Fm.room f = (f, zP, false, 0) := by
  have hr := rt_iff.2 h
  have : 0 ≤ Fm.ff f := fst_neg.2 (by rw [any_same h]; exact ha)
  unfold Fm.room
  rw [if_neg (by simp [hr]), if_pos this]
theorem sweep_pinned {f : Fs} (h : Rt f) : (f.ck.fr.all fun c => decide (0 < c.pins)) = true → (sweepC f.ck).2.2 = false := fun hp => by
  have ha : (f.ck.fr.any fun y => !decide (0 < y.pins)) = false := by
    rw [List.any_eq_false]; intro x hx; rw [(List.all_eq_true.1 hp) x hx]; simp
  unfold sweepC
  rw [if_pos h.clock, stop_any h.clock ha]
theorem sweep_some {f : Fs} (h : Rt f) : (f.ck.fr.all fun c => decide (0 < c.pins)) = false → (sweepC f.ck).2.2 = true := fun hp => by
  obtain ⟨h8, h0, h1, hg⟩ := right_fr h.clock
  have hh : f.ck.hand.toNat < f.ck.fr.length := by omega
  have ha : (f.ck.fr.any fun y => !decide (0 < y.pins)) = true := by
    rw [List.all_eq_false] at hp
    obtain ⟨x, hx, e⟩ := hp
    rw [List.any_eq_true]; exact ⟨x, hx, by simpa using e⟩
  have hf := any_free h.clock ha
  unfold sweepC
  rw [if_pos h.clock]
  cases e : Ck.stop f.ck.fr f.ck.hand.toNat with
  | some N => rfl
  | none =>
    exfalso
    unfold Ck.stop at e
    cases e1 : Ck.first Ck.fresh f.ck.fr f.ck.hand.toNat with
    | some d => rw [e1] at e; simp at e
    | none =>
      rw [e1] at e
      simp only [Option.map_eq_none_iff] at e
      obtain ⟨x, hx, hz⟩ := hf
      have := (Ck.first_none_all hh).1 e x hx
      unfold Ck.free at this
      rw [hz] at this
      exact Bool.noConfusion this
theorem room_busy {f : Fs} (h : Rt f) (ha : (f.pg.any fun p => p.id == 0) = false) (hp : (f.ck.fr.all fun c => decide (0 < c.pins)) = true) : Fm.room f = (f, zP, false, 6) := by
  have hr := rt_iff.2 h
  have : ¬ 0 ≤ Fm.ff f := fun hx => by
    have := fst_neg.1 hx
    rw [any_same h, ha] at this; exact Bool.noConfusion this
  unfold Fm.room
  rw [if_neg (by simp [hr]), if_neg this, if_pos (sweep_pinned h hp)]
theorem okPg_id {p : Pg} (h : okPg p = true) : 1 ≤ p.id ∧ p.id ≤ 16 := by
  unfold okPg at h
  rw [decide_eq_true_iff] at h
  exact ⟨h.1, h.2.1⟩
end Go.Proofs.YtcbfhpnmhhnjpaaGreat

namespace Go.Proofs.YtcbfhpnmhhnjpaaGreat
open Go.RowKit
theorem rt_lay {f : Fs} (h : Rt f) {k : Nat} (hk : k < f.pg.length) (hz : f.pg[k].id ≠ 0) {x : Fr} {p : Pg} (hx : Ck.good x = true) (h1 : x.page = f.pg[k].id) (h2 : p.id = f.pg[k].id) (h3 : okPg p = true) : Rt (Fm.lay f k x p) := by
  have hkc : k < f.ck.fr.length := by have := h.same; omega
  obtain ⟨a1, a2, a3⟩ := rt_at h hk hz
  refine ⟨right_set h.clock hx, h.table, h.dirty, by show (f.pg.set k p).length = (f.ck.fr.set k x).length; rw [List.length_set, List.length_set]; exact h.same, fun j hj => ?_, ?_, h.items⟩
  · have hj2 : j < f.pg.length := by have : j < (f.pg.set k p).length := hj; simpa using this
    unfold Fm.okAt Fm.lay
    simp only
    rw [set_getD_fr hkc, set_getD_pg hk]
    by_cases ek : k = j
    · rw [if_pos ek, if_pos ek, if_neg (by rw [h1]; exact hz), h1, h2, h3, a3]; simp [ek]
    · rw [if_neg ek, if_neg ek]
      have ho := h.all j hj2
      unfold Fm.okAt at ho
      exact ho
  · have t1 := taken_set (x := p) hk
    rw [if_neg hz, if_neg (by rw [h2]; exact hz)] at t1
    have := h.many
    show (Ta.pgs f.tb).length = Fm.taken (f.pg.set k p)
    omega
theorem rt_dirty {f : Fs} (h : Rt f) {d : List It} (hd : Dy.right d = true) (hi : ∀ i ∈ d, (Ta.find f.tb i.page).2 = true) : Rt ⟨f.ck, f.tb, f.pg, d⟩ :=
  ⟨h.clock, h.table, hd, h.same, h.all, h.many, hi⟩
theorem rt_clean {f : Fs} (h : Rt f) (id : Int) : Rt ⟨f.ck, f.tb, f.pg, (cleanI f.dt id).1⟩ := by
  obtain ⟨c1, c2⟩ := clean_ok (p := id) h.dirty
  exact rt_dirty h c1 fun i hi => h.items i (c2 i hi).1
theorem mark_ok {l : List It} {p now : Int} (h : Dy.right l = true) : Dy.right (markI l p now).1 = true ∧ ∀ i ∈ (markI l p now).1, i ∈ l ∨ i.page = p := by
  unfold markI
  split
  · exact ⟨h, fun i hi => .inl hi⟩
  rename_i hc
  split
  · exact ⟨h, fun i hi => .inl hi⟩
  rename_i ha
  refine ⟨?_, fun i hi => ?_⟩
  · have ho := (Dy.right_iff l).1 h
    have hnp : ∀ a ∈ l, a.page ≠ p := by
      rcases Dy.at_cases l p with ⟨_, hno⟩ | ⟨k, hk, e, _⟩
      · exact hno
      · omega
    refine (Dy.right_iff _).2 ⟨fun a hm => ?_, fun a hm => ?_, ?_, ?_⟩
    · rcases List.mem_append.1 hm with hm | hm
      · exact ho.page a hm
      · rw [List.mem_singleton.1 hm]; show 1 ≤ p ∧ p ≤ 16; omega
    · rcases List.mem_append.1 hm with hm | hm
      · exact ho.since a hm
      · rw [List.mem_singleton.1 hm]; show 0 ≤ now ∧ now ≤ 2147483647; omega
    · rw [List.map_append, List.nodup_append]
      refine ⟨ho.apart, by simp, fun a hm b hb e => ?_⟩
      obtain ⟨q, hq, e2⟩ := List.mem_map.1 hm
      simp at hb
      exact hnp q hq (by rw [e2, e, hb])
    · rw [List.pairwise_append]
      refine ⟨ho.rise, by simp, fun a hm b hb => ?_⟩
      rw [List.mem_singleton.1 hb]
      have := ho.last a hm
      show a.since ≤ now
      omega
  · rcases List.mem_append.1 hi with hi | hi
    · exact .inl hi
    · rw [List.mem_singleton.1 hi]; exact .inr rfl
theorem rt_mark {f : Fs} (h : Rt f) {id now : Int} (hf : (Ta.find f.tb id).2 = true) : Rt (Fm.mark f id now).1 := by
  obtain ⟨c1, c2⟩ := mark_ok (p := id) (now := now) h.dirty
  exact rt_dirty h c1 fun i hi => (c2 i hi).elim (h.items i) (fun e => by rw [e]; exact hf)
theorem rt_load {f : Fs} (h : Rt f) {k : Nat} (hk : k < f.pg.length) (hz : f.pg[k].id = 0) {p : Pg} (hp : okPg p = true) (hf : (Ta.find f.tb p.id).2 = false) :
    Rt ⟨⟨f.ck.fr.set k ⟨p.id, 1, true⟩, f.ck.hand⟩, (Ta.put f.tb p.id (k : Int)).1, f.pg.set k p, f.dt⟩ ∧ Ta.find (Ta.put f.tb p.id (k : Int)).1 p.id = ((k : Int), true) := by
  have hkc : k < f.ck.fr.length := by have := h.same; omega
  have hid := okPg_id hp
  have hn := rt_nf h
  have h8 := (right_fr h.clock).1
  have hsm := h.same
  have hl := (Ta.right_iff.1 h.table).1
  obtain ⟨r, kp⟩ := Ta.kp_some h.table (by omega)
  obtain ⟨u, r', d1, d2, d3⟩ := Ta.kp_put kp (p := p.id) (f := (k : Int)) (by unfold Ta.isP; rw [decide_eq_true_iff]; omega) (by unfold Ta.isF; rw [decide_eq_true_iff]; omega) (fun s hs e => by
    have := Ta.nf_find kp hs
    rw [e] at this
    rw [this] at hf; exact Bool.noConfusion hf) (by omega)
  rw [d1]
  have keep : ∀ q x : Int, Ta.find f.tb q = (x, true) → Ta.find u q = (x, true) := fun q x hf2 => by
    have hm := (d3.mem_iff (a := (⟨q, x⟩ : Sl))).2 (List.mem_cons_of_mem _ (Ta.find_nf hl hf2))
    exact Ta.nf_find d2 hm
  have own : Ta.find u p.id = ((k : Int), true) := Ta.nf_find d2 (s := ⟨p.id, k⟩) (d3.mem_iff.2 (List.mem_cons_self ..))
  refine ⟨⟨right_set h.clock (by unfold Ck.good; rw [decide_eq_true_iff]; show 0 ≤ p.id ∧ p.id ≤ 16 ∧ (0 : Int) ≤ 1 ∧ (1 : Int) ≤ 2147483647; omega), Ta.kp_right d2, h.dirty, by show (f.pg.set k p).length = (f.ck.fr.set k _).length; rw [List.length_set, List.length_set]; exact h.same, fun j hj => ?_, ?_, fun i hi => ?_⟩, own⟩
  · have hj2 : j < f.pg.length := by have : j < (f.pg.set k p).length := hj; simpa using this
    have hjc : j < f.ck.fr.length := by omega
    unfold Fm.okAt
    simp only
    rw [set_getD_fr hkc, set_getD_pg hk]
    by_cases ek : k = j
    · rw [if_pos ek, if_pos ek, if_neg (by show p.id ≠ 0; omega), hp]
      simp only [own, ek]; simp
    · rw [if_neg ek, if_neg ek]
      have ho := h.all j hj2
      unfold Fm.okAt at ho
      rw [fr_getD hjc, pg_getD hj2] at ho ⊢
      by_cases hp2 : f.ck.fr[j].page = 0
      · rw [if_pos hp2] at ho ⊢; exact ho
      · rw [if_neg hp2] at ho ⊢
        simp only [Bool.and_eq_true, beq_iff_eq] at ho ⊢
        obtain ⟨⟨o1, o2⟩, o3, o4⟩ := ho
        rw [keep _ _ (Prod.ext o4 o3)]
        exact ⟨⟨o1, o2⟩, rfl, rfl⟩
  · have t1 := taken_set (x := p) hk
    rw [if_pos hz, if_neg (by omega)] at t1
    have t2 := d3.length_eq
    rw [List.length_cons] at t2
    have t3 := h.many
    rw [Ta.nf_pgs] at t3 ⊢
    show (Ta.nf u).length = Fm.taken (f.pg.set k p)
    omega
  · have := h.items i hi
    rw [keep i.page (Ta.find f.tb i.page).1 (Prod.ext rfl this)]
end Go.Proofs.YtcbfhpnmhhnjpaaGreat

namespace Go.Proofs.YtcbfhpnmhhnjpaaGreat
open Go.RowKit
structure Kf (f : Fs) (w : Int → Int) : Prop where
  rt : Rt f
  pins : ∀ k (hk : k < f.pg.length), f.pg[k].id ≠ 0 → (f.ck.fr[k]'(by have := rt.same; omega)).pins = w f.pg[k].id
  none : ∀ id, 1 ≤ id ∧ id ≤ 16 → (∀ p ∈ f.pg, p.id ≠ id) → w id = 0
def upW (w : Int → Int) (k v : Int) : Int → Int := fun n => if n = k then v else w n
theorem ids_apart {f : Fs} (h : Rt f) {i j : Nat} (hi : i < f.pg.length) (hj : j < f.pg.length) (hz : f.pg[i].id ≠ 0) (e : f.pg[i].id = f.pg[j].id) : i = j := by
  have h1 := (rt_at h hi hz).2.2
  have h2 := (rt_at h hj (by rw [← e]; exact hz)).2.2
  rw [e, h2] at h1
  have := congrArg Prod.fst h1
  simp only at this
  omega
theorem kf_lay {f : Fs} {w : Int → Int} (h : Kf f w) {k : Nat} (hk : k < f.pg.length) (hz : f.pg[k].id ≠ 0) {x : Fr} {p : Pg} (hx : Ck.good x = true) (h1 : x.page = f.pg[k].id) (h2 : p.id = f.pg[k].id) (h3 : okPg p = true) : Kf (Fm.lay f k x p) (upW w f.pg[k].id x.pins) := by
  have hsm := h.rt.same
  have hrt := rt_lay h.rt hk hz hx h1 h2 h3
  refine ⟨hrt, fun j hj hjz => ?_, fun id hid hno => ?_⟩
  · have hj2 : j < f.pg.length := by have : j < (f.pg.set k p).length := hj; simpa using this
    show ((f.ck.fr.set k x)[j]'(by simp; omega)).pins = upW w f.pg[k].id x.pins ((f.pg.set k p)[j]'(by simpa using hj2)).id
    have hjz2 : ((f.pg.set k p)[j]'(by simpa using hj2)).id ≠ 0 := hjz
    rw [List.getElem_set] at hjz2 ⊢
    rw [List.getElem_set]
    by_cases e : k = j
    · rw [if_pos e, if_pos e, h2]
      unfold upW
      rw [if_pos rfl]
    · rw [if_neg e] at hjz2
      rw [if_neg e, if_neg e]
      unfold upW
      rw [if_neg (fun e2 => e (ids_apart h.rt hk hj2 hz e2.symm))]
      exact h.pins j hj2 hjz2
  · have hne : id ≠ f.pg[k].id := fun e => by
      have := hno p (by show p ∈ f.pg.set k p; exact List.mem_set hk p)
      exact this (by rw [h2, e])
    unfold upW
    rw [if_neg hne]
    refine h.none id hid fun q hq e => ?_
    obtain ⟨j, hj, rfl⟩ := List.getElem_of_mem hq
    have hjk : k ≠ j := fun e2 => hne (by subst e2; exact e.symm)
    have : f.pg[j] ∈ f.pg.set k p := by
      rw [List.mem_iff_getElem]
      exact ⟨j, by simpa using hj, by rw [List.getElem_set, if_neg hjk]⟩
    exact hno _ this e
theorem kf_dirty {f : Fs} {w : Int → Int} (h : Kf f w) {d : List It} (hr : Rt ⟨f.ck, f.tb, f.pg, d⟩) : Kf ⟨f.ck, f.tb, f.pg, d⟩ w := ⟨hr, h.pins, h.none⟩
end Go.Proofs.YtcbfhpnmhhnjpaaGreat

namespace Go.Proofs.YtcbfhpnmhhnjpaaGreat
open Go.RowKit
theorem kf_load {f : Fs} {w : Int → Int} (h : Kf f w) {k : Nat} (hk : k < f.pg.length) (hz : f.pg[k].id = 0) {p : Pg} (hp : okPg p = true) (hf : (Ta.find f.tb p.id).2 = false) :
    Kf ⟨⟨f.ck.fr.set k ⟨p.id, 1, true⟩, f.ck.hand⟩, (Ta.put f.tb p.id (k : Int)).1, f.pg.set k p, f.dt⟩ (upW w p.id 1) := by
  have hsm := h.rt.same
  have hid := okPg_id hp
  have hrt := (rt_load h.rt hk hz hp hf).1
  refine ⟨hrt, fun j hj hjz => ?_, fun id hid2 hno => ?_⟩
  · have hj2 : j < f.pg.length := by have : j < (f.pg.set k p).length := hj; simpa using this
    show ((f.ck.fr.set k ⟨p.id, 1, true⟩)[j]'(by simp; omega)).pins = upW w p.id 1 ((f.pg.set k p)[j]'(by simpa using hj2)).id
    have hjz2 : ((f.pg.set k p)[j]'(by simpa using hj2)).id ≠ 0 := hjz
    rw [List.getElem_set] at hjz2 ⊢
    rw [List.getElem_set]
    by_cases e : k = j
    · rw [if_pos e, if_pos e]
      unfold upW
      rw [if_pos rfl]
    · rw [if_neg e] at hjz2
      rw [if_neg e, if_neg e]
      unfold upW
      rw [if_neg (fun e2 => by
        have := (rt_at h.rt hj2 hjz2).2.2
        rw [e2] at this
        rw [this] at hf; exact Bool.noConfusion hf)]
      exact h.pins j hj2 hjz2
  · have hne : id ≠ p.id := fun e => hno p (List.mem_set hk p) e.symm
    unfold upW
    rw [if_neg hne]
    refine h.none id hid2 fun q hq e => ?_
    obtain ⟨j, hj, rfl⟩ := List.getElem_of_mem hq
    have hjk : k ≠ j := fun e2 => by subst e2; rw [hz] at e; omega
    have : f.pg[j] ∈ f.pg.set k p := by
      rw [List.mem_iff_getElem]
      exact ⟨j, by simpa using hj, by rw [List.getElem_set, if_neg hjk]⟩
    exact hno _ this e
theorem kf_empty {f : Fs} {w : Int → Int} (h : Kf f w) {k : Nat} (hk : k < f.pg.length) (hz : f.pg[k].id ≠ 0) (hp : (f.ck.fr[k]'(by have := h.rt.same; omega)).pins = 0) : Kf (Fm.empty f k) w := by
  have hsm := h.rt.same
  have hrt := rt_empty h.rt hk hz
  have hw : w f.pg[k].id = 0 := by rw [← h.pins k hk hz, hp]
  refine ⟨hrt, fun j hj hjz => ?_, fun id hid2 hno => ?_⟩
  · have hj2 : j < f.pg.length := by have : j < (f.pg.set k zP).length := hj; simpa using this
    show ((f.ck.fr.set k zF)[j]'(by simp; omega)).pins = w ((f.pg.set k zP)[j]'(by simpa using hj2)).id
    have hjz2 : ((f.pg.set k zP)[j]'(by simpa using hj2)).id ≠ 0 := hjz
    rw [List.getElem_set] at hjz2 ⊢
    rw [List.getElem_set]
    by_cases e : k = j
    · rw [if_pos e] at hjz2
      exact absurd rfl hjz2
    · rw [if_neg e] at hjz2
      rw [if_neg e, if_neg e]
      exact h.pins j hj2 hjz2
  · by_cases hne : id = f.pg[k].id
    · rw [hne]; exact hw
    refine h.none id hid2 fun q hq e => ?_
    obtain ⟨j, hj, rfl⟩ := List.getElem_of_mem hq
    have hjk : k ≠ j := fun e2 => by subst e2; exact hne e.symm
    have : f.pg[j] ∈ f.pg.set k zP := by
      rw [List.mem_iff_getElem]
      exact ⟨j, by simpa using hj, by rw [List.getElem_set, if_neg hjk]⟩
    exact hno _ this e
end Go.Proofs.YtcbfhpnmhhnjpaaGreat

namespace Go.Proofs.YtcbfhpnmhhnjpaaGreat
open Go.RowKit
theorem sweep_pins {c : Clk} (hw : (sweepC c).2.2 = true) {j : Nat} (hj : j < c.fr.length) (hj2 : j < (sweepC c).1.fr.length) : ((sweepC c).1.fr[j]).pins = c.fr[j].pins := by
  have hr : Ck.right c.fr c.hand = true := by
    unfold sweepC at hw
    split at hw
    · rename_i h; exact h
    · exact Bool.noConfusion hw
  cases e : Ck.stop c.fr c.hand.toNat with
  | none =>
    unfold sweepC at hw
    rw [if_pos hr, e] at hw
    exact Bool.noConfusion hw
  | some N =>
    have es : (sweepC c).1.fr = Ck.after c.fr c.hand.toNat N := by unfold sweepC; rw [if_pos hr, e]
    simp only [es]
    rw [Ck.after_get _ _ _ _ hj, Ck.clear_pins]
theorem kf_sweep {f : Fs} {w : Int → Int} (h : Kf f w) (hw : (sweepC f.ck).2.2 = true) : Kf ⟨(sweepC f.ck).1, f.tb, f.pg, f.dt⟩ w := by
  obtain ⟨k, e1, hc, e2, hrt⟩ := rt_sweep h.rt hw
  have hsm := h.rt.same
  refine ⟨hrt, fun j hj hz => ?_, h.none⟩
  have hjc : j < f.ck.fr.length := by have : j < f.pg.length := hj; omega
  show ((sweepC f.ck).1.fr[j]'_).pins = w f.pg[j].id
  rw [sweep_pins hw hjc]
  exact h.pins j hj hz
theorem fst_prop {α : Type} {p : α → Bool} {l : List α} {k : Nat} (h : fst? p l = (k : Int)) : ∃ hk : k < l.length, p l[k] = true := by
  unfold fst? at h
  cases e : l.findIdx? p with
  | none => rw [e] at h; simp only at h; omega
  | some j =>
    rw [e] at h
    simp only at h
    obtain ⟨hk, h1, _⟩ := List.findIdx?_eq_some_iff_getElem.1 e
    have : j = k := by omega
    subst this
    exact ⟨hk, h1⟩
end Go.Proofs.YtcbfhpnmhhnjpaaGreat

namespace Go.Proofs.YtcbfhpnmhhnjpaaGreat
open Go.RowKit
def wOf (W : List Int) (id : Int) : Int := if 1 ≤ id ∧ id ≤ 16 then W.getD id.toNat 0 else 0
theorem new_right : ∀ n : Nat, n < 8 → Fm.right (Fm.newF ((n + 1 : Nat) : Int)).1 = true := by decide +kernel
theorem kf_new {n : Nat} (h : n < 8) : Kf (Fm.newF ((n + 1 : Nat) : Int)).1 (wOf (List.replicate 17 0)) := by
  have e : Fm.newF ((n + 1 : Nat) : Int) = (⟨⟨List.replicate (n + 1) zF, 0⟩, List.replicate 16 Ta.z, List.replicate (n + 1) zP, []⟩, 0) := by
    unfold Fm.newF
    rw [if_pos (by omega), Int.toNat_natCast]
  have hr := new_right n h
  rw [e] at hr ⊢
  refine ⟨rt_iff.1 hr, fun k hk hz => ?_, fun id hid _ => ?_⟩
  · exact absurd (by show ((List.replicate (n + 1) zP)[k]'hk).id = 0; rw [List.getElem_replicate]; rfl) hz
  · unfold wOf
    rw [if_pos hid, List.getD_eq_getElem?_getD, List.getElem?_replicate]
    split <;> rfl
theorem kf_find {f : Fs} {w : Int → Int} (h : Kf f w) {id : Int} (hid : 1 ≤ id ∧ id ≤ 16) : (∃ x, Ta.find f.tb id = (x, false) ∧ w id = 0) ∨ ∃ (k : Nat) (hk : k < f.pg.length) (hc : k < f.ck.fr.length), Ta.find f.tb id = ((k : Int), true) ∧ f.pg[k].id = id ∧ f.ck.fr[k].pins = w id := by
  cases hf : (Ta.find f.tb id).2
  · refine .inl ⟨(Ta.find f.tb id).1, by rw [← hf], h.none id hid fun p hp e => ?_⟩
    obtain ⟨k, hk, rfl⟩ := List.getElem_of_mem hp
    have h1 := (rt_at h.rt hk (by omega)).2.2
    rw [e] at h1
    rw [h1] at hf
    exact Bool.noConfusion hf
  · obtain ⟨k, hk, e1, e2, e3⟩ := rt_found h.rt (x := (Ta.find f.tb id).1) (by rw [← hf])
    have hc : k < f.ck.fr.length := by have := h.rt.same; omega
    have h1 := h.pins k hk (by rw [e2]; exact e3)
    rw [e2] at h1
    exact .inr ⟨k, hk, hc, by rw [← e1, ← hf], e2, h1⟩
theorem rt_sh {f : Fs} (h : Rt f) : Sh f := by
  have h8 := (right_fr h.clock).1
  have hd := dy_len h.dirty
  exact ⟨by omega, by omega⟩
theorem rt_find {f : Fs} (h : Rt f) (id : Int) : Fm.find f id = Ta.find f.tb id := by unfold Fm.find; rw [if_pos (rt_iff.2 h)]
end Go.Proofs.YtcbfhpnmhhnjpaaGreat

namespace Go.Proofs.YtcbfhpnmhhnjpaaGreat
open Go.RowKit
structure Kw (s : List ByteArray) (w : List Pg) : Prop where
  ok : Jn.Ok 35 s
  len : w.length = 17
  get : ∀ q : Nat, 1 ≤ q → q ≤ 16 → (w.getD q zP = zP ∧ getS ⟨s, []⟩ q = (zP, 3)) ∨ ((w.getD q zP).id = q ∧ okP (w.getD q zP) = true ∧ getS ⟨s, []⟩ q = (w.getD q zP, 0))
theorem getD_set {w : List Pg} {i q : Nat} {p : Pg} (h : i < w.length) : (w.set i p).getD q zP = if i = q then p else w.getD q zP := by
  rw [List.getD_eq_getElem?_getD, List.getD_eq_getElem?_getD, List.getElem?_set]
  by_cases e : i = q
  · rw [if_pos e, if_pos e, if_pos h]; rfl
  · rw [if_neg e, if_neg e]
theorem kw_new : Kw Jn.new35 (List.replicate 17 zP) := ⟨Jn.ok_new, by simp, fun q h1 h2 => .inl ⟨by
  rw [List.getD_eq_getElem?_getD, List.getElem?_replicate, if_pos (by omega)]; rfl, getS_new (by omega)⟩⟩
theorem kw_set {s : List ByteArray} {w : List Pg} {p : Pg} (k : Kw s w) (h : okP p = true) : Kw (Jn.s4 s p.id (bytesP p)) (w.set p.id.toNat p) := by
  have h2 := okP_iff.1 h
  obtain ⟨a1, a2, a3⟩ := setS_ok Jn.h35 k.ok h
  refine ⟨a2.ok, by rw [List.length_set]; exact k.len, fun q h3 h4 => ?_⟩
  rw [getD_set (by rw [k.len]; omega), a3 q (by omega)]
  by_cases e : p.id.toNat = q
  · rw [if_pos e, if_pos (by omega)]
    exact .inr ⟨by omega, h, rfl⟩
  · rw [if_neg e, if_neg (by omega)]
    exact k.get q h3 h4
theorem kw_del {s : List ByteArray} {w : List Pg} {p : Int} (k : Kw s w) (hp : 1 ≤ p ∧ p ≤ 16) : Kw (Jn.s4 s p nought32) (w.set p.toNat zP) := by
  obtain ⟨a1, a2, a3⟩ := delS_ok Jn.h35 k.ok hp
  refine ⟨a2.ok, by rw [List.length_set]; exact k.len, fun q h3 h4 => ?_⟩
  rw [getD_set (by rw [k.len]; omega), a3 q (by omega)]
  by_cases e : p.toNat = q
  · rw [if_pos e, if_pos (by omega)]
    exact .inl ⟨rfl, rfl⟩
  · rw [if_neg e, if_neg (by omega)]
    exact k.get q h3 h4
end Go.Proofs.YtcbfhpnmhhnjpaaGreat

namespace Go.Proofs.YtcbfhpnmhhnjpaaGreat
open Go.RowKit
def hasI (l : List It) (p : Int) : Prop := ∃ i ∈ l, i.page = p
theorem since_iff {l : List It} {p : Int} (h : Dy.right l = true) : (sinceI l p).2 = true ↔ hasI l p := by
  unfold sinceI hasI
  rcases Dy.at_cases l p with ⟨e, hno⟩ | ⟨k, hk, e, hkp, _⟩
  · rw [if_neg (by rw [e]; intro h; omega)]
    exact ⟨fun h => (by cases h), fun ⟨i, hi, hp⟩ => absurd hp (hno i hi)⟩
  · rw [if_pos ⟨h, by omega⟩]
    exact ⟨fun _ => ⟨_, List.getElem_mem hk, hkp⟩, fun _ => rfl⟩
theorem clean_no {l : List It} {p : Int} (h : Dy.right l = true) (hn : ¬ hasI l p) : cleanI l p = (l, 3) := by
  unfold cleanI
  rw [if_neg (by rw [h]; simp)]
  rcases Dy.at_cases l p with ⟨e, hno⟩ | ⟨k, hk, e, hkp, _⟩
  · rw [if_pos (by omega)]
  · exact absurd ⟨_, List.getElem_mem hk, hkp⟩ hn
theorem clean_yes {l : List It} {p : Int} (h : Dy.right l = true) (hy : hasI l p) : (cleanI l p).2 = 0 ∧ (cleanI l p).1.length + 1 = l.length := by
  unfold cleanI
  rw [if_neg (by rw [h]; simp)]
  rcases Dy.at_cases l p with ⟨e, hno⟩ | ⟨k, hk, e, hkp, _⟩
  · obtain ⟨i, hi, hp⟩ := hy; exact absurd hp (hno i hi)
  · rw [if_neg (by omega), e, Int.toNat_natCast]
    refine ⟨rfl, ?_⟩
    show (l.eraseIdx k).length + 1 = l.length
    rw [List.length_eraseIdx, if_pos hk]; omega
theorem clean_keep {l : List It} {p q : Int} (h : Dy.right l = true) (hq : q ≠ p) : hasI (cleanI l p).1 q ↔ hasI l q := by
  constructor
  · rintro ⟨i, hi, e⟩; exact ⟨i, ((clean_ok h).2 i hi).1, e⟩
  · rintro ⟨i, hi, e⟩
    by_cases hp : hasI l p
    · unfold cleanI
      rw [if_neg (by rw [h]; simp)]
      rcases Dy.at_cases l p with ⟨e1, hno⟩ | ⟨k, hk, e1, hkp, _⟩
      · obtain ⟨j, hj, hjp⟩ := hp; exact absurd hjp (hno j hj)
      · rw [if_neg (by omega), e1, Int.toNat_natCast]
        refine ⟨i, ?_, e⟩
        obtain ⟨j, hj, rfl⟩ := List.getElem_of_mem hi
        have hjk : j ≠ k := fun e2 => by subst e2; rw [hkp] at e; exact hq e.symm
        rw [List.mem_eraseIdx_iff_getElem]
        exact ⟨j, hj, hjk, rfl⟩
    · rw [clean_no h hp]; exact ⟨i, hi, e⟩
theorem clean_gone {l : List It} {p : Int} (h : Dy.right l = true) : ¬ hasI (cleanI l p).1 p := fun ⟨i, hi, e⟩ => ((clean_ok h).2 i hi).2 e
theorem clean_len {l : List It} {p : Int} : (cleanI l p).1.length ≤ l.length := by
  unfold cleanI
  split
  · exact Nat.le_refl _
  split
  · exact Nat.le_refl _
  · exact List.length_eraseIdx_le l _
structure Gp (w : Wk) (D M : List Pg) (W : Int → Int) : Prop where
  kf : Kf w.f W
  disk : ∃ s, w.d = ⟨s, []⟩ ∧ Kw s D
  len : M.length = 17
  now : 0 ≤ w.now ∧ w.now ≤ 2147483647
  dnow : ∀ i ∈ w.f.dt, i.since ≤ w.now
  pages : ∀ k (hk : k < w.f.pg.length), w.f.pg[k].id ≠ 0 → M.getD w.f.pg[k].id.toNat zP = w.f.pg[k]
  clean : ∀ q : Nat, 1 ≤ q → q ≤ 16 → ¬ hasI w.f.dt q → M.getD q zP = D.getD q zP
namespace Gp
variable {w : Wk} {D M : List Pg} {W : Int → Int}
theorem rt (h : Gp w D M W) : Rt w.f := h.kf.rt
theorem dlen (h : Gp w D M W) : D.length = 17 := by obtain ⟨s, _, k⟩ := h.disk; exact k.len
theorem dyr (h : Gp w D M W) : Dy.right w.f.dt = true := h.rt.dirty
theorem has_framed (h : Gp w D M W) {id : Int} (hi : hasI w.f.dt id) : (Ta.find w.f.tb id).2 = true := by
  obtain ⟨i, hi, rfl⟩ := hi
  exact h.rt.items i hi
theorem find (h : Gp w D M W) {id : Int} (hid : 1 ≤ id ∧ id ≤ 16) :
    (∃ (k : Nat) (hk : k < w.f.pg.length) (hc : k < w.f.ck.fr.length), Ta.find w.f.tb id = ((k : Int), true) ∧ w.f.pg[k].id = id ∧ w.f.ck.fr[k].pins = W id ∧ M.getD id.toNat zP = w.f.pg[k] ∧ okPg w.f.pg[k] = true ∧ Po.framed w id = (M.getD id.toNat zP, W id, true)) ∨
      (Ta.find w.f.tb id).2 = false ∧ W id = 0 ∧ M.getD id.toNat zP = D.getD id.toNat zP ∧ Po.framed w id = (zP, 0, false) ∧ ¬ hasI w.f.dt id := by
  have e := rt_find h.rt id
  rcases kf_find h.kf hid with ⟨x, h1, h2⟩ | ⟨k, hk, hc, h1, h2, h3⟩
  · right
    have hno : ¬ hasI w.f.dt id := fun hi => by have := h.has_framed hi; rw [h1] at this; cases this
    refine ⟨by rw [h1], h2, ?_, ?_, hno⟩
    · have := h.clean id.toNat (by omega) (by omega) (by rw [show ((id.toNat : Nat) : Int) = id by omega]; exact hno)
      exact this
    · unfold Po.framed
      rw [e, h1]; rfl
  · left
    have hz : w.f.pg[k].id ≠ 0 := by omega
    have hp := h.pages k hk hz
    rw [h2] at hp
    have hok := (rt_at h.rt hk hz).2.1
    refine ⟨k, hk, hc, h1, h2, h3, hp, hok, ?_⟩
    unfold Po.framed
    rw [e, h1]
    show (w.f.pg.getD k zP, (w.f.ck.fr.getD k zF).pins, true) = _
    rw [pg_getD hk, fr_getD hc, hp, h3]
theorem locate (h : Gp w D M W) {id x : Int} (hf : Ta.find w.f.tb id = (x, true)) : Fm.locate w.f id = (x, 0) := by
  unfold Fm.locate
  rw [if_neg (by rw [rt_iff.2 h.rt]; simp), hf]
  simp
theorem get (h : Gp w D M W) {id : Int} (hid : 1 ≤ id ∧ id ≤ 16) : (D.getD id.toNat zP = zP ∧ getS w.d id = (zP, 3)) ∨ ((D.getD id.toNat zP).id = id ∧ okP (D.getD id.toNat zP) = true ∧ getS w.d id = (D.getD id.toNat zP, 0)) := by
  obtain ⟨s, e, k⟩ := h.disk
  have := k.get id.toNat (by omega) (by omega)
  rw [show ((id.toNat : Nat) : Int) = id by omega] at this
  rw [e]; exact this
theorem clean_f (h : Gp w D M W) {k : Nat} (hk : k < w.f.pg.length) (hz : w.f.pg[k].id ≠ 0) :
    (if (Fm.clean w.f w.f.pg[k].id).2 = 0 then (Fm.clean w.f w.f.pg[k].id).1 else w.f) = ⟨w.f.ck, w.f.tb, w.f.pg, (cleanI w.f.dt w.f.pg[k].id).1⟩ := by
  have hl := h.locate (rt_at h.rt hk hz).2.2
  unfold Fm.clean
  rw [hl]
  by_cases hi : hasI w.f.dt w.f.pg[k].id
  · simp [(clean_yes h.dyr hi).1]
  · simp [clean_no h.dyr hi]
theorem back_eq (h : Gp w D M W) {k : Nat} (hk : k < w.f.pg.length) (hz : w.f.pg[k].id ≠ 0) :
    (Po.back w w.f.pg[k]).f = ⟨w.f.ck, w.f.tb, w.f.pg, (cleanI w.f.dt w.f.pg[k].id).1⟩ ∧ (Po.back w w.f.pg[k]).d = (setS w.d w.f.pg[k]).1 ∧ (Po.back w w.f.pg[k]).now = w.now ∧ (Po.back w w.f.pg[k]).done = w.done ++ stepsS w.d w.f.pg[k] := by
  have hc := h.clean_f hk hz
  unfold Po.back Po.turn Po.set
  split
  · rename_i e; rw [if_pos e] at hc; exact ⟨hc, rfl, rfl, rfl⟩
  · rename_i e; rw [if_neg e] at hc; exact ⟨hc, rfl, rfl, rfl⟩
theorem okP_of {p : Pg} (h : okPg p = true) : okP p = true := okP_iff.2 (by unfold okPg at h; exact of_decide_eq_true h)
theorem back (h : Gp w D M W) {k : Nat} (hk : k < w.f.pg.length) (hz : w.f.pg[k].id ≠ 0) : Gp (Po.back w w.f.pg[k]) (D.set w.f.pg[k].id.toNat w.f.pg[k]) M W := by
  obtain ⟨e1, e2, e3, e4⟩ := h.back_eq hk hz
  have hok := (rt_at h.rt hk hz).2.1
  have hid := okPg_id hok
  obtain ⟨s, es, ks⟩ := h.disk
  have hkf : Kf (Po.back w w.f.pg[k]).f W := by rw [e1]; exact kf_dirty h.kf (rt_clean h.rt _)
  refine ⟨hkf, ⟨_, ?_, kw_set ks (okP_of hok)⟩, h.len, by rw [e3]; exact h.now, ?_, ?_, ?_⟩
  · rw [e2, es, (setS_ok Jn.h35 ks.ok (okP_of hok)).1]
  · rw [e1, e3]; exact fun i hi => h.dnow i ((clean_ok h.dyr).2 i hi).1
  · simp only [e1]; exact h.pages
  · intro q h1 h2 hn
    rw [e1] at hn
    rw [getD_set (by rw [h.dlen]; omega)]
    by_cases e : w.f.pg[k].id.toNat = q
    · rw [if_pos e, ← e]; exact h.pages k hk hz
    · rw [if_neg e]
      exact h.clean q h1 h2 fun hi => hn ((clean_keep h.dyr (by omega)).2 hi)
end Gp
end Go.Proofs.YtcbfhpnmhhnjpaaGreat

