/- layer 15, plain: what the document calls right is right. -/
import Derived.Test.YtcindpblgbpcoaaFP
import Derived.Test.YtcindpblgbpcoaaEA
namespace Go.Proofs.Ytcindpblgbpcoaa
open Go.RowKit
set_option linter.unusedVariables false
set_option linter.unusedSimpArgs false
namespace Ta
theorem ent_right {t : List Sl} (h : right t = true) {o : Nat} (ho : o < 16) (hz : (at' t o).p ≠ 0) : isP (at' t o).p = true ∧ isF (at' t o).f = true ∧ seek t (at' t o).p = (o : Nat) := by
  have := (right_iff.1 h).2 o ho
  unfold okS at this
  rw [show free (at' t o) = false by unfold free; rw [show ((at' t o).p == 0) = false from beq_eq_false_iff_ne.2 hz]; rfl, Bool.false_or] at this
  simp only [Bool.and_eq_true, decide_eq_true_eq] at this
  exact ⟨this.1.1, this.1.2, this.2⟩
theorem find_ent {t : List Sl} (h : right t = true) {o : Nat} (ho : o < 16) (hz : (at' t o).p ≠ 0) : find t (at' t o).p = ((at' t o).f, true) := by
  obtain ⟨h1, h2, h3⟩ := ent_right h ho hz
  have hs : slot t (at' t o).p = (((o : Nat) : Int), true) := by
    unfold slot
    rw [if_pos h1, h3, Int.toNat_natCast, decide_eq_true ⟨by omega, rfl⟩]
  unfold find
  rw [hs]
  simp only
  rw [if_pos ⟨h, trivial⟩, Int.toNat_natCast]
theorem pgs_nodup {t : List Sl} (h : right t = true) : (pgs t).Nodup := by
  have hl := (right_iff.1 h).1
  unfold pgs List.Nodup
  rw [List.pairwise_map, List.pairwise_filter, List.pairwise_iff_getElem]
  intro i j hi hj hij f1 f2 e
  have g : ∀ k (hk : k < t.length), (!free t[k]) = true → (at' t k).p ≠ 0 := fun k hk hf hz => by
    have hi16 : k < 16 := by omega
    have hok := (right_iff.1 h).2 k hi16
    rw [at_get hk] at hz
    unfold okS at hok
    rw [at_get hk] at hok
    have : free t[k] = false := by simpa using hf
    rw [this, Bool.false_or] at hok
    simp only [Bool.and_eq_true] at hok
    have := hok.1.1
    unfold isP at this
    rw [decide_eq_true_iff] at this
    omega
  have a1 := (ent_right h (by omega) (g i hi f1)).2.2
  have a2 := (ent_right h (by omega) (g j hj f2)).2.2
  rw [at_get hi] at a1
  rw [at_get hj] at a2
  rw [e, a2] at a1
  omega
theorem findM_ent {t : List Sl} {p : Int} {k : Nat} (h : findM t p = k) : ∃ hk : k < t.length, t[k].p = p ∧ p ≠ 0 := by
  unfold findM at h
  split at h
  · omega
  rename_i hp
  cases e : t.findIdx? (fun s => s.p == p) with
  | none => rw [e] at h; simp only at h; omega
  | some j =>
    rw [e] at h
    simp only at h
    obtain ⟨hk, h1, _⟩ := List.findIdx?_eq_some_iff_getElem.1 e
    have : j = k := by omega
    subst this
    exact ⟨hk, by simpa using h1, hp⟩
end Ta
theorem rt_of_ref {f : Fs} (h : Fm.rightR f = true) : Rt f := by
  rw [rightR_eq] at h
  simp only [Bool.and_eq_true, decide_eq_true_eq, List.all_eq_true, List.mem_range] at h
  obtain ⟨a, b, c, d, e, g, i⟩ := h
  have hl := (Ta.right_iff.1 b).1
  have all : ∀ k, k < f.pg.length → Fm.okAt f k = true := fun k hk => by
    have ho := e k hk
    rw [okR_eq] at ho
    unfold Fm.okAt
    by_cases hp : (f.ck.fr.getD k zF).page = 0
    · rw [if_pos hp] at ho ⊢
      simp only [Bool.and_eq_true, decide_eq_true_eq, beq_iff_eq] at ho ⊢
      exact ho
    · rw [if_neg hp] at ho ⊢
      simp only [Bool.and_eq_true, decide_eq_true_eq, beq_iff_eq] at ho ⊢
      obtain ⟨o1, o2, o3, o4⟩ := ho
      obtain ⟨j, e1, _⟩ := findM_lt o3
      obtain ⟨hj, e2, e3⟩ := Ta.findM_ent e1
      have e4 : (Ta.at' f.tb j).p = (f.ck.fr.getD k zF).page := by rw [Ta.at_get hj]; exact e2
      have hf := Ta.find_ent b (o := j) (by omega) (by rw [e4]; exact hp)
      rw [e4] at hf
      rw [e1, Int.toNat_natCast] at o4
      rw [hf]
      exact ⟨⟨o1.symm, o2⟩, rfl, o4⟩
  have rt0 : ∀ {k : Nat} (hk : k < f.pg.length), f.pg[k].id ≠ 0 → Ta.find f.tb f.pg[k].id = ((k : Int), true) := fun {k} hk hz => by
    have hc : k < f.ck.fr.length := by omega
    have ho := all k hk
    unfold Fm.okAt at ho
    rw [fr_getD hc, pg_getD hk] at ho
    split at ho
    · rw [Bool.and_eq_true, decide_eq_true_iff] at ho
      exact absurd (by rw [ho.1]; rfl) hz
    · simp only [Bool.and_eq_true, beq_iff_eq] at ho
      obtain ⟨⟨x, _⟩, y, z⟩ := ho
      rw [← x]
      exact Prod.ext z y
  refine ⟨a, b, c, d, all, ?_, fun x hx => ?_⟩
  · have hn := ids_nodup f.pg (fun y => (Ta.find f.tb y).1) 0 (fun k hk hz => by rw [rt0 hk hz]; simp)
    have h1 : ∀ y ∈ idsL f.pg, y ∈ Ta.pgs f.tb := fun y hy => by
      unfold idsL at hy
      obtain ⟨hy, hz⟩ := List.mem_filter.1 hy
      obtain ⟨q, hq, e1⟩ := List.mem_map.1 hy
      obtain ⟨k, hk, e2⟩ := List.mem_iff_getElem.1 hq
      have := find_mem b (rt0 hk (by rw [e2, e1]; simpa using hz))
      rwa [e2, e1] at this
    have h2 : ∀ y ∈ Ta.pgs f.tb, y ∈ idsL f.pg := fun y hy => by
      unfold Ta.pgs at hy
      obtain ⟨s, hs, e1⟩ := List.mem_map.1 hy
      obtain ⟨k, hk, e2, hf⟩ := (Ta.nf_at hl).1 hs
      have hz : s.p ≠ 0 := fun hz => by
        have hok := (Ta.right_iff.1 b).2 k hk
        unfold Ta.okS at hok
        rw [e2, hf, Bool.false_or] at hok
        simp only [Bool.and_eq_true] at hok
        have := hok.1.1
        unfold Ta.isP at this
        rw [decide_eq_true_iff] at this
        omega
      have ht := g k hk
      rw [okT_eq, e2] at ht
      simp only [Bool.or_eq_true, Bool.and_eq_true, decide_eq_true_eq] at ht
      obtain ⟨t1, t2⟩ := ht.resolve_left hz
      have hF := (Ta.ent_right b hk (by rw [e2]; exact hz)).2.1
      rw [e2] at hF
      unfold Ta.isF at hF
      rw [decide_eq_true_iff] at hF
      have hlt : s.f.toNat < f.pg.length := by omega
      rw [pg_getD hlt] at t2
      unfold idsL
      refine List.mem_filter.2 ⟨List.mem_map.2 ⟨f.pg[s.f.toNat], List.getElem_mem hlt, by rw [t2, e1]⟩, ?_⟩
      rw [← e1]
      exact bne_iff_ne.2 hz
    have l1 := nodup_sub_le hn h1
    have l2 := nodup_sub_le (Ta.pgs_nodup b) h2
    rw [ids_len] at l1 l2
    omega
  · have := i x hx
    obtain ⟨j, e1, _⟩ := findM_lt this
    obtain ⟨hj, e2, e3⟩ := Ta.findM_ent e1
    have e4 : (Ta.at' f.tb j).p = x.page := by rw [Ta.at_get hj]; exact e2
    have hf := Ta.find_ent b (o := j) (by omega) (by rw [e4]; exact e3)
    rw [e4] at hf
    rw [hf]
end Go.Proofs.Ytcindpblgbpcoaa
namespace Go.Proofs.Ytcindpblgbpcoaa
open Go.RowKit
set_option linter.unusedVariables false
set_option linter.unusedSimpArgs false
theorem stop_pins {l : List Fr} {h N : Nat} (hh : h < l.length) (e : Ck.stop l h = some N) : (l[(h + N) % l.length]'(Nat.mod_lt _ (by omega))).pins = 0 := by
  have hk : ∀ d, (h + d) % l.length < l.length := fun d => Nat.mod_lt _ (by omega)
  unfold Ck.stop at e
  cases e1 : Ck.first Ck.fresh l h with
  | some d =>
    rw [e1] at e
    simp only [Option.some.injEq] at e
    subst e
    have := (Ck.first_iff.1 e1).2.1
    rw [Ck.getD_eq (hk d)] at this
    unfold Ck.fresh at this
    rw [Bool.and_eq_true, beq_iff_eq] at this
    exact this.1
  | none =>
    rw [e1] at e
    cases e2 : Ck.first Ck.free l h with
    | none => rw [e2] at e; simp at e
    | some d =>
      rw [e2] at e
      simp only [Option.map_some, Option.some.injEq] at e
      subst e
      have := (Ck.first_iff.1 e2).2.1
      rw [Ck.getD_eq (hk d)] at this
      unfold Ck.free at this
      rw [beq_iff_eq] at this
      have e3 : (h + (l.length + d)) % l.length = (h + d) % l.length := by rw [show h + (l.length + d) = h + d + l.length by omega, Nat.add_mod_right]
      simp only [e3]
      exact this
theorem rt_sweep {f : Fs} (h : Rt f) (hw : (sweepC f.ck).2.2 = true) : ∃ k : Nat, (sweepC f.ck).2.1 = k ∧ ∃ hk : k < f.ck.fr.length, f.ck.fr[k].pins = 0 ∧ Rt ⟨(sweepC f.ck).1, f.tb, f.pg, f.dt⟩ := by
  obtain ⟨h8, h0, h1, hg⟩ := right_fr h.clock
  have hh : f.ck.hand.toNat < f.ck.fr.length := by omega
  cases e : Ck.stop f.ck.fr f.ck.hand.toNat with
  | none =>
    unfold sweepC at hw
    rw [if_pos h.clock, e] at hw
    exact Bool.noConfusion hw
  | some N =>
    have es : sweepC f.ck = (Clk.mk (Ck.after f.ck.fr f.ck.hand.toNat N) ((((f.ck.hand.toNat + N) % f.ck.fr.length + 1) % f.ck.fr.length : Nat) : Int), (((f.ck.hand.toNat + N) % f.ck.fr.length : Nat) : Int), true) := by unfold sweepC; rw [if_pos h.clock, e]
    have hl := Ck.after_length f.ck.fr f.ck.hand.toNat N
    have hm : ∀ x, x % f.ck.fr.length < f.ck.fr.length := fun x => Nat.mod_lt _ (by omega)
    rw [es]
    refine ⟨_, rfl, hm _, stop_pins hh e, ?_, h.table, h.dirty, by show f.pg.length = _; rw [hl]; exact h.same, fun j hj => ?_, h.many, h.items⟩
    · unfold Ck.right
      rw [Bool.and_eq_true, decide_eq_true_iff, List.all_eq_true]
      have := hm ((f.ck.hand.toNat + N) % f.ck.fr.length + 1)
      refine ⟨⟨by show (Ck.after f.ck.fr f.ck.hand.toNat N).length ≤ 8; rw [hl]; exact h8, Int.natCast_nonneg _, by show (((((f.ck.hand.toNat + N) % f.ck.fr.length + 1) % f.ck.fr.length : Nat)) : Int) < ((Ck.after f.ck.fr f.ck.hand.toNat N).length : Int); rw [hl]; exact Int.ofNat_lt.2 (hm _)⟩, fun x hx => ?_⟩
      obtain ⟨i, hi, rfl⟩ := List.getElem_of_mem hx
      have hi2 : i < f.ck.fr.length := by rw [← hl]; exact hi
      have hgi := hg _ (List.getElem_mem hi2)
      rw [Ck.after_get _ _ _ _ hi2]
      unfold Ck.good at hgi ⊢
      rw [Ck.clear_page, Ck.clear_pins]
      exact hgi
    · have hj2 : j < f.ck.fr.length := by have := h.same; have : j < f.pg.length := hj; omega
      have ho := h.all j hj
      have ga : (Ck.after f.ck.fr f.ck.hand.toNat N).getD j zF = Ck.clearAt f.ck.fr f.ck.hand.toNat N j f.ck.fr[j] := by
        rw [fr_getD (by rw [hl]; exact hj2), Ck.after_get _ _ _ _ hj2]
      unfold Fm.okAt at ho ⊢
      simp only
      rw [fr_getD hj2] at ho
      rw [ga, Ck.clear_page, Ck.clear_pins]
      exact ho
theorem fst_neg {α : Type} {p : α → Bool} {l : List α} : (0 ≤ fst? p l) ↔ l.any p = true := by
  rw [← any_fst, decide_eq_true_iff]
theorem page_id {f : Fs} (h : Rt f) {k : Nat} (hk : k < f.pg.length) : ((f.ck.fr[k]'(by have := h.same; omega)).page = 0) ↔ f.pg[k].id = 0 := by
  have hc : k < f.ck.fr.length := by have := h.same; omega
  constructor
  · intro e
    have ho := h.all k hk
    unfold Fm.okAt at ho
    rw [fr_getD hc, pg_getD hk, if_pos e, Bool.and_eq_true, decide_eq_true_iff] at ho
    rw [ho.1]; rfl
  · intro e
    refine Decidable.byContradiction fun hne => ?_
    have ho := h.all k hk
    unfold Fm.okAt at ho
    rw [fr_getD hc, pg_getD hk, if_neg hne] at ho
    simp only [Bool.and_eq_true, beq_iff_eq] at ho
    exact hne (ho.1.1.trans e)
theorem any_same {f : Fs} (h : Rt f) : f.ck.fr.any (fun c => c.page == 0) = f.pg.any fun p => p.id == 0 := by
  have hs := h.same
  rw [Bool.eq_iff_iff, List.any_eq_true, List.any_eq_true]
  constructor
  · rintro ⟨x, hx, e⟩
    obtain ⟨k, hk, rfl⟩ := List.getElem_of_mem hx
    exact ⟨_, List.getElem_mem (by omega : k < f.pg.length), by rw [beq_iff_eq] at e ⊢; exact (page_id h (by omega)).1 e⟩
  · rintro ⟨x, hx, e⟩
    obtain ⟨k, hk, rfl⟩ := List.getElem_of_mem hx
    exact ⟨_, List.getElem_mem (by omega : k < f.ck.fr.length), by rw [beq_iff_eq] at e ⊢; exact (page_id h hk).2 e⟩
theorem room_free {f : Fs} (h : Rt f) (ha : (f.pg.any fun p => p.id == 0) = true) : Fm.room f = (f, zP, false, 0) := by
  have hr := rt_iff.2 h
  have : 0 ≤ Fm.ff f := fst_neg.2 (by rw [any_same h]; exact ha)
  unfold Fm.room
  rw [if_neg (by simp [hr]), if_pos this]
theorem sweep_pinned {f : Fs} (h : Rt f) : (f.ck.fr.all fun c => decide (0 < c.pins)) = true → (sweepC f.ck).2.2 = false := fun hp => by
  have ha : (f.ck.fr.any fun y => !decide (0 < y.pins)) = false := by
    rw [List.any_eq_false]; intro x hx; rw [(List.all_eq_true.1 hp) x hx]; simp
  unfold sweepC
  rw [if_pos h.clock, stop_any h.clock ha]
theorem sweep_some {f : Fs} (h : Rt f) : (f.ck.fr.all fun c => decide (0 < c.pins)) = false → (sweepC f.ck).2.2 = true := fun hp => by
  obtain ⟨h8, h0, h1, hg⟩ := right_fr h.clock
  have hh : f.ck.hand.toNat < f.ck.fr.length := by omega
  have ha : (f.ck.fr.any fun y => !decide (0 < y.pins)) = true := by
    rw [List.all_eq_false] at hp
    obtain ⟨x, hx, e⟩ := hp
    rw [List.any_eq_true]; exact ⟨x, hx, by simpa using e⟩
  have hf := any_free h.clock ha
  unfold sweepC
  rw [if_pos h.clock]
  cases e : Ck.stop f.ck.fr f.ck.hand.toNat with
  | some N => rfl
  | none =>
    exfalso
    unfold Ck.stop at e
    cases e1 : Ck.first Ck.fresh f.ck.fr f.ck.hand.toNat with
    | some d => rw [e1] at e; simp at e
    | none =>
      rw [e1] at e
      simp only [Option.map_eq_none_iff] at e
      obtain ⟨x, hx, hz⟩ := hf
      have := (Ck.first_none_all hh).1 e x hx
      unfold Ck.free at this
      rw [hz] at this
      exact Bool.noConfusion this
theorem room_busy {f : Fs} (h : Rt f) (ha : (f.pg.any fun p => p.id == 0) = false) (hp : (f.ck.fr.all fun c => decide (0 < c.pins)) = true) : Fm.room f = (f, zP, false, 6) := by
  have hr := rt_iff.2 h
  have : ¬ 0 ≤ Fm.ff f := fun hx => by
    have := fst_neg.1 hx
    rw [any_same h, ha] at this; exact Bool.noConfusion this
  unfold Fm.room
  rw [if_neg (by simp [hr]), if_neg this, if_pos (sweep_pinned h hp)]
theorem okPg_id {p : Pg} (h : okPg p = true) : 1 ≤ p.id ∧ p.id ≤ 16 := by
  unfold okPg at h
  rw [decide_eq_true_iff] at h
  exact ⟨h.1, h.2.1⟩
theorem room_goes {f : Fs} (h : Rt f) (ha : (f.pg.any fun p => p.id == 0) = false) (hp : (f.ck.fr.all fun c => decide (0 < c.pins)) = false) :
    ∃ (k : Nat) (hk : k < f.pg.length) (hc : k < f.ck.fr.length), (Fm.room f).2.1 = f.pg[k] ∧ f.pg[k].id ≠ 0 ∧ f.ck.fr[k].pins = 0 ∧ (Fm.room f).2.2.2 = 0 ∧ Rt (Fm.room f).1 ∧ (Ta.find (Fm.room f).1.tb f.pg[k].id).2 = (Fm.room f).2.2.1 := by
  have hr := rt_iff.2 h
  have hff : ¬ 0 ≤ Fm.ff f := fun hx => by
    have := fst_neg.1 hx
    rw [any_same h, ha] at this; exact Bool.noConfusion this
  have hw := sweep_some h hp
  obtain ⟨k, e1, hc, e2, hrt⟩ := rt_sweep h hw
  have hk : k < f.pg.length := by have := h.same; omega
  have hz : f.pg[k].id ≠ 0 := fun e => by
    rw [List.any_eq_false] at ha
    exact ha _ (List.getElem_mem hk) (by rw [e]; rfl)
  have hfd := (rt_at h hk hz).2.2
  refine ⟨k, hk, hc, ?_⟩
  cases hd : (sinceI f.dt f.pg[k].id).2
  · have e : Fm.room f = (Fm.empty ⟨(sweepC f.ck).1, f.tb, f.pg, f.dt⟩ k, f.pg[k], false, 0) := by
      unfold Fm.room; rw [if_neg (by simp [hr]), if_neg hff, if_neg (by simp [hw]), e1, Int.toNat_natCast, pg_getD hk, if_neg (by simp [hd])]
    rw [e]
    have hre := rt_empty hrt (k := k) hk hz
    refine ⟨rfl, hz, e2, rfl, hre, ?_⟩
    have hl := (Ta.right_iff.1 h.table).1
    obtain ⟨r, kp⟩ := Ta.kp_some h.table (by have := rt_nf h; omega)
    obtain ⟨u, d1, d2, d3⟩ := Ta.kp_del kp (Ta.find_nf hl hfd)
    have eu : (Fm.empty ⟨(sweepC f.ck).1, f.tb, f.pg, f.dt⟩ k).tb = u := by
      unfold Fm.empty
      simp only
      rw [pg_getD hk, show Ta.del f.tb f.pg[k].id = (u, 0) from d1]
    rw [eu]
    show (Ta.find u f.pg[k].id).2 = false
    have hnd : (f.pg[k].id :: (Ta.nf u).map Sl.p).Nodup := by
      have := (d3.map Sl.p).nodup_iff.2 (Ta.pgs_nodup h.table)
      exact this
    rw [List.nodup_cons] at hnd
    have h16 := (okPg_id (rt_at h hk hz).2.1)
    rw [(Ta.kp_out d2 (by omega) (fun s hs ep => hnd.1 (List.mem_map.2 ⟨s, hs, ep⟩))).2]
  · have e : Fm.room f = (⟨(sweepC f.ck).1, f.tb, f.pg, f.dt⟩, f.pg[k], true, 0) := by
      unfold Fm.room; rw [if_neg (by simp [hr]), if_neg hff, if_neg (by simp [hw]), e1, Int.toNat_natCast, pg_getD hk, if_pos hd]
    rw [e]
    exact ⟨rfl, hz, e2, rfl, hrt, by show (Ta.find f.tb f.pg[k].id).2 = true; rw [hfd]⟩
end Go.Proofs.Ytcindpblgbpcoaa
