/- layer 15, plain: right frames are right by the document; a pin that is given back; a page that comes and goes. -/
import Derived.Test.YtcindpblgbpcoaaFR
import Derived.Test.YtcindpblgbpcoaaFQ
import Derived.Test.YtcindpblgbpcoaaEB
namespace Go.Proofs.Ytcindpblgbpcoaa
open Go.RowKit
set_option linter.unusedVariables false
set_option linter.unusedSimpArgs false
theorem findM_of {t : List Sl} (hr : Ta.right t = true) {p x : Int} (h : Ta.find t p = (x, true)) : 0 ≤ Ta.findM t p ∧ (Ta.at' t (Ta.findM t p).toNat).f = x := by
  obtain ⟨hp, h0, h1, h2⟩ := find_true h
  have hp2 := hp
  unfold Ta.isP at hp2
  rw [decide_eq_true_iff] at hp2
  have hl := (Ta.right_iff.1 hr).1
  have hk : (Ta.seek t p).toNat < t.length := by
    rcases Ta.seek_range (t := t) (p := p) with e | ⟨i, hi, e, _⟩
    · omega
    · have := @Ta.pl_lt p i
      rw [e]; omega
  cases e : t.findIdx? (fun s => s.p == p) with
  | none =>
    have h3 := List.findIdx?_eq_none_iff.1 e _ (List.getElem_mem hk)
    rw [Ta.at_get hk] at h1
    simp [h1] at h3
  | some j =>
    obtain ⟨hj, h3, _⟩ := List.findIdx?_eq_some_iff_getElem.1 e
    have h4 : t[j].p = p := by simpa using h3
    have h5 := (Ta.ent_right hr (o := j) (by omega) (by rw [Ta.at_get hj, h4]; omega)).2.2
    rw [Ta.at_get hj, h4] at h5
    have ef : Ta.findM t p = (j : Int) := by unfold Ta.findM; rw [if_neg (by omega), e]
    rw [ef]
    refine ⟨by omega, ?_⟩
    rw [h2, h5]
theorem ref_of_rt {f : Fs} (h : Rt f) : Fm.rightR f = true := by
  rw [rightR_eq]
  simp only [Bool.and_eq_true, decide_eq_true_eq, List.all_eq_true, List.mem_range]
  have hl := (Ta.right_iff.1 h.table).1
  refine ⟨h.clock, h.table, h.dirty, h.same, fun k hk => ?_, fun k hk => ?_, fun i hi => ?_⟩
  · have ho := h.all k hk
    rw [okR_eq]
    unfold Fm.okAt at ho
    by_cases hp : (f.ck.fr.getD k zF).page = 0
    · rw [if_pos hp] at ho ⊢
      simpa using ho
    · rw [if_neg hp] at ho ⊢
      simp only [Bool.and_eq_true, beq_iff_eq, decide_eq_true_eq] at ho ⊢
      obtain ⟨⟨o1, o2⟩, o3, o4⟩ := ho
      have := findM_of h.table (Prod.ext rfl o3 : Ta.find f.tb (f.ck.fr.getD k zF).page = ((Ta.find f.tb (f.ck.fr.getD k zF).page).1, true))
      exact ⟨o1.symm, o2, this.1, by rw [this.2, o4]⟩
  · rw [okT_eq]
    by_cases hz : (Ta.at' f.tb k).p = 0
    · simp [hz]
    · have h1 := Ta.find_ent h.table hk hz
      obtain ⟨j, hj, e1, e2, e3⟩ := rt_found h h1
      simp only [Bool.or_eq_true, Bool.and_eq_true, decide_eq_true_eq]
      refine .inr ⟨by omega, ?_⟩
      rw [e1, Int.toNat_natCast, pg_getD hj, e2]
  · exact (findM_of h.table (Prod.ext rfl (h.items i hi) : Ta.find f.tb i.page = ((Ta.find f.tb i.page).1, true))).1
theorem loc_rt {f : Fs} (h : Rt f) {k : Nat} (hk : k < f.pg.length) {id : Int} (e : f.pg[k].id = id) (hz : id ≠ 0) : Fm.locate f id = ((k : Int), 0) := by
  subst e
  unfold Fm.locate
  rw [if_neg (by rw [rt_iff.2 h]; decide), if_neg (by rw [(rt_at h hk hz).2.2]; exact fun e => Bool.noConfusion e), (rt_at h hk hz).2.2]
theorem rt_len {f : Fs} (h : Rt f) : f.ck.fr.length ≤ 8 ∧ f.pg.length ≤ 8 ∧ f.tb.length = 16 ∧ f.dt.length ≤ 16 := by
  have h8 := (right_fr h.clock).1
  have hd := right_len h.dirty
  have hl := (Ta.right_iff.1 h.table).1
  have := h.same
  omega
theorem rt_sh2 {f : Fs} (h : Rt f) : Sh f := by
  have := rt_len h
  exact ⟨by omega, by omega⟩
/-- a pin that is given back -/
theorem pin_back {f : Fs} {id : Int} (h : (Fm.pin f id).2 = 0) : Rt f ∧ ∃ (k : Nat) (hk : k < f.pg.length) (hc : k < f.ck.fr.length), f.pg[k].id = id ∧ 1 ≤ id ∧ 0 ≤ f.ck.fr[k].pins ∧ f.ck.fr[k].pins < 2147483647 ∧
    Fm.pin f id = (Fm.lay f k ⟨f.ck.fr[k].page, f.ck.fr[k].pins + 1, true⟩ f.pg[k], 0) ∧ Rt (Fm.lay f k ⟨f.ck.fr[k].page, f.ck.fr[k].pins + 1, true⟩ f.pg[k]) ∧
    Fm.unpin (Fm.lay f k ⟨f.ck.fr[k].page, f.ck.fr[k].pins + 1, true⟩ f.pg[k]) id = (Fm.lay f k ⟨f.ck.fr[k].page, f.ck.fr[k].pins, true⟩ f.pg[k], 0) ∧ Rt (Fm.lay f k ⟨f.ck.fr[k].page, f.ck.fr[k].pins, true⟩ f.pg[k]) := by
  have hp : Fm.pin f id = (if (Fm.locate f id).2 ≠ 0 then (f, (Fm.locate f id).2) else if (Fm.fa f id).pins = 2147483647 then (f, 7) else (Fm.lay f (Fm.locate f id).1.toNat ⟨(Fm.fa f id).page, (Fm.fa f id).pins + 1, true⟩ (Fm.pa f id), 0)) := rfl
  rw [hp] at h
  split at h
  · rename_i hl; exact absurd h hl
  rename_i hl
  split at h
  · exact absurd (show (7 : Int) = 0 from h) (by decide)
  rename_i hpn
  obtain ⟨k, e1, k1, k2, hr, hf, e2, e3⟩ := at_found (show (Fm.locate f id).2 = 0 by simpa using hl)
  rw [pg_getD k2] at e2
  have rt := rt_iff.1 hr
  have hz : f.pg[k].id ≠ 0 := by rw [e2]; exact e3
  obtain ⟨b1, b2, _⟩ := rt_at rt k2 hz
  have hid := okPg_id b2
  have f1 : Fm.fa f id = f.ck.fr[k] := by unfold Fm.fa; rw [e1, Int.toNat_natCast, fr_getD k1]
  have f2 : Fm.pa f id = f.pg[k] := by unfold Fm.pa; rw [e1, Int.toNat_natCast, pg_getD k2]
  rw [f1] at hpn
  have hg := (right_fr rt.clock).2.2.2 _ (List.getElem_mem k1)
  unfold Ck.good at hg
  rw [decide_eq_true_iff] at hg
  have good : ∀ n : Int, 0 ≤ n → n ≤ 2147483647 → Ck.good ⟨f.ck.fr[k].page, n, true⟩ = true := fun n h1 h2 => by
    unfold Ck.good
    rw [decide_eq_true_iff]
    show 0 ≤ f.ck.fr[k].page ∧ f.ck.fr[k].page ≤ 16 ∧ 0 ≤ n ∧ n ≤ 2147483647
    omega
  have r1 := rt_lay rt k2 hz (x := ⟨f.ck.fr[k].page, f.ck.fr[k].pins + 1, true⟩) (good _ (by omega) (by omega)) b1 (p := f.pg[k]) rfl b2
  have r2 := rt_lay rt k2 hz (x := ⟨f.ck.fr[k].page, f.ck.fr[k].pins, true⟩) (good _ (by omega) (by omega)) b1 (p := f.pg[k]) rfl b2
  refine ⟨rt, k, k2, k1, e2, by omega, by omega, by omega, ?_, r1, ?_, r2⟩
  · rw [hp, if_neg hl, f1, f2, if_neg hpn, e1, Int.toNat_natCast]
  · have hk' : k < (Fm.lay f k ⟨f.ck.fr[k].page, f.ck.fr[k].pins + 1, true⟩ f.pg[k]).pg.length := by show k < (f.pg.set k _).length; simpa using k2
    have hl1 := loc_rt r1 hk' (id := id) (by show ((f.pg.set k f.pg[k])[k]'(by simpa using k2)).id = id; rw [List.getElem_set_self, e2]) e3
    have g1 : (Fm.lay f k ⟨f.ck.fr[k].page, f.ck.fr[k].pins + 1, true⟩ f.pg[k]).ck.fr.getD k zF = ⟨f.ck.fr[k].page, f.ck.fr[k].pins + 1, true⟩ := by
      show (f.ck.fr.set k _).getD k zF = _
      rw [set_getD_fr k1, if_pos rfl]
    have g2 : (Fm.lay f k ⟨f.ck.fr[k].page, f.ck.fr[k].pins + 1, true⟩ f.pg[k]).pg.getD k zP = f.pg[k] := by
      show (f.pg.set k _).getD k zP = _
      rw [set_getD_pg k2, if_pos rfl]
    unfold Fm.unpin
    rw [hl1, if_neg (fun e => e rfl), Int.toNat_natCast, g1, g2, if_neg (by show f.ck.fr[k].pins + 1 ≠ 0; omega)]
    unfold Fm.lay
    simp only [List.set_set]
    rw [show f.ck.fr[k].pins + 1 - 1 = f.ck.fr[k].pins by omega]
theorem clean_not {l : List It} {p : Int} (hno : ∀ a ∈ l, a.page ≠ p) : (cleanI l p).1 = l := by
  unfold cleanI
  split
  · rfl
  · rw [if_pos (by rw [Dy.at_none (fun j hj => hno _ (List.getElem_mem hj))]; decide)]
theorem fst_prop2 {α : Type} {p : α → Bool} {l : List α} {k : Nat} (h : fst? p l = (k : Int)) : ∃ hk : k < l.length, p l[k] = true := by
  unfold fst? at h
  cases e : l.findIdx? p with
  | none => rw [e] at h; simp only at h; omega
  | some j =>
    rw [e] at h
    simp only at h
    obtain ⟨hk, h1, _⟩ := List.findIdx?_eq_some_iff_getElem.1 e
    have : j = k := by omega
    subst this
    exact ⟨hk, h1⟩
/-- a page that comes, and goes -/
theorem load_back {f : Fs} {p : Pg} (h : (Fm.load f p 0 false).2 = 0) : Rt f ∧ 1 ≤ p.id ∧ (∀ j (hj : j < f.pg.length), f.pg[j].id ≠ p.id) ∧ ∃ (k : Nat) (c d : Fs), Fm.load f p 0 false = (c, 0) ∧ Rt c ∧ Fm.unpin c p.id = (d, 0) ∧ Rt d ∧ Fm.drop d p.id = (⟨⟨f.ck.fr.set k zF, f.ck.hand⟩, f.tb, f.pg, f.dt⟩, 0) ∧ Rt ⟨⟨f.ck.fr.set k zF, f.ck.hand⟩, f.tb, f.pg, f.dt⟩ := by
  unfold Fm.load at h ⊢
  by_cases hc : Fm.right f = false ∨ okPg p = false ∨ (0 : Int) < 0 ∨ (2147483647 : Int) < 0
  · rw [if_pos hc] at h; exact absurd (show (1 : Int) = 0 from h) (by decide)
  rw [if_neg hc] at h ⊢
  have hr : Rt f := rt_iff.1 (by cases e : Fm.right f; exact absurd (.inl e) hc; rfl)
  have hp : okPg p = true := by cases e : okPg p; exact absurd (.inr (.inl e)) hc; rfl
  have hid := okPg_id hp
  by_cases hf : (Ta.find f.tb p.id).2 = true
  · rw [if_pos hf] at h; exact absurd (show (4 : Int) = 0 from h) (by decide)
  rw [if_neg hf] at h ⊢
  have hf2 : (Ta.find f.tb p.id).2 = false := by simpa using hf
  by_cases hk0 : Fm.ff f < 0
  · rw [if_pos hk0] at h; exact absurd (show (7 : Int) = 0 from h) (by decide)
  rw [if_neg hk0, if_neg (by decide)] at h ⊢
  have hsm := hr.same
  obtain ⟨k, e1, _⟩ := fst_at' hk0
  have e1' : Fm.ff f = (k : Int) := e1
  obtain ⟨hkc, hpz⟩ := fst_prop2 e1
  have hk : k < f.pg.length := by omega
  have hz : f.pg[k].id = 0 := (page_id hr hk).1 (by simpa using hpz)
  have hzp : f.pg[k] = zP := by
    have ho := hr.all k hk
    unfold Fm.okAt at ho
    rw [fr_getD hkc, pg_getD hk, if_pos (by simpa using hpz)] at ho
    simp only [Bool.and_eq_true, decide_eq_true_eq] at ho
    exact ho.1
  have hno : ∀ j (hj : j < f.pg.length), f.pg[j].id ≠ p.id := fun j hj e => by
    have := (rt_at hr hj (by rw [e]; omega)).2.2
    rw [e] at this
    rw [this] at hf2; exact Bool.noConfusion hf2
  have hrc := (rt_load hr hk hz hp hf2).1
  rw [e1', Int.toNat_natCast]
  obtain ⟨c, hc2⟩ : ∃ c : Fs, c = ⟨⟨f.ck.fr.set k ⟨p.id, 1, true⟩, f.ck.hand⟩, (Ta.put f.tb p.id (k : Int)).1, f.pg.set k p, f.dt⟩ := ⟨_, rfl⟩
  have hcp : c.pg = f.pg.set k p := by rw [hc2]
  have hcf : c.ck = ⟨f.ck.fr.set k ⟨p.id, 1, true⟩, f.ck.hand⟩ := by rw [hc2]
  rw [← hc2] at hrc ⊢
  have kc : k < c.pg.length := by rw [hcp]; simpa using hk
  have kcc : k < c.ck.fr.length := by rw [hcf]; simpa using hkc
  have pc : c.pg[k] = p := by simp only [hcp]; rw [List.getElem_set_self]
  have l1 := loc_rt hrc kc (id := p.id) (by rw [pc]) (by omega)
  have g1 : c.ck.fr.getD k zF = ⟨p.id, 1, true⟩ := by rw [hcf]; exact (set_getD_fr hkc).trans (if_pos rfl)
  have g2 : c.pg.getD k zP = p := by rw [hcp, set_getD_pg hk, if_pos rfl]
  have hu : Fm.unpin c p.id = (Fm.lay c k ⟨p.id, 0, true⟩ p, 0) := by
    unfold Fm.unpin
    rw [l1, if_neg (fun e => e rfl), Int.toNat_natCast, g1, g2, if_neg (show ¬ (1 : Int) = 0 by decide)]
    rfl
  have rd := rt_lay hrc kc (by rw [pc]; omega) (x := ⟨p.id, 0, true⟩) (p := p) (by unfold Ck.good; rw [decide_eq_true_iff]; show 0 ≤ p.id ∧ p.id ≤ 16 ∧ (0 : Int) ≤ 0 ∧ (0 : Int) ≤ 2147483647; omega) (by rw [pc]) (by rw [pc]) hp
  have kd : k < (Fm.lay c k ⟨p.id, 0, true⟩ p).pg.length := by show k < (c.pg.set k _).length; simpa using kc
  have pd : (Fm.lay c k ⟨p.id, 0, true⟩ p).pg[k] = p := by show (c.pg.set k p)[k]'(by simpa using kc) = p; rw [List.getElem_set_self]
  have l2 := loc_rt rd kd (id := p.id) (by rw [pd]) (by omega)
  have g3 : (Fm.lay c k ⟨p.id, 0, true⟩ p).ck.fr.getD k zF = ⟨p.id, 0, true⟩ := (set_getD_fr kcc).trans (if_pos rfl)
  have g4 : (Fm.lay c k ⟨p.id, 0, true⟩ p).pg.getD k zP = p := (set_getD_pg kc).trans (if_pos rfl)
  have hput : (Ta.put f.tb p.id (k : Int)).2 = 0 := by
    have hn := rt_nf hr
    have h8 := (right_fr hr.clock).1
    obtain ⟨r, kp⟩ := Ta.kp_some hr.table (by omega)
    obtain ⟨u, r', d1, _⟩ := Ta.kp_put kp (p := p.id) (f := (k : Int)) (by unfold Ta.isP; rw [decide_eq_true_iff]; omega) (by unfold Ta.isF; rw [decide_eq_true_iff]; omega) (fun s hs e => by
      have := Ta.nf_find kp hs
      rw [e] at this
      rw [this] at hf2; exact Bool.noConfusion hf2) (by omega)
    rw [d1]
  have hbk := (Ta.back hput).2.2.2.1
  have hct : c.tb = (Ta.put f.tb p.id (k : Int)).1 := by rw [hc2]
  have hcd : c.dt = f.dt := by rw [hc2]
  have he : Fm.empty (Fm.lay c k ⟨p.id, 0, true⟩ p) k = ⟨⟨f.ck.fr.set k zF, f.ck.hand⟩, f.tb, f.pg, f.dt⟩ := by
    unfold Fm.empty
    rw [g4]
    show (⟨⟨((c.ck.fr.set k _).set k zF), c.ck.hand⟩, (Ta.del c.tb p.id).1, (c.pg.set k p).set k zP, (cleanI c.dt p.id).1⟩ : Fs) = _
    rw [List.set_set, List.set_set, hcf, hcp, hct, hcd, List.set_set, List.set_set, hbk, clean_not (l := f.dt) (fun a ha e => by
      have := hr.items a ha
      rw [e] at this
      rw [this] at hf2; exact Bool.noConfusion hf2), ← hzp, List.set_getElem_self]
  have re := rt_empty rd kd (by rw [pd]; omega)
  rw [he] at re
  refine ⟨hr, hid.1, hno, k, c, _, rfl, hrc, hu, rd, ?_, re⟩
  unfold Fm.drop
  rw [l2, if_neg (fun e => e rfl)]
  unfold Fm.fa
  rw [l2, Int.toNat_natCast, g3, if_neg (by show ¬ (0 : Int) < 0; decide), he]
end Go.Proofs.Ytcindpblgbpcoaa
namespace Go.Proofs.Ytcindpblgbpcoaa
open Go.RowKit
set_option linter.unusedVariables false
set_option linter.unusedSimpArgs false

theorem rrFind_none (f : Fs) (id : Int) (h0 : 0 < id) (hno : ∀ j (hj : j < f.pg.length), f.pg[j].id ≠ id) (hl : f.pg.length ≤ 1000000) : Spec Try.prog 21 [.agg (encFs f), rI id] (.val (rI (-1))) := by
  refine spec_val mixed fn21 (by simp) ?_
  unfold ac21
  simp -implicitDefEqProofs only [↓aP, aQ, ↓reduceIte, Nat.reduceEqDiff, Nat.reduceAdd, Nat.reduceSub, Nat.reduceMul, Nat.reduceLT, Nat.reduceLeDiff, reduceCtorEq, Nat.reduceBEq, forall_const, implies_true, exists_const, ne_eq, Int.reduceAdd, Int.reduceSub, Int.reduceMul, Int.reduceBEq, Int.reduceEq, Int.reduceLT, Int.reduceLE, Int.reduceToNat, Int.reduceNeg, Int.reduceBNe, encFs]
  refine loopA (fun m σ => ∃ i : Nat, i + m = f.pg.length ∧ σ.slot 1 = vI id ∧ σ.slot 2 = .c (.ptr 2 1 0 0) ∧ σ.h.gen 2 = 1 ∧ σ.h.blk 2 = .box 57 5 [(encFs f).map AC.s] ∧ σ.slot 5 = vI i) f.pg.length ⟨0, by omega, ?_⟩ ?_
  · simp -implicitDefEqProofs only [↓aP, aQ, ↓reduceIte, Nat.reduceEqDiff, Nat.reduceAdd, Nat.reduceSub, Nat.reduceMul, Nat.reduceLT, Nat.reduceLeDiff, reduceCtorEq, Nat.reduceBEq, forall_const, implies_true, exists_const, ne_eq, Int.reduceAdd, Int.reduceSub, Int.reduceMul, Int.reduceBEq, Int.reduceEq, Int.reduceLT, Int.reduceLE, Int.reduceToNat, Int.reduceNeg, Int.reduceBNe, encFs]
  rintro m σ ⟨i, him, s1, s2, g2, b2, s5⟩
  by_cases hi : i < f.pg.length
  · have wi : IntKind.i64.wrap ((i : Int) + 1) = ((i + 1 : Nat) : Int) := by rw [wrapI (by omega)]; omega
    simp -implicitDefEqProofs only [↓aP, aQ, ↓reduceIte, Nat.reduceEqDiff, Nat.reduceAdd, Nat.reduceSub, Nat.reduceMul, Nat.reduceLT, Nat.reduceLeDiff, reduceCtorEq, Nat.reduceBEq, forall_const, implies_true, exists_const, ne_eq, Int.reduceAdd, Int.reduceSub, Int.reduceMul, Int.reduceBEq, Int.reduceEq, Int.reduceLT, Int.reduceLE, Int.reduceToNat, Int.reduceNeg, Int.reduceBNe, s1, s2, g2, b2, s5, encFs, List.length_map, show decide ((i : Int) < (f.pg.length : Int)) = true by simp; omega, show decide ((0 : Int) < id) = true from decide_eq_true h0, askIdx_map, hi, encPg, show (f.pg[i].id == id) = false from beq_eq_false_iff_ne.2 (hno i hi), wi]
    refine ⟨m - 1, by omega, i + 1, by omega, ?_⟩
    simp -implicitDefEqProofs only [↓aP, aQ, ↓reduceIte, Nat.reduceEqDiff, Nat.reduceAdd, Nat.reduceSub, Nat.reduceMul, Nat.reduceLT, Nat.reduceLeDiff, reduceCtorEq, Nat.reduceBEq, forall_const, implies_true, exists_const, ne_eq, Int.reduceAdd, Int.reduceSub, Int.reduceMul, Int.reduceBEq, Int.reduceEq, Int.reduceLT, Int.reduceLE, Int.reduceToNat, Int.reduceNeg, Int.reduceBNe, s1, s2, g2, b2, s5, encFs]
  · simp -implicitDefEqProofs only [↓aP, aQ, ↓reduceIte, Nat.reduceEqDiff, Nat.reduceAdd, Nat.reduceSub, Nat.reduceMul, Nat.reduceLT, Nat.reduceLeDiff, reduceCtorEq, Nat.reduceBEq, forall_const, implies_true, exists_const, ne_eq, Int.reduceAdd, Int.reduceSub, Int.reduceMul, Int.reduceBEq, Int.reduceEq, Int.reduceLT, Int.reduceLE, Int.reduceToNat, Int.reduceNeg, Int.reduceBNe, s1, s2, g2, b2, s5, encFs, List.length_map, show decide ((i : Int) < (f.pg.length : Int)) = false by simp; omega]
theorem fields_rfr : Try.prog.underlying 65 = some (.struct (Try.prog.fieldsOf 65)) := by kernel_rfl
theorem held_rfr : Try.prog.stoodInHeld 65 = false := by kernel_rfl
theorem fieldsL_rfr : ((Try.prog.fieldsOf 65).toList.map fun f => (f.type, f.offset)) = [(3, 0), (3, 1), (4, 2)] := by kernel_rfl
set_option maxRecDepth 100000 in
theorem eq_rfr (x : Fr) : EqRun Try.prog 65 [.int .i64 x.page, .int .i64 x.pins, .bool x.used] [.int .i64 x.page, .int .i64 x.pins, .bool x.used] true := by
  intro w
  rw [run_eql_struct, run_equalIn_agg w 9999 _ _ _ fields_rfr held_rfr]
  go_simp

theorem rcSame_spec (c : Clk) (hl : c.fr.length < 1000000) : Spec Try.prog 68 [.agg (encClk c), .agg (encClk c)] (.val (rB true)) := by
  refine spec_val mixed fn68 (by simp) ?_
  unfold ac68
  simp -implicitDefEqProofs only [↓aP, aQ, ↓reduceIte, Nat.reduceEqDiff, Nat.reduceAdd, Nat.reduceSub, Nat.reduceMul, Nat.reduceLT, Nat.reduceLeDiff, reduceCtorEq, Nat.reduceBEq, forall_const, implies_true, exists_const, ne_eq, Int.reduceAdd, Int.reduceSub, Int.reduceMul, Int.reduceBEq, Int.reduceEq, Int.reduceLT, Int.reduceLE, Int.reduceToNat, Int.reduceNeg, Int.reduceBNe, encClk, bne_self_eq_false]
  refine rangeB c.fr.length (fun i σ => σ.slot 2 = .c (.ptr 2 1 0 0) ∧ σ.h.gen 2 = 1 ∧ σ.h.blk 2 = .box 51 2 [(encClk c).map AC.s] ∧ σ.slot 3 = .c (.ptr 3 1 0 0) ∧ σ.h.gen 3 = 1 ∧ σ.h.blk 3 = .box 51 2 [(encClk c).map AC.s] ∧ σ.slot 5 = vI i) ?_ ?_ ?_
  · simp -implicitDefEqProofs only [↓aP, aQ, ↓reduceIte, Nat.reduceEqDiff, Nat.reduceAdd, Nat.reduceSub, Nat.reduceMul, Nat.reduceLT, Nat.reduceLeDiff, reduceCtorEq, Nat.reduceBEq, forall_const, implies_true, exists_const, ne_eq, Int.reduceAdd, Int.reduceSub, Int.reduceMul, Int.reduceBEq, Int.reduceEq, Int.reduceLT, Int.reduceLE, Int.reduceToNat, Int.reduceNeg, Int.reduceBNe, encClk]
  · rintro i m σ him hi hlt ⟨s2, g2, b2, s3, g3, b3, s5⟩
    simp -implicitDefEqProofs only [↓aP, aQ, ↓reduceIte, Nat.reduceEqDiff, Nat.reduceAdd, Nat.reduceSub, Nat.reduceMul, Nat.reduceLT, Nat.reduceLeDiff, reduceCtorEq, Nat.reduceBEq, forall_const, implies_true, exists_const, ne_eq, Int.reduceAdd, Int.reduceSub, Int.reduceMul, Int.reduceBEq, Int.reduceEq, Int.reduceLT, Int.reduceLE, Int.reduceToNat, Int.reduceNeg, Int.reduceBNe, hlt, s2, g2, b2, s3, g3, b3, s5, encClk, askIdx_map, hi, encFr, List.length_map]
    refine askEq (eq_rfr c.fr[i]) ?_
    simp -implicitDefEqProofs only [↓aP, aQ, ↓reduceIte, Nat.reduceEqDiff, Nat.reduceAdd, Nat.reduceSub, Nat.reduceMul, Nat.reduceLT, Nat.reduceLeDiff, reduceCtorEq, Nat.reduceBEq, forall_const, implies_true, exists_const, ne_eq, Int.reduceAdd, Int.reduceSub, Int.reduceMul, Int.reduceBEq, Int.reduceEq, Int.reduceLT, Int.reduceLE, Int.reduceToNat, Int.reduceNeg, Int.reduceBNe, s2, g2, b2, s3, g3, b3, s5, wrapS (show i < 4611686018427387904 by omega)]
    refine ⟨by decide +kernel, nextR hi him ?_⟩
    simp -implicitDefEqProofs only [↓aP, aQ, ↓reduceIte, Nat.reduceEqDiff, Nat.reduceAdd, Nat.reduceSub, Nat.reduceMul, Nat.reduceLT, Nat.reduceLeDiff, reduceCtorEq, Nat.reduceBEq, forall_const, implies_true, exists_const, ne_eq, Int.reduceAdd, Int.reduceSub, Int.reduceMul, Int.reduceBEq, Int.reduceEq, Int.reduceLT, Int.reduceLE, Int.reduceToNat, Int.reduceNeg, Int.reduceBNe, s2, g2, b2, s3, g3, b3, s5, encClk]
  · rintro m σ hlt ⟨s2, g2, b2, s3, g3, b3, s5⟩
    simp -implicitDefEqProofs only [↓aP, aQ, ↓reduceIte, Nat.reduceEqDiff, Nat.reduceAdd, Nat.reduceSub, Nat.reduceMul, Nat.reduceLT, Nat.reduceLeDiff, reduceCtorEq, Nat.reduceBEq, forall_const, implies_true, exists_const, ne_eq, Int.reduceAdd, Int.reduceSub, Int.reduceMul, Int.reduceBEq, Int.reduceEq, Int.reduceLT, Int.reduceLE, Int.reduceToNat, Int.reduceNeg, Int.reduceBNe, hlt, s2, g2, b2, s3, g3, b3, s5, encClk, List.length_map]

theorem rrSame_spec (f : Fs) (hl : f.ck.fr.length < 1000000 ∧ f.tb.length < 1000000 ∧ f.pg.length < 1000000 ∧ f.dt.length < 1000000) : Spec Try.prog 25 [.agg (encFs f), .agg (encFs f)] (.val (rB true)) := by
  refine spec_val mixed fn25 (by simp) ?_
  unfold ac25
  simp -implicitDefEqProofs only [↓aP, aQ, ↓reduceIte, Nat.reduceEqDiff, Nat.reduceAdd, Nat.reduceSub, Nat.reduceMul, Nat.reduceLT, Nat.reduceLeDiff, reduceCtorEq, Nat.reduceBEq, forall_const, implies_true, exists_const, ne_eq, Int.reduceAdd, Int.reduceSub, Int.reduceMul, Int.reduceBEq, Int.reduceEq, Int.reduceLT, Int.reduceLE, Int.reduceToNat, Int.reduceNeg, Int.reduceBNe, encFs]
  refine ask (by have := rcSame_spec f.ck hl.1; rw [encClk] at this; exact this) ?_
  simp -implicitDefEqProofs only [↓aP, aQ, ↓reduceIte, Nat.reduceEqDiff, Nat.reduceAdd, Nat.reduceSub, Nat.reduceMul, Nat.reduceLT, Nat.reduceLeDiff, reduceCtorEq, Nat.reduceBEq, forall_const, implies_true, exists_const, ne_eq, Int.reduceAdd, Int.reduceSub, Int.reduceMul, Int.reduceBEq, Int.reduceEq, Int.reduceLT, Int.reduceLE, Int.reduceToNat, Int.reduceNeg, Int.reduceBNe, encFs]
  refine ask (by have := rSame_specT f.tb hl.2.1; rw [encTa] at this; exact this) ?_
  simp -implicitDefEqProofs only [↓aP, aQ, ↓reduceIte, Nat.reduceEqDiff, Nat.reduceAdd, Nat.reduceSub, Nat.reduceMul, Nat.reduceLT, Nat.reduceLeDiff, reduceCtorEq, Nat.reduceBEq, forall_const, implies_true, exists_const, ne_eq, Int.reduceAdd, Int.reduceSub, Int.reduceMul, Int.reduceBEq, Int.reduceEq, Int.reduceLT, Int.reduceLE, Int.reduceToNat, Int.reduceNeg, Int.reduceBNe, encFs]
  refine ask (drSame_spec f.dt (by omega)) ?_
  simp -implicitDefEqProofs only [↓aP, aQ, ↓reduceIte, Nat.reduceEqDiff, Nat.reduceAdd, Nat.reduceSub, Nat.reduceMul, Nat.reduceLT, Nat.reduceLeDiff, reduceCtorEq, Nat.reduceBEq, forall_const, implies_true, exists_const, ne_eq, Int.reduceAdd, Int.reduceSub, Int.reduceMul, Int.reduceBEq, Int.reduceEq, Int.reduceLT, Int.reduceLE, Int.reduceToNat, Int.reduceNeg, Int.reduceBNe, encFs, bne_self_eq_false]
  refine rangeB f.pg.length (fun i σ => σ.slot 2 = .c (.ptr 2 1 0 0) ∧ σ.h.gen 2 = 1 ∧ σ.h.blk 2 = .box 57 5 [(encFs f).map AC.s] ∧ σ.slot 3 = .c (.ptr 3 1 0 0) ∧ σ.h.gen 3 = 1 ∧ σ.h.blk 3 = .box 57 5 [(encFs f).map AC.s] ∧ σ.slot 5 = vI i) ?_ ?_ ?_
  · simp -implicitDefEqProofs only [↓aP, aQ, ↓reduceIte, Nat.reduceEqDiff, Nat.reduceAdd, Nat.reduceSub, Nat.reduceMul, Nat.reduceLT, Nat.reduceLeDiff, reduceCtorEq, Nat.reduceBEq, forall_const, implies_true, exists_const, ne_eq, Int.reduceAdd, Int.reduceSub, Int.reduceMul, Int.reduceBEq, Int.reduceEq, Int.reduceLT, Int.reduceLE, Int.reduceToNat, Int.reduceNeg, Int.reduceBNe, encFs]
  · rintro i m σ him hi hlt ⟨s2, g2, b2, s3, g3, b3, s5⟩
    simp -implicitDefEqProofs only [↓aP, aQ, ↓reduceIte, Nat.reduceEqDiff, Nat.reduceAdd, Nat.reduceSub, Nat.reduceMul, Nat.reduceLT, Nat.reduceLeDiff, reduceCtorEq, Nat.reduceBEq, forall_const, implies_true, exists_const, ne_eq, Int.reduceAdd, Int.reduceSub, Int.reduceMul, Int.reduceBEq, Int.reduceEq, Int.reduceLT, Int.reduceLE, Int.reduceToNat, Int.reduceNeg, Int.reduceBNe, hlt, s2, g2, b2, s3, g3, b3, s5, encFs, askIdx_map, hi, encPg, List.length_map]
    refine askEq (eqP (x := f.pg[i]) (y := f.pg[i]) rfl) ?_
    simp -implicitDefEqProofs only [↓aP, aQ, ↓reduceIte, Nat.reduceEqDiff, Nat.reduceAdd, Nat.reduceSub, Nat.reduceMul, Nat.reduceLT, Nat.reduceLeDiff, reduceCtorEq, Nat.reduceBEq, forall_const, implies_true, exists_const, ne_eq, Int.reduceAdd, Int.reduceSub, Int.reduceMul, Int.reduceBEq, Int.reduceEq, Int.reduceLT, Int.reduceLE, Int.reduceToNat, Int.reduceNeg, Int.reduceBNe, s2, g2, b2, s3, g3, b3, s5, wrapS (show i < 4611686018427387904 by omega)]
    refine ⟨by decide +kernel, nextR hi him ?_⟩
    simp -implicitDefEqProofs only [↓aP, aQ, ↓reduceIte, Nat.reduceEqDiff, Nat.reduceAdd, Nat.reduceSub, Nat.reduceMul, Nat.reduceLT, Nat.reduceLeDiff, reduceCtorEq, Nat.reduceBEq, forall_const, implies_true, exists_const, ne_eq, Int.reduceAdd, Int.reduceSub, Int.reduceMul, Int.reduceBEq, Int.reduceEq, Int.reduceLT, Int.reduceLE, Int.reduceToNat, Int.reduceNeg, Int.reduceBNe, s2, g2, b2, s3, g3, b3, s5, encFs]
  · rintro m σ hlt ⟨s2, g2, b2, s3, g3, b3, s5⟩
    simp -implicitDefEqProofs only [↓aP, aQ, ↓reduceIte, Nat.reduceEqDiff, Nat.reduceAdd, Nat.reduceSub, Nat.reduceMul, Nat.reduceLT, Nat.reduceLeDiff, reduceCtorEq, Nat.reduceBEq, forall_const, implies_true, exists_const, ne_eq, Int.reduceAdd, Int.reduceSub, Int.reduceMul, Int.reduceBEq, Int.reduceEq, Int.reduceLT, Int.reduceLE, Int.reduceToNat, Int.reduceNeg, Int.reduceBNe, hlt, s2, g2, b2, s3, g3, b3, s5, encFs, List.length_map]

set_option maxRecDepth 100000 in
set_option maxHeartbeats 4000000 in
theorem with_spec (f : Fs) (k : Nat) (c : Fr) (p : Pg) (hs : f.pg.length = f.ck.fr.length) (hl : f.pg.length ≤ 1000000) (hk : k < f.pg.length) : Spec Try.prog 67 [.agg (encFs f), rI (k : Int), .agg (encFr c), .agg (encPg p)] (.val (.agg (encFs (Fm.lay f k c p)))) := by
  refine spec_val mixed fn67 (by simp) ?_
  unfold ac67
  simp -implicitDefEqProofs only [↓aP, aQ, ↓reduceIte, Nat.reduceEqDiff, Nat.reduceAdd, Nat.reduceSub, Nat.reduceMul, Nat.reduceLT, Nat.reduceLeDiff, reduceCtorEq, Nat.reduceBEq, forall_const, implies_true, exists_const, ne_eq, Int.reduceAdd, Int.reduceSub, Int.reduceMul, Int.reduceBEq, Int.reduceEq, Int.reduceLT, Int.reduceLE, Int.reduceToNat, Int.reduceNeg, Int.reduceBNe, encFs, encFr, encPg]
  refine shift (sub_cell (p := 9) (i := 0) (j := 0) 51 65 3 rfl (by exact Nat.succ_pos _) (by rfl) (by decide) (by decide)) ?_
  refine shift (sub_cell (p := 9) (i := 0) (j := 3) 58 38 3 rfl (by exact Nat.succ_pos _) (by rfl) (by decide) (by decide)) ?_
  refine rangeB f.pg.length (fun i σ => ∃ g u, σ.slot 1 = vI k ∧ σ.slot 4 = .c (.ptr 4 1 0 0) ∧ σ.h.gen 4 = 1 ∧ σ.h.blk 4 = .box 57 5 [(encFs f).map AC.s] ∧ σ.slot 6 = .c (.ptr 6 1 0 0) ∧ σ.h.gen 6 = 1 ∧ σ.h.blk 6 = .box 65 3 [(encFr c).map AC.s] ∧ σ.slot 7 = .c (.ptr 7 1 0 0) ∧ σ.h.gen 7 = 1 ∧ σ.h.blk 7 = .box 38 3 [(encPg p).map AC.s] ∧ σ.slot 8 = .c (.ptr 8 1 0 0) ∧ σ.h.gen 8 = 1 ∧ σ.h.blk 8 = .box 57 5 [[.zc, .s (.pv (.int .i64 0)), .zc, .zc, .zc]] ∧ σ.slot 9 = .c (.ptr 9 1 0 0) ∧ σ.h.gen 9 = 1 ∧ σ.h.blk 9 = .box 57 5 [[.own 51 g, .s (.pv (.int .i64 f.ck.hand)), .s (.sl 2 (f.tb.map encSl)), .own 58 u, .s (.sl 2 (f.dt.map encIt))]] ∧ σ.h.gen 51 = g ∧ σ.h.blk 51 = .row 65 3 (((f.ck.fr.set k c).take i).map encFr) ∧ σ.h.gen 58 = u ∧ σ.h.blk 58 = .row 38 3 (((f.pg.set k p).take i).map encPg) ∧ σ.slot 10 = vI i) ?_ ?_ ?_
  · simp -implicitDefEqProofs only [↓aP, aQ, ↓reduceIte, Nat.reduceEqDiff, Nat.reduceAdd, Nat.reduceSub, Nat.reduceMul, Nat.reduceLT, Nat.reduceLeDiff, reduceCtorEq, Nat.reduceBEq, forall_const, implies_true, exists_const, ne_eq, Int.reduceAdd, Int.reduceSub, Int.reduceMul, Int.reduceBEq, Int.reduceEq, Int.reduceLT, Int.reduceLE, Int.reduceToNat, Int.reduceNeg, Int.reduceBNe, encFs, encFr, encPg, List.take_zero, List.map_nil]
    exact ⟨1, 1, rfl, rfl, rfl⟩
  · rintro i m σ him hi hlt ⟨g, u, s1, s4, g4, b4, s6, g6, b6, s7, g7, b7, s8, g8, b8, s9, g9, b9, g51, b51, g58, b58, s10⟩
    have hic : i < f.ck.fr.length := by omega
    have hi1 : i < (f.ck.fr.set k c).length := by simpa using hic
    have hi2 : i < (f.pg.set k p).length := by simpa using hi
    have l1 : ((f.ck.fr.set k c).take i).length ≤ 1000000 := by rw [List.length_take]; omega
    have l2 : ((f.pg.set k p).take i).length ≤ 1000000 := by rw [List.length_take]; omega
    simp -implicitDefEqProofs only [↓aP, aQ, ↓reduceIte, Nat.reduceEqDiff, Nat.reduceAdd, Nat.reduceSub, Nat.reduceMul, Nat.reduceLT, Nat.reduceLeDiff, reduceCtorEq, Nat.reduceBEq, forall_const, implies_true, exists_const, ne_eq, Int.reduceAdd, Int.reduceSub, Int.reduceMul, Int.reduceBEq, Int.reduceEq, Int.reduceLT, Int.reduceLE, Int.reduceToNat, Int.reduceNeg, Int.reduceBNe, hlt, s1, s4, g4, b4, s6, g6, b6, s7, g7, b7, s8, g8, b8, s9, g9, b9, g51, b51, g58, b58, s10, encFs, askIdx_map, hi, hic, encPg, encFr, List.length_map]
    by_cases e : i = k
    · have e1 : (f.ck.fr.set k c)[i] = c := by subst e; rw [List.getElem_set_self]
      have e2 : (f.pg.set k p)[i] = p := by subst e; rw [List.getElem_set_self]
      simp -implicitDefEqProofs only [↓aP, aQ, ↓reduceIte, Nat.reduceEqDiff, Nat.reduceAdd, Nat.reduceSub, Nat.reduceMul, Nat.reduceLT, Nat.reduceLeDiff, reduceCtorEq, Nat.reduceBEq, forall_const, implies_true, exists_const, ne_eq, Int.reduceAdd, Int.reduceSub, Int.reduceMul, Int.reduceBEq, Int.reduceEq, Int.reduceLT, Int.reduceLE, Int.reduceToNat, Int.reduceNeg, Int.reduceBNe, show ((i : Int) == (k : Int)) = true by simp; omega, s1, s4, g4, b4, s6, g6, b6, s7, g7, b7, s8, g8, b8, s9, g9, b9, g51, b51, g58, b58, s10, encFs, encFr, encPg, List.length_map, wrapS (show i < 4611686018427387904 by omega)]
      refine ⟨by decide +kernel, by decide +kernel, by omega, by omega, by omega, by omega, ?_⟩
      refine nextR hi him ⟨g + 1, u + 1, ?_⟩
      simp -implicitDefEqProofs only [↓aP, aQ, ↓reduceIte, Nat.reduceEqDiff, Nat.reduceAdd, Nat.reduceSub, Nat.reduceMul, Nat.reduceLT, Nat.reduceLeDiff, reduceCtorEq, Nat.reduceBEq, forall_const, implies_true, exists_const, ne_eq, Int.reduceAdd, Int.reduceSub, Int.reduceMul, Int.reduceBEq, Int.reduceEq, Int.reduceLT, Int.reduceLE, Int.reduceToNat, Int.reduceNeg, Int.reduceBNe, s1, s4, g4, b4, s6, g6, b6, s7, g7, b7, s8, g8, b8, s9, g9, b9, g51, b51, g58, b58, s10, encFs, encFr, encPg, take_snoc hi1, take_snoc hi2, e1, e2, List.map_append, List.map_cons, List.map_nil]
    · have e1 : (f.ck.fr.set k c)[i] = f.ck.fr[i] := by rw [List.getElem_set_ne (by omega)]
      have e2 : (f.pg.set k p)[i] = f.pg[i] := by rw [List.getElem_set_ne (by omega)]
      simp -implicitDefEqProofs only [↓aP, aQ, ↓reduceIte, Nat.reduceEqDiff, Nat.reduceAdd, Nat.reduceSub, Nat.reduceMul, Nat.reduceLT, Nat.reduceLeDiff, reduceCtorEq, Nat.reduceBEq, forall_const, implies_true, exists_const, ne_eq, Int.reduceAdd, Int.reduceSub, Int.reduceMul, Int.reduceBEq, Int.reduceEq, Int.reduceLT, Int.reduceLE, Int.reduceToNat, Int.reduceNeg, Int.reduceBNe, show ((i : Int) == (k : Int)) = false by simp; omega, s1, s4, g4, b4, s6, g6, b6, s7, g7, b7, s8, g8, b8, s9, g9, b9, g51, b51, g58, b58, s10, encFs, encFr, encPg, List.length_map, wrapS (show i < 4611686018427387904 by omega)]
      refine ⟨by decide +kernel, by omega, by omega, by omega, by omega, ?_⟩
      refine nextR hi him ⟨g + 1, u + 1, ?_⟩
      simp -implicitDefEqProofs only [↓aP, aQ, ↓reduceIte, Nat.reduceEqDiff, Nat.reduceAdd, Nat.reduceSub, Nat.reduceMul, Nat.reduceLT, Nat.reduceLeDiff, reduceCtorEq, Nat.reduceBEq, forall_const, implies_true, exists_const, ne_eq, Int.reduceAdd, Int.reduceSub, Int.reduceMul, Int.reduceBEq, Int.reduceEq, Int.reduceLT, Int.reduceLE, Int.reduceToNat, Int.reduceNeg, Int.reduceBNe, s1, s4, g4, b4, s6, g6, b6, s7, g7, b7, s8, g8, b8, s9, g9, b9, g51, b51, g58, b58, s10, encFs, encFr, encPg, take_snoc hi1, take_snoc hi2, e1, e2, List.map_append, List.map_cons, List.map_nil]
  · rintro m σ hlt ⟨g, u, s1, s4, g4, b4, s6, g6, b6, s7, g7, b7, s8, g8, b8, s9, g9, b9, g51, b51, g58, b58, s10⟩
    rw [show f.pg.length = (f.ck.fr.set k c).length by simp; exact hs, List.take_length] at b51
    rw [show f.pg.length = (f.pg.set k p).length by simp, List.take_length] at b58
    simp -implicitDefEqProofs only [↓aP, aQ, ↓reduceIte, Nat.reduceEqDiff, Nat.reduceAdd, Nat.reduceSub, Nat.reduceMul, Nat.reduceLT, Nat.reduceLeDiff, reduceCtorEq, Nat.reduceBEq, forall_const, implies_true, exists_const, ne_eq, Int.reduceAdd, Int.reduceSub, Int.reduceMul, Int.reduceBEq, Int.reduceEq, Int.reduceLT, Int.reduceLE, Int.reduceToNat, Int.reduceNeg, Int.reduceBNe, hlt, s1, s4, g4, b4, s6, g6, b6, s7, g7, b7, s8, g8, b8, s9, g9, b9, g51, b51, g58, b58, s10, encFs, List.length_map, Fm.lay]
theorem rTurn1_spec (f : Fs) (h : Rt f) (k : Nat) (hk : k < f.pg.length) (hc : k < f.ck.fr.length) (id : Int) (hid : f.pg[k].id = id) (h0 : 1 ≤ id) (hp : 0 ≤ f.ck.fr[k].pins ∧ f.ck.fr[k].pins < 2147483647) (s : ByteArray) (now : Int) :
    Spec Try.prog 24 [.agg (encFs f), rI 1, rI id, rS s, rI now] (.val (.tup [(true, encFs (Fm.lay f k ⟨f.ck.fr[k].page, f.ck.fr[k].pins + 1, true⟩ f.pg[k])), (false, [.pv (.int .i64 0)])])) := by
  refine spec_val mixed fn24 (by simp) ?_
  unfold ac24
  obtain ⟨h8, hp8, h16, hd⟩ := rt_len h
  have hu : ∀ j (hj : j < f.pg.length), j < k → f.pg[j].id ≠ id := fun j hj hjk e => by
    have h1 := (rt_at h hk (by omega)).2.2
    have h2 := (rt_at h hj (by omega)).2.2
    rw [e] at h2
    rw [hid, h2] at h1
    have := congrArg Prod.fst h1
    simp only at this
    omega
  simp -implicitDefEqProofs only [↓aP, aQ, ↓reduceIte, Nat.reduceEqDiff, Nat.reduceAdd, Nat.reduceSub, Nat.reduceMul, Nat.reduceLT, Nat.reduceLeDiff, reduceCtorEq, Nat.reduceBEq, forall_const, implies_true, exists_const, ne_eq, Int.reduceAdd, Int.reduceSub, Int.reduceMul, Int.reduceBEq, Int.reduceEq, Int.reduceLT, Int.reduceLE, Int.reduceToNat, Int.reduceNeg, Int.reduceBNe, encFs]
  refine ask (by have := rrRight_spec f ⟨by omega, by omega⟩; rw [encFs, ref_of_rt h] at this; exact this) ?_
  simp -implicitDefEqProofs only [↓aP, aQ, ↓reduceIte, Nat.reduceEqDiff, Nat.reduceAdd, Nat.reduceSub, Nat.reduceMul, Nat.reduceLT, Nat.reduceLeDiff, reduceCtorEq, Nat.reduceBEq, forall_const, implies_true, exists_const, ne_eq, Int.reduceAdd, Int.reduceSub, Int.reduceMul, Int.reduceBEq, Int.reduceEq, Int.reduceLT, Int.reduceLE, Int.reduceToNat, Int.reduceNeg, Int.reduceBNe, encFs]
  refine ask (by have := rrFind_spec f id k hk hid (by omega) hu (by omega); rw [encFs] at this; exact this) ?_
  simp -implicitDefEqProofs only [↓aP, aQ, ↓reduceIte, Nat.reduceEqDiff, Nat.reduceAdd, Nat.reduceSub, Nat.reduceMul, Nat.reduceLT, Nat.reduceLeDiff, reduceCtorEq, Nat.reduceBEq, forall_const, implies_true, exists_const, ne_eq, Int.reduceAdd, Int.reduceSub, Int.reduceMul, Int.reduceBEq, Int.reduceEq, Int.reduceLT, Int.reduceLE, Int.reduceToNat, Int.reduceNeg, Int.reduceBNe, encFs, askIdx_map, hk, hc, encPg, encFr, show decide ((k : Int) < 0) = false from decide_eq_false (by omega), show (f.ck.fr[k].pins == 2147483647) = false by rw [beq_eq_false_iff_ne]; omega, show IntKind.i64.wrap (f.ck.fr[k].pins + 1) = f.ck.fr[k].pins + 1 from wrapI (by omega)]
  refine ⟨by decide +kernel, ?_⟩
  refine ask (by have := with_spec f k ⟨f.ck.fr[k].page, f.ck.fr[k].pins + 1, true⟩ f.pg[k] h.same (by omega) hk; rw [encFs, encFr, encPg] at this; exact this) ?_
  simp -implicitDefEqProofs only [↓aP, aQ, ↓reduceIte, Nat.reduceEqDiff, Nat.reduceAdd, Nat.reduceSub, Nat.reduceMul, Nat.reduceLT, Nat.reduceLeDiff, reduceCtorEq, Nat.reduceBEq, forall_const, implies_true, exists_const, ne_eq, Int.reduceAdd, Int.reduceSub, Int.reduceMul, Int.reduceBEq, Int.reduceEq, Int.reduceLT, Int.reduceLE, Int.reduceToNat, Int.reduceNeg, Int.reduceBNe, encFs, Fm.lay]
  all_goals decide +kernel
theorem rTurn2_spec (f : Fs) (h : Rt f) (k : Nat) (hk : k < f.pg.length) (hc : k < f.ck.fr.length) (id : Int) (hid : f.pg[k].id = id) (h0 : 1 ≤ id) (hp : 0 < f.ck.fr[k].pins ∧ f.ck.fr[k].pins ≤ 2147483647) (s : ByteArray) (now : Int) :
    Spec Try.prog 24 [.agg (encFs f), rI 2, rI id, rS s, rI now] (.val (.tup [(true, encFs (Fm.lay f k ⟨f.ck.fr[k].page, f.ck.fr[k].pins - 1, f.ck.fr[k].used⟩ f.pg[k])), (false, [.pv (.int .i64 0)])])) := by
  refine spec_val mixed fn24 (by simp) ?_
  unfold ac24
  obtain ⟨h8, hp8, h16, hd⟩ := rt_len h
  have hu : ∀ j (hj : j < f.pg.length), j < k → f.pg[j].id ≠ id := fun j hj hjk e => by
    have h1 := (rt_at h hk (by omega)).2.2
    have h2 := (rt_at h hj (by omega)).2.2
    rw [e] at h2
    rw [hid, h2] at h1
    have := congrArg Prod.fst h1
    simp only at this
    omega
  simp -implicitDefEqProofs only [↓aP, aQ, ↓reduceIte, Nat.reduceEqDiff, Nat.reduceAdd, Nat.reduceSub, Nat.reduceMul, Nat.reduceLT, Nat.reduceLeDiff, reduceCtorEq, Nat.reduceBEq, forall_const, implies_true, exists_const, ne_eq, Int.reduceAdd, Int.reduceSub, Int.reduceMul, Int.reduceBEq, Int.reduceEq, Int.reduceLT, Int.reduceLE, Int.reduceToNat, Int.reduceNeg, Int.reduceBNe, encFs]
  refine ask (by have := rrRight_spec f ⟨by omega, by omega⟩; rw [encFs, ref_of_rt h] at this; exact this) ?_
  simp -implicitDefEqProofs only [↓aP, aQ, ↓reduceIte, Nat.reduceEqDiff, Nat.reduceAdd, Nat.reduceSub, Nat.reduceMul, Nat.reduceLT, Nat.reduceLeDiff, reduceCtorEq, Nat.reduceBEq, forall_const, implies_true, exists_const, ne_eq, Int.reduceAdd, Int.reduceSub, Int.reduceMul, Int.reduceBEq, Int.reduceEq, Int.reduceLT, Int.reduceLE, Int.reduceToNat, Int.reduceNeg, Int.reduceBNe, encFs]
  refine ask (by have := rrFind_spec f id k hk hid (by omega) hu (by omega); rw [encFs] at this; exact this) ?_
  simp -implicitDefEqProofs only [↓aP, aQ, ↓reduceIte, Nat.reduceEqDiff, Nat.reduceAdd, Nat.reduceSub, Nat.reduceMul, Nat.reduceLT, Nat.reduceLeDiff, reduceCtorEq, Nat.reduceBEq, forall_const, implies_true, exists_const, ne_eq, Int.reduceAdd, Int.reduceSub, Int.reduceMul, Int.reduceBEq, Int.reduceEq, Int.reduceLT, Int.reduceLE, Int.reduceToNat, Int.reduceNeg, Int.reduceBNe, encFs, askIdx_map, hk, hc, encPg, encFr, show decide ((k : Int) < 0) = false from decide_eq_false (by omega), show (f.ck.fr[k].pins == 0) = false by rw [beq_eq_false_iff_ne]; omega, show IntKind.i64.wrap (f.ck.fr[k].pins - 1) = f.ck.fr[k].pins - 1 from wrapI (by omega)]
  refine ⟨by decide +kernel, ?_⟩
  refine ask (by have := with_spec f k ⟨f.ck.fr[k].page, f.ck.fr[k].pins - 1, f.ck.fr[k].used⟩ f.pg[k] h.same (by omega) hk; rw [encFs, encFr, encPg] at this; exact this) ?_
  simp -implicitDefEqProofs only [↓aP, aQ, ↓reduceIte, Nat.reduceEqDiff, Nat.reduceAdd, Nat.reduceSub, Nat.reduceMul, Nat.reduceLT, Nat.reduceLeDiff, reduceCtorEq, Nat.reduceBEq, forall_const, implies_true, exists_const, ne_eq, Int.reduceAdd, Int.reduceSub, Int.reduceMul, Int.reduceBEq, Int.reduceEq, Int.reduceLT, Int.reduceLE, Int.reduceToNat, Int.reduceNeg, Int.reduceBNe, encFs, Fm.lay]
  all_goals decide +kernel
end Go.Proofs.Ytcindpblgbpcoaa
