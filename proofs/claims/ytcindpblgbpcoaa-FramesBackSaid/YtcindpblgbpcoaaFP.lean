/- layer 15, plain: right frames stay right as a page goes. -/
import Derived.Test.YtcindpblgbpcoaaF5
import Derived.Test.YtcindpblgbpcoaaTP
namespace Go.Proofs.Ytcindpblgbpcoaa
open Go.RowKit
set_option linter.unusedVariables false
set_option linter.unusedSimpArgs false
namespace Ta
/-- a right table with a free slot is one that comes of putting -/
theorem kp_of_right {t : List Sl} (h : right t = true) {k0 : Nat} (hk : k0 < 16) (hf : free (at' t k0) = true) : Kp t (fun p => ((seek t p).toNat + 16 - k0) % 16) 16 := by
  obtain ⟨hl, hok⟩ := right_iff.1 h
  have ent : ∀ o, o < 16 → free (at' t o) = false → isP (at' t o).p = true ∧ isF (at' t o).f = true ∧ seek t (at' t o).p = (o : Nat) := fun o ho hfo => by
    have := hok o ho
    unfold okS at this
    rw [hfo, Bool.false_or] at this
    simp only [Bool.and_eq_true, decide_eq_true_eq] at this
    exact ⟨this.1.1, this.1.2, this.2⟩
  refine ⟨hl, fun s hs => ?_, fun o j ho hj hfo hlt => ?_, fun s _ => Nat.mod_lt _ (by decide)⟩
  · obtain ⟨k, hk2, rfl, hf2⟩ := (nf_at hl).1 hs
    exact ⟨(ent k hk2 hf2).1, (ent k hk2 hf2).2.1⟩
  · have hso := (ent o ho hfo).2.2
    obtain ⟨i, hi, e1, e2, e3⟩ := (seek_range (t := t) (p := (at' t o).p)).resolve_left (by rw [hso]; omega)
    have ei : i = ahead (at' t o).p o := ahead_pl hi (by have := hso.symm.trans e1; omega)
    have hj2 := e3 (ahead (at' t o).p j) (by rw [ei]; exact hlt)
    rw [pl_ahead hj] at hj2
    unfold hit at hj2
    rw [Bool.or_eq_false_iff] at hj2
    have hk3 : ¬ ahead (at' t o).p k0 ≤ i := fun hle => by
      by_cases e : ahead (at' t o).p k0 = i
      · have : k0 = o := by rw [← pl_ahead (p := (at' t o).p) hk, e, ei, pl_ahead ho]
        rw [this, hfo] at hf; exact Bool.noConfusion hf
      · have := e3 (ahead (at' t o).p k0) (by omega)
        rw [pl_ahead hk] at this
        unfold hit at this
        rw [hf, Bool.or_true] at this; exact Bool.noConfusion this
    refine ⟨hj2.2, ?_⟩
    show ((seek t (at' t j).p).toNat + 16 - k0) % 16 < ((seek t (at' t o).p).toNat + 16 - k0) % 16
    rw [(ent j hj hj2.2).2.2, hso, Int.toNat_natCast, Int.toNat_natCast]
    rw [ei] at hk3
    unfold ahead at hk3 hlt
    omega
theorem nf_full {t : List Sl} (hl : t.length = 16) (h : ∀ k, k < 16 → free (at' t k) = false) : (nf t).length = 16 := by
  unfold nf
  rw [List.filter_eq_self.2 (fun s hs => ?_), hl]
  obtain ⟨k, hk, rfl⟩ := List.getElem_of_mem hs
  have := h k (by omega)
  rw [at_get hk] at this
  rw [this]; rfl
theorem kp_some {t : List Sl} (h : right t = true) (hn : (nf t).length < 16) : ∃ r, Kp t r 16 := by
  by_cases hx : ∃ k, k < 16 ∧ free (at' t k) = true
  · obtain ⟨k, hk, hf⟩ := hx
    exact ⟨_, kp_of_right h hk hf⟩
  · have := nf_full (right_iff.1 h).1 (fun k hk => by
      cases e : free (at' t k)
      · rfl
      · exact absurd ⟨k, hk, e⟩ hx)
    omega
/-- what is found is an entry, and each entry is found -/
theorem find_nf {t : List Sl} {q x : Int} (hl : t.length = 16) (h : find t q = (x, true)) : ⟨q, x⟩ ∈ nf t := by
  obtain ⟨hp, h0, h1, h2⟩ := find_true h
  have hk : (seek t q).toNat < 16 := by
    rcases seek_range (t := t) (p := q) with e | ⟨i, hi, e, _⟩
    · omega
    · have := @pl_lt q i
      rw [e]; omega
  refine (nf_at hl).2 ⟨_, hk, ?_, ?_⟩
  · cases hs : at' t (seek t q).toNat with
    | mk a b => rw [hs] at h1 h2; simp only at h1 h2; rw [h1, h2]
  · unfold free
    unfold isP at hp
    rw [decide_eq_true_iff] at hp
    rw [show ((⟨q, x⟩ : Sl).p == 0) = false from beq_eq_false_iff_ne.2 (by show q ≠ 0; omega)]; rfl
theorem nf_find {t : List Sl} {r : Int → Nat} {N : Nat} (h : Kp t r N) {s : Sl} (hs : s ∈ nf t) : find t s.p = (s.f, true) := by
  obtain ⟨_, _, _, _, e⟩ := kp_in h hs
  exact e
end Ta
end Go.Proofs.Ytcindpblgbpcoaa
namespace Go.Proofs.Ytcindpblgbpcoaa
open Go.RowKit
set_option linter.unusedVariables false
set_option linter.unusedSimpArgs false
theorem rt_nf {f : Fs} (h : Rt f) : (Ta.nf f.tb).length ≤ 8 := by
  rw [← Ta.nf_pgs, h.many]
  have h8 := (right_fr h.clock).1
  have := h.same
  exact Nat.le_trans (List.countP_le_length) (by omega)
theorem clean_ok {l : List It} {p : Int} (h : Dy.right l = true) : Dy.right (cleanI l p).1 = true ∧ ∀ i ∈ (cleanI l p).1, i ∈ l ∧ i.page ≠ p := by
  unfold cleanI
  rw [if_neg (by simp [h])]
  rcases Dy.at_cases l p with ⟨e, hno⟩ | ⟨k, hk, e, hkp, _⟩
  · rw [if_pos (by omega)]
    exact ⟨h, fun i hi => ⟨hi, by have := hno i hi; simpa using this⟩⟩
  · rw [if_neg (by omega), e, Int.toNat_natCast]
    have ho := (Dy.right_iff l).1 h
    refine ⟨(Dy.right_iff _).2 (ho.erase k), fun i hi => ?_⟩
    show i ∈ l ∧ i.page ≠ p
    have hi2 : i ∈ l.eraseIdx k := hi
    refine ⟨List.mem_of_mem_eraseIdx hi2, fun ep => ?_⟩
    obtain ⟨j, hj, e2⟩ := List.mem_iff_getElem.1 hi2
    rw [List.getElem_eraseIdx] at e2
    have hap := ho.apart
    have hap2 : ∀ a b (ha : a < l.length) (hb : b < l.length), a < b → l[a].page ≠ l[b].page := fun a b ha hb hab => by
      have := List.pairwise_iff_getElem.1 hap a b (by simpa using ha) (by simpa using hb) hab
      simpa using this
    have hlen : (l.eraseIdx k).length = l.length - 1 := List.length_eraseIdx_of_lt hk
    split at e2
    · rename_i hjk
      exact hap2 j k (by omega) hk hjk (by rw [e2, ep, hkp])
    · rename_i hjk
      exact hap2 k (j + 1) hk (by omega) (by omega) (by rw [e2, ep, hkp])
theorem set_getD_fr {l : List Fr} {k j : Nat} {x : Fr} (hk : k < l.length) : (l.set k x).getD j zF = if k = j then x else l.getD j zF := by
  rw [List.getD_eq_getElem?_getD, List.getD_eq_getElem?_getD, List.getElem?_set]
  by_cases e : k = j
  · rw [if_pos e, if_pos e, if_pos hk]; rfl
  · rw [if_neg e, if_neg e]
theorem set_getD_pg {l : List Pg} {k j : Nat} {x : Pg} (hk : k < l.length) : (l.set k x).getD j zP = if k = j then x else l.getD j zP := by
  rw [List.getD_eq_getElem?_getD, List.getD_eq_getElem?_getD, List.getElem?_set]
  by_cases e : k = j
  · rw [if_pos e, if_pos e, if_pos hk]; rfl
  · rw [if_neg e, if_neg e]
theorem taken_set {l : List Pg} {k : Nat} {x : Pg} (hk : k < l.length) : Fm.taken (l.set k x) + (if l[k].id = 0 then 0 else 1) = Fm.taken l + (if x.id = 0 then 0 else 1) := by
  have h1 : l = l.take k ++ l[k] :: l.drop (k + 1) := by rw [List.getElem_cons_drop, List.take_append_drop]
  have h2 : l.set k x = l.take k ++ x :: l.drop (k + 1) := List.set_eq_take_append_cons_drop .. |>.trans (by rw [if_pos hk])
  have e1 : Fm.taken l = Fm.taken (l.take k) + ((if l[k].id = 0 then 0 else 1) + Fm.taken (l.drop (k + 1))) := by
    conv => lhs; rw [h1]
    unfold Fm.taken
    rw [List.countP_append, List.countP_cons]
    by_cases e : l[k].id = 0 <;> simp [e] <;> omega
  have e2 : Fm.taken (l.set k x) = Fm.taken (l.take k) + ((if x.id = 0 then 0 else 1) + Fm.taken (l.drop (k + 1))) := by
    rw [h2]
    unfold Fm.taken
    rw [List.countP_append, List.countP_cons]
    by_cases e : x.id = 0 <;> simp [e] <;> omega
  omega
theorem right_set {l : List Fr} {h : Int} {k : Nat} {x : Fr} (hr : Ck.right l h = true) (hx : Ck.good x = true) : Ck.right (l.set k x) h = true := by
  unfold Ck.right at hr ⊢
  rw [Bool.and_eq_true, decide_eq_true_iff, List.all_eq_true] at hr
  rw [Bool.and_eq_true, decide_eq_true_iff, List.all_eq_true, List.length_set]
  exact ⟨hr.1, fun y hy => (List.mem_or_eq_of_mem_set hy).elim (hr.2 y) (fun e => e ▸ hx)⟩
/-- frames stay right as a page goes -/
theorem rt_empty {f : Fs} (h : Rt f) {k : Nat} (hk : k < f.pg.length) (hz : f.pg[k].id ≠ 0) : Rt (Fm.empty f k) := by
  have hkc : k < f.ck.fr.length := by have := h.same; omega
  obtain ⟨a1, a2, a3⟩ := rt_at h hk hz
  have hn := rt_nf h
  have hl := (Ta.right_iff.1 h.table).1
  obtain ⟨r, kp⟩ := Ta.kp_some h.table (by omega)
  have hs := Ta.find_nf hl a3
  obtain ⟨u, d1, d2, d3⟩ := Ta.kp_del kp hs
  have e : Fm.empty f k = ⟨⟨f.ck.fr.set k zF, f.ck.hand⟩, u, f.pg.set k zP, (cleanI f.dt f.pg[k].id).1⟩ := by
    unfold Fm.empty
    rw [pg_getD hk, show Ta.del f.tb f.pg[k].id = (u, 0) from d1]
  have keep : ∀ q x : Int, q ≠ f.pg[k].id → Ta.find f.tb q = (x, true) → Ta.find u q = (x, true) := fun q x hq hf => by
    have hm := (d3.mem_iff (a := (⟨q, x⟩ : Sl))).2 (Ta.find_nf hl hf)
    rcases List.mem_cons.1 hm with e2 | hm
    · exact absurd (congrArg Sl.p e2) hq
    · exact Ta.nf_find d2 hm
  obtain ⟨c1, c2⟩ := clean_ok (p := f.pg[k].id) h.dirty
  rw [e]
  refine ⟨right_set h.clock (by decide), Ta.kp_right d2, c1, by simp [h.same], fun j hj => ?_, ?_, fun i hi => ?_⟩
  · have hj2 : j < f.pg.length := by simpa using hj
    have hjc : j < f.ck.fr.length := by have := h.same; omega
    unfold Fm.okAt
    simp only
    rw [set_getD_fr hkc, set_getD_pg hk]
    by_cases ek : k = j
    · rw [if_pos ek, if_pos ek, if_pos (show zF.page = 0 from rfl)]; decide
    · rw [if_neg ek, if_neg ek]
      have ho := h.all j hj2
      unfold Fm.okAt at ho
      rw [fr_getD hjc, pg_getD hj2] at ho ⊢
      by_cases hp : f.ck.fr[j].page = 0
      · rw [if_pos hp] at ho ⊢; exact ho
      · rw [if_neg hp] at ho ⊢
        simp only [Bool.and_eq_true, beq_iff_eq] at ho ⊢
        obtain ⟨⟨o1, o2⟩, o3, o4⟩ := ho
        have hne : f.ck.fr[j].page ≠ f.pg[k].id := fun e2 => by
          rw [e2, a3] at o4
          simp only at o4
          omega
        have := keep _ _ hne (Prod.ext o4 o3)
        rw [this]
        exact ⟨⟨o1, o2⟩, rfl, rfl⟩
  · have t1 := taken_set (x := zP) hk
    rw [if_neg hz, if_pos (show zP.id = 0 from rfl)] at t1
    have t2 := d3.length_eq
    rw [List.length_cons] at t2
    have t3 := h.many
    rw [Ta.nf_pgs] at t3 ⊢
    show (Ta.nf u).length = Fm.taken (f.pg.set k zP)
    omega
  · obtain ⟨i1, i2⟩ := c2 i hi
    have := h.items i i1
    have hk2 := keep i.page (Ta.find f.tb i.page).1 i2 (Prod.ext rfl this)
    rw [hk2]
end Go.Proofs.Ytcindpblgbpcoaa
