/- layer 15, plain: what is found lies in a frame. -/
import Derived.Test.YtcindpblgbpcoaaF3
namespace Go.Proofs.Ytcindpblgbpcoaa
open Go.RowKit
set_option linter.unusedVariables false
set_option linter.unusedSimpArgs false
theorem nodup_sub_le : ∀ {l m : List Int}, l.Nodup → (∀ x ∈ l, x ∈ m) → l.length ≤ m.length
  | [], _, _, _ => Nat.zero_le _
  | x :: l, m, hn, hs => by
    rw [List.nodup_cons] at hn
    have hx := hs x (by simp)
    have := nodup_sub_le (m := m.erase x) hn.2 (fun y hy => (List.mem_erase_of_ne (fun e : y = x => hn.1 (by rw [← e]; exact hy))).2 (hs y (by simp [hy])))
    rw [List.length_erase_of_mem hx] at this
    have hpos : 0 < m.length := List.length_pos_of_mem hx
    rw [List.length_cons]; omega
theorem sub_all {l m : List Int} (hn : l.Nodup) (hs : ∀ x ∈ l, x ∈ m) (hlen : m.length ≤ l.length) : ∀ y ∈ m, y ∈ l := fun y hy => by
  refine Decidable.byContradiction fun hno => ?_
  have := nodup_sub_le (m := m.erase y) hn (fun x hx => (List.mem_erase_of_ne (fun e : x = y => hno (by rw [← e]; exact hx))).2 (hs x hx))
  rw [List.length_erase_of_mem hy] at this
  have hpos : 0 < m.length := List.length_pos_of_mem hy
  omega
theorem find_true {t : List Sl} {p x : Int} (h : Ta.find t p = (x, true)) : Ta.isP p = true ∧ 0 ≤ Ta.seek t p ∧ (Ta.at' t (Ta.seek t p).toNat).p = p ∧ x = (Ta.at' t (Ta.seek t p).toNat).f := by
  unfold Ta.find at h
  split at h
  · rename_i hc
    have hs := hc.2
    unfold Ta.slot at hs h
    split at hs
    · rename_i hp
      rw [if_pos hp] at h
      simp only [decide_eq_true_eq] at hs
      simp only [Prod.mk.injEq, and_true] at h
      exact ⟨hp, hs.1, hs.2, h.symm⟩
    · simp at hs
  · simp at h
theorem find_mem {t : List Sl} {p x : Int} (hr : Ta.right t = true) (h : Ta.find t p = (x, true)) : p ∈ Ta.pgs t := by
  obtain ⟨hp, h0, h1, _⟩ := find_true h
  have hl := (Ta.right_iff.1 hr).1
  have hk : (Ta.seek t p).toNat < t.length := by
    rcases Ta.seek_range (t := t) (p := p) with e | ⟨i, hi, e, _⟩
    · omega
    · have := @Ta.pl_lt p i
      rw [e]; omega
  rw [Ta.at_get hk] at h1
  unfold Ta.pgs
  rw [List.mem_map]
  refine ⟨t[(Ta.seek t p).toNat], List.mem_filter.2 ⟨List.getElem_mem hk, ?_⟩, h1⟩
  unfold Ta.isP at hp
  rw [decide_eq_true_iff] at hp
  unfold Ta.free
  rw [h1, show (p == 0) = false from beq_eq_false_iff_ne.2 (by omega)]; rfl
structure Rt (f : Fs) : Prop where
  clock : Ck.right f.ck.fr f.ck.hand = true
  table : Ta.right f.tb = true
  dirty : Dy.right f.dt = true
  same : f.pg.length = f.ck.fr.length
  all : ∀ k, k < f.pg.length → Fm.okAt f k = true
  many : (Ta.pgs f.tb).length = Fm.taken f.pg
  items : ∀ i ∈ f.dt, (Ta.find f.tb i.page).2 = true
theorem rt_iff {f : Fs} : Fm.right f = true ↔ Rt f := by
  rw [right_cases]
  simp only [Bool.and_eq_true, beq_iff_eq, List.all_eq_true, List.mem_range]
  exact ⟨fun ⟨a, b, c, d, e, g, h⟩ => ⟨a, b, c, d, e, g, h⟩, fun ⟨a, b, c, d, e, g, h⟩ => ⟨a, b, c, d, e, g, h⟩⟩
/-- a frame that is taken: its page, and where the table has it -/
theorem rt_at {f : Fs} (h : Rt f) {k : Nat} (hk : k < f.pg.length) (hz : f.pg[k].id ≠ 0) : (f.ck.fr[k]'(by have := h.same; omega)).page = f.pg[k].id ∧ okPg f.pg[k] = true ∧ Ta.find f.tb f.pg[k].id = ((k : Int), true) := by
  have hc : k < f.ck.fr.length := by have := h.same; omega
  have ho := h.all k hk
  unfold Fm.okAt at ho
  rw [fr_getD hc, pg_getD hk] at ho
  split at ho
  · rw [Bool.and_eq_true, decide_eq_true_iff] at ho
    exact absurd (by rw [ho.1]; rfl) hz
  · simp only [Bool.and_eq_true, beq_iff_eq] at ho
    obtain ⟨⟨a, b⟩, c, d⟩ := ho
    refine ⟨a, b, ?_⟩
    rw [← a]
    exact Prod.ext d c
def idsL (l : List Pg) : List Int := (l.map Pg.id).filter fun x => x != 0
theorem ids_len (l : List Pg) : (idsL l).length = Fm.taken l := by
  unfold idsL Fm.taken
  rw [← List.countP_eq_length_filter, List.countP_map]; rfl
theorem ids_nodup : ∀ (l : List Pg) (g : Int → Int) (o : Int), (∀ k (h : k < l.length), l[k].id ≠ 0 → g l[k].id = (k : Int) + o) → (idsL l).Nodup
  | [], _, _, _ => List.nodup_nil
  | p :: l, g, o, h => by
    have ih := ids_nodup l g (o + 1) (fun k hk hz => by have := h (k + 1) (by simp; omega) (by simpa using hz); simp at this; omega)
    unfold idsL at ih ⊢
    rw [List.map_cons]
    by_cases e : p.id = 0
    · rw [List.filter_cons_of_neg (by simp [e])]; exact ih
    · rw [List.filter_cons_of_pos (by simp [e]), List.nodup_cons]
      refine ⟨fun hm => ?_, ih⟩
      obtain ⟨hm, _⟩ := List.mem_filter.1 hm
      obtain ⟨q, hq, e2⟩ := List.mem_map.1 hm
      obtain ⟨j, hj, e3⟩ := List.mem_iff_getElem.1 hq
      have h1 := h 0 (by simp) (by simpa using e)
      have h2 := h (j + 1) (by simp; omega) (by simp; rw [e3, e2]; exact e)
      simp at h1 h2
      rw [e3, e2] at h2
      omega
theorem rt_found {f : Fs} (h : Rt f) {id x : Int} (hf : Ta.find f.tb id = (x, true)) : ∃ k : Nat, ∃ hk : k < f.pg.length, x = k ∧ f.pg[k].id = id ∧ id ≠ 0 := by
  have hm := find_mem h.table hf
  have hn := ids_nodup f.pg (fun y => (Ta.find f.tb y).1) 0 (fun k hk hz => by rw [(rt_at h hk hz).2.2]; simp)
  have hs : ∀ y ∈ idsL f.pg, y ∈ Ta.pgs f.tb := fun y hy => by
    unfold idsL at hy
    obtain ⟨hy, hz⟩ := List.mem_filter.1 hy
    obtain ⟨q, hq, e⟩ := List.mem_map.1 hy
    obtain ⟨k, hk, e2⟩ := List.mem_iff_getElem.1 hq
    have hz2 : f.pg[k].id ≠ 0 := by rw [e2, e]; simpa using hz
    have := find_mem h.table (rt_at h hk hz2).2.2
    rwa [e2, e] at this
  have hlen : (Ta.pgs f.tb).length ≤ (idsL f.pg).length := by
    rw [ids_len, ← h.many]; exact Nat.le_refl _
  have hi := sub_all hn hs hlen id hm
  unfold idsL at hi
  obtain ⟨hi, hz⟩ := List.mem_filter.1 hi
  obtain ⟨q, hq, e⟩ := List.mem_map.1 hi
  obtain ⟨k, hk, e2⟩ := List.mem_iff_getElem.1 hq
  have e3 : f.pg[k].id = id := by rw [e2, e]
  have hz2 : id ≠ 0 := by simpa using hz
  have h3 := (rt_at h hk (by rw [e3]; exact hz2)).2.2
  rw [e3, hf] at h3
  exact ⟨k, hk, congrArg Prod.fst h3, e3, hz2⟩
end Go.Proofs.Ytcindpblgbpcoaa
