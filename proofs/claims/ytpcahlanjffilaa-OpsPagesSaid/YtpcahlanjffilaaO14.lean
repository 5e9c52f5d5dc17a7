/- layer 18: a map of pages out of nothing, plain. -/
import Derived.Test.YtpcahlanjffilaaO8
namespace Go.Proofs.Ytpcahlanjffilaa
set_option linter.unusedVariables false
set_option linter.unusedSimpArgs false

namespace Ok
/-! a map of pages out of nothing -/
def opsOf (p : Pg) : List Opr := ⟨1, p.id, ⟨#[]⟩⟩ :: List.replicate (p.ver - 1).toNat ⟨3, p.id, p.body⟩
theorem right_swap {a : List Pg} {p q : Pg} (h : rightM (a ++ [p]) = true) (hid : q.id = p.id) (hq : okP q = true) : rightM (a ++ [q]) = true := by
  obtain ⟨h1, h2⟩ := right_iff.1 h
  obtain ⟨h3, h4⟩ := mono_snoc h2
  refine right_iff.2 ⟨fun x hx => ?_, ?_⟩
  · rcases List.mem_append.1 hx with hx | hx
    · exact h1 x (by simp [hx])
    · rw [List.mem_singleton.1 hx]; exact hq
  · unfold Mono
    rw [List.pairwise_append]
    refine ⟨h3, by simp, fun x hx y hy => ?_⟩
    rw [List.mem_singleton.1 hy, hid]
    exact h4 x hx
theorem look_snoc' {a : List Pg} {p : Pg} (h : Mono (a ++ [p])) {id : Int} : Ok.look (a ++ [p]) id = if p.id = id then some p else Ok.look a id := by
  obtain ⟨h1, h2⟩ := mono_snoc h
  by_cases e : p.id = id
  · rw [if_pos e]
    exact (look_mem h).2 ⟨by simp, e⟩
  · rw [if_neg e]
    unfold Ok.look
    rw [List.find?_append]
    have e3 : ([p].find? fun q => decide (q.id = id)) = none := by
      rw [List.find?_eq_none]
      intro q hq
      rw [List.mem_singleton.1 hq]
      simpa using e
    rw [e3]; simp
theorem right_init {a : List Pg} {p : Pg} (h : rightM (a ++ [p]) = true) : rightM a = true := by
  obtain ⟨h1, h2⟩ := right_iff.1 h
  exact right_iff.2 ⟨fun x hx => h1 x (by simp [hx]), (mono_snoc h2).1⟩
theorem okP_last {a : List Pg} {p : Pg} (h : rightM (a ++ [p]) = true) : okP p = true := (right_iff.1 h).1 p (by simp)
theorem look_free {a : List Pg} {p : Pg} (h : rightM (a ++ [p]) = true) : Ok.look a p.id = none := by
  rw [look_none]
  intro q hq e
  have := (mono_snoc (right_iff.1 h).2).2 q hq
  omega
theorem snoc_new {a : List Pg} {p : Pg} (h : rightM (a ++ [p]) = true) : doM a ⟨1, p.id, ⟨#[]⟩⟩ = (a ++ [newP p.id], ⟨0, newP p.id⟩) := by
  have hok := okP_iff.1 (okP_last h)
  have h2 : rightM (a ++ [newP p.id]) = true := right_swap h rfl (okP_new ⟨hok.1, hok.2.1⟩)
  obtain ⟨g1, g2, g3⟩ := do_good (o := ⟨1, p.id, ⟨#[]⟩⟩) (right_init h)
  have hb : ¬ badK ⟨1, p.id, ⟨#[]⟩⟩ := by unfold badK; simp; omega
  simp only [look_free h] at g2 g3
  have hs : Ok.step none ⟨1, p.id, ⟨#[]⟩⟩ = (some (newP p.id), ⟨0, newP p.id⟩) := by unfold Ok.step; rw [if_neg hb]; rfl
  rw [hs] at g2 g3
  refine Prod.ext (right_ext g1 h2 fun id => ?_) g2
  rw [g3, look_snoc' (right_iff.1 h2).2]
  show (if id = p.id then _ else _) = if p.id = id then _ else _
  by_cases e : id = p.id
  · rw [if_pos e, if_pos e.symm]
  · rw [if_neg e, if_neg (fun x => e x.symm)]
theorem snoc_write {a : List Pg} {p : Pg} {b : ByteArray} (h : rightM (a ++ [p]) = true) (hb16 : b.size ≤ 16) (hv : p.ver < 2147483647) : doM (a ++ [p]) ⟨3, p.id, b⟩ = (a ++ [⟨p.id, p.ver + 1, b⟩], ⟨0, ⟨p.id, p.ver + 1, b⟩⟩) := by
  have hok := okP_iff.1 (okP_last h)
  have h2 : rightM (a ++ [⟨p.id, p.ver + 1, b⟩]) = true := right_swap h rfl (okP_iff.2 ⟨hok.1, hok.2.1, by show 1 ≤ p.ver + 1; omega, by show p.ver + 1 ≤ _; omega, hb16⟩)
  obtain ⟨g1, g2, g3⟩ := do_good (o := ⟨3, p.id, b⟩) h
  have hb : ¬ badK ⟨3, p.id, b⟩ := by unfold badK; simp; omega
  have hl : Ok.look (a ++ [p]) p.id = some p := by rw [look_snoc' (right_iff.1 h).2, if_pos rfl]
  simp only [hl] at g2 g3
  have hs : Ok.step (some p) ⟨3, p.id, b⟩ = (some ⟨p.id, p.ver + 1, b⟩, ⟨0, ⟨p.id, p.ver + 1, b⟩⟩) := by
    unfold Ok.step
    rw [if_neg hb]
    show (if (3 : Int) = 1 then _ else if (3 : Int) = 3 then (if 16 < b.size then _ else if p.ver = 2147483647 then _ else _) else _) = _
    rw [if_neg (by omega), if_pos rfl, if_neg (by omega), if_neg (by omega)]
  rw [hs] at g2 g3
  refine Prod.ext (right_ext g1 h2 fun id => ?_) g2
  rw [g3, look_snoc' (right_iff.1 h2).2, look_snoc' (right_iff.1 h).2]
  show (if id = p.id then _ else if p.id = id then _ else _) = if p.id = id then _ else _
  by_cases e : id = p.id
  · rw [if_pos e, if_pos e.symm]
  · rw [if_neg e, if_neg (fun x => e x.symm), if_neg (fun x => e x.symm)]
theorem allM_append {os ps : List Opr} : ∀ {l : List Pg}, allM l (os ++ ps) = ((allM (allM l os).1 ps).1, (allM l os).2 ++ (allM (allM l os).1 ps).2) := by
  induction os with
  | nil => intro l; rfl
  | cons o os ih => intro l; show ((allM (doM l o).1 (os ++ ps)).1, (doM l o).2 :: (allM (doM l o).1 (os ++ ps)).2) = _; rw [ih]; rfl
theorem all_writes {a : List Pg} {b : ByteArray} (hb : b.size ≤ 16) : ∀ (n : Nat) {p : Pg}, rightM (a ++ [p]) = true → p.ver + n < 2147483647 → 0 < n →
    (allM (a ++ [p]) (List.replicate n ⟨3, p.id, b⟩)).1 = a ++ [⟨p.id, p.ver + n, b⟩] ∧ ∀ r ∈ (allM (a ++ [p]) (List.replicate n ⟨3, p.id, b⟩)).2, r.e = 0
  | 0, p, _, _, h0 => by omega
  | n + 1, p, h, hv, _ => by
    have h1 := snoc_write (b := b) h hb (by omega)
    have hok := okP_iff.1 (okP_last h)
    have h2 : rightM (a ++ [⟨p.id, p.ver + 1, b⟩]) = true := right_swap h rfl (okP_iff.2 ⟨hok.1, hok.2.1, by show 1 ≤ p.ver + 1; omega, by show p.ver + 1 ≤ _; omega, hb⟩)
    rw [List.replicate_succ]
    unfold allM
    rw [h1]
    simp only
    by_cases hn : n = 0
    · subst hn
      refine ⟨rfl, fun r hr => ?_⟩
      simp [allM] at hr
      rw [hr]
    · obtain ⟨h3, h4⟩ := all_writes hb n (p := ⟨p.id, p.ver + 1, b⟩) h2 (by show p.ver + 1 + (n : Int) < _; omega) (by omega)
      refine ⟨?_, fun r hr => ?_⟩
      · rw [h3]
        show a ++ [⟨p.id, p.ver + 1 + (n : Int), b⟩] = _
        rw [show p.ver + 1 + (n : Int) = p.ver + ((n + 1 : Nat) : Int) by omega]
      · rcases List.mem_cons.1 hr with hr | hr
        · rw [hr]
        · exact h4 r hr
theorem all_page {a : List Pg} {p : Pg} (h : rightM (a ++ [p]) = true) (hv : p.ver ≤ 50) (h1 : p.ver = 1 → p.body = ⟨#[]⟩) : (allM a (opsOf p)).1 = a ++ [p] ∧ ∀ r ∈ (allM a (opsOf p)).2, r.e = 0 := by
  have hok := okP_iff.1 (okP_last h)
  have hn := snoc_new h
  have h2 : rightM (a ++ [newP p.id]) = true := right_swap h rfl (okP_new ⟨hok.1, hok.2.1⟩)
  unfold opsOf allM
  rw [hn]
  simp only
  by_cases e : p.ver = 1
  · rw [e]
    refine ⟨?_, fun r hr => ?_⟩
    · show a ++ [newP p.id] = _
      have : newP p.id = p := by
        have h3 := h1 e
        cases p
        simp only at e h3 ⊢
        rw [e, h3]; rfl
      rw [this]
    · simp [allM] at hr
      rw [hr]
  · obtain ⟨h3, h4⟩ := all_writes (b := p.body) hok.2.2.2.2 (p.ver - 1).toNat (p := newP p.id) h2 (by show (1 : Int) + _ < _; omega) (by omega)
    have h3' : (allM (a ++ [newP p.id]) (List.replicate (p.ver - 1).toNat ⟨3, p.id, p.body⟩)).1 = a ++ [⟨p.id, 1 + ((p.ver - 1).toNat : Int), p.body⟩] := h3
    refine ⟨?_, fun r hr => ?_⟩
    · rw [h3', show 1 + ((p.ver - 1).toNat : Int) = p.ver by omega]
    · rcases List.mem_cons.1 hr with hr | hr
      · rw [hr]
      · exact h4 r hr
theorem all_pages {m : List Pg} (h : rightM m = true) (hp : ∀ p ∈ m, p.ver ≤ 50 ∧ (p.ver = 1 → p.body = ⟨#[]⟩)) : (allM [] (m.flatMap opsOf)).1 = m ∧ ∀ r ∈ (allM [] (m.flatMap opsOf)).2, r.e = 0 := by
  suffices key : ∀ n : Nat, n ≤ m.length → (allM [] ((m.take n).flatMap opsOf)).1 = m.take n ∧ ∀ r ∈ (allM [] ((m.take n).flatMap opsOf)).2, r.e = 0 by
    have := key m.length (Nat.le_refl _)
    rwa [List.take_length] at this
  intro n
  induction n with
  | zero => intro _; exact ⟨rfl, fun r hr => by simp [allM] at hr⟩
  | succ n ih =>
    intro hn
    obtain ⟨i1, i2⟩ := ih (by omega)
    have hs : m.take (n + 1) = m.take n ++ [m[n]'(by omega)] := by rw [List.take_add_one, List.getElem?_eq_getElem (by omega)]; rfl
    have hrt : rightM (m.take n ++ [m[n]'(by omega)]) = true := by
      rw [← hs]
      obtain ⟨h1, h2⟩ := right_iff.1 h
      exact right_iff.2 ⟨fun p hp => h1 p (List.mem_of_mem_take hp), h2.sublist (List.take_sublist _ _)⟩
    obtain ⟨p1, p2⟩ := hp _ (List.getElem_mem (show n < m.length by omega))
    obtain ⟨j1, j2⟩ := all_page hrt p1 p2
    have hf : (m.take (n + 1)).flatMap opsOf = (m.take n).flatMap opsOf ++ opsOf (m[n]'(by omega)) := by rw [hs, List.flatMap_append]; simp
    rw [hf, allM_append]
    simp only [i1, j1]
    refine ⟨hs.symm, fun r hr => ?_⟩
    rcases List.mem_append.1 hr with hr | hr
    · exact i2 r hr
    · exact j2 r hr
end Ok
end Go.Proofs.Ytpcahlanjffilaa
