/- layer 18: what an operation does, by the page of its id. -/
import Derived.Test.YtbpipdgkkdifgaaO1
namespace Go.Proofs.Ytbpipdgkkdifgaa
set_option linter.unusedVariables false
set_option linter.unusedSimpArgs false
namespace Ok

/-! what an operation does, by the page of its id -/
def badK (o : Opr) : Prop := o.kind < 1 ∨ 4 < o.kind ∨ o.id < 1 ∨ 16 < o.id
instance (o : Opr) : Decidable (badK o) := by unfold badK; infer_instance
/-- the page behind it, and what it tells -/
def step (cur : Option Pg) (o : Opr) : Option Pg × Rs :=
  if badK o then (cur, ⟨1, zP⟩) else match cur with
  | some p => if o.kind = 1 then (cur, ⟨4, zP⟩) else if o.kind = 3 then (if 16 < o.body.size then (cur, ⟨5, zP⟩) else if p.ver = 2147483647 then (cur, ⟨7, zP⟩) else (some ⟨p.id, p.ver + 1, o.body⟩, ⟨0, ⟨p.id, p.ver + 1, o.body⟩⟩))
      else if o.kind = 4 then (none, ⟨0, zP⟩) else (cur, ⟨0, p⟩)
  | none => if o.kind = 1 then (some (newP o.id), ⟨0, newP o.id⟩) else (none, ⟨3, zP⟩)
theorem look_id {l : List Pg} {id : Int} {p : Pg} (h : look l id = some p) : p.id = id := by
  unfold look at h
  simpa using List.find?_some h
theorem mono_new {l : List Pg} (h : Mono l) {p : Pg} (hno : look l p.id = none) : Mono (l.take (posM l p.id) ++ [p] ++ l.drop (posM l p.id)) := by
  unfold Mono
  rw [List.append_assoc, List.pairwise_append]
  refine ⟨h.sublist (List.take_sublist _ _), ?_, ?_⟩
  · rw [List.singleton_append, List.pairwise_cons]
    refine ⟨fun q hq => ?_, h.sublist (List.drop_sublist _ _)⟩
    obtain ⟨i, hi, rfl⟩ := List.getElem_of_mem hq
    rw [List.getElem_drop]
    have hlt : posM l p.id + i < l.length := by simp at hi; omega
    have h1 := pos_lt h (id := p.id) hlt
    have h2 := look_none.1 hno _ (List.getElem_mem hlt)
    omega
  · intro q hq r hr
    obtain ⟨i, hi, rfl⟩ := List.mem_take_iff_getElem.1 hq
    have hil : i < l.length := by omega
    have h1 := (pos_lt h (id := p.id) hil).2 (by omega)
    rcases List.mem_cons.1 hr with rfl | hr
    · exact h1
    · have hr' : r ∈ l.drop (posM l p.id) := hr
      obtain ⟨j, hj, rfl⟩ := List.getElem_of_mem hr'
      rw [List.getElem_drop]
      have hlt : posM l p.id + j < l.length := by simp at hj; omega
      exact mono_lt h hil hlt (by omega)
theorem look_new {l : List Pg} (h : Mono l) {p : Pg} (hno : look l p.id = none) (id : Int) : look (l.take (posM l p.id) ++ [p] ++ l.drop (posM l p.id)) id = if id = p.id then some p else look l id := by
  have hm := mono_new h hno
  have hmem : ∀ q, q ∈ l.take (posM l p.id) ++ [p] ++ l.drop (posM l p.id) ↔ q = p ∨ q ∈ l := by
    intro q
    have h1 : q ∈ l ↔ q ∈ l.take (posM l p.id) ∨ q ∈ l.drop (posM l p.id) := by rw [← List.mem_append, List.take_append_drop]
    simp only [List.mem_append, List.mem_singleton, h1]
    constructor
    · rintro ((h | h) | h)
      · exact .inr (.inl h)
      · exact .inl h
      · exact .inr (.inr h)
    · rintro (h | h | h)
      · exact .inl (.inr h)
      · exact .inl (.inl h)
      · exact .inr h
  split
  · rename_i e
    exact (look_mem hm).2 ⟨(hmem p).2 (.inl rfl), e.symm⟩
  · rename_i e
    cases hl : look l id with
    | none =>
      rw [look_none]
      intro q hq hqe
      rcases (hmem q).1 hq with h1 | h1
      · exact e (by rw [← hqe, h1])
      · exact look_none.1 hl q h1 hqe
    | some q =>
      obtain ⟨h1, h2⟩ := (look_mem h).1 hl
      exact (look_mem hm).2 ⟨(hmem q).2 (.inr h1), h2⟩
theorem mono_set {l : List Pg} (h : Mono l) {i : Nat} (hi : i < l.length) {p : Pg} (hp : p.id = l[i].id) : Mono (l.set i p) := by
  unfold Mono
  rw [List.pairwise_iff_getElem]
  intro a b ha hb hab
  rw [List.getElem_set, List.getElem_set]
  simp only [List.length_set] at ha hb
  have h1 := mono_lt h ha hb hab
  split
  · rename_i e; subst e
    rw [if_neg (by omega), hp]; exact h1
  · split
    · rename_i e; subst e; rw [hp]; exact h1
    · exact h1
theorem look_set {l : List Pg} (h : Mono l) {i : Nat} (hi : i < l.length) {p : Pg} (hp : p.id = l[i].id) (id : Int) : look (l.set i p) id = if id = p.id then some p else look l id := by
  have hm := mono_set h hi hp
  split
  · rename_i e
    exact (look_mem hm).2 ⟨List.mem_set hi p, e.symm⟩
  · rename_i e
    cases hl : look l id with
    | none =>
      rw [look_none]
      intro q hq hqe
      rcases List.mem_or_eq_of_mem_set hq with h1 | h1
      · exact look_none.1 hl q h1 hqe
      · exact e (by rw [← hqe, h1])
    | some q =>
      obtain ⟨h1, h2⟩ := (look_mem h).1 hl
      refine (look_mem hm).2 ⟨?_, h2⟩
      obtain ⟨j, hj, rfl⟩ := List.getElem_of_mem h1
      have hne : i ≠ j := fun x => by subst x; exact e (by rw [← h2, hp])
      rw [List.mem_iff_getElem]
      exact ⟨j, by simpa using hj, by rw [List.getElem_set_ne hne]⟩
theorem mono_del {l : List Pg} (h : Mono l) {i : Nat} : Mono (l.eraseIdx i) := h.sublist (List.eraseIdx_sublist l i)
theorem look_del {l : List Pg} (h : Mono l) {i : Nat} (hi : i < l.length) (id : Int) : look (l.eraseIdx i) id = if id = l[i].id then none else look l id := by
  have hm : Mono (l.eraseIdx i) := mono_del h
  split
  · rename_i e
    rw [look_none]
    intro q hq hqe
    rw [List.mem_eraseIdx_iff_getElem] at hq
    obtain ⟨j, hj, hne, rfl⟩ := hq
    rcases Nat.lt_or_ge j i with h1 | h1
    · have := mono_lt h hj hi h1; omega
    · have := mono_lt h hi hj (by omega); omega
  · rename_i e
    cases hl : look l id with
    | none =>
      rw [look_none]
      intro q hq hqe
      exact look_none.1 hl q (List.mem_of_mem_eraseIdx hq) hqe
    | some q =>
      obtain ⟨h1, h2⟩ := (look_mem h).1 hl
      refine (look_mem hm).2 ⟨?_, h2⟩
      obtain ⟨j, hj, rfl⟩ := List.getElem_of_mem h1
      rw [List.mem_eraseIdx_iff_getElem]
      exact ⟨j, hj, fun x => by subst x; exact e h2.symm, rfl⟩
theorem okP_new {id : Int} (h : 1 ≤ id ∧ id ≤ 16) : okP (newP id) = true := okP_iff.2 ⟨h.1, h.2, by show (1 : Int) ≤ 1; omega, by show (1 : Int) ≤ _; omega, by show (0 : Nat) ≤ 16; omega⟩
theorem right_bad {l : List Pg} {o : Opr} (h : rightM l = true) : badO l o ↔ badK o := by
  unfold badO badK
  simp [h]
theorem do_good {l : List Pg} {o : Opr} (h : rightM l = true) :
    rightM (doM l o).1 = true ∧ (doM l o).2 = (step (look l o.id) o).2 ∧ ∀ id, look (doM l o).1 id = if id = o.id then (step (look l o.id) o).1 else look l id := by
  have hm := (right_iff.1 h).2
  have hok := (right_iff.1 h).1
  unfold step
  have keep : ∀ id, look l id = if id = o.id then look l o.id else look l id := by intro id; split <;> simp_all
  by_cases hb : badK o
  · have e : doM l o = (l, ⟨1, zP⟩) := if_pos ((right_bad h).2 hb)
    rw [e, if_pos hb]
    exact ⟨h, rfl, keep⟩
  rw [if_neg hb]
  have hb0 : ¬ badO l o := fun x => hb ((right_bad h).1 x)
  have hids : 1 ≤ o.id ∧ o.id ≤ 16 := by unfold badK at hb; omega
  cases hl : look l o.id with
  | none =>
    have hh : hasM l o.id = false := by rw [has_look hm, hl]; rfl
    simp only
    by_cases hk : o.kind = 1
    · have e : doM l o = (l.take (posM l o.id) ++ [newP o.id] ++ l.drop (posM l o.id), ⟨0, newP o.id⟩) := by unfold doM; rw [if_neg hb0, if_pos hk, if_neg (by simp [hh])]
      rw [e, if_pos hk]
      refine ⟨right_iff.2 ⟨fun p hp => ?_, mono_new (p := newP o.id) hm hl⟩, rfl, fun id => look_new (p := newP o.id) hm hl id⟩
      simp only [List.mem_append, List.mem_singleton] at hp
      rcases hp with (hp | hp) | hp
      · exact hok p (List.mem_of_mem_take hp)
      · rw [hp]; exact okP_new hids
      · exact hok p (List.mem_of_mem_drop hp)
    · have e : doM l o = (l, ⟨3, zP⟩) := by unfold doM; rw [if_neg hb0, if_neg hk, if_pos hh]
      rw [e, if_neg hk]
      exact ⟨h, rfl, fun id => by rw [← hl]; exact keep id⟩
  | some p =>
    have hh : hasM l o.id = true := by rw [has_look hm, hl]; rfl
    obtain ⟨hp, he⟩ := has_at hh
    have hg : l.getD (posM l o.id) zP = p := by
      have := look_at hm hh
      rw [hl] at this
      exact (Option.some.inj this).symm
    have hpe : l[posM l o.id] = p := by rw [← hg, List.getD_eq_getElem?_getD, List.getElem?_eq_getElem hp]; rfl
    have hpid : p.id = o.id := look_id hl
    have hokp := okP_iff.1 (hok p ((look_mem hm).1 hl).1)
    simp only
    by_cases hk : o.kind = 1
    · have e : doM l o = (l, ⟨4, zP⟩) := by unfold doM; rw [if_neg hb0, if_pos hk, if_pos hh]
      rw [e, if_pos hk]
      exact ⟨h, rfl, fun id => by rw [← hl]; exact keep id⟩
    rw [if_neg hk]
    by_cases hk3 : o.kind = 3
    · have e : doM l o = writeM l (posM l o.id) o.body := by unfold doM; rw [if_neg hb0, if_neg hk, if_neg (by simp [hh]), if_pos hk3]
      rw [e, if_pos hk3]
      unfold writeM
      rw [hg]
      by_cases h16 : 16 < o.body.size
      · rw [if_pos h16, if_pos h16]
        exact ⟨h, rfl, fun id => by rw [← hl]; exact keep id⟩
      rw [if_neg h16, if_neg h16]
      by_cases hmx : p.ver = 2147483647
      · rw [if_pos hmx, if_pos hmx]
        exact ⟨h, rfl, fun id => by rw [← hl]; exact keep id⟩
      rw [if_neg hmx, if_neg hmx]
      have hid : (⟨p.id, p.ver + 1, o.body⟩ : Pg).id = l[posM l o.id].id := by rw [hpe]
      refine ⟨right_iff.2 ⟨fun q hq => ?_, mono_set hm hp hid⟩, rfl, fun id => ?_⟩
      · rcases List.mem_or_eq_of_mem_set hq with h1 | h1
        · exact hok q h1
        · rw [h1]; exact okP_iff.2 ⟨hokp.1, hokp.2.1, by show 1 ≤ p.ver + 1; omega, by show p.ver + 1 ≤ _; omega, by show o.body.size ≤ 16; omega⟩
      · show look (l.set (posM l o.id) ⟨p.id, p.ver + 1, o.body⟩) id = _
        rw [look_set hm hp hid id]
        show (if id = p.id then _ else _) = _
        rw [hpid]
    rw [if_neg hk3]
    by_cases hk4 : o.kind = 4
    · have e : doM l o = (l.eraseIdx (posM l o.id), ⟨0, zP⟩) := by unfold doM; rw [if_neg hb0, if_neg hk, if_neg (by simp [hh]), if_neg hk3, if_pos hk4]
      rw [e, if_pos hk4]
      refine ⟨right_iff.2 ⟨fun q hq => hok q (List.mem_of_mem_eraseIdx hq), mono_del hm⟩, rfl, fun id => ?_⟩
      show look (l.eraseIdx (posM l o.id)) id = _
      rw [look_del hm hp id, hpe, hpid]
    · have e : doM l o = (l, ⟨0, p⟩) := by unfold doM; rw [if_neg hb0, if_neg hk, if_neg (by simp [hh]), if_neg hk3, if_neg hk4, hg]
      rw [e, if_neg hk4]
      exact ⟨h, rfl, fun id => by rw [← hl]; exact keep id⟩
theorem do_wrong {l : List Pg} {o : Opr} (h : rightM l = false) : doM l o = (l, ⟨1, zP⟩) := if_pos (.inl h)
theorem right_ext {a b : List Pg} (ha : rightM a = true) (hb : rightM b = true) (h : ∀ id, look a id = look b id) : a = b := look_ext (right_iff.1 ha).2 (right_iff.1 hb).2 h
end Ok
end Go.Proofs.Ytbpipdgkkdifgaa
