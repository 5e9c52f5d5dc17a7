/- layer 18: maps of pages and operations on them, plain. -/
namespace Go.Proofs.Ytbpipdgkkdifgaa
set_option linter.unusedVariables false
set_option linter.unusedSimpArgs false
structure Pg where
  id : Int
  ver : Int
  body : ByteArray
deriving DecidableEq, Inhabited
structure Opr where
  kind : Int
  id : Int
  body : ByteArray
deriving DecidableEq, Inhabited
structure Rs where
  e : Int
  p : Pg
deriving DecidableEq, Inhabited
namespace Ok
def zP : Pg := ⟨0, 0, ⟨#[]⟩⟩
def okP (p : Pg) : Bool := decide (1 ≤ p.id ∧ p.id ≤ 16 ∧ 1 ≤ p.ver ∧ p.ver ≤ 2147483647 ∧ p.body.size ≤ 16)
def okM : Int → List Pg → Bool
  | _, [] => true
  | last, p :: ps => okP p && decide (last < p.id) && okM p.id ps
def rightM (l : List Pg) : Bool := okM 0 l
def posM (l : List Pg) (id : Int) : Nat := l.findIdx fun p => decide (id ≤ p.id)
def hasM (l : List Pg) (id : Int) : Bool := match l[posM l id]? with
  | some p => decide (p.id = id)
  | none => false
def getM (l : List Pg) (id : Int) : Pg × Bool := if rightM l = true ∧ hasM l id = true then (l.getD (posM l id) zP, true) else (zP, false)
def newP (id : Int) : Pg := ⟨id, 1, ⟨#[]⟩⟩
def writeM (l : List Pg) (i : Nat) (body : ByteArray) : List Pg × Rs :=
  if 16 < body.size then (l, ⟨5, zP⟩) else if (l.getD i zP).ver = 2147483647 then (l, ⟨7, zP⟩)
  else (l.set i ⟨(l.getD i zP).id, (l.getD i zP).ver + 1, body⟩, ⟨0, ⟨(l.getD i zP).id, (l.getD i zP).ver + 1, body⟩⟩)
def badO (l : List Pg) (o : Opr) : Prop := rightM l = false ∨ o.kind < 1 ∨ 4 < o.kind ∨ o.id < 1 ∨ 16 < o.id
instance (l : List Pg) (o : Opr) : Decidable (badO l o) := by unfold badO; infer_instance
def doM (l : List Pg) (o : Opr) : List Pg × Rs :=
  if badO l o then (l, ⟨1, zP⟩)
  else if o.kind = 1 then (if hasM l o.id = true then (l, ⟨4, zP⟩) else (l.take (posM l o.id) ++ [newP o.id] ++ l.drop (posM l o.id), ⟨0, newP o.id⟩))
  else if hasM l o.id = false then (l, ⟨3, zP⟩)
  else if o.kind = 3 then writeM l (posM l o.id) o.body
  else if o.kind = 4 then (l.eraseIdx (posM l o.id), ⟨0, zP⟩)
  else (l, ⟨0, l.getD (posM l o.id) zP⟩)
def allM (l : List Pg) : List Opr → List Pg × List Rs
  | [] => (l, [])
  | o :: os => ((allM (doM l o).1 os).1, (doM l o).2 :: (allM (doM l o).1 os).2)

/-! what it means -/
def Mono (l : List Pg) : Prop := l.Pairwise fun p q => p.id < q.id
theorem okM_iff : ∀ {l : List Pg} {last : Int}, okM last l = true ↔ (∀ p ∈ l, okP p = true ∧ last < p.id) ∧ Mono l
  | [], last => by simp [okM, Mono]
  | p :: ps, last => by
    unfold okM Mono
    rw [Bool.and_eq_true, Bool.and_eq_true, decide_eq_true_eq, okM_iff, List.pairwise_cons]
    constructor
    · rintro ⟨⟨h1, h2⟩, h3, h4⟩
      refine ⟨fun q hq => ?_, fun q hq => (h3 q hq).2, h4⟩
      rcases List.mem_cons.1 hq with rfl | hq
      · exact ⟨h1, h2⟩
      · exact ⟨(h3 q hq).1, by have := (h3 q hq).2; omega⟩
    · rintro ⟨h1, h2, h3⟩
      exact ⟨h1 p (by simp), fun q hq => ⟨(h1 q (by simp [hq])).1, h2 q hq⟩, h3⟩
theorem okP_iff {p : Pg} : okP p = true ↔ 1 ≤ p.id ∧ p.id ≤ 16 ∧ 1 ≤ p.ver ∧ p.ver ≤ 2147483647 ∧ p.body.size ≤ 16 := by unfold okP; exact decide_eq_true_iff
theorem right_iff {l : List Pg} : rightM l = true ↔ (∀ p ∈ l, okP p = true) ∧ Mono l := by
  unfold rightM
  rw [okM_iff]
  constructor
  · rintro ⟨h1, h2⟩; exact ⟨fun p hp => (h1 p hp).1, h2⟩
  · rintro ⟨h1, h2⟩; exact ⟨fun p hp => ⟨h1 p hp, by have := (okP_iff.1 (h1 p hp)).1; omega⟩, h2⟩
theorem mono_lt {l : List Pg} (h : Mono l) {i j : Nat} (hi : i < l.length) (hj : j < l.length) (hij : i < j) : l[i].id < l[j].id := List.pairwise_iff_getElem.1 h i j hi hj hij
theorem pos_le {l : List Pg} {id : Int} : posM l id ≤ l.length := List.findIdx_le_length
theorem pos_lt {l : List Pg} (h : Mono l) {id : Int} {k : Nat} (hk : k < l.length) : l[k].id < id ↔ k < posM l id := by
  constructor
  · intro h1
    rcases Nat.lt_or_ge k (posM l id) with h2 | h2
    · exact h2
    · have h3 : posM l id < l.length := by omega
      have h4 : decide (id ≤ (l[posM l id]'h3).id) = true := List.findIdx_getElem (w := h3)
      rw [decide_eq_true_eq] at h4
      rcases Nat.lt_or_ge (posM l id) k with h5 | h5
      · have := mono_lt h h3 hk h5; omega
      · have : posM l id = k := by omega
        simp only [this] at h4; omega
  · intro h1
    have := List.not_of_lt_findIdx (p := fun p : Pg => decide (id ≤ p.id)) (xs := l) h1
    simp only [decide_eq_false_iff_not, Bool.not_eq_true, decide_eq_true_eq] at this
    omega
/-- the page of an id -/
def look (l : List Pg) (id : Int) : Option Pg := l.find? fun p => decide (p.id = id)
theorem look_mem {l : List Pg} (h : Mono l) {id : Int} {p : Pg} : look l id = some p ↔ p ∈ l ∧ p.id = id := by
  unfold look
  constructor
  · intro h1
    exact ⟨List.mem_of_find?_eq_some h1, by simpa using List.find?_some h1⟩
  · rintro ⟨h1, h2⟩
    obtain ⟨i, hi, rfl⟩ := List.getElem_of_mem h1
    rw [List.find?_eq_some_iff_getElem]
    refine ⟨by simpa using h2, i, hi, rfl, fun j hj => ?_⟩
    have := mono_lt h (Nat.lt_trans hj hi) hi hj
    simp; omega
theorem look_none {l : List Pg} {id : Int} : look l id = none ↔ ∀ p ∈ l, p.id ≠ id := by
  unfold look
  rw [List.find?_eq_none]
  simp
/-- two lists of which the same is told are the same -/
theorem mono_ext : ∀ {a b : List Pg}, Mono a → Mono b → (∀ p, p ∈ a ↔ p ∈ b) → a = b
  | [], [], _, _, _ => rfl
  | [], q :: b, _, _, h => by have := (h q).2 (by simp); simp at this
  | p :: a, [], _, _, h => by have := (h p).1 (by simp); simp at this
  | p :: a, q :: b, ha, hb, h => by
    unfold Mono at ha hb
    rw [List.pairwise_cons] at ha hb
    have e : p = q := by
      rcases List.mem_cons.1 ((h p).1 (by simp)) with e | e
      · exact e
      · rcases List.mem_cons.1 ((h q).2 (by simp)) with e2 | e2
        · exact e2.symm
        · have h1 := hb.1 p e
          have h2 := ha.1 q e2
          omega
    subst e
    refine congrArg _ (mono_ext ha.2 hb.2 fun x => ?_)
    constructor
    · intro hx
      rcases List.mem_cons.1 ((h x).1 (by simp [hx])) with e | e
      · subst e; have := ha.1 x hx; omega
      · exact e
    · intro hx
      rcases List.mem_cons.1 ((h x).2 (by simp [hx])) with e | e
      · subst e; have := hb.1 x hx; omega
      · exact e
theorem look_ext {a b : List Pg} (ha : Mono a) (hb : Mono b) (h : ∀ id, look a id = look b id) : a = b := by
  refine mono_ext ha hb fun p => ?_
  have h1 := look_mem ha (id := p.id) (p := p)
  have h2 := look_mem hb (id := p.id) (p := p)
  rw [h p.id] at h1
  constructor
  · intro hp; exact (h2.1 (h1.2 ⟨hp, rfl⟩)).1
  · intro hp; exact (h1.1 (h2.2 ⟨hp, rfl⟩)).1
theorem has_look {l : List Pg} (h : Mono l) {id : Int} : hasM l id = (look l id).isSome := by
  unfold hasM
  by_cases hp : posM l id < l.length
  · rw [List.getElem?_eq_getElem hp]
    simp only
    by_cases he : (l[posM l id]).id = id
    · rw [decide_eq_true he, (look_mem h).2 ⟨List.getElem_mem hp, he⟩]; rfl
    · rw [decide_eq_false he]
      rw [look_none.2]
      · rfl
      intro p hp2 hpe
      obtain ⟨j, hj, rfl⟩ := List.getElem_of_mem hp2
      have h1 := pos_lt h (id := id) hj
      have h2 := pos_lt h (id := id) hp
      rcases Nat.lt_trichotomy j (posM l id) with h3 | h3 | h3
      · have := h1.2 h3; omega
      · subst h3; exact he hpe
      · have := mono_lt h hp hj h3
        have h4 : ¬ l[posM l id].id < id := by rw [h2]; omega
        omega
  · rw [List.getElem?_eq_none (by omega)]
    rw [look_none.2]
    · rfl
    intro p hp2 hpe
    obtain ⟨j, hj, rfl⟩ := List.getElem_of_mem hp2
    have h1 := (pos_lt h (id := id) hj).2 (by omega)
    omega
theorem has_at {l : List Pg} {id : Int} (h : hasM l id = true) : ∃ hp : posM l id < l.length, l[posM l id].id = id := by
  unfold hasM at h
  split at h
  · rename_i p hp
    obtain ⟨h1, rfl⟩ := List.getElem?_eq_some_iff.1 hp
    exact ⟨h1, by simpa using h⟩
  · cases h
theorem look_at {l : List Pg} (hm : Mono l) {id : Int} (h : hasM l id = true) : look l id = some (l.getD (posM l id) zP) := by
  obtain ⟨hp, he⟩ := has_at h
  rw [List.getD_eq_getElem?_getD, List.getElem?_eq_getElem hp]
  exact (look_mem hm).2 ⟨List.getElem_mem hp, he⟩
theorem get_look {l : List Pg} (h : rightM l = true) {id : Int} : getM l id = ((look l id).getD zP, (look l id).isSome) := by
  have hm := (right_iff.1 h).2
  unfold getM
  by_cases hh : hasM l id = true
  · rw [if_pos ⟨h, hh⟩, look_at hm hh]; rfl
  · rw [if_neg (fun x => hh x.2)]
    have := has_look hm (id := id)
    rw [Bool.not_eq_true] at hh
    rw [hh] at this
    cases hl : look l id with
    | none => rfl
    | some p => rw [hl] at this; cases this
end Ok
end Go.Proofs.Ytbpipdgkkdifgaa
