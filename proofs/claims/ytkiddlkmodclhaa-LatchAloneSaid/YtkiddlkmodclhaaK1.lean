/- layer 8: latches, plain. -/
namespace Go.Proofs.Ytkiddlkmodclhaa
set_option linter.unusedVariables false
set_option linter.unusedSimpArgs false
structure Wt where
  who : Int
  ex : Bool
deriving DecidableEq, Inhabited
structure Lt where
  h : List Int
  ex : Bool
  q : List Wt
deriving DecidableEq, Inhabited
namespace La
def okWho (n : Int) : Bool := decide (0 ≤ n ∧ n ≤ 2147483647)
def may (l : Lt) : Bool := match l.q with
  | [] => false
  | w :: _ => decide (l.h.length = 0) || (!l.ex && !w.ex)
def whos (l : Lt) : List Int := l.h ++ l.q.map Wt.who
def people (l : Lt) : Bool := decide (l.h.Pairwise (· ≤ ·)) && ((whos l).all okWho && decide (whos l).Nodup)
def right (l : Lt) : Bool := decide (l.h.length + l.q.length ≤ 64 ∧ (l.ex = true → l.h.length = 1)) && people l && !may l
/-- right, but that somebody may be let in -/
def Pre (l : Lt) : Prop := l.h.length + l.q.length ≤ 64 ∧ (l.ex = true → l.h.length = 1) ∧ l.h.Pairwise (· < ·) ∧ (∀ n ∈ whos l, okWho n = true) ∧ (whos l).Nodup
theorem sorted_lt {h : List Int} (h1 : h.Pairwise (· ≤ ·)) (h2 : h.Nodup) : h.Pairwise (· < ·) := by
  have h3 := h1.and h2
  exact h3.imp (fun x => by omega)
theorem right_iff {l : Lt} : right l = true ↔ Pre l ∧ may l = false := by
  unfold right people Pre
  simp only [Bool.and_eq_true, decide_eq_true_eq, Bool.not_eq_true', List.all_eq_true]
  constructor
  · rintro ⟨⟨⟨h1, h2⟩, h3, h4, h5⟩, h6⟩
    exact ⟨⟨h1, h2, sorted_lt h3 (List.nodup_append.1 h5).1, h4, h5⟩, h6⟩
  · rintro ⟨⟨h1, h2, h3, h4, h5⟩, h6⟩
    exact ⟨⟨⟨h1, h2⟩, h3.imp (fun x => by omega), h4, h5⟩, h6⟩
def pos (h : List Int) (x : Int) : Nat := h.findIdx fun y => decide (x ≤ y)
def has (h : List Int) (x : Int) : Bool := match h[pos h x]? with
  | some y => decide (y = x)
  | none => false
def ins (h : List Int) (x : Int) : List Int := h.take (pos h x) ++ [x] ++ h.drop (pos h x)
theorem pos_le {h : List Int} {x : Int} : pos h x ≤ h.length := List.findIdx_le_length
theorem get_lt {h : List Int} (hm : h.Pairwise (· ≤ ·)) {i j : Nat} (hi : i < h.length) (hj : j < h.length) (hij : i < j) : h[i] ≤ h[j] := List.pairwise_iff_getElem.1 hm i j hi hj hij
theorem pos_lt {h : List Int} (hm : h.Pairwise (· ≤ ·)) {x : Int} {k : Nat} (hk : k < h.length) : h[k] < x ↔ k < pos h x := by
  constructor
  · intro h1
    rcases Nat.lt_or_ge k (pos h x) with h2 | h2
    · exact h2
    · have h3 : pos h x < h.length := by omega
      have h4 : decide (x ≤ (h[pos h x]'h3)) = true := List.findIdx_getElem (w := h3)
      rw [decide_eq_true_eq] at h4
      rcases Nat.lt_or_ge (pos h x) k with h5 | h5
      · have := get_lt hm h3 hk h5; omega
      · have : pos h x = k := by omega
        simp only [this] at h4; omega
  · intro h1
    have := List.not_of_lt_findIdx (p := fun y : Int => decide (x ≤ y)) (xs := h) h1
    simp only [decide_eq_false_iff_not, Bool.not_eq_true, decide_eq_true_eq] at this
    omega
theorem has_mem {h : List Int} (hm : h.Pairwise (· ≤ ·)) {x : Int} : has h x = decide (x ∈ h) := by
  rw [eq_comm, Bool.eq_iff_iff, decide_eq_true_eq]
  unfold has
  constructor
  · intro h1
    obtain ⟨j, hj, rfl⟩ := List.getElem_of_mem h1
    have h2 : pos h h[j] ≤ j := by
      rcases Nat.lt_or_ge j (pos h h[j]) with h3 | h3
      · have := (pos_lt hm hj).2 h3; omega
      · exact h3
    have h3 : pos h h[j] < h.length := by omega
    rw [List.getElem?_eq_getElem h3]
    simp only [decide_eq_true_eq]
    have h4 : ¬ h[pos h h[j]] < h[j] := by rw [pos_lt hm h3]; omega
    rcases Nat.lt_or_ge (pos h h[j]) j with h5 | h5
    · have := get_lt hm h3 hj h5; omega
    · have : pos h h[j] = j := by omega
      simp only [this]
  · intro h1
    split at h1
    · rename_i y hy
      obtain ⟨h2, rfl⟩ := List.getElem?_eq_some_iff.1 hy
      rw [decide_eq_true_eq] at h1
      have h3 := List.getElem_mem h2
      rwa [h1] at h3
    · cases h1
theorem has_at {h : List Int} {x : Int} (hh : has h x = true) : ∃ hp : pos h x < h.length, h[pos h x] = x := by
  unfold has at hh
  split at hh
  · rename_i y hy
    obtain ⟨h1, rfl⟩ := List.getElem?_eq_some_iff.1 hy
    exact ⟨h1, by simpa using hh⟩
  · cases hh
theorem mem_ins {h : List Int} {x y : Int} : y ∈ ins h x ↔ y = x ∨ y ∈ h := by
  unfold ins
  have h1 : y ∈ h ↔ y ∈ h.take (pos h x) ∨ y ∈ h.drop (pos h x) := by rw [← List.mem_append, List.take_append_drop]
  simp only [List.mem_append, List.mem_singleton, h1]
  constructor
  · rintro ((h | h) | h)
    · exact .inr (.inl h)
    · exact .inl h
    · exact .inr (.inr h)
  · rintro (h | h | h)
    · exact .inl (.inr h)
    · exact .inl (.inl h)
    · exact .inr h
theorem ins_len {h : List Int} {x : Int} : (ins h x).length = h.length + 1 := by
  unfold ins
  have := pos_le (h := h) (x := x)
  simp; omega
theorem ins_perm {h : List Int} {x : Int} : (ins h x).Perm (x :: h) := by
  unfold ins
  have : (h.take (pos h x) ++ [x] ++ h.drop (pos h x)).Perm ([x] ++ (h.take (pos h x) ++ h.drop (pos h x))) := by
    rw [← List.append_assoc]
    exact List.Perm.append_right _ List.perm_append_comm
  rw [List.take_append_drop] at this
  exact this
theorem ins_sorted {h : List Int} {x : Int} (hm : h.Pairwise (· < ·)) (hx : x ∉ h) : (ins h x).Pairwise (· < ·) := by
  have hle : h.Pairwise (· ≤ ·) := hm.imp (fun x => by omega)
  unfold ins
  rw [List.append_assoc, List.pairwise_append]
  refine ⟨hm.sublist (List.take_sublist _ _), ?_, ?_⟩
  · rw [List.singleton_append, List.pairwise_cons]
    refine ⟨fun q hq => ?_, hm.sublist (List.drop_sublist _ _)⟩
    obtain ⟨i, hi, rfl⟩ := List.getElem_of_mem hq
    rw [List.getElem_drop]
    have hlt : pos h x + i < h.length := by simp at hi; omega
    have h1 := pos_lt hle (x := x) hlt
    have h2 : h[pos h x + i] ≠ x := fun e => hx (e ▸ List.getElem_mem hlt)
    omega
  · intro q hq r hr
    obtain ⟨i, hi, rfl⟩ := List.mem_take_iff_getElem.1 hq
    have hil : i < h.length := by omega
    have h1 := (pos_lt hle (x := x) hil).2 (by omega)
    rcases List.mem_cons.1 hr with rfl | hr
    · exact h1
    · have hr' : r ∈ h.drop (pos h x) := hr
      obtain ⟨j, hj, rfl⟩ := List.getElem_of_mem hr'
      rw [List.getElem_drop]
      have hlt : pos h x + j < h.length := by simp at hj; omega
      exact List.pairwise_iff_getElem.1 hm _ _ hil hlt (by omega)
/-- the first ones are let in -/
def ent : List Int → Bool → List Wt → Lt × List Int
  | h, ex, [] => (⟨h, ex, []⟩, [])
  | h, ex, w :: q => if may ⟨h, ex, w :: q⟩ = true then ((ent (ins h w.who) w.ex q).1, w.who :: (ent (ins h w.who) w.ex q).2) else (⟨h, ex, w :: q⟩, [])
theorem pre_next {h : List Int} {ex : Bool} {w : Wt} {q : List Wt} (hp : Pre ⟨h, ex, w :: q⟩) (hm : may ⟨h, ex, w :: q⟩ = true) : Pre ⟨ins h w.who, w.ex, q⟩ ∧ (whos ⟨ins h w.who, w.ex, q⟩).Perm (whos ⟨h, ex, w :: q⟩) := by
  obtain ⟨h1, h2, h3, h4, h5⟩ := hp
  simp only [whos, List.map_cons] at h1 h2 h3 h4 h5
  have hperm : (whos ⟨ins h w.who, w.ex, q⟩).Perm (whos ⟨h, ex, w :: q⟩) := by
    unfold whos
    simp only [List.map_cons]
    have : (ins h w.who ++ q.map Wt.who).Perm ((w.who :: h) ++ q.map Wt.who) := List.Perm.append_right _ ins_perm
    refine this.trans ?_
    rw [List.cons_append]
    exact (List.perm_middle).symm
  have hx : w.who ∉ h := by
    have := (List.nodup_append.1 h5).2.2
    intro hx
    exact this _ hx _ (by simp) rfl
  refine ⟨⟨?_, ?_, ins_sorted h3 hx, ?_, ?_⟩, hperm⟩
  · simp only [ins_len, List.length_cons] at h1 ⊢; omega
  · intro he
    unfold may at hm
    simp only [Bool.or_eq_true, decide_eq_true_eq, Bool.and_eq_true, Bool.not_eq_true'] at hm
    simp only at he ⊢
    rw [ins_len]
    rcases hm with hm | hm
    · omega
    · rw [he] at hm; simp at hm
  · intro n hn
    exact h4 n (hperm.mem_iff.1 hn)
  · exact hperm.nodup_iff.2 h5
theorem ent_facts : ∀ (q : List Wt) (h : List Int) (ex : Bool), Pre ⟨h, ex, q⟩ → Pre (ent h ex q).1 ∧ may (ent h ex q).1 = false ∧ (whos (ent h ex q).1).Perm (whos ⟨h, ex, q⟩) ∧
    ∃ k, (ent h ex q).1.q = q.drop k ∧ (ent h ex q).2 = (q.take k).map Wt.who ∧ k ≤ q.length ∧ (∀ n, n ∈ (ent h ex q).1.h ↔ n ∈ h ∨ n ∈ (q.take k).map Wt.who) ∧ (∀ w ∈ q.take k, w.ex = (ent h ex q).1.ex) ∧ (h ≠ [] → 0 < k → ex = false) ∧ ((ent h ex q).1.ex = ex ∨ 0 < k) ∧ (h ≠ [] → (ent h ex q).1.ex = ex)
  | [], h, ex, hp => ⟨hp, rfl, .refl _, 0, rfl, rfl, Nat.le_refl _, fun n => by simp [ent], by simp, fun _ h => by omega, .inl rfl, fun _ => rfl⟩
  | w :: q, h, ex, hp => by
    unfold ent
    by_cases hm : may ⟨h, ex, w :: q⟩ = true
    · rw [if_pos hm]
      obtain ⟨p1, p2⟩ := pre_next hp hm
      obtain ⟨i1, i2, i3, k, i4, i5, i6, i7, i8, i9, i10, i11⟩ := ent_facts q (ins h w.who) w.ex p1
      have hne : ins h w.who ≠ [] := by intro e; have := ins_len (h := h) (x := w.who); rw [e] at this; simp at this
      refine ⟨i1, i2, i3.trans p2, k + 1, by simpa using i4, by simp [i5], by simp; omega, fun n => ?_, ?_, ?_, .inr (by omega), ?_⟩
      · rw [i7, mem_ins]
        simp only [List.take_succ_cons, List.map_cons, List.mem_cons]
        constructor
        · rintro ((h | h) | h)
          · exact .inr (.inl h)
          · exact .inl h
          · exact .inr (.inr h)
        · rintro (h | h | h)
          · exact .inl (.inr h)
          · exact .inl (.inl h)
          · exact .inr h
      · intro x hx
        simp only [List.take_succ_cons, List.mem_cons] at hx
        rcases hx with hx | hx
        · rw [hx]; exact (i11 hne).symm
        · exact i8 x hx
      · intro h0 _
        unfold may at hm
        simp only [Bool.or_eq_true, decide_eq_true_eq, Bool.and_eq_true, Bool.not_eq_true'] at hm
        rcases hm with hm | hm
        · exact absurd (List.eq_nil_of_length_eq_zero hm) h0
        · exact hm.1
      · intro h0
        rw [i11 hne]
        unfold may at hm
        simp only [Bool.or_eq_true, decide_eq_true_eq, Bool.and_eq_true, Bool.not_eq_true'] at hm
        rcases hm with hm | hm
        · exact absurd (List.eq_nil_of_length_eq_zero hm) h0
        · rw [hm.1, hm.2]
    · rw [if_neg hm]
      refine ⟨hp, by simpa using hm, .refl _, 0, rfl, rfl, Nat.zero_le _, fun n => by simp, by simp, fun _ h => by omega, .inl rfl, fun _ => rfl⟩
/-- who asks -/
def askM (l : Lt) (who : Int) (ex : Bool) : Lt × Bool × Int :=
  if right l = false ∨ okWho who = false then (l, false, 1)
  else if who ∈ whos l then (l, false, 4)
  else if l.h.length + l.q.length = 64 then (l, false, 7)
  else ((ent l.h l.ex (l.q ++ [⟨who, ex⟩])).1, decide (who ∈ (ent l.h l.ex (l.q ++ [⟨who, ex⟩])).1.h), 0)
/-- where somebody waits -/
def at' (l : Lt) (who : Int) : Nat := l.q.findIdx fun w => decide (w.who = who)
/-- who drops -/
def dropM (l : Lt) (who : Int) : Lt × List Int × Int :=
  if right l = false then (l, [], 1)
  else if who ∈ l.h then ((ent (l.h.eraseIdx (pos l.h who)) false l.q).1, (ent (l.h.eraseIdx (pos l.h who)) false l.q).2, 0)
  else if at' l who < l.q.length then ((ent l.h l.ex (l.q.eraseIdx (at' l who))).1, (ent l.h l.ex (l.q.eraseIdx (at' l who))).2, 0)
  else (l, [], 3)
def holdsM (l : Lt) (who : Int) : Bool × Bool := if right l = true ∧ who ∈ l.h then (true, l.ex) else (false, false)
theorem pre_ask {l : Lt} {who : Int} {ex : Bool} (h : right l = true) (hw : okWho who = true) (hn : who ∉ whos l) (hl : l.h.length + l.q.length ≠ 64) : Pre ⟨l.h, l.ex, l.q ++ [⟨who, ex⟩]⟩ := by
  obtain ⟨⟨h1, h2, h3, h4, h5⟩, h6⟩ := right_iff.1 h
  have hwh : whos ⟨l.h, l.ex, l.q ++ [⟨who, ex⟩]⟩ = whos l ++ [who] := by simp [whos]
  refine ⟨by simp; omega, h2, h3, ?_, ?_⟩
  · rw [hwh]
    intro n hn
    rcases List.mem_append.1 hn with hn | hn
    · exact h4 n hn
    · rw [List.mem_singleton.1 hn]; exact hw
  · rw [hwh, List.nodup_append]
    refine ⟨h5, by simp, fun a ha b hb e => ?_⟩
    rw [List.mem_singleton.1 hb] at e
    exact hn (e ▸ ha)
theorem at_lt {l : Lt} {who : Int} : at' l who < l.q.length ↔ who ∈ l.q.map Wt.who := by
  unfold at'
  rw [List.findIdx_lt_length]
  simp only [decide_eq_true_eq, List.mem_map]
theorem pre_dropH {l : Lt} {who : Int} (h : right l = true) (hw : who ∈ l.h) : Pre ⟨l.h.eraseIdx (pos l.h who), false, l.q⟩ := by
  obtain ⟨⟨h1, h2, h3, h4, h5⟩, h6⟩ := right_iff.1 h
  have hsub : (whos ⟨l.h.eraseIdx (pos l.h who), false, l.q⟩).Sublist (whos l) := List.Sublist.append_right (List.eraseIdx_sublist _ _) _
  have hlen : (l.h.eraseIdx (pos l.h who)).length ≤ l.h.length := (List.eraseIdx_sublist _ _).length_le
  refine ⟨by simp only; omega, by simp, h3.sublist (List.eraseIdx_sublist _ _), fun n hn => h4 n (hsub.subset hn), h5.sublist hsub⟩
theorem pre_dropQ {l : Lt} {k : Nat} (h : right l = true) : Pre ⟨l.h, l.ex, l.q.eraseIdx k⟩ := by
  obtain ⟨⟨h1, h2, h3, h4, h5⟩, h6⟩ := right_iff.1 h
  have hsub : (whos ⟨l.h, l.ex, l.q.eraseIdx k⟩).Sublist (whos l) := List.Sublist.append_left ((List.eraseIdx_sublist _ _).map _) _
  have hlen : (l.q.eraseIdx k).length ≤ l.q.length := (List.eraseIdx_sublist _ _).length_le
  refine ⟨by simp only; omega, h2, h3, fun n hn => h4 n (hsub.subset hn), h5.sublist hsub⟩
end La
end Go.Proofs.Ytkiddlkmodclhaa
