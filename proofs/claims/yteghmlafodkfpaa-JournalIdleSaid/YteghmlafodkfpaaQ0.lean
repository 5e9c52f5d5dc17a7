/- layer 3 for the layers above: disks, plain (own texts of layer 3). -/
namespace Go.Proofs.Yteghmlafodkfpaa
set_option linter.unusedVariables false
set_option linter.unusedSimpArgs false
structure Wr where
  at_ : Int
  data : ByteArray
structure Dk where
  sectors : List ByteArray
  cache : List Wr
def hasB (d : Dk) (at_ : Int) : Bool := decide (0 ≤ at_) && decide (at_ < d.sectors.length)
def fitsB (d : Dk) (w : Wr) : Bool := hasB d w.at_ && ((w.data.size : Int) == 16)
def len16 (s : ByteArray) : Bool := ((s.size : Int) == 16)
def rightB (d : Dk) : Bool := decide (1 ≤ d.sectors.length ∧ d.sectors.length ≤ 64 ∧ d.cache.length ≤ 200) && d.sectors.all len16 && d.cache.all (fitsB d)
def put1 (s : List ByteArray) (w : Wr) : List ByteArray := s.set w.at_.toNat w.data
def doneS (s : List ByteArray) (ws : List Wr) : List ByteArray := ws.foldl put1 s
def doneD (d : Dk) (ws : List Wr) : Dk := ⟨doneS d.sectors ws, []⟩
theorem doneS_len (s : List ByteArray) (ws : List Wr) : (doneS s ws).length = s.length := by
  induction ws generalizing s with
  | nil => rfl
  | cons w ws ih => simp only [doneS, List.foldl_cons] at ih ⊢; rw [ih]; simp [put1]
theorem doneS_snoc (s : List ByteArray) (ws : List Wr) (w : Wr) : doneS s (ws ++ [w]) = put1 (doneS s ws) w := by simp [doneS]
theorem right_len {d : Dk} (h : rightB d = true) : 1 ≤ d.sectors.length ∧ d.sectors.length ≤ 64 ∧ d.cache.length ≤ 200 := by
  simp only [rightB, Bool.and_eq_true, decide_eq_true_eq] at h
  exact h.1.1
theorem right_fits {d : Dk} (h : rightB d = true) : ∀ w ∈ d.cache, fitsB d w = true := by
  simp only [rightB, Bool.and_eq_true, List.all_eq_true] at h
  exact h.2
theorem right_has {d : Dk} (h : rightB d = true) : ∀ w ∈ d.cache, hasB d w.at_ = true := fun w hw => by
  have := right_fits h w hw
  simp only [fitsB, Bool.and_eq_true] at this
  exact this.1
def syncD (d : Dk) : Dk := if rightB d then doneD d d.cache else d
def putD (d : Dk) (w : Wr) : Dk × Int := if !rightB d || !fitsB d w then (d, 1) else if d.cache.length = 200 then (d, 7) else ({ d with cache := d.cache ++ [w] }, 0)
def mark (m : List Bool) (k : Int) : List Bool := if 0 ≤ k ∧ k < m.length then m.set k.toNat true else m
def marks (n : Nat) (keep : List Int) : List Bool := keep.foldl mark (List.replicate n false)
theorem marks_snoc (n : Nat) (keep : List Int) (k : Int) : marks n (keep ++ [k]) = mark (marks n keep) k := by simp [marks]
theorem mark_len (m : List Bool) (k : Int) : (mark m k).length = m.length := by unfold mark; split <;> simp
theorem marks_len (n : Nat) (keep : List Int) : (marks n keep).length = n := by
  suffices h : ∀ m : List Bool, (keep.foldl mark m).length = m.length by simp [marks, h]
  induction keep with
  | nil => intro m; rfl
  | cons k ks ih => intro m; rw [List.foldl_cons, ih, mark_len]
def keptW : List Wr → List Bool → List Wr
  | w :: ws, m :: ms => if m then w :: keptW ws ms else keptW ws ms
  | _, _ => []
theorem keptW_snoc : ∀ {ws : List Wr} {ms : List Bool} {w : Wr} {m : Bool}, ws.length = ms.length → keptW (ws ++ [w]) (ms ++ [m]) = keptW ws ms ++ if m then [w] else []
  | [], [], w, m, _ => by cases m <;> rfl
  | x :: ws, y :: ms, w, m, h => by
    have := keptW_snoc (ws := ws) (ms := ms) (w := w) (m := m) (by simpa using h)
    cases y <;> simp [keptW, this]
theorem keptW_sub : ∀ {ws : List Wr} {ms : List Bool} {w : Wr}, w ∈ keptW ws ms → w ∈ ws
  | x :: ws, y :: ms, w, h => by
    cases y <;> simp only [keptW, Bool.false_eq_true, if_false, if_true, List.mem_cons] at h
    · exact List.mem_cons_of_mem _ (keptW_sub h)
    · rcases h with rfl | h
      · exact List.mem_cons_self
      · exact List.mem_cons_of_mem _ (keptW_sub h)
  | [], _, w, h => by simp [keptW] at h
  | _ :: _, [], w, h => by simp [keptW] at h
theorem keptW_len : ∀ {ws : List Wr} {ms : List Bool}, (keptW ws ms).length ≤ ws.length
  | x :: ws, y :: ms => by
    have := keptW_len (ws := ws) (ms := ms)
    cases y <;> simp [keptW] <;> omega
  | [], _ => by simp [keptW]
  | _ :: _, [] => by simp [keptW]
def crashD (d : Dk) (keep : List Int) : Dk := if rightB d then doneD d (keptW d.cache (marks d.cache.length keep)) else d
def lookB (zs : List Wr) (a : Int) : Option Wr := zs.reverse.find? (fun w => w.at_ == a)
def readD (d : Dk) (a : Int) : ByteArray × Int :=
  if !rightB d || !hasB d a then (ByteArray.empty, 1) else match lookB d.cache a with
    | some w => (w.data, 0)
    | none => (d.sectors[a.toNat]?.getD ByteArray.empty, 0)
def noughts : ByteArray := ⟨#[0, 0, 0, 0, 0, 0, 0, 0, 0, 0, 0, 0, 0, 0, 0, 0]⟩
def newD (n : Int) : Dk × Int := if n < 1 ∨ 64 < n then (⟨[], []⟩, 1) else (⟨List.replicate n.toNat noughts, []⟩, 0)
theorem lookB_nil (a : Int) : lookB [] a = none := rfl
theorem lookB_snoc (ws : List Wr) (w : Wr) (a : Int) : lookB (ws ++ [w]) a = if w.at_ = a then some w else lookB ws a := by
  unfold lookB
  rw [List.reverse_append, List.reverse_singleton, List.singleton_append, List.find?_cons]
  by_cases h : w.at_ = a
  · simp [h]
  · have : (w.at_ == a) = false := by simpa using h
    rw [this, if_neg h]
theorem lookB_mem {ws : List Wr} {a : Int} {w : Wr} (h : lookB ws a = some w) : w ∈ ws ∧ w.at_ = a := by
  unfold lookB at h
  have h1 := List.mem_of_find?_eq_some h
  have h2 := List.find?_some h
  exact ⟨by simpa using h1, by simpa using h2⟩
/-- the sectors behind some writes -/
theorem doneS_at (s : List ByteArray) (a : Nat) (ha : a < s.length) : ∀ (n : Nat) (ws : List Wr), ws.length = n → (∀ w ∈ ws, 0 ≤ w.at_) → (doneS s ws)[a]? = match lookB ws a with
    | some w => some w.data
    | none => s[a]?
  | 0, ws, hn, h => by
    have : ws = [] := List.length_eq_zero_iff.1 hn
    subst this
    rfl
  | n + 1, ws, hn, h => by
    have hne : ws ≠ [] := by intro e; rw [e] at hn; simp at hn
    have e := List.dropLast_concat_getLast hne
    generalize ws.dropLast = us at e
    generalize ws.getLast hne = w at e
    subst e
    have hu : us.length = n := by simpa using hn
    have ih := doneS_at s a ha n us hu (fun x hx => h x (List.mem_append_left _ hx))
    have hw := h w (by simp)
    rw [doneS_snoc, put1, lookB_snoc]
    by_cases hwa : w.at_ = (a : Int)
    · have : w.at_.toNat = a := by omega
      rw [if_pos hwa, this, List.getElem?_set_self (by rw [doneS_len]; exact ha)]
    · have : w.at_.toNat ≠ a := by omega
      rw [if_neg hwa, List.getElem?_set_ne this, ih]
theorem fits_has {d : Dk} {w : Wr} (h : fitsB d w = true) : (0 ≤ w.at_ ∧ w.at_ < d.sectors.length) ∧ ((w.data.size : Int) = 16) := by
  simpa [fitsB, hasB] using h
theorem mem_set_cases {α : Type} {l : List α} {i : Nat} {x y : α} (h : y ∈ l.set i x) : y ∈ l ∨ y = x := by
  rcases List.mem_or_eq_of_mem_set h with h | h
  · exact .inl h
  · exact .inr h
theorem doneS_16 {d : Dk} (hs : d.sectors.all len16 = true) : ∀ (ws : List Wr), (∀ w ∈ ws, fitsB d w = true) → ∀ s, s.all len16 = true → (doneS s ws).all len16 = true
  | [], _, s, h => h
  | w :: ws, hw, s, h => by
    have h1 : (put1 s w).all len16 = true := by
      rw [List.all_eq_true] at h ⊢
      intro x hx
      rcases mem_set_cases hx with hx | rfl
      · exact h x hx
      · have := (fits_has (hw w (by simp))).2
        simp [len16, this]
    exact doneS_16 hs ws (fun x hx => hw x (by simp [hx])) (put1 s w) h1
theorem right_16 {d : Dk} (h : rightB d = true) : d.sectors.all len16 = true := by
  simp only [rightB, Bool.and_eq_true] at h
  exact h.1.2
theorem right_done {d : Dk} (h : rightB d = true) (ws : List Wr) (hw : ∀ w ∈ ws, fitsB d w = true) : rightB (doneD d ws) = true := by
  have h1 := right_len h
  have h2 := doneS_16 (right_16 h) ws hw d.sectors (right_16 h)
  have h3 := doneS_len d.sectors ws
  simp only [rightB, doneD, h2, h3, List.length_nil, List.all_nil, Bool.and_true, decide_eq_true_eq]
  omega
theorem has_done (d : Dk) (ws : List Wr) (a : Int) : hasB (doneD d ws) a = hasB d a := by simp [hasB, doneD, doneS_len]
theorem read_ok {d : Dk} {a : Int} (h : rightB d = true) (hh : hasB d a = true) : readD d a = match lookB d.cache a with
    | some w => (w.data, 0)
    | none => (d.sectors[a.toNat]?.getD ByteArray.empty, 0) := by unfold readD; rw [h, hh]; rfl
theorem read_err {d : Dk} {a : Int} (h : rightB d = true) (hh : hasB d a = true) : (readD d a).2 = 0 := by
  rw [read_ok h hh]; split <;> rfl
theorem has_nat {d : Dk} {a : Int} (hh : hasB d a = true) : ∃ i : Nat, a = i ∧ i < d.sectors.length := by
  simp only [hasB, Bool.and_eq_true, decide_eq_true_eq] at hh
  exact ⟨a.toNat, by omega, by omega⟩
theorem read_sync {d : Dk} {a : Int} (h : rightB d = true) (hh : hasB d a = true) : readD (syncD d) a = readD d a := by
  have hs : syncD d = doneD d d.cache := by simp [syncD, h]
  obtain ⟨i, rfl, hi⟩ := has_nat hh
  rw [hs, read_ok (right_done h d.cache (right_fits h)) (by rw [has_done]; exact hh), read_ok h hh]
  have hl : lookB (doneD d d.cache).cache i = none := rfl
  rw [hl]
  have := doneS_at d.sectors i hi d.cache.length d.cache rfl (fun w hw => ((fits_has (right_fits h w hw)).1).1)
  simp only [doneD, Int.toNat_natCast, this]
  cases lookB d.cache i <;> rfl
theorem put_ok {d : Dk} {w : Wr} (h : rightB d = true) (hf : fitsB d w = true) (hl : d.cache.length ≠ 200) : putD d w = (⟨d.sectors, d.cache ++ [w]⟩, 0) := by simp [putD, h, hf, hl]
theorem put_no {d : Dk} {w : Wr} (h : rightB d = true) (hf : ¬ (fitsB d w = true ∧ d.cache.length ≠ 200)) : (putD d w).1 = d ∧ (putD d w).2 ≠ 0 := by
  unfold putD
  rw [h]
  cases hq : fitsB d w
  · simp
  · have : d.cache.length = 200 := by
      rw [hq] at hf
      simpa using hf
    simp [this]
theorem right_put {d : Dk} {w : Wr} (h : rightB d = true) (hf : fitsB d w = true) (hl : d.cache.length ≠ 200) : rightB ⟨d.sectors, d.cache ++ [w]⟩ = true := by
  have h1 := right_len h
  have h2 := right_fits h
  simp only [rightB, right_16 h, Bool.and_true, Bool.and_eq_true, decide_eq_true_eq, List.length_append, List.length_singleton, List.all_append, List.all_cons, List.all_nil]
  refine ⟨by omega, ?_, hf⟩
  rw [List.all_eq_true]
  exact h2
theorem read_put {d : Dk} {w : Wr} {a : Int} (h : rightB d = true) (hh : hasB d a = true) (hf : fitsB d w = true) (hl : d.cache.length ≠ 200) :
    readD ⟨d.sectors, d.cache ++ [w]⟩ a = if w.at_ = a then (w.data, 0) else readD d a := by
  rw [read_ok (right_put h hf hl) (by simpa [hasB] using hh), read_ok h hh]
  show (match lookB (d.cache ++ [w]) a with
    | some w => (w.data, 0)
    | none => (d.sectors[a.toNat]?.getD ByteArray.empty, (0 : Int))) = _
  rw [lookB_snoc]
  by_cases hw : w.at_ = a
  · rw [if_pos hw, if_pos hw]
  · rw [if_neg hw, if_neg hw]
theorem reads_all {d : Dk} (w : Wr) {a : Int} (h : rightB d = true) (hh : hasB d a = true) :
    ∃ x y, readD d a = (x, 0) ∧ readD (putD d w).1 a = (y, 0) ∧ readD (syncD (putD d w).1) a = (y, 0) ∧ y = if (putD d w).2 = 0 ∧ a = w.at_ then w.data else x := by
  have e0 : readD d a = ((readD d a).1, 0) := by rw [← read_err h hh]
  by_cases hf : fitsB d w = true ∧ d.cache.length ≠ 200
  · have e1 := put_ok h hf.1 hf.2
    have e2 := read_put h hh hf.1 hf.2
    have e3 := read_sync (d := ⟨d.sectors, d.cache ++ [w]⟩) (right_put h hf.1 hf.2) (a := a) (by simpa [hasB] using hh)
    rw [e1]
    by_cases hw : w.at_ = a
    · rw [if_pos hw] at e2
      exact ⟨_, w.data, e0, e2, e3.trans e2, by simp [hw]⟩
    · rw [if_neg hw] at e2
      refine ⟨_, _, e0, e2.trans e0, (e3.trans e2).trans e0, ?_⟩
      rw [if_neg (by intro q; exact hw q.2.symm)]
  · obtain ⟨e1, e2⟩ := put_no h hf
    rw [e1]
    refine ⟨_, _, e0, e0, (read_sync h hh).trans e0, ?_⟩
    rw [if_neg (by intro q; exact e2 q.1)]
end Go.Proofs.Yteghmlafodkfpaa
