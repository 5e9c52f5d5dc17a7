/- layer 3 for the layers above: disks, plain (own texts of layer 3). -/
namespace Go.Proofs.Ytlloeinlfhnegaa
set_option linter.unusedVariables false
set_option linter.unusedSimpArgs false
structure Wr where
  at_ : Int
  data : ByteArray
structure Dk where
  sectors : List ByteArray
  cache : List Wr
def hasB (d : Dk) (at_ : Int) : Bool := decide (0 ≤ at_) && decide (at_ < d.sectors.length)
def fitsB (d : Dk) (w : Wr) : Bool := hasB d w.at_ && ((w.data.size : Int) == 16)
def len16 (s : ByteArray) : Bool := ((s.size : Int) == 16)
def rightB (d : Dk) : Bool := decide (1 ≤ d.sectors.length ∧ d.sectors.length ≤ 64 ∧ d.cache.length ≤ 200) && d.sectors.all len16 && d.cache.all (fitsB d)
def put1 (s : List ByteArray) (w : Wr) : List ByteArray := s.set w.at_.toNat w.data
def doneS (s : List ByteArray) (ws : List Wr) : List ByteArray := ws.foldl put1 s
def doneD (d : Dk) (ws : List Wr) : Dk := ⟨doneS d.sectors ws, []⟩
theorem doneS_len (s : List ByteArray) (ws : List Wr) : (doneS s ws).length = s.length := by
  induction ws generalizing s with
  | nil => rfl
  | cons w ws ih => simp only [doneS, List.foldl_cons] at ih ⊢; rw [ih]; simp [put1]
theorem doneS_snoc (s : List ByteArray) (ws : List Wr) (w : Wr) : doneS s (ws ++ [w]) = put1 (doneS s ws) w := by simp [doneS]
theorem right_len {d : Dk} (h : rightB d = true) : 1 ≤ d.sectors.length ∧ d.sectors.length ≤ 64 ∧ d.cache.length ≤ 200 := by
  simp only [rightB, Bool.and_eq_true, decide_eq_true_eq] at h
  exact h.1.1
theorem right_fits {d : Dk} (h : rightB d = true) : ∀ w ∈ d.cache, fitsB d w = true := by
  simp only [rightB, Bool.and_eq_true, List.all_eq_true] at h
  exact h.2
theorem right_has {d : Dk} (h : rightB d = true) : ∀ w ∈ d.cache, hasB d w.at_ = true := fun w hw => by
  have := right_fits h w hw
  simp only [fitsB, Bool.and_eq_true] at this
  exact this.1
def syncD (d : Dk) : Dk := if rightB d then doneD d d.cache else d
def putD (d : Dk) (w : Wr) : Dk × Int := if !rightB d || !fitsB d w then (d, 1) else if d.cache.length = 200 then (d, 7) else ({ d with cache := d.cache ++ [w] }, 0)
def mark (m : List Bool) (k : Int) : List Bool := if 0 ≤ k ∧ k < m.length then m.set k.toNat true else m
def marks (n : Nat) (keep : List Int) : List Bool := keep.foldl mark (List.replicate n false)
theorem marks_snoc (n : Nat) (keep : List Int) (k : Int) : marks n (keep ++ [k]) = mark (marks n keep) k := by simp [marks]
theorem mark_len (m : List Bool) (k : Int) : (mark m k).length = m.length := by unfold mark; split <;> simp
theorem marks_len (n : Nat) (keep : List Int) : (marks n keep).length = n := by
  suffices h : ∀ m : List Bool, (keep.foldl mark m).length = m.length by simp [marks, h]
  induction keep with
  | nil => intro m; rfl
  | cons k ks ih => intro m; rw [List.foldl_cons, ih, mark_len]
def keptW : List Wr → List Bool → List Wr
  | w :: ws, m :: ms => if m then w :: keptW ws ms else keptW ws ms
  | _, _ => []
theorem keptW_snoc : ∀ {ws : List Wr} {ms : List Bool} {w : Wr} {m : Bool}, ws.length = ms.length → keptW (ws ++ [w]) (ms ++ [m]) = keptW ws ms ++ if m then [w] else []
  | [], [], w, m, _ => by cases m <;> rfl
  | x :: ws, y :: ms, w, m, h => by
    have := keptW_snoc (ws := ws) (ms := ms) (w := w) (m := m) (by simpa using h)
    cases y <;> simp [keptW, this]
theorem keptW_sub : ∀ {ws : List Wr} {ms : List Bool} {w : Wr}, w ∈ keptW ws ms → w ∈ ws
  | x :: ws, y :: ms, w, h => by
    cases y <;> simp only [keptW, Bool.false_eq_true, if_false, if_true, List.mem_cons] at h
    · exact List.mem_cons_of_mem _ (keptW_sub h)
    · rcases h with rfl | h
      · exact List.mem_cons_self
      · exact List.mem_cons_of_mem _ (keptW_sub h)
  | [], _, w, h => by simp [keptW] at h
  | _ :: _, [], w, h => by simp [keptW] at h
theorem keptW_len : ∀ {ws : List Wr} {ms : List Bool}, (keptW ws ms).length ≤ ws.length
  | x :: ws, y :: ms => by
    have := keptW_len (ws := ws) (ms := ms)
    cases y <;> simp [keptW] <;> omega
  | [], _ => by simp [keptW]
  | _ :: _, [] => by simp [keptW]
def crashD (d : Dk) (keep : List Int) : Dk := if rightB d then doneD d (keptW d.cache (marks d.cache.length keep)) else d
def lookB (zs : List Wr) (a : Int) : Option Wr := zs.reverse.find? (fun w => w.at_ == a)
def readD (d : Dk) (a : Int) : ByteArray × Int :=
  if !rightB d || !hasB d a then (ByteArray.empty, 1) else match lookB d.cache a with
    | some w => (w.data, 0)
    | none => (d.sectors[a.toNat]?.getD ByteArray.empty, 0)
def noughts : ByteArray := ⟨#[0, 0, 0, 0, 0, 0, 0, 0, 0, 0, 0, 0, 0, 0, 0, 0]⟩
def newD (n : Int) : Dk × Int := if n < 1 ∨ 64 < n then (⟨[], []⟩, 1) else (⟨List.replicate n.toNat noughts, []⟩, 0)
theorem lookB_nil (a : Int) : lookB [] a = none := rfl
theorem lookB_snoc (ws : List Wr) (w : Wr) (a : Int) : lookB (ws ++ [w]) a = if w.at_ = a then some w else lookB ws a := by
  unfold lookB
  rw [List.reverse_append, List.reverse_singleton, List.singleton_append, List.find?_cons]
  by_cases h : w.at_ = a
  · simp [h]
  · have : (w.at_ == a) = false := by simpa using h
    rw [this, if_neg h]
theorem lookB_mem {ws : List Wr} {a : Int} {w : Wr} (h : lookB ws a = some w) : w ∈ ws ∧ w.at_ = a := by
  unfold lookB at h
  have h1 := List.mem_of_find?_eq_some h
  have h2 := List.find?_some h
  exact ⟨by simpa using h1, by simpa using h2⟩
/-- the sectors behind some writes -/
theorem doneS_at (s : List ByteArray) (a : Nat) (ha : a < s.length) : ∀ (n : Nat) (ws : List Wr), ws.length = n → (∀ w ∈ ws, 0 ≤ w.at_) → (doneS s ws)[a]? = match lookB ws a with
    | some w => some w.data
    | none => s[a]?
  | 0, ws, hn, h => by
    have : ws = [] := List.length_eq_zero_iff.1 hn
    subst this
    rfl
  | n + 1, ws, hn, h => by
    have hne : ws ≠ [] := by intro e; rw [e] at hn; simp at hn
    have e := List.dropLast_concat_getLast hne
    generalize ws.dropLast = us at e
    generalize ws.getLast hne = w at e
    subst e
    have hu : us.length = n := by simpa using hn
    have ih := doneS_at s a ha n us hu (fun x hx => h x (List.mem_append_left _ hx))
    have hw := h w (by simp)
    rw [doneS_snoc, put1, lookB_snoc]
    by_cases hwa : w.at_ = (a : Int)
    · have : w.at_.toNat = a := by omega
      rw [if_pos hwa, this, List.getElem?_set_self (by rw [doneS_len]; exact ha)]
    · have : w.at_.toNat ≠ a := by omega
      rw [if_neg hwa, List.getElem?_set_ne this, ih]
theorem fits_has {d : Dk} {w : Wr} (h : fitsB d w = true) : (0 ≤ w.at_ ∧ w.at_ < d.sectors.length) ∧ ((w.data.size : Int) = 16) := by
  simpa [fitsB, hasB] using h
theorem mem_set_cases {α : Type} {l : List α} {i : Nat} {x y : α} (h : y ∈ l.set i x) : y ∈ l ∨ y = x := by
  rcases List.mem_or_eq_of_mem_set h with h | h
  · exact .inl h
  · exact .inr h
theorem doneS_16 {d : Dk} (hs : d.sectors.all len16 = true) : ∀ (ws : List Wr), (∀ w ∈ ws, fitsB d w = true) → ∀ s, s.all len16 = true → (doneS s ws).all len16 = true
  | [], _, s, h => h
  | w :: ws, hw, s, h => by
    have h1 : (put1 s w).all len16 = true := by
      rw [List.all_eq_true] at h ⊢
      intro x hx
      rcases mem_set_cases hx with hx | rfl
      · exact h x hx
      · have := (fits_has (hw w (by simp))).2
        simp [len16, this]
    exact doneS_16 hs ws (fun x hx => hw x (by simp [hx])) (put1 s w) h1
theorem right_16 {d : Dk} (h : rightB d = true) : d.sectors.all len16 = true := by
  simp only [rightB, Bool.and_eq_true] at h
  exact h.1.2
theorem right_done {d : Dk} (h : rightB d = true) (ws : List Wr) (hw : ∀ w ∈ ws, fitsB d w = true) : rightB (doneD d ws) = true := by
  have h1 := right_len h
  have h2 := doneS_16 (right_16 h) ws hw d.sectors (right_16 h)
  have h3 := doneS_len d.sectors ws
  simp only [rightB, doneD, h2, h3, List.length_nil, List.all_nil, Bool.and_true, decide_eq_true_eq]
  omega
theorem has_done (d : Dk) (ws : List Wr) (a : Int) : hasB (doneD d ws) a = hasB d a := by simp [hasB, doneD, doneS_len]
theorem read_ok {d : Dk} {a : Int} (h : rightB d = true) (hh : hasB d a = true) : readD d a = match lookB d.cache a with
    | some w => (w.data, 0)
    | none => (d.sectors[a.toNat]?.getD ByteArray.empty, 0) := by unfold readD; rw [h, hh]; rfl
theorem read_err {d : Dk} {a : Int} (h : rightB d = true) (hh : hasB d a = true) : (readD d a).2 = 0 := by
  rw [read_ok h hh]; split <;> rfl
theorem has_nat {d : Dk} {a : Int} (hh : hasB d a = true) : ∃ i : Nat, a = i ∧ i < d.sectors.length := by
  simp only [hasB, Bool.and_eq_true, decide_eq_true_eq] at hh
  exact ⟨a.toNat, by omega, by omega⟩
theorem read_sync {d : Dk} {a : Int} (h : rightB d = true) (hh : hasB d a = true) : readD (syncD d) a = readD d a := by
  have hs : syncD d = doneD d d.cache := by simp [syncD, h]
  obtain ⟨i, rfl, hi⟩ := has_nat hh
  rw [hs, read_ok (right_done h d.cache (right_fits h)) (by rw [has_done]; exact hh), read_ok h hh]
  have hl : lookB (doneD d d.cache).cache i = none := rfl
  rw [hl]
  have := doneS_at d.sectors i hi d.cache.length d.cache rfl (fun w hw => ((fits_has (right_fits h w hw)).1).1)
  simp only [doneD, Int.toNat_natCast, this]
  cases lookB d.cache i <;> rfl
theorem put_ok {d : Dk} {w : Wr} (h : rightB d = true) (hf : fitsB d w = true) (hl : d.cache.length ≠ 200) : putD d w = (⟨d.sectors, d.cache ++ [w]⟩, 0) := by simp [putD, h, hf, hl]
theorem put_no {d : Dk} {w : Wr} (h : rightB d = true) (hf : ¬ (fitsB d w = true ∧ d.cache.length ≠ 200)) : (putD d w).1 = d ∧ (putD d w).2 ≠ 0 := by
  unfold putD
  rw [h]
  cases hq : fitsB d w
  · simp
  · have : d.cache.length = 200 := by
      rw [hq] at hf
      simpa using hf
    simp [this]
theorem right_put {d : Dk} {w : Wr} (h : rightB d = true) (hf : fitsB d w = true) (hl : d.cache.length ≠ 200) : rightB ⟨d.sectors, d.cache ++ [w]⟩ = true := by
  have h1 := right_len h
  have h2 := right_fits h
  simp only [rightB, right_16 h, Bool.and_true, Bool.and_eq_true, decide_eq_true_eq, List.length_append, List.length_singleton, List.all_append, List.all_cons, List.all_nil]
  refine ⟨by omega, ?_, hf⟩
  rw [List.all_eq_true]
  exact h2
theorem read_put {d : Dk} {w : Wr} {a : Int} (h : rightB d = true) (hh : hasB d a = true) (hf : fitsB d w = true) (hl : d.cache.length ≠ 200) :
    readD ⟨d.sectors, d.cache ++ [w]⟩ a = if w.at_ = a then (w.data, 0) else readD d a := by
  rw [read_ok (right_put h hf hl) (by simpa [hasB] using hh), read_ok h hh]
  show (match lookB (d.cache ++ [w]) a with
    | some w => (w.data, 0)
    | none => (d.sectors[a.toNat]?.getD ByteArray.empty, (0 : Int))) = _
  rw [lookB_snoc]
  by_cases hw : w.at_ = a
  · rw [if_pos hw, if_pos hw]
  · rw [if_neg hw, if_neg hw]
theorem reads_all {d : Dk} (w : Wr) {a : Int} (h : rightB d = true) (hh : hasB d a = true) :
    ∃ x y, readD d a = (x, 0) ∧ readD (putD d w).1 a = (y, 0) ∧ readD (syncD (putD d w).1) a = (y, 0) ∧ y = if (putD d w).2 = 0 ∧ a = w.at_ then w.data else x := by
  have e0 : readD d a = ((readD d a).1, 0) := by rw [← read_err h hh]
  by_cases hf : fitsB d w = true ∧ d.cache.length ≠ 200
  · have e1 := put_ok h hf.1 hf.2
    have e2 := read_put h hh hf.1 hf.2
    have e3 := read_sync (d := ⟨d.sectors, d.cache ++ [w]⟩) (right_put h hf.1 hf.2) (a := a) (by simpa [hasB] using hh)
    rw [e1]
    by_cases hw : w.at_ = a
    · rw [if_pos hw] at e2
      exact ⟨_, w.data, e0, e2, e3.trans e2, by simp [hw]⟩
    · rw [if_neg hw] at e2
      refine ⟨_, _, e0, e2.trans e0, (e3.trans e2).trans e0, ?_⟩
      rw [if_neg (by intro q; exact hw q.2.symm)]
  · obtain ⟨e1, e2⟩ := put_no h hf
    rw [e1]
    refine ⟨_, _, e0, e0, (read_sync h hh).trans e0, ?_⟩
    rw [if_neg (by intro q; exact e2 q.1)]
end Go.Proofs.Ytlloeinlfhnegaa
namespace Go.Proofs.Ytlloeinlfhnegaa
set_option linter.unusedVariables false
set_option linter.unusedSimpArgs false
structure Jo where
  sync : Bool
  w : Wr
namespace Jn
def usable (d : Dk) : Bool := rightB d && decide (35 ≤ d.sectors.length)
def isPage (p : Int) : Bool := decide (1 ≤ p ∧ p ≤ 16)
def wr (n : Int) (s : ByteArray) : Jo := ⟨false, ⟨n, s⟩⟩
def sy : Jo := ⟨true, ⟨0, ⟨#[]⟩⟩⟩
def headB (p : Int) : ByteArray := ⟨#[74, UInt8.ofNat p.toNat, 0, 0, 0, 0, 0, 0, 0, 0, 0, 0, 0, 0, 0, 0]⟩
def lo (s : ByteArray) : ByteArray := s.extract 0 16
def hi (s : ByteArray) : ByteArray := s.extract 16 32
def plan (p : Int) (s : ByteArray) : List Jo := [wr 1 (lo s), wr 2 (hi s), sy, wr 0 (headB p), sy, wr (2 * p + 1) (lo s), wr (2 * p + 2) (hi s), sy, wr 0 noughts, sy]
def planM (d : Dk) (p : Int) (s : ByteArray) : List Jo × Int := if usable d = true ∧ isPage p = true ∧ s.size = 32 then (plan p s, 0) else ([], 1)
def stepJ (d : Dk) (o : Jo) : Dk := if o.sync then syncD d else (putD d o.w).1
def runJ (d : Dk) (l : List Jo) : Dk := l.foldl stepJ d
def runM (d : Dk) (l : List Jo) (most : Int) : Dk := runJ d (l.take most.toNat)
def commitM (d : Dk) (p : Int) (s : ByteArray) : Dk × Int := (runJ d (planM d p s).1, (planM d p s).2)
def pageOf (s : ByteArray) : Int := (s[1]?.getD 0).toNat
def mend (d : Dk) (p : Int) : List Jo := [wr (2 * p + 1) (readD d 1).1, wr (2 * p + 2) (readD d 2).1, sy]
def clear : List Jo := [wr 0 noughts, sy]
def headed (s : ByteArray) : Option Int := if isPage (pageOf s) = true ∧ s = headB (pageOf s) then some (pageOf s) else none
def repairM (d : Dk) : List Jo := if usable d = false then [] else if (readD d 0).1 = noughts then [] else match headed (readD d 0).1 with
  | some p => mend d p ++ clear
  | none => clear
def recoverM (d : Dk) : Dk := runJ d (repairM d)
def getM (d : Dk) (p : Int) : ByteArray × Int := if usable d = true ∧ isPage p = true then ((readD d (2 * p + 1)).1 ++ (readD d (2 * p + 2)).1, 0) else (⟨#[]⟩, 1)
/-! disks by their sectors -/
/-- so many sectors of 16 bytes -/
def Ok (n : Nat) (s : List ByteArray) : Prop := s.length = n ∧ ∀ x ∈ s, x.size = 16
def Cok (n : Nat) (c : List Wr) : Prop := c.length ≤ 100 ∧ ∀ w ∈ c, 0 ≤ w.at_ ∧ w.at_ < n ∧ w.data.size = 16
theorem right_ok {n : Nat} {s : List ByteArray} {c : List Wr} (hn : 1 ≤ n ∧ n ≤ 64) (hs : Ok n s) (hc : Cok n c) : rightB ⟨s, c⟩ = true := by
  unfold rightB
  simp only [Bool.and_eq_true, decide_eq_true_eq, List.all_eq_true]
  refine ⟨⟨⟨by rw [hs.1]; omega, by rw [hs.1]; omega, by have := hc.1; omega⟩, fun x hx => by simp [len16, hs.2 x hx]⟩, fun w hw => ?_⟩
  obtain ⟨h1, h2, h3⟩ := hc.2 w hw
  simp [fitsB, hasB, hs.1, h1, h2, h3]
theorem fits_ok {n : Nat} {s : List ByteArray} {c : List Wr} {w : Wr} (hs : Ok n s) (h1 : 0 ≤ w.at_) (h2 : w.at_ < n) (h3 : w.data.size = 16) : fitsB ⟨s, c⟩ w = true := by
  simp [fitsB, hasB, hs.1, h1, h2, h3]
theorem step_w {n : Nat} {s : List ByteArray} {c : List Wr} {i : Int} {x : ByteArray} (hn : 1 ≤ n ∧ n ≤ 64) (hs : Ok n s) (hc : Cok n c) (h1 : 0 ≤ i ∧ i < n) (h3 : x.size = 16) : stepJ ⟨s, c⟩ (wr i x) = ⟨s, c ++ [⟨i, x⟩]⟩ := by
  have hl := hc.1
  unfold stepJ wr
  simp only [Bool.false_eq_true, if_false]
  rw [put_ok (right_ok hn hs hc) (fits_ok hs h1.1 h1.2 h3) (by simp only; omega)]
theorem step_s {n : Nat} {s : List ByteArray} {c : List Wr} (hn : 1 ≤ n ∧ n ≤ 64) (hs : Ok n s) (hc : Cok n c) : stepJ ⟨s, c⟩ sy = ⟨doneS s c, []⟩ := by
  unfold stepJ sy syncD
  rw [right_ok hn hs hc]; rfl
theorem cok_nil {n : Nat} : Cok n [] := ⟨by simp, by simp⟩
theorem cok_snoc {n : Nat} {c : List Wr} {i : Int} {x : ByteArray} (hc : Cok n c) (hl : c.length < 100) (h1 : 0 ≤ i ∧ i < n) (h3 : x.size = 16) : Cok n (c ++ [⟨i, x⟩]) := by
  refine ⟨by simp; omega, fun w hw => ?_⟩
  rcases List.mem_append.1 hw with hw | hw
  · exact hc.2 w hw
  · rw [List.mem_singleton.1 hw]; exact ⟨h1.1, h1.2, h3⟩
theorem ok_set {n : Nat} {s : List ByteArray} {i : Nat} {x : ByteArray} (hs : Ok n s) (h3 : x.size = 16) : Ok n (s.set i x) := by
  refine ⟨by simp [hs.1], fun y hy => ?_⟩
  rcases List.mem_or_eq_of_mem_set hy with h | h
  · exact hs.2 y h
  · rw [h]; exact h3
theorem ok_done {n : Nat} {s : List ByteArray} {c : List Wr} (hs : Ok n s) (hc : Cok n c) : Ok n (doneS s c) := by
  obtain ⟨_, hc⟩ := hc
  induction c generalizing s with
  | nil => exact hs
  | cons w c ih =>
    have hw := hc w (by simp)
    exact ih (s := put1 s w) (ok_set hs hw.2.2) (by rename_i hl; simp at hl; omega) (fun v hv => hc v (by simp [hv]))
theorem usable_ok {n : Nat} {s : List ByteArray} {c : List Wr} (hn : 35 ≤ n ∧ n ≤ 64) (hs : Ok n s) (hc : Cok n c) : usable ⟨s, c⟩ = true := by
  unfold usable
  rw [right_ok ⟨by omega, hn.2⟩ hs hc]
  simp [hs.1]; omega
/-- what a sector reads -/
def rd (s : List ByteArray) (c : List Wr) (i : Int) : ByteArray := match lookB c i with
  | some w => w.data
  | none => s[i.toNat]?.getD ByteArray.empty
theorem read_rd {n : Nat} {s : List ByteArray} {c : List Wr} {i : Int} (hn : 1 ≤ n ∧ n ≤ 64) (hs : Ok n s) (hc : Cok n c) (h1 : 0 ≤ i ∧ i < n) : readD ⟨s, c⟩ i = (rd s c i, 0) := by
  rw [read_ok (right_ok hn hs hc) (by simp [hasB, hs.1, h1])]
  unfold rd
  simp only
  cases lookB c i <;> rfl
theorem get_rd {n : Nat} {s : List ByteArray} {c : List Wr} {p : Int} (hn : 35 ≤ n ∧ n ≤ 64) (hs : Ok n s) (hc : Cok n c) (hp : isPage p = true) : getM ⟨s, c⟩ p = (rd s c (2 * p + 1) ++ rd s c (2 * p + 2), 0) := by
  unfold isPage at hp
  rw [decide_eq_true_iff] at hp
  unfold getM
  rw [if_pos ⟨usable_ok hn hs hc, by unfold isPage; rw [decide_eq_true_iff]; exact hp⟩, read_rd ⟨by omega, hn.2⟩ hs hc (by omega), read_rd ⟨by omega, hn.2⟩ hs hc (by omega)]
theorem rd_nil {s : List ByteArray} {i : Int} : rd s [] i = s[i.toNat]?.getD ByteArray.empty := rfl
theorem rd_snoc {s : List ByteArray} {c : List Wr} {i k : Int} {x : ByteArray} : rd s (c ++ [⟨k, x⟩]) i = if k = i then x else rd s c i := by
  unfold rd
  rw [lookB_snoc]
  by_cases h : k = i
  · simp [h]
  · simp [h]
theorem rd_set {n : Nat} {s : List ByteArray} (hs : Ok n s) {i : Int} {k : Nat} {x : ByteArray} (hi : 0 ≤ i) (hk : k < n) : rd (s.set k x) [] i = if (k : Int) = i then x else rd s [] i := by
  rw [rd_nil, rd_nil, List.getElem?_set]
  by_cases h : (k : Int) = i
  · have : k = i.toNat := by omega
    subst this
    rw [if_pos rfl, if_pos (by rw [hs.1]; omega), if_pos h]; rfl
  · rw [if_neg (by omega), if_neg h]
theorem rd_done {n : Nat} {s : List ByteArray} {c : List Wr} {i : Int} (hs : Ok n s) (hc : Cok n c) (h1 : 0 ≤ i ∧ i < n) : rd (doneS s c) [] i = rd s c i := by
  unfold rd
  rw [lookB_nil]
  simp only
  rw [doneS_at s i.toNat (by rw [hs.1]; omega) c.length c rfl (fun w hw => (hc.2 w hw).1), show ((i.toNat : Nat) : Int) = i by omega]
  cases lookB c i <;> rfl
theorem size_lo {s : ByteArray} (h : s.size = 32) : (lo s).size = 16 := by unfold lo; simp [h]
theorem size_hi {s : ByteArray} (h : s.size = 32) : (hi s).size = 16 := by unfold hi; simp [h]
theorem lo_hi {s : ByteArray} (h : s.size = 32) : lo s ++ hi s = s := by
  unfold lo hi
  have h2 := ByteArray.extract_zero_size (b := s)
  rw [h] at h2
  rw [ByteArray.extract_append_extract]
  simpa using h2
theorem size_head {p : Int} : (headB p).size = 16 := rfl
theorem size_noughts : noughts.size = 16 := rfl
theorem page_iff {p : Int} : isPage p = true ↔ 1 ≤ p ∧ p ≤ 16 := by unfold isPage; rw [decide_eq_true_iff]
theorem headed_head {p : Int} (hp : isPage p = true) : headed (headB p) = some p := by
  have hp2 := page_iff.1 hp
  have h1 : pageOf (headB p) = p := by
    show ((UInt8.ofNat p.toNat).toNat : Int) = p
    rw [UInt8.toNat_ofNat']
    omega
  unfold headed
  rw [h1, if_pos ⟨hp, rfl⟩]
theorem head_nought {p : Int} : headB p ≠ noughts := by
  intro h
  have : (headB p)[0]? = noughts[0]? := by rw [h]
  have h2 : (headB p)[0]? = some 74 := rfl
  rw [h2] at this
  exact absurd this (by decide)
end Jn
end Go.Proofs.Ytlloeinlfhnegaa
namespace Go.Proofs.Ytlloeinlfhnegaa
set_option linter.unusedVariables false
set_option linter.unusedSimpArgs false
namespace Jn
theorem rd1 {s : List ByteArray} {k i : Int} {x : ByteArray} : rd s [⟨k, x⟩] i = if k = i then x else rd s [] i := rd_snoc (c := [])
theorem rd2 {s : List ByteArray} {k i k2 : Int} {x x2 : ByteArray} : rd s [⟨k, x⟩, ⟨k2, x2⟩] i = if k2 = i then x2 else if k = i then x else rd s [] i := by
  rw [show ([⟨k, x⟩, ⟨k2, x2⟩] : List Wr) = [⟨k, x⟩] ++ [⟨k2, x2⟩] from rfl, rd_snoc, rd1]
theorem runJ_app {d : Dk} {l m : List Jo} : runJ d (l ++ m) = runJ (runJ d l) m := by unfold runJ; rw [List.foldl_append]
theorem runJ_cons {d : Dk} {o : Jo} {l : List Jo} : runJ d (o :: l) = runJ (stepJ d o) l := rfl
theorem runJ_nil {d : Dk} : runJ d [] = d := rfl
theorem kept1 {w : Wr} : ∀ {ms : List Bool}, keptW [w] ms = [] ∨ keptW [w] ms = [w]
  | [] => .inl rfl
  | true :: ms => .inr (by simp [keptW])
  | false :: ms => .inl (by simp [keptW])
theorem kept2 {v w : Wr} : ∀ {ms : List Bool}, keptW [v, w] ms = [] ∨ keptW [v, w] ms = [v] ∨ keptW [v, w] ms = [w] ∨ keptW [v, w] ms = [v, w]
  | [] => .inl rfl
  | true :: ms => by rcases kept1 (w := w) (ms := ms) with h | h <;> simp [keptW, h]
  | false :: ms => by rcases kept1 (w := w) (ms := ms) with h | h <;> simp [keptW, h]
theorem crash_ok {n : Nat} {s : List ByteArray} {c : List Wr} {keep : List Int} (hn : 1 ≤ n ∧ n ≤ 64) (hs : Ok n s) (hc : Cok n c) : ∃ ms, crashD ⟨s, c⟩ keep = ⟨doneS s (keptW c ms), []⟩ := by
  unfold crashD
  rw [right_ok hn hs hc]
  exact ⟨_, rfl⟩
theorem crash_nil {n : Nat} {s : List ByteArray} {keep : List Int} (hn : 1 ≤ n ∧ n ≤ 64) (hs : Ok n s) : crashD ⟨s, []⟩ keep = ⟨s, []⟩ := by
  obtain ⟨ms, h⟩ := crash_ok (keep := keep) hn hs cok_nil
  rw [h]
  cases ms <;> rfl
theorem cok1 {n : Nat} {i : Int} {x : ByteArray} (h : 0 ≤ i ∧ i < n) (hx : x.size = 16) : Cok n [⟨i, x⟩] := cok_snoc cok_nil (by simp) h hx
theorem cok2 {n : Nat} {i k : Int} {x y : ByteArray} (h : 0 ≤ i ∧ i < n) (hx : x.size = 16) (h2 : 0 ≤ k ∧ k < n) (hy : y.size = 16) : Cok n [⟨i, x⟩, ⟨k, y⟩] := cok_snoc (cok1 h hx) (by simp) h2 hy
/-- the states of a plan, from sectors on which nothing waits -/
def s1 (s : List ByteArray) (x : ByteArray) : List ByteArray := doneS s [⟨1, lo x⟩, ⟨2, hi x⟩]
def s2 (s : List ByteArray) (p : Int) (x : ByteArray) : List ByteArray := doneS (s1 s x) [⟨0, headB p⟩]
def s3 (s : List ByteArray) (p : Int) (x : ByteArray) : List ByteArray := doneS (s2 s p x) [⟨2 * p + 1, lo x⟩, ⟨2 * p + 2, hi x⟩]
def s4 (s : List ByteArray) (p : Int) (x : ByteArray) : List ByteArray := doneS (s3 s p x) [⟨0, noughts⟩]
def stP (s : List ByteArray) (p : Int) (x : ByteArray) : Nat → Dk
  | 0 => ⟨s, []⟩
  | 1 => ⟨s, [⟨1, lo x⟩]⟩
  | 2 => ⟨s, [⟨1, lo x⟩, ⟨2, hi x⟩]⟩
  | 3 => ⟨s1 s x, []⟩
  | 4 => ⟨s1 s x, [⟨0, headB p⟩]⟩
  | 5 => ⟨s2 s p x, []⟩
  | 6 => ⟨s2 s p x, [⟨2 * p + 1, lo x⟩]⟩
  | 7 => ⟨s2 s p x, [⟨2 * p + 1, lo x⟩, ⟨2 * p + 2, hi x⟩]⟩
  | 8 => ⟨s3 s p x, []⟩
  | 9 => ⟨s3 s p x, [⟨0, noughts⟩]⟩
  | _ => ⟨s4 s p x, []⟩
section
variable {n : Nat} {s : List ByteArray} {p : Int} {x : ByteArray} (hn : 35 ≤ n ∧ n ≤ 64) (hs : Ok n s) (hp : 1 ≤ p ∧ p ≤ 16) (hx : x.size = 32)
include hs hx hn in
theorem ok1 : Ok n (s1 s x) := ok_done hs (cok2 (by omega) (size_lo hx) (by omega) (size_hi hx))
include hs hx hn in
theorem ok2 : Ok n (s2 s p x) := ok_done (ok1 hn hs hx) (cok1 (by omega) size_head)
include hs hx hn hp in
theorem ok3 : Ok n (s3 s p x) := ok_done (ok2 hn hs hx) (cok2 (by omega) (size_lo hx) (by omega) (size_hi hx))
include hs hx hn hp in
theorem ok4 : Ok n (s4 s p x) := ok_done (ok3 hn hs hp hx) (cok1 (by omega) size_noughts)
include hs hx hn in
theorem rdS1 {i : Int} (hi0 : 0 ≤ i ∧ i < n) : rd (s1 s x) [] i = if 2 = i then hi x else if 1 = i then lo x else rd s [] i := by
  unfold s1
  rw [rd_done hs (cok2 (by omega) (size_lo hx) (by omega) (size_hi hx)) hi0, rd2]
include hs hx hn in
theorem rdS2 {i : Int} (hi0 : 0 ≤ i ∧ i < n) : rd (s2 s p x) [] i = if 0 = i then headB p else if 2 = i then hi x else if 1 = i then lo x else rd s [] i := by
  unfold s2
  rw [rd_done (ok1 hn hs hx) (cok1 (by omega) size_head) hi0, rd1, rdS1 hn hs hx hi0]
include hs hx hn hp in
theorem rdS3 {i : Int} (hi0 : 0 ≤ i ∧ i < n) : rd (s3 s p x) [] i = if 2 * p + 2 = i then hi x else if 2 * p + 1 = i then lo x else if 0 = i then headB p else if 2 = i then hi x else if 1 = i then lo x else rd s [] i := by
  unfold s3
  rw [rd_done (ok2 hn hs hx) (cok2 (by omega) (size_lo hx) (by omega) (size_hi hx)) hi0, rd2, rdS2 hn hs hx hi0]
include hs hx hn hp in
theorem rdS4 {i : Int} (hi0 : 0 ≤ i ∧ i < n) : rd (s4 s p x) [] i = if 0 = i then noughts else if 2 * p + 2 = i then hi x else if 2 * p + 1 = i then lo x else if 2 = i then hi x else if 1 = i then lo x else rd s [] i := by
  unfold s4
  rw [rd_done (ok3 hn hs hp hx) (cok1 (by omega) size_noughts) hi0, rd1, rdS3 hn hs hp hx hi0]
  by_cases h0 : 0 = i
  · rw [if_pos h0, if_pos h0]
  · rw [if_neg h0, if_neg h0, if_neg h0]
include hs hx hn hp in
theorem run_plan (k : Nat) : runJ ⟨s, []⟩ ((plan p x).take k) = stP s p x k := by
  have hn1 : 1 ≤ n ∧ n ≤ 64 := by omega
  have e1 : stepJ ⟨s, []⟩ (wr 1 (lo x)) = ⟨s, [⟨1, lo x⟩]⟩ := step_w hn1 hs cok_nil (by omega) (size_lo hx)
  have e2 : stepJ ⟨s, [⟨1, lo x⟩]⟩ (wr 2 (hi x)) = ⟨s, [⟨1, lo x⟩, ⟨2, hi x⟩]⟩ := step_w hn1 hs (cok1 (by omega) (size_lo hx)) (by omega) (size_hi hx)
  have e3 : stepJ ⟨s, [⟨1, lo x⟩, ⟨2, hi x⟩]⟩ sy = ⟨s1 s x, []⟩ := step_s hn1 hs (cok2 (by omega) (size_lo hx) (by omega) (size_hi hx))
  have e4 : stepJ ⟨s1 s x, []⟩ (wr 0 (headB p)) = ⟨s1 s x, [⟨0, headB p⟩]⟩ := step_w hn1 (ok1 hn hs hx) cok_nil (by omega) size_head
  have e5 : stepJ ⟨s1 s x, [⟨0, headB p⟩]⟩ sy = ⟨s2 s p x, []⟩ := step_s hn1 (ok1 hn hs hx) (cok1 (by omega) size_head)
  have e6 : stepJ ⟨s2 s p x, []⟩ (wr (2 * p + 1) (lo x)) = ⟨s2 s p x, [⟨2 * p + 1, lo x⟩]⟩ := step_w hn1 (ok2 hn hs hx) cok_nil (by omega) (size_lo hx)
  have e7 : stepJ ⟨s2 s p x, [⟨2 * p + 1, lo x⟩]⟩ (wr (2 * p + 2) (hi x)) = ⟨s2 s p x, [⟨2 * p + 1, lo x⟩, ⟨2 * p + 2, hi x⟩]⟩ := step_w hn1 (ok2 hn hs hx) (cok1 (by omega) (size_lo hx)) (by omega) (size_hi hx)
  have e8 : stepJ ⟨s2 s p x, [⟨2 * p + 1, lo x⟩, ⟨2 * p + 2, hi x⟩]⟩ sy = ⟨s3 s p x, []⟩ := step_s hn1 (ok2 hn hs hx) (cok2 (by omega) (size_lo hx) (by omega) (size_hi hx))
  have e9 : stepJ ⟨s3 s p x, []⟩ (wr 0 noughts) = ⟨s3 s p x, [⟨0, noughts⟩]⟩ := step_w hn1 (ok3 hn hs hp hx) cok_nil (by omega) size_noughts
  have e10 : stepJ ⟨s3 s p x, [⟨0, noughts⟩]⟩ sy = ⟨s4 s p x, []⟩ := step_s hn1 (ok3 hn hs hp hx) (cok1 (by omega) size_noughts)
  match k with
  | 0 => rfl
  | 1 => simp only [plan, List.take_succ_cons, List.take_zero, runJ_cons, runJ_nil, e1]; rfl
  | 2 => simp only [plan, List.take_succ_cons, List.take_zero, runJ_cons, runJ_nil, e1, e2]; rfl
  | 3 => simp only [plan, List.take_succ_cons, List.take_zero, runJ_cons, runJ_nil, e1, e2, e3]; rfl
  | 4 => simp only [plan, List.take_succ_cons, List.take_zero, runJ_cons, runJ_nil, e1, e2, e3, e4]; rfl
  | 5 => simp only [plan, List.take_succ_cons, List.take_zero, runJ_cons, runJ_nil, e1, e2, e3, e4, e5]; rfl
  | 6 => simp only [plan, List.take_succ_cons, List.take_zero, runJ_cons, runJ_nil, e1, e2, e3, e4, e5, e6]; rfl
  | 7 => simp only [plan, List.take_succ_cons, List.take_zero, runJ_cons, runJ_nil, e1, e2, e3, e4, e5, e6, e7]; rfl
  | 8 => simp only [plan, List.take_succ_cons, List.take_zero, runJ_cons, runJ_nil, e1, e2, e3, e4, e5, e6, e7, e8]; rfl
  | 9 => simp only [plan, List.take_succ_cons, List.take_zero, runJ_cons, runJ_nil, e1, e2, e3, e4, e5, e6, e7, e8, e9]; rfl
  | k + 10 => simp only [plan, List.take_succ_cons, List.take_nil, runJ_cons, runJ_nil, e1, e2, e3, e4, e5, e6, e7, e8, e9, e10]; rfl
include hs hx hn hp in
theorem commit_st : commitM ⟨s, []⟩ p x = (⟨s4 s p x, []⟩, 0) := by
  have h := run_plan hn hs hp hx 10
  unfold commitM planM
  rw [if_pos ⟨usable_ok hn hs cok_nil, page_iff.2 hp, hx⟩]
  rw [show (plan p x).take 10 = plan p x from rfl] at h
  rw [h]; rfl
end
/-- what is between a page as it was, and as it is to be -/
structure Mid (n : Nat) (s : List ByteArray) (p : Int) (x : ByteArray) (t : List ByteArray) : Prop where
  ok : Ok n t
  rest : ∀ i : Int, 3 ≤ i → i < n → i ≠ 2 * p + 1 → i ≠ 2 * p + 2 → rd t [] i = rd s [] i
  way : (rd t [] 0 = noughts ∧ ((rd t [] (2 * p + 1) = rd s [] (2 * p + 1) ∧ rd t [] (2 * p + 2) = rd s [] (2 * p + 2)) ∨ (rd t [] (2 * p + 1) = lo x ∧ rd t [] (2 * p + 2) = hi x))) ∨
    (rd t [] 0 = headB p ∧ rd t [] 1 = lo x ∧ rd t [] 2 = hi x)
/-- it is as it is to be -/
structure Fin (n : Nat) (s : List ByteArray) (p : Int) (x : ByteArray) (t : List ByteArray) : Prop where
  ok : Ok n t
  rest : ∀ i : Int, 3 ≤ i → i < n → i ≠ 2 * p + 1 → i ≠ 2 * p + 2 → rd t [] i = rd s [] i
  zero : rd t [] 0 = noughts
  page : rd t [] (2 * p + 1) = lo x ∧ rd t [] (2 * p + 2) = hi x
theorem Fin.mid {n : Nat} {s : List ByteArray} {p : Int} {x : ByteArray} {t : List ByteArray} (h : Fin n s p x t) : Mid n s p x t := ⟨h.ok, h.rest, .inl ⟨h.zero, .inr h.page⟩⟩
section
variable {n : Nat} {s : List ByteArray} {p : Int} {x : ByteArray} (hn : 35 ≤ n ∧ n ≤ 64) (hs : Ok n s) (hp : 1 ≤ p ∧ p ≤ 16) (hx : x.size = 32)
include hs hx hn hp in
theorem crash_plan (h0 : rd s [] 0 = noughts) (k : Nat) (keep : List Int) : ∃ t, crashD (stP s p x k) keep = ⟨t, []⟩ ∧ Mid n s p x t ∧ (10 ≤ k → Fin n s p x t) := by
  have hn1 : 1 ≤ n ∧ n ≤ 64 := by omega
  have o1 := ok1 hn hs hx
  have o2 := ok2 (p := p) hn hs hx
  have o3 := ok3 hn hs hp hx
  have o4 := ok4 hn hs hp hx
  have c1 : Cok n [⟨1, lo x⟩] := cok1 (by omega) (size_lo hx)
  have c1' : Cok n [⟨2, hi x⟩] := cok1 (by omega) (size_hi hx)
  have c2 : Cok n [⟨1, lo x⟩, ⟨2, hi x⟩] := cok2 (by omega) (size_lo hx) (by omega) (size_hi hx)
  have c3 : Cok n [⟨0, headB p⟩] := cok1 (by omega) size_head
  have c4 : Cok n [⟨2 * p + 1, lo x⟩] := cok1 (by omega) (size_lo hx)
  have c4' : Cok n [⟨2 * p + 2, hi x⟩] := cok1 (by omega) (size_hi hx)
  have c5 : Cok n [⟨2 * p + 1, lo x⟩, ⟨2 * p + 2, hi x⟩] := cok2 (by omega) (size_lo hx) (by omega) (size_hi hx)
  have c6 : Cok n [⟨0, noughts⟩] := cok1 (by omega) size_noughts
  have keyA : ∀ t c, Ok n t → Cok n c → (∀ i : Int, 0 ≤ i → i < n → i ≠ 1 → i ≠ 2 → rd t c i = rd s [] i) → Mid n s p x (doneS t c) := by
    intro t c ht hc hr
    refine ⟨ok_done ht hc, fun i h3 h4 _ _ => by rw [rd_done ht hc (by omega)]; exact hr i (by omega) h4 (by omega) (by omega), .inl ⟨?_, .inl ⟨?_, ?_⟩⟩⟩
    · rw [rd_done ht hc (by omega), hr 0 (by omega) (by omega) (by omega) (by omega), h0]
    · rw [rd_done ht hc (by omega)]; exact hr _ (by omega) (by omega) (by omega) (by omega)
    · rw [rd_done ht hc (by omega)]; exact hr _ (by omega) (by omega) (by omega) (by omega)
  have keyB : ∀ t c, Ok n t → Cok n c → (∀ i : Int, 3 ≤ i → i < n → i ≠ 2 * p + 1 → i ≠ 2 * p + 2 → rd t c i = rd s [] i) → rd t c 0 = headB p → rd t c 1 = lo x → rd t c 2 = hi x → Mid n s p x (doneS t c) := by
    intro t c ht hc hr r0 r1 r2
    refine ⟨ok_done ht hc, fun i h3 h4 h5 h6 => by rw [rd_done ht hc (by omega)]; exact hr i (by omega) h4 h5 h6, .inr ⟨?_, ?_, ?_⟩⟩
    · rw [rd_done ht hc (by omega), r0]
    · rw [rd_done ht hc (by omega), r1]
    · rw [rd_done ht hc (by omega), r2]
  have dn : ∀ t, doneS t [] = t := fun t => rfl
  have aS : Mid n s p x s := by have := keyA s [] hs cok_nil (fun i _ _ _ _ => rfl); exact this
  have a1 : Mid n s p x (s1 s x) := by
    have := keyA (s1 s x) [] o1 cok_nil (fun i h1 h2 h3 h4 => by rw [rdS1 hn hs hx (by omega), if_neg (by omega), if_neg (by omega)])
    exact this
  have b2 : Mid n s p x (s2 s p x) := by
    have := keyB (s2 s p x) [] o2 cok_nil (fun i h1 h2 h3 h4 => by rw [rdS2 hn hs hx (by omega), if_neg (by omega), if_neg (by omega), if_neg (by omega)])
      (by rw [rdS2 hn hs hx (by omega)]; rfl) (by rw [rdS2 hn hs hx (by omega)]; rfl) (by rw [rdS2 hn hs hx (by omega)]; rfl)
    exact this
  have b3 : Mid n s p x (s3 s p x) := by
    have := keyB (s3 s p x) [] o3 cok_nil (fun i h1 h2 h3 h4 => by rw [rdS3 hn hs hp hx (by omega), if_neg (by omega), if_neg (by omega), if_neg (by omega), if_neg (by omega), if_neg (by omega)])
      (by rw [rdS3 hn hs hp hx (by omega), if_neg (by omega), if_neg (by omega)]; rfl) (by rw [rdS3 hn hs hp hx (by omega), if_neg (by omega), if_neg (by omega)]; rfl) (by rw [rdS3 hn hs hp hx (by omega), if_neg (by omega), if_neg (by omega)]; rfl)
    exact this
  have f4 : Fin n s p x (s4 s p x) := by
    refine ⟨o4, fun i h1 h2 h3 h4 => by rw [rdS4 hn hs hp hx (by omega), if_neg (by omega), if_neg (by omega), if_neg (by omega), if_neg (by omega), if_neg (by omega)], by rw [rdS4 hn hs hp hx (by omega)]; rfl, ?_, ?_⟩
    · rw [rdS4 hn hs hp hx (by omega), if_neg (by omega), if_neg (by omega), if_pos rfl]
    · rw [rdS4 hn hs hp hx (by omega), if_neg (by omega), if_pos rfl]
  match k with
  | 0 => exact ⟨s, crash_nil hn1 hs, aS, fun h => by omega⟩
  | 1 =>
    obtain ⟨ms, hm⟩ := crash_ok (keep := keep) hn1 hs c1
    refine ⟨_, hm, ?_, fun h => by omega⟩
    rcases kept1 (w := ⟨1, lo x⟩) (ms := ms) with h | h <;> rw [h]
    · exact aS
    · exact keyA _ _ hs c1 (fun i h1 h2 h3 h4 => by rw [rd1, if_neg (by omega)])
  | 2 =>
    obtain ⟨ms, hm⟩ := crash_ok (keep := keep) hn1 hs c2
    refine ⟨_, hm, ?_, fun h => by omega⟩
    rcases kept2 (v := ⟨1, lo x⟩) (w := ⟨2, hi x⟩) (ms := ms) with h | h | h | h <;> rw [h]
    · exact aS
    · exact keyA _ _ hs c1 (fun i h1 h2 h3 h4 => by rw [rd1, if_neg (by omega)])
    · exact keyA _ _ hs c1' (fun i h1 h2 h3 h4 => by rw [rd1, if_neg (by omega)])
    · exact a1
  | 3 => exact ⟨_, crash_nil hn1 o1, a1, fun h => by omega⟩
  | 4 =>
    obtain ⟨ms, hm⟩ := crash_ok (keep := keep) hn1 o1 c3
    refine ⟨_, hm, ?_, fun h => by omega⟩
    rcases kept1 (w := ⟨0, headB p⟩) (ms := ms) with h | h <;> rw [h]
    · exact a1
    · exact b2
  | 5 => exact ⟨_, crash_nil hn1 o2, b2, fun h => by omega⟩
  | 6 =>
    obtain ⟨ms, hm⟩ := crash_ok (keep := keep) hn1 o2 c4
    refine ⟨_, hm, ?_, fun h => by omega⟩
    rcases kept1 (w := ⟨2 * p + 1, lo x⟩) (ms := ms) with h | h <;> rw [h]
    · exact b2
    · exact keyB _ _ o2 c4 (fun i h1 h2 h3 h4 => by rw [rd1, if_neg (by omega), rdS2 hn hs hx (by omega), if_neg (by omega), if_neg (by omega), if_neg (by omega)])
        (by rw [rd1, if_neg (by omega), rdS2 hn hs hx (by omega)]; rfl) (by rw [rd1, if_neg (by omega), rdS2 hn hs hx (by omega)]; rfl) (by rw [rd1, if_neg (by omega), rdS2 hn hs hx (by omega)]; rfl)
  | 7 =>
    obtain ⟨ms, hm⟩ := crash_ok (keep := keep) hn1 o2 c5
    refine ⟨_, hm, ?_, fun h => by omega⟩
    rcases kept2 (v := ⟨2 * p + 1, lo x⟩) (w := ⟨2 * p + 2, hi x⟩) (ms := ms) with h | h | h | h <;> rw [h]
    · exact b2
    · exact keyB _ _ o2 c4 (fun i h1 h2 h3 h4 => by rw [rd1, if_neg (by omega), rdS2 hn hs hx (by omega), if_neg (by omega), if_neg (by omega), if_neg (by omega)])
        (by rw [rd1, if_neg (by omega), rdS2 hn hs hx (by omega)]; rfl) (by rw [rd1, if_neg (by omega), rdS2 hn hs hx (by omega)]; rfl) (by rw [rd1, if_neg (by omega), rdS2 hn hs hx (by omega)]; rfl)
    · exact keyB _ _ o2 c4' (fun i h1 h2 h3 h4 => by rw [rd1, if_neg (by omega), rdS2 hn hs hx (by omega), if_neg (by omega), if_neg (by omega), if_neg (by omega)])
        (by rw [rd1, if_neg (by omega), rdS2 hn hs hx (by omega)]; rfl) (by rw [rd1, if_neg (by omega), rdS2 hn hs hx (by omega)]; rfl) (by rw [rd1, if_neg (by omega), rdS2 hn hs hx (by omega)]; rfl)
    · exact b3
  | 8 => exact ⟨_, crash_nil hn1 o3, b3, fun h => by omega⟩
  | 9 =>
    obtain ⟨ms, hm⟩ := crash_ok (keep := keep) hn1 o3 c6
    refine ⟨_, hm, ?_, fun h => by omega⟩
    rcases kept1 (w := ⟨0, noughts⟩) (ms := ms) with h | h <;> rw [h]
    · exact b3
    · exact f4.mid
  | k + 10 => exact ⟨_, crash_nil hn1 o4, f4.mid, fun _ => f4⟩
end
end Jn
end Go.Proofs.Ytlloeinlfhnegaa
