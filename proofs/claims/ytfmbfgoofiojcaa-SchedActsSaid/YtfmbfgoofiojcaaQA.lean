/- layer 3 for the layers above: disks, plain (own texts of layer 3). -/
import Derived.Test.YtfmbfgoofiojcaaCodeB
namespace Go.Proofs.Ytfmbfgoofiojcaa
set_option linter.unusedVariables false
set_option linter.unusedSimpArgs false
structure Wr where
  at_ : Int
  data : ByteArray
structure Dk where
  sectors : List ByteArray
  cache : List Wr
def hasB (d : Dk) (at_ : Int) : Bool := decide (0 ≤ at_) && decide (at_ < d.sectors.length)
def fitsB (d : Dk) (w : Wr) : Bool := hasB d w.at_ && ((w.data.size : Int) == 16)
def len16 (s : ByteArray) : Bool := ((s.size : Int) == 16)
def rightB (d : Dk) : Bool := decide (1 ≤ d.sectors.length ∧ d.sectors.length ≤ 64 ∧ d.cache.length ≤ 200) && d.sectors.all len16 && d.cache.all (fitsB d)
def put1 (s : List ByteArray) (w : Wr) : List ByteArray := s.set w.at_.toNat w.data
def doneS (s : List ByteArray) (ws : List Wr) : List ByteArray := ws.foldl put1 s
def doneD (d : Dk) (ws : List Wr) : Dk := ⟨doneS d.sectors ws, []⟩
theorem doneS_len (s : List ByteArray) (ws : List Wr) : (doneS s ws).length = s.length := by
  induction ws generalizing s with
  | nil => rfl
  | cons w ws ih => simp only [doneS, List.foldl_cons] at ih ⊢; rw [ih]; simp [put1]
theorem doneS_snoc (s : List ByteArray) (ws : List Wr) (w : Wr) : doneS s (ws ++ [w]) = put1 (doneS s ws) w := by simp [doneS]
theorem right_len {d : Dk} (h : rightB d = true) : 1 ≤ d.sectors.length ∧ d.sectors.length ≤ 64 ∧ d.cache.length ≤ 200 := by
  simp only [rightB, Bool.and_eq_true, decide_eq_true_eq] at h
  exact h.1.1
theorem right_fits {d : Dk} (h : rightB d = true) : ∀ w ∈ d.cache, fitsB d w = true := by
  simp only [rightB, Bool.and_eq_true, List.all_eq_true] at h
  exact h.2
theorem right_has {d : Dk} (h : rightB d = true) : ∀ w ∈ d.cache, hasB d w.at_ = true := fun w hw => by
  have := right_fits h w hw
  simp only [fitsB, Bool.and_eq_true] at this
  exact this.1
def syncD (d : Dk) : Dk := if rightB d then doneD d d.cache else d
def putD (d : Dk) (w : Wr) : Dk × Int := if !rightB d || !fitsB d w then (d, 1) else if d.cache.length = 200 then (d, 7) else ({ d with cache := d.cache ++ [w] }, 0)
def mark (m : List Bool) (k : Int) : List Bool := if 0 ≤ k ∧ k < m.length then m.set k.toNat true else m
def marks (n : Nat) (keep : List Int) : List Bool := keep.foldl mark (List.replicate n false)
theorem marks_snoc (n : Nat) (keep : List Int) (k : Int) : marks n (keep ++ [k]) = mark (marks n keep) k := by simp [marks]
theorem mark_len (m : List Bool) (k : Int) : (mark m k).length = m.length := by unfold mark; split <;> simp
theorem marks_len (n : Nat) (keep : List Int) : (marks n keep).length = n := by
  suffices h : ∀ m : List Bool, (keep.foldl mark m).length = m.length by simp [marks, h]
  induction keep with
  | nil => intro m; rfl
  | cons k ks ih => intro m; rw [List.foldl_cons, ih, mark_len]
def keptW : List Wr → List Bool → List Wr
  | w :: ws, m :: ms => if m then w :: keptW ws ms else keptW ws ms
  | _, _ => []
theorem keptW_snoc : ∀ {ws : List Wr} {ms : List Bool} {w : Wr} {m : Bool}, ws.length = ms.length → keptW (ws ++ [w]) (ms ++ [m]) = keptW ws ms ++ if m then [w] else []
  | [], [], w, m, _ => by cases m <;> rfl
  | x :: ws, y :: ms, w, m, h => by
    have := keptW_snoc (ws := ws) (ms := ms) (w := w) (m := m) (by simpa using h)
    cases y <;> simp [keptW, this]
theorem keptW_sub : ∀ {ws : List Wr} {ms : List Bool} {w : Wr}, w ∈ keptW ws ms → w ∈ ws
  | x :: ws, y :: ms, w, h => by
    cases y <;> simp only [keptW, Bool.false_eq_true, if_false, if_true, List.mem_cons] at h
    · exact List.mem_cons_of_mem _ (keptW_sub h)
    · rcases h with rfl | h
      · exact List.mem_cons_self
      · exact List.mem_cons_of_mem _ (keptW_sub h)
  | [], _, w, h => by simp [keptW] at h
  | _ :: _, [], w, h => by simp [keptW] at h
theorem keptW_len : ∀ {ws : List Wr} {ms : List Bool}, (keptW ws ms).length ≤ ws.length
  | x :: ws, y :: ms => by
    have := keptW_len (ws := ws) (ms := ms)
    cases y <;> simp [keptW] <;> omega
  | [], _ => by simp [keptW]
  | _ :: _, [] => by simp [keptW]
def crashD (d : Dk) (keep : List Int) : Dk := if rightB d then doneD d (keptW d.cache (marks d.cache.length keep)) else d
def lookB (zs : List Wr) (a : Int) : Option Wr := zs.reverse.find? (fun w => w.at_ == a)
def readD (d : Dk) (a : Int) : ByteArray × Int :=
  if !rightB d || !hasB d a then (ByteArray.empty, 1) else match lookB d.cache a with
    | some w => (w.data, 0)
    | none => (d.sectors[a.toNat]?.getD ByteArray.empty, 0)
def noughts : ByteArray := ⟨#[0, 0, 0, 0, 0, 0, 0, 0, 0, 0, 0, 0, 0, 0, 0, 0]⟩
def newD (n : Int) : Dk × Int := if n < 1 ∨ 64 < n then (⟨[], []⟩, 1) else (⟨List.replicate n.toNat noughts, []⟩, 0)
theorem lookB_nil (a : Int) : lookB [] a = none := rfl
theorem lookB_snoc (ws : List Wr) (w : Wr) (a : Int) : lookB (ws ++ [w]) a = if w.at_ = a then some w else lookB ws a := by
  unfold lookB
  rw [List.reverse_append, List.reverse_singleton, List.singleton_append, List.find?_cons]
  by_cases h : w.at_ = a
  · simp [h]
  · have : (w.at_ == a) = false := by simpa using h
    rw [this, if_neg h]
theorem lookB_mem {ws : List Wr} {a : Int} {w : Wr} (h : lookB ws a = some w) : w ∈ ws ∧ w.at_ = a := by
  unfold lookB at h
  have h1 := List.mem_of_find?_eq_some h
  have h2 := List.find?_some h
  exact ⟨by simpa using h1, by simpa using h2⟩
/-- the sectors behind some writes -/
theorem doneS_at (s : List ByteArray) (a : Nat) (ha : a < s.length) : ∀ (n : Nat) (ws : List Wr), ws.length = n → (∀ w ∈ ws, 0 ≤ w.at_) → (doneS s ws)[a]? = match lookB ws a with
    | some w => some w.data
    | none => s[a]?
  | 0, ws, hn, h => by
    have : ws = [] := List.length_eq_zero_iff.1 hn
    subst this
    rfl
  | n + 1, ws, hn, h => by
    have hne : ws ≠ [] := by intro e; rw [e] at hn; simp at hn
    have e := List.dropLast_concat_getLast hne
    generalize ws.dropLast = us at e
    generalize ws.getLast hne = w at e
    subst e
    have hu : us.length = n := by simpa using hn
    have ih := doneS_at s a ha n us hu (fun x hx => h x (List.mem_append_left _ hx))
    have hw := h w (by simp)
    rw [doneS_snoc, put1, lookB_snoc]
    by_cases hwa : w.at_ = (a : Int)
    · have : w.at_.toNat = a := by omega
      rw [if_pos hwa, this, List.getElem?_set_self (by rw [doneS_len]; exact ha)]
    · have : w.at_.toNat ≠ a := by omega
      rw [if_neg hwa, List.getElem?_set_ne this, ih]
theorem fits_has {d : Dk} {w : Wr} (h : fitsB d w = true) : (0 ≤ w.at_ ∧ w.at_ < d.sectors.length) ∧ ((w.data.size : Int) = 16) := by
  simpa [fitsB, hasB] using h
theorem mem_set_cases {α : Type} {l : List α} {i : Nat} {x y : α} (h : y ∈ l.set i x) : y ∈ l ∨ y = x := by
  rcases List.mem_or_eq_of_mem_set h with h | h
  · exact .inl h
  · exact .inr h
theorem doneS_16 {d : Dk} (hs : d.sectors.all len16 = true) : ∀ (ws : List Wr), (∀ w ∈ ws, fitsB d w = true) → ∀ s, s.all len16 = true → (doneS s ws).all len16 = true
  | [], _, s, h => h
  | w :: ws, hw, s, h => by
    have h1 : (put1 s w).all len16 = true := by
      rw [List.all_eq_true] at h ⊢
      intro x hx
      rcases mem_set_cases hx with hx | rfl
      · exact h x hx
      · have := (fits_has (hw w (by simp))).2
        simp [len16, this]
    exact doneS_16 hs ws (fun x hx => hw x (by simp [hx])) (put1 s w) h1
theorem right_16 {d : Dk} (h : rightB d = true) : d.sectors.all len16 = true := by
  simp only [rightB, Bool.and_eq_true] at h
  exact h.1.2
theorem right_done {d : Dk} (h : rightB d = true) (ws : List Wr) (hw : ∀ w ∈ ws, fitsB d w = true) : rightB (doneD d ws) = true := by
  have h1 := right_len h
  have h2 := doneS_16 (right_16 h) ws hw d.sectors (right_16 h)
  have h3 := doneS_len d.sectors ws
  simp only [rightB, doneD, h2, h3, List.length_nil, List.all_nil, Bool.and_true, decide_eq_true_eq]
  omega
theorem has_done (d : Dk) (ws : List Wr) (a : Int) : hasB (doneD d ws) a = hasB d a := by simp [hasB, doneD, doneS_len]
theorem read_ok {d : Dk} {a : Int} (h : rightB d = true) (hh : hasB d a = true) : readD d a = match lookB d.cache a with
    | some w => (w.data, 0)
    | none => (d.sectors[a.toNat]?.getD ByteArray.empty, 0) := by unfold readD; rw [h, hh]; rfl
theorem read_err {d : Dk} {a : Int} (h : rightB d = true) (hh : hasB d a = true) : (readD d a).2 = 0 := by
  rw [read_ok h hh]; split <;> rfl
theorem has_nat {d : Dk} {a : Int} (hh : hasB d a = true) : ∃ i : Nat, a = i ∧ i < d.sectors.length := by
  simp only [hasB, Bool.and_eq_true, decide_eq_true_eq] at hh
  exact ⟨a.toNat, by omega, by omega⟩
theorem read_sync {d : Dk} {a : Int} (h : rightB d = true) (hh : hasB d a = true) : readD (syncD d) a = readD d a := by
  have hs : syncD d = doneD d d.cache := by simp [syncD, h]
  obtain ⟨i, rfl, hi⟩ := has_nat hh
  rw [hs, read_ok (right_done h d.cache (right_fits h)) (by rw [has_done]; exact hh), read_ok h hh]
  have hl : lookB (doneD d d.cache).cache i = none := rfl
  rw [hl]
  have := doneS_at d.sectors i hi d.cache.length d.cache rfl (fun w hw => ((fits_has (right_fits h w hw)).1).1)
  simp only [doneD, Int.toNat_natCast, this]
  cases lookB d.cache i <;> rfl
theorem put_ok {d : Dk} {w : Wr} (h : rightB d = true) (hf : fitsB d w = true) (hl : d.cache.length ≠ 200) : putD d w = (⟨d.sectors, d.cache ++ [w]⟩, 0) := by simp [putD, h, hf, hl]
theorem put_no {d : Dk} {w : Wr} (h : rightB d = true) (hf : ¬ (fitsB d w = true ∧ d.cache.length ≠ 200)) : (putD d w).1 = d ∧ (putD d w).2 ≠ 0 := by
  unfold putD
  rw [h]
  cases hq : fitsB d w
  · simp
  · have : d.cache.length = 200 := by
      rw [hq] at hf
      simpa using hf
    simp [this]
theorem right_put {d : Dk} {w : Wr} (h : rightB d = true) (hf : fitsB d w = true) (hl : d.cache.length ≠ 200) : rightB ⟨d.sectors, d.cache ++ [w]⟩ = true := by
  have h1 := right_len h
  have h2 := right_fits h
  simp only [rightB, right_16 h, Bool.and_true, Bool.and_eq_true, decide_eq_true_eq, List.length_append, List.length_singleton, List.all_append, List.all_cons, List.all_nil]
  refine ⟨by omega, ?_, hf⟩
  rw [List.all_eq_true]
  exact h2
theorem read_put {d : Dk} {w : Wr} {a : Int} (h : rightB d = true) (hh : hasB d a = true) (hf : fitsB d w = true) (hl : d.cache.length ≠ 200) :
    readD ⟨d.sectors, d.cache ++ [w]⟩ a = if w.at_ = a then (w.data, 0) else readD d a := by
  rw [read_ok (right_put h hf hl) (by simpa [hasB] using hh), read_ok h hh]
  show (match lookB (d.cache ++ [w]) a with
    | some w => (w.data, 0)
    | none => (d.sectors[a.toNat]?.getD ByteArray.empty, (0 : Int))) = _
  rw [lookB_snoc]
  by_cases hw : w.at_ = a
  · rw [if_pos hw, if_pos hw]
  · rw [if_neg hw, if_neg hw]
theorem reads_all {d : Dk} (w : Wr) {a : Int} (h : rightB d = true) (hh : hasB d a = true) :
    ∃ x y, readD d a = (x, 0) ∧ readD (putD d w).1 a = (y, 0) ∧ readD (syncD (putD d w).1) a = (y, 0) ∧ y = if (putD d w).2 = 0 ∧ a = w.at_ then w.data else x := by
  have e0 : readD d a = ((readD d a).1, 0) := by rw [← read_err h hh]
  by_cases hf : fitsB d w = true ∧ d.cache.length ≠ 200
  · have e1 := put_ok h hf.1 hf.2
    have e2 := read_put h hh hf.1 hf.2
    have e3 := read_sync (d := ⟨d.sectors, d.cache ++ [w]⟩) (right_put h hf.1 hf.2) (a := a) (by simpa [hasB] using hh)
    rw [e1]
    by_cases hw : w.at_ = a
    · rw [if_pos hw] at e2
      exact ⟨_, w.data, e0, e2, e3.trans e2, by simp [hw]⟩
    · rw [if_neg hw] at e2
      refine ⟨_, _, e0, e2.trans e0, (e3.trans e2).trans e0, ?_⟩
      rw [if_neg (by intro q; exact hw q.2.symm)]
  · obtain ⟨e1, e2⟩ := put_no h hf
    rw [e1]
    refine ⟨_, _, e0, e0, (read_sync h hh).trans e0, ?_⟩
    rw [if_neg (by intro q; exact e2 q.1)]
end Go.Proofs.Ytfmbfgoofiojcaa
namespace Go.Proofs.Ytfmbfgoofiojcaa
open Go.RowKit
set_option linter.unusedVariables false
set_option linter.unusedSimpArgs false
def encS (s : ByteArray) : List SC := [.pv (.string s)]
def encI (s : Int) : List SC := [.pv (.int .i64 s)]
def encWr (w : Wr) : List SC := [.pv (.int .i64 w.at_), .pv (.string w.data)]
def encDk (d : Dk) : List SC := [.sl 1 (d.sectors.map encS), .sl 2 (d.cache.map encWr)]
theorem mixed : Try.prog.follows .mixedOrders = true := by kernel_rfl
theorem has_spec (d : Dk) (a : Int) : Spec Try.prog 105 [.agg (encDk d), .c (.pv (.int .i64 a))] (.val (.c (.pv (.bool (hasB d a))))) := by
  refine spec_val mixed fn105 (by simp) ?_
  unfold ac105 hasB
  simp -implicitDefEqProofs only [↓aP, aQ, ↓reduceIte, Nat.reduceEqDiff, Nat.reduceAdd, Nat.reduceSub, Nat.reduceMul, Nat.reduceLT, Nat.reduceLeDiff, reduceCtorEq, Nat.reduceBEq, forall_const, implies_true, exists_const, ne_eq, Int.reduceAdd, Int.reduceSub, Int.reduceMul, Int.reduceBEq, Int.reduceEq, Int.reduceLT, Int.reduceLE, Int.reduceToNat, Int.reduceNeg, Int.reduceBNe, encDk]
  cases h0 : decide (0 ≤ a)
  · simp -implicitDefEqProofs only [↓aP, aQ, ↓reduceIte, Nat.reduceEqDiff, Nat.reduceAdd, Nat.reduceSub, Nat.reduceMul, Nat.reduceLT, Nat.reduceLeDiff, reduceCtorEq, Nat.reduceBEq, forall_const, implies_true, exists_const, ne_eq, Int.reduceAdd, Int.reduceSub, Int.reduceMul, Int.reduceBEq, Int.reduceEq, Int.reduceLT, Int.reduceLE, Int.reduceToNat, Int.reduceNeg, Int.reduceBNe]
  · simp -implicitDefEqProofs only [↓aP, aQ, ↓reduceIte, Nat.reduceEqDiff, Nat.reduceAdd, Nat.reduceSub, Nat.reduceMul, Nat.reduceLT, Nat.reduceLeDiff, reduceCtorEq, Nat.reduceBEq, forall_const, implies_true, exists_const, ne_eq, Int.reduceAdd, Int.reduceSub, Int.reduceMul, Int.reduceBEq, Int.reduceEq, Int.reduceLT, Int.reduceLE, Int.reduceToNat, Int.reduceNeg, Int.reduceBNe]
theorem fits_spec (d : Dk) (w : Wr) : Spec Try.prog 92 [.agg (encDk d), .agg (encWr w)] (.val (.c (.pv (.bool (fitsB d w))))) := by
  refine spec_val mixed fn92 (by simp) ?_
  unfold ac92 fitsB
  simp -implicitDefEqProofs only [↓aP, aQ, ↓reduceIte, Nat.reduceEqDiff, Nat.reduceAdd, Nat.reduceSub, Nat.reduceMul, Nat.reduceLT, Nat.reduceLeDiff, reduceCtorEq, Nat.reduceBEq, forall_const, implies_true, exists_const, ne_eq, Int.reduceAdd, Int.reduceSub, Int.reduceMul, Int.reduceBEq, Int.reduceEq, Int.reduceLT, Int.reduceLE, Int.reduceToNat, Int.reduceNeg, Int.reduceBNe, encDk, encWr]
  refine ask (has_spec d w.at_) ?_
  simp -implicitDefEqProofs only [↓aP, aQ, ↓reduceIte, Nat.reduceEqDiff, Nat.reduceAdd, Nat.reduceSub, Nat.reduceMul, Nat.reduceLT, Nat.reduceLeDiff, reduceCtorEq, Nat.reduceBEq, forall_const, implies_true, exists_const, ne_eq, Int.reduceAdd, Int.reduceSub, Int.reduceMul, Int.reduceBEq, Int.reduceEq, Int.reduceLT, Int.reduceLE, Int.reduceToNat, Int.reduceNeg, Int.reduceBNe]
  cases h0 : hasB d w.at_
  · simp -implicitDefEqProofs only [↓aP, aQ, ↓reduceIte, Nat.reduceEqDiff, Nat.reduceAdd, Nat.reduceSub, Nat.reduceMul, Nat.reduceLT, Nat.reduceLeDiff, reduceCtorEq, Nat.reduceBEq, forall_const, implies_true, exists_const, ne_eq, Int.reduceAdd, Int.reduceSub, Int.reduceMul, Int.reduceBEq, Int.reduceEq, Int.reduceLT, Int.reduceLE, Int.reduceToNat, Int.reduceNeg, Int.reduceBNe]
  · simp -implicitDefEqProofs only [↓aP, aQ, ↓reduceIte, Nat.reduceEqDiff, Nat.reduceAdd, Nat.reduceSub, Nat.reduceMul, Nat.reduceLT, Nat.reduceLeDiff, reduceCtorEq, Nat.reduceBEq, forall_const, implies_true, exists_const, ne_eq, Int.reduceAdd, Int.reduceSub, Int.reduceMul, Int.reduceBEq, Int.reduceEq, Int.reduceLT, Int.reduceLE, Int.reduceToNat, Int.reduceNeg, Int.reduceBNe]
theorem cloneW (l : List (List SC)) (hl : l.length * 24 ≤ 2 ^ 47) : Spec Try.prog 112 [.c (.sl 2 l)] (.row 141 2 l) := by
  refine Spec.tag ?_ ?_
  · intro h
    subst h
    refine spec_row mixed fn112 (by simp) ?_
    unfold ac112
    simp -implicitDefEqProofs only [↓aP, aQ, ↓reduceIte, Nat.reduceEqDiff, Nat.reduceAdd, Nat.reduceSub, Nat.reduceMul, Nat.reduceLT, Nat.reduceLeDiff, reduceCtorEq, Nat.reduceBEq, forall_const, implies_true, exists_const, ne_eq, Int.reduceAdd, Int.reduceSub, Int.reduceMul, Int.reduceBEq, Int.reduceEq, Int.reduceLT, Int.reduceLE, Int.reduceToNat, Int.reduceNeg, Int.reduceBNe]
  · refine spec_row mixed fn112 (by simp) ?_
    unfold ac112
    simp -implicitDefEqProofs only [↓aP, aQ, ↓reduceIte, Nat.reduceEqDiff, Nat.reduceAdd, Nat.reduceSub, Nat.reduceMul, Nat.reduceLT, Nat.reduceLeDiff, reduceCtorEq, Nat.reduceBEq, forall_const, implies_true, exists_const, ne_eq, Int.reduceAdd, Int.reduceSub, Int.reduceMul, Int.reduceBEq, Int.reduceEq, Int.reduceLT, Int.reduceLE, Int.reduceToNat, Int.reduceNeg, Int.reduceBNe]
    refine ⟨?_, ?_⟩ <;> omega
theorem cloneS (l : List (List SC)) (hl : l.length * 16 ≤ 2 ^ 47) : Spec Try.prog 93 [.c (.sl 1 l)] (.row 9 1 l) := by
  refine Spec.tag ?_ ?_
  · intro h
    subst h
    refine spec_row mixed fn93 (by simp) ?_
    unfold ac93
    simp -implicitDefEqProofs only [↓aP, aQ, ↓reduceIte, Nat.reduceEqDiff, Nat.reduceAdd, Nat.reduceSub, Nat.reduceMul, Nat.reduceLT, Nat.reduceLeDiff, reduceCtorEq, Nat.reduceBEq, forall_const, implies_true, exists_const, ne_eq, Int.reduceAdd, Int.reduceSub, Int.reduceMul, Int.reduceBEq, Int.reduceEq, Int.reduceLT, Int.reduceLE, Int.reduceToNat, Int.reduceNeg, Int.reduceBNe]
  · refine spec_row mixed fn93 (by simp) ?_
    unfold ac93
    simp -implicitDefEqProofs only [↓aP, aQ, ↓reduceIte, Nat.reduceEqDiff, Nat.reduceAdd, Nat.reduceSub, Nat.reduceMul, Nat.reduceLT, Nat.reduceLeDiff, reduceCtorEq, Nat.reduceBEq, forall_const, implies_true, exists_const, ne_eq, Int.reduceAdd, Int.reduceSub, Int.reduceMul, Int.reduceBEq, Int.reduceEq, Int.reduceLT, Int.reduceLE, Int.reduceToNat, Int.reduceNeg, Int.reduceBNe]
    refine ⟨?_, ?_⟩ <;> omega
theorem right_spec (d : Dk) : Spec Try.prog 72 [.agg (encDk d)] (.val (.c (.pv (.bool (rightB d))))) := by
  refine spec_val mixed fn72 (by simp) ?_
  unfold ac72
  simp -implicitDefEqProofs only [↓aP, aQ, ↓reduceIte, Nat.reduceEqDiff, Nat.reduceAdd, Nat.reduceSub, Nat.reduceMul, Nat.reduceLT, Nat.reduceLeDiff, reduceCtorEq, Nat.reduceBEq, forall_const, implies_true, exists_const, ne_eq, Int.reduceAdd, Int.reduceSub, Int.reduceMul, Int.reduceBEq, Int.reduceEq, Int.reduceLT, Int.reduceLE, Int.reduceToNat, Int.reduceNeg, Int.reduceBNe, encDk]
  cases h0 : decide ((d.sectors.length : Int) < 1)
  case true =>
    simp -implicitDefEqProofs only [↓aP, aQ, ↓reduceIte, Nat.reduceEqDiff, Nat.reduceAdd, Nat.reduceSub, Nat.reduceMul, Nat.reduceLT, Nat.reduceLeDiff, reduceCtorEq, Nat.reduceBEq, forall_const, implies_true, exists_const, ne_eq, Int.reduceAdd, Int.reduceSub, Int.reduceMul, Int.reduceBEq, Int.reduceEq, Int.reduceLT, Int.reduceLE, Int.reduceToNat, Int.reduceNeg, Int.reduceBNe]
    have : d.sectors = [] := by simp at h0; exact List.eq_nil_of_length_eq_zero (by omega)
    simp [rightB, this]
  simp -implicitDefEqProofs only [↓aP, aQ, ↓reduceIte, Nat.reduceEqDiff, Nat.reduceAdd, Nat.reduceSub, Nat.reduceMul, Nat.reduceLT, Nat.reduceLeDiff, reduceCtorEq, Nat.reduceBEq, forall_const, implies_true, exists_const, ne_eq, Int.reduceAdd, Int.reduceSub, Int.reduceMul, Int.reduceBEq, Int.reduceEq, Int.reduceLT, Int.reduceLE, Int.reduceToNat, Int.reduceNeg, Int.reduceBNe]
  cases h1 : decide ((64 : Int) < d.sectors.length)
  case true =>
    simp -implicitDefEqProofs only [↓aP, aQ, ↓reduceIte, Nat.reduceEqDiff, Nat.reduceAdd, Nat.reduceSub, Nat.reduceMul, Nat.reduceLT, Nat.reduceLeDiff, reduceCtorEq, Nat.reduceBEq, forall_const, implies_true, exists_const, ne_eq, Int.reduceAdd, Int.reduceSub, Int.reduceMul, Int.reduceBEq, Int.reduceEq, Int.reduceLT, Int.reduceLE, Int.reduceToNat, Int.reduceNeg, Int.reduceBNe]
    have : 64 < d.sectors.length := by simp at h1; omega
    simp [rightB]; omega
  simp -implicitDefEqProofs only [↓aP, aQ, ↓reduceIte, Nat.reduceEqDiff, Nat.reduceAdd, Nat.reduceSub, Nat.reduceMul, Nat.reduceLT, Nat.reduceLeDiff, reduceCtorEq, Nat.reduceBEq, forall_const, implies_true, exists_const, ne_eq, Int.reduceAdd, Int.reduceSub, Int.reduceMul, Int.reduceBEq, Int.reduceEq, Int.reduceLT, Int.reduceLE, Int.reduceToNat, Int.reduceNeg, Int.reduceBNe]
  cases h2 : decide ((200 : Int) < d.cache.length)
  case true =>
    simp -implicitDefEqProofs only [↓aP, aQ, ↓reduceIte, Nat.reduceEqDiff, Nat.reduceAdd, Nat.reduceSub, Nat.reduceMul, Nat.reduceLT, Nat.reduceLeDiff, reduceCtorEq, Nat.reduceBEq, forall_const, implies_true, exists_const, ne_eq, Int.reduceAdd, Int.reduceSub, Int.reduceMul, Int.reduceBEq, Int.reduceEq, Int.reduceLT, Int.reduceLE, Int.reduceToNat, Int.reduceNeg, Int.reduceBNe]
    have : 200 < d.cache.length := by simp at h2; omega
    simp [rightB]; omega
  simp -implicitDefEqProofs only [↓aP, aQ, ↓reduceIte, Nat.reduceEqDiff, Nat.reduceAdd, Nat.reduceSub, Nat.reduceMul, Nat.reduceLT, Nat.reduceLeDiff, reduceCtorEq, Nat.reduceBEq, forall_const, implies_true, exists_const, ne_eq, Int.reduceAdd, Int.reduceSub, Int.reduceMul, Int.reduceBEq, Int.reduceEq, Int.reduceLT, Int.reduceLE, Int.reduceToNat, Int.reduceNeg, Int.reduceBNe]
  have hn : 1 ≤ d.sectors.length ∧ d.sectors.length ≤ 64 ∧ d.cache.length ≤ 200 := by simp at h0 h1 h2; omega
  refine loopA (fun m σ => ∃ i, i + m = d.sectors.length ∧ (∀ s ∈ d.sectors.take i, len16 s = true) ∧ σ.slot 26 = vI i ∧ σ.slot 24 = vL 1 (d.sectors.map encS) ∧ σ.slot 25 = vI d.sectors.length ∧ σ.slot 1 = .c (.ptr 1 1 0 0) ∧ σ.h.gen 1 = 1 ∧ σ.h.blk 1 = .box 62 2 [[.s (.sl 1 (d.sectors.map encS)), .s (.sl 2 (d.cache.map encWr))]]) d.sectors.length ?_ ?_
  · simp -implicitDefEqProofs only [↓aP, aQ, ↓reduceIte, Nat.reduceEqDiff, Nat.reduceAdd, Nat.reduceSub, Nat.reduceMul, Nat.reduceLT, Nat.reduceLeDiff, reduceCtorEq, Nat.reduceBEq, forall_const, implies_true, exists_const, ne_eq, Int.reduceAdd, Int.reduceSub, Int.reduceMul, Int.reduceBEq, Int.reduceEq, Int.reduceLT, Int.reduceLE, Int.reduceToNat, Int.reduceNeg, Int.reduceBNe]
    refine ⟨0, ?_⟩
    simp -implicitDefEqProofs only [↓aP, aQ, ↓reduceIte, Nat.reduceEqDiff, Nat.reduceAdd, Nat.reduceSub, Nat.reduceMul, Nat.reduceLT, Nat.reduceLeDiff, reduceCtorEq, Nat.reduceBEq, forall_const, implies_true, exists_const, ne_eq, Int.reduceAdd, Int.reduceSub, Int.reduceMul, Int.reduceBEq, Int.reduceEq, Int.reduceLT, Int.reduceLE, Int.reduceToNat, Int.reduceNeg, Int.reduceBNe]
    simp
  · rintro m σ ⟨i, him, hs, s26, s24, s25, s1, g1, b1⟩
    simp -implicitDefEqProofs only [↓aP, aQ, ↓reduceIte, Nat.reduceEqDiff, Nat.reduceAdd, Nat.reduceSub, Nat.reduceMul, Nat.reduceLT, Nat.reduceLeDiff, reduceCtorEq, Nat.reduceBEq, forall_const, implies_true, exists_const, ne_eq, Int.reduceAdd, Int.reduceSub, Int.reduceMul, Int.reduceBEq, Int.reduceEq, Int.reduceLT, Int.reduceLE, Int.reduceToNat, Int.reduceNeg, Int.reduceBNe, s26, s24, s25, s1, g1, b1]
    refine fork ?_ ?_ <;> intro hc
    · have hi : i < d.sectors.length := by simpa using hc
      simp -implicitDefEqProofs only [↓aP, aQ, ↓reduceIte, Nat.reduceEqDiff, Nat.reduceAdd, Nat.reduceSub, Nat.reduceMul, Nat.reduceLT, Nat.reduceLeDiff, reduceCtorEq, Nat.reduceBEq, forall_const, implies_true, exists_const, ne_eq, Int.reduceAdd, Int.reduceSub, Int.reduceMul, Int.reduceBEq, Int.reduceEq, Int.reduceLT, Int.reduceLE, Int.reduceToNat, Int.reduceNeg, Int.reduceBNe, s26, s24, s25, s1, g1, b1, askIdx_map, hi, encS]
      refine fork ?_ ?_ <;> intro hd
      · simp -implicitDefEqProofs only [↓aP, aQ, ↓reduceIte, Nat.reduceEqDiff, Nat.reduceAdd, Nat.reduceSub, Nat.reduceMul, Nat.reduceLT, Nat.reduceLeDiff, reduceCtorEq, Nat.reduceBEq, forall_const, implies_true, exists_const, ne_eq, Int.reduceAdd, Int.reduceSub, Int.reduceMul, Int.reduceBEq, Int.reduceEq, Int.reduceLT, Int.reduceLE, Int.reduceToNat, Int.reduceNeg, Int.reduceBNe]
        have : len16 d.sectors[i] = false := by simpa [len16] using hd
        have : d.sectors.all len16 = false := by simp only [List.all_eq_false]; exact ⟨_, List.getElem_mem hi, by simp [this]⟩
        simp [rightB, this]
      · simp -implicitDefEqProofs only [↓aP, aQ, ↓reduceIte, Nat.reduceEqDiff, Nat.reduceAdd, Nat.reduceSub, Nat.reduceMul, Nat.reduceLT, Nat.reduceLeDiff, reduceCtorEq, Nat.reduceBEq, forall_const, implies_true, exists_const, ne_eq, Int.reduceAdd, Int.reduceSub, Int.reduceMul, Int.reduceBEq, Int.reduceEq, Int.reduceLT, Int.reduceLE, Int.reduceToNat, Int.reduceNeg, Int.reduceBNe, s26, s24, s25, s1, g1, b1, wrapS (show i < 4611686018427387904 by omega)]
        refine ⟨m - 1, by omega, i + 1, ?_⟩
        refine ⟨by omega, ?_, rfl⟩
        rw [take_snoc hi]
        simp only [List.mem_append, List.mem_singleton]
        rintro s (h | rfl)
        · exact hs s h
        · simpa [len16] using hd
    · simp -implicitDefEqProofs only [↓aP, aQ, ↓reduceIte, Nat.reduceEqDiff, Nat.reduceAdd, Nat.reduceSub, Nat.reduceMul, Nat.reduceLT, Nat.reduceLeDiff, reduceCtorEq, Nat.reduceBEq, forall_const, implies_true, exists_const, ne_eq, Int.reduceAdd, Int.reduceSub, Int.reduceMul, Int.reduceBEq, Int.reduceEq, Int.reduceLT, Int.reduceLE, Int.reduceToNat, Int.reduceNeg, Int.reduceBNe, s26, s24, s25, s1, g1, b1]
      have hi : i = d.sectors.length := by simp at hc; omega
      have hall : d.sectors.all len16 = true := by rw [List.all_eq_true]; intro s h; exact hs s (by rw [hi, List.take_length]; exact h)
      refine loopA (fun m σ => ∃ i, i + m = d.cache.length ∧ (∀ s ∈ d.cache.take i, fitsB d s = true) ∧ σ.slot 37 = vI i ∧ σ.slot 35 = vL 2 (d.cache.map encWr) ∧ σ.slot 36 = vI d.cache.length ∧ σ.slot 1 = .c (.ptr 1 1 0 0) ∧ σ.h.gen 1 = 1 ∧ σ.h.blk 1 = .box 62 2 [[.s (.sl 1 (d.sectors.map encS)), .s (.sl 2 (d.cache.map encWr))]]) d.cache.length ?_ ?_
      · simp -implicitDefEqProofs only [↓aP, aQ, ↓reduceIte, Nat.reduceEqDiff, Nat.reduceAdd, Nat.reduceSub, Nat.reduceMul, Nat.reduceLT, Nat.reduceLeDiff, reduceCtorEq, Nat.reduceBEq, forall_const, implies_true, exists_const, ne_eq, Int.reduceAdd, Int.reduceSub, Int.reduceMul, Int.reduceBEq, Int.reduceEq, Int.reduceLT, Int.reduceLE, Int.reduceToNat, Int.reduceNeg, Int.reduceBNe, s1, g1, b1]
        refine ⟨0, ?_⟩
        simp -implicitDefEqProofs only [↓aP, aQ, ↓reduceIte, Nat.reduceEqDiff, Nat.reduceAdd, Nat.reduceSub, Nat.reduceMul, Nat.reduceLT, Nat.reduceLeDiff, reduceCtorEq, Nat.reduceBEq, forall_const, implies_true, exists_const, ne_eq, Int.reduceAdd, Int.reduceSub, Int.reduceMul, Int.reduceBEq, Int.reduceEq, Int.reduceLT, Int.reduceLE, Int.reduceToNat, Int.reduceNeg, Int.reduceBNe]
        simp
      · clear him hs s26 s24 s25 s1 g1 b1 hc
        rintro m σ ⟨i, him, hs, s37, s35, s36, s1, g1, b1⟩
        simp -implicitDefEqProofs only [↓aP, aQ, ↓reduceIte, Nat.reduceEqDiff, Nat.reduceAdd, Nat.reduceSub, Nat.reduceMul, Nat.reduceLT, Nat.reduceLeDiff, reduceCtorEq, Nat.reduceBEq, forall_const, implies_true, exists_const, ne_eq, Int.reduceAdd, Int.reduceSub, Int.reduceMul, Int.reduceBEq, Int.reduceEq, Int.reduceLT, Int.reduceLE, Int.reduceToNat, Int.reduceNeg, Int.reduceBNe, s37, s35, s36, s1, g1, b1]
        refine fork ?_ ?_ <;> intro hc
        · have hi : i < d.cache.length := by simpa using hc
          simp -implicitDefEqProofs only [↓aP, aQ, ↓reduceIte, Nat.reduceEqDiff, Nat.reduceAdd, Nat.reduceSub, Nat.reduceMul, Nat.reduceLT, Nat.reduceLeDiff, reduceCtorEq, Nat.reduceBEq, forall_const, implies_true, exists_const, ne_eq, Int.reduceAdd, Int.reduceSub, Int.reduceMul, Int.reduceBEq, Int.reduceEq, Int.reduceLT, Int.reduceLE, Int.reduceToNat, Int.reduceNeg, Int.reduceBNe, s37, s35, s36, s1, g1, b1, askIdx_map, hi, encWr]
          refine ask (fits_spec d d.cache[i]) ?_
          simp -implicitDefEqProofs only [↓aP, aQ, ↓reduceIte, Nat.reduceEqDiff, Nat.reduceAdd, Nat.reduceSub, Nat.reduceMul, Nat.reduceLT, Nat.reduceLeDiff, reduceCtorEq, Nat.reduceBEq, forall_const, implies_true, exists_const, ne_eq, Int.reduceAdd, Int.reduceSub, Int.reduceMul, Int.reduceBEq, Int.reduceEq, Int.reduceLT, Int.reduceLE, Int.reduceToNat, Int.reduceNeg, Int.reduceBNe]
          refine fork ?_ ?_ <;> intro hd
          · simp -implicitDefEqProofs only [↓aP, aQ, ↓reduceIte, Nat.reduceEqDiff, Nat.reduceAdd, Nat.reduceSub, Nat.reduceMul, Nat.reduceLT, Nat.reduceLeDiff, reduceCtorEq, Nat.reduceBEq, forall_const, implies_true, exists_const, ne_eq, Int.reduceAdd, Int.reduceSub, Int.reduceMul, Int.reduceBEq, Int.reduceEq, Int.reduceLT, Int.reduceLE, Int.reduceToNat, Int.reduceNeg, Int.reduceBNe]
            have : fitsB d d.cache[i] = false := by simpa using hd
            have : d.cache.all (fitsB d) = false := by simp only [List.all_eq_false]; exact ⟨_, List.getElem_mem hi, by simp [this]⟩
            simp [rightB, this]
          · simp -implicitDefEqProofs only [↓aP, aQ, ↓reduceIte, Nat.reduceEqDiff, Nat.reduceAdd, Nat.reduceSub, Nat.reduceMul, Nat.reduceLT, Nat.reduceLeDiff, reduceCtorEq, Nat.reduceBEq, forall_const, implies_true, exists_const, ne_eq, Int.reduceAdd, Int.reduceSub, Int.reduceMul, Int.reduceBEq, Int.reduceEq, Int.reduceLT, Int.reduceLE, Int.reduceToNat, Int.reduceNeg, Int.reduceBNe, s37, s35, s36, s1, g1, b1, wrapS (show i < 4611686018427387904 by omega)]
            refine ⟨m - 1, by omega, i + 1, ?_⟩
            refine ⟨by omega, ?_, rfl⟩
            rw [take_snoc hi]
            simp only [List.mem_append, List.mem_singleton]
            rintro s (h | rfl)
            · exact hs s h
            · simpa using hd
        · simp -implicitDefEqProofs only [↓aP, aQ, ↓reduceIte, Nat.reduceEqDiff, Nat.reduceAdd, Nat.reduceSub, Nat.reduceMul, Nat.reduceLT, Nat.reduceLeDiff, reduceCtorEq, Nat.reduceBEq, forall_const, implies_true, exists_const, ne_eq, Int.reduceAdd, Int.reduceSub, Int.reduceMul, Int.reduceBEq, Int.reduceEq, Int.reduceLT, Int.reduceLE, Int.reduceToNat, Int.reduceNeg, Int.reduceBNe, s37, s35, s36, s1, g1, b1]
          have hi : i = d.cache.length := by simp at hc; omega
          have hall2 : d.cache.all (fitsB d) = true := by rw [List.all_eq_true]; intro s h; exact hs s (by rw [hi, List.take_length]; exact h)
          simp [rightB, hall, hall2, hn]
end Go.Proofs.Ytfmbfgoofiojcaa
namespace Go.Proofs.Ytfmbfgoofiojcaa
open Go.RowKit
set_option linter.unusedVariables false
set_option linter.unusedSimpArgs false

theorem done_spec (d : Dk) (ws : List Wr) (hd : d.sectors.length ≤ 64) (hw : ws.length ≤ 200) (hf : ∀ w ∈ ws, hasB d w.at_ = true) :
    Spec Try.prog 73 [.agg (encDk d), rL 2 (ws.map encWr)] (.val (.agg (encDk (doneD d ws)))) := by
  refine spec_val mixed fn73 (by simp) ?_
  unfold ac73
  simp -implicitDefEqProofs only [↓aP, aQ, ↓reduceIte, Nat.reduceEqDiff, Nat.reduceAdd, Nat.reduceSub, Nat.reduceMul, Nat.reduceLT, Nat.reduceLeDiff, reduceCtorEq, Nat.reduceBEq, forall_const, implies_true, exists_const, ne_eq, Int.reduceAdd, Int.reduceSub, Int.reduceMul, Int.reduceBEq, Int.reduceEq, Int.reduceLT, Int.reduceLE, Int.reduceToNat, Int.reduceNeg, Int.reduceBNe, encDk]
  refine ask (cloneS _ (by simp; omega)) ?_
  simp -implicitDefEqProofs only [↓aP, aQ, ↓reduceIte, Nat.reduceEqDiff, Nat.reduceAdd, Nat.reduceSub, Nat.reduceMul, Nat.reduceLT, Nat.reduceLeDiff, reduceCtorEq, Nat.reduceBEq, forall_const, implies_true, exists_const, ne_eq, Int.reduceAdd, Int.reduceSub, Int.reduceMul, Int.reduceBEq, Int.reduceEq, Int.reduceLT, Int.reduceLE, Int.reduceToNat, Int.reduceNeg, Int.reduceBNe]
  refine loopA (fun m σ => ∃ i, i + m = ws.length ∧ σ.slot 13 = vI i ∧ σ.slot 11 = vL 2 (ws.map encWr) ∧ σ.slot 12 = vI ws.length ∧ σ.slot 5 = .c (.own 10 1) ∧ σ.h.gen 10 = 1 ∧ σ.h.blk 10 = .row 9 1 ((doneS d.sectors (ws.take i)).map encS) ∧ σ.slot 4 = .c (.ptr 4 1 0 0) ∧ σ.h.gen 4 = 1 ∧ σ.h.blk 4 = .box 62 2 [[.zc, .zc]]) ws.length ?_ ?_
  · simp -implicitDefEqProofs only [↓aP, aQ, ↓reduceIte, Nat.reduceEqDiff, Nat.reduceAdd, Nat.reduceSub, Nat.reduceMul, Nat.reduceLT, Nat.reduceLeDiff, reduceCtorEq, Nat.reduceBEq, forall_const, implies_true, exists_const, ne_eq, Int.reduceAdd, Int.reduceSub, Int.reduceMul, Int.reduceBEq, Int.reduceEq, Int.reduceLT, Int.reduceLE, Int.reduceToNat, Int.reduceNeg, Int.reduceBNe]
    refine ⟨0, ?_⟩
    simp -implicitDefEqProofs only [↓aP, aQ, ↓reduceIte, Nat.reduceEqDiff, Nat.reduceAdd, Nat.reduceSub, Nat.reduceMul, Nat.reduceLT, Nat.reduceLeDiff, reduceCtorEq, Nat.reduceBEq, forall_const, implies_true, exists_const, ne_eq, Int.reduceAdd, Int.reduceSub, Int.reduceMul, Int.reduceBEq, Int.reduceEq, Int.reduceLT, Int.reduceLE, Int.reduceToNat, Int.reduceNeg, Int.reduceBNe]
    simp [doneS]
  · rintro m σ ⟨i, him, s13, s11, s12, s5, g10, b10, s4, g4, b4⟩
    simp -implicitDefEqProofs only [↓aP, aQ, ↓reduceIte, Nat.reduceEqDiff, Nat.reduceAdd, Nat.reduceSub, Nat.reduceMul, Nat.reduceLT, Nat.reduceLeDiff, reduceCtorEq, Nat.reduceBEq, forall_const, implies_true, exists_const, ne_eq, Int.reduceAdd, Int.reduceSub, Int.reduceMul, Int.reduceBEq, Int.reduceEq, Int.reduceLT, Int.reduceLE, Int.reduceToNat, Int.reduceNeg, Int.reduceBNe, s13, s11, s12, s5, g10, b10, s4, g4, b4]
    refine fork ?_ ?_ <;> intro hc
    · have hi : i < ws.length := by simpa using hc
      simp -implicitDefEqProofs only [↓aP, aQ, ↓reduceIte, Nat.reduceEqDiff, Nat.reduceAdd, Nat.reduceSub, Nat.reduceMul, Nat.reduceLT, Nat.reduceLeDiff, reduceCtorEq, Nat.reduceBEq, forall_const, implies_true, exists_const, ne_eq, Int.reduceAdd, Int.reduceSub, Int.reduceMul, Int.reduceBEq, Int.reduceEq, Int.reduceLT, Int.reduceLE, Int.reduceToNat, Int.reduceNeg, Int.reduceBNe, s13, s11, s12, s5, g10, b10, s4, g4, b4, askIdx_map, hi, encWr]
      have hf' := hf _ (List.getElem_mem hi)
      simp only [hasB, Bool.and_eq_true, decide_eq_true_eq] at hf'
      refine ⟨hf'.1, by rw [doneS_len]; omega, ?_⟩
      simp -implicitDefEqProofs only [↓aP, aQ, ↓reduceIte, Nat.reduceEqDiff, Nat.reduceAdd, Nat.reduceSub, Nat.reduceMul, Nat.reduceLT, Nat.reduceLeDiff, reduceCtorEq, Nat.reduceBEq, forall_const, implies_true, exists_const, ne_eq, Int.reduceAdd, Int.reduceSub, Int.reduceMul, Int.reduceBEq, Int.reduceEq, Int.reduceLT, Int.reduceLE, Int.reduceToNat, Int.reduceNeg, Int.reduceBNe, s13, s11, s12, s5, g10, b10, s4, g4, b4, askIdx_map, (show ws[i].at_.toNat < (doneS d.sectors (ws.take i)).length by rw [doneS_len]; omega), encS, wrapS (show i < 4611686018427387904 by omega)]
      refine ⟨m - 1, by omega, i + 1, ?_⟩
      simp -implicitDefEqProofs only [↓aP, aQ, ↓reduceIte, Nat.reduceEqDiff, Nat.reduceAdd, Nat.reduceSub, Nat.reduceMul, Nat.reduceLT, Nat.reduceLeDiff, reduceCtorEq, Nat.reduceBEq, forall_const, implies_true, exists_const, ne_eq, Int.reduceAdd, Int.reduceSub, Int.reduceMul, Int.reduceBEq, Int.reduceEq, Int.reduceLT, Int.reduceLE, Int.reduceToNat, Int.reduceNeg, Int.reduceBNe]
      refine ⟨by omega, ?_⟩
      rw [take_snoc hi, doneS_snoc]
      simp [put1, encS, List.map_set]
    · simp -implicitDefEqProofs only [↓aP, aQ, ↓reduceIte, Nat.reduceEqDiff, Nat.reduceAdd, Nat.reduceSub, Nat.reduceMul, Nat.reduceLT, Nat.reduceLeDiff, reduceCtorEq, Nat.reduceBEq, forall_const, implies_true, exists_const, ne_eq, Int.reduceAdd, Int.reduceSub, Int.reduceMul, Int.reduceBEq, Int.reduceEq, Int.reduceLT, Int.reduceLE, Int.reduceToNat, Int.reduceNeg, Int.reduceBNe, s13, s11, s12, s5, g10, b10, s4, g4, b4]
      have hi : i = ws.length := by simp at hc; omega
      simp [doneD, hi]
theorem sync_spec (d : Dk) : Spec Try.prog 88 [.agg (encDk d)] (.val (.agg (encDk (syncD d)))) := by
  refine spec_val mixed fn88 (by simp) ?_
  unfold ac88
  simp -implicitDefEqProofs only [↓aP, aQ, ↓reduceIte, Nat.reduceEqDiff, Nat.reduceAdd, Nat.reduceSub, Nat.reduceMul, Nat.reduceLT, Nat.reduceLeDiff, reduceCtorEq, Nat.reduceBEq, forall_const, implies_true, exists_const, ne_eq, Int.reduceAdd, Int.reduceSub, Int.reduceMul, Int.reduceBEq, Int.reduceEq, Int.reduceLT, Int.reduceLE, Int.reduceToNat, Int.reduceNeg, Int.reduceBNe, encDk]
  refine ask (right_spec d) ?_
  cases hr : rightB d
  · simp -implicitDefEqProofs only [↓aP, aQ, ↓reduceIte, Nat.reduceEqDiff, Nat.reduceAdd, Nat.reduceSub, Nat.reduceMul, Nat.reduceLT, Nat.reduceLeDiff, reduceCtorEq, Nat.reduceBEq, forall_const, implies_true, exists_const, ne_eq, Int.reduceAdd, Int.reduceSub, Int.reduceMul, Int.reduceBEq, Int.reduceEq, Int.reduceLT, Int.reduceLE, Int.reduceToNat, Int.reduceNeg, Int.reduceBNe, encDk]
    simp [syncD, hr]
  · have hl := right_len hr
    simp -implicitDefEqProofs only [↓aP, aQ, ↓reduceIte, Nat.reduceEqDiff, Nat.reduceAdd, Nat.reduceSub, Nat.reduceMul, Nat.reduceLT, Nat.reduceLeDiff, reduceCtorEq, Nat.reduceBEq, forall_const, implies_true, exists_const, ne_eq, Int.reduceAdd, Int.reduceSub, Int.reduceMul, Int.reduceBEq, Int.reduceEq, Int.reduceLT, Int.reduceLE, Int.reduceToNat, Int.reduceNeg, Int.reduceBNe, encDk]
    refine ask (done_spec d d.cache (by omega) (by omega) (right_has hr)) ?_
    simp -implicitDefEqProofs only [↓aP, aQ, ↓reduceIte, Nat.reduceEqDiff, Nat.reduceAdd, Nat.reduceSub, Nat.reduceMul, Nat.reduceLT, Nat.reduceLeDiff, reduceCtorEq, Nat.reduceBEq, forall_const, implies_true, exists_const, ne_eq, Int.reduceAdd, Int.reduceSub, Int.reduceMul, Int.reduceBEq, Int.reduceEq, Int.reduceLT, Int.reduceLE, Int.reduceToNat, Int.reduceNeg, Int.reduceBNe, encDk]
    simp [syncD, hr]
theorem put_spec (d : Dk) (w : Wr) : Spec Try.prog 104 [.agg (encDk d), .agg (encWr w)] (.val (.tup [(true, encDk (putD d w).1), (false, [.pv (.int .i64 (putD d w).2)])])) := by
  refine spec_val mixed fn104 (by simp) ?_
  unfold ac104
  simp -implicitDefEqProofs only [↓aP, aQ, ↓reduceIte, Nat.reduceEqDiff, Nat.reduceAdd, Nat.reduceSub, Nat.reduceMul, Nat.reduceLT, Nat.reduceLeDiff, reduceCtorEq, Nat.reduceBEq, forall_const, implies_true, exists_const, ne_eq, Int.reduceAdd, Int.reduceSub, Int.reduceMul, Int.reduceBEq, Int.reduceEq, Int.reduceLT, Int.reduceLE, Int.reduceToNat, Int.reduceNeg, Int.reduceBNe, encDk, encWr]
  refine ask (right_spec d) ?_
  cases hr : rightB d
  · simp -implicitDefEqProofs only [↓aP, aQ, ↓reduceIte, Nat.reduceEqDiff, Nat.reduceAdd, Nat.reduceSub, Nat.reduceMul, Nat.reduceLT, Nat.reduceLeDiff, reduceCtorEq, Nat.reduceBEq, forall_const, implies_true, exists_const, ne_eq, Int.reduceAdd, Int.reduceSub, Int.reduceMul, Int.reduceBEq, Int.reduceEq, Int.reduceLT, Int.reduceLE, Int.reduceToNat, Int.reduceNeg, Int.reduceBNe, encDk, encWr]
    simp [putD, hr]
  · have hl := right_len hr
    simp -implicitDefEqProofs only [↓aP, aQ, ↓reduceIte, Nat.reduceEqDiff, Nat.reduceAdd, Nat.reduceSub, Nat.reduceMul, Nat.reduceLT, Nat.reduceLeDiff, reduceCtorEq, Nat.reduceBEq, forall_const, implies_true, exists_const, ne_eq, Int.reduceAdd, Int.reduceSub, Int.reduceMul, Int.reduceBEq, Int.reduceEq, Int.reduceLT, Int.reduceLE, Int.reduceToNat, Int.reduceNeg, Int.reduceBNe]
    refine ask (fits_spec d w) ?_
    cases hf : fitsB d w
    · simp -implicitDefEqProofs only [↓aP, aQ, ↓reduceIte, Nat.reduceEqDiff, Nat.reduceAdd, Nat.reduceSub, Nat.reduceMul, Nat.reduceLT, Nat.reduceLeDiff, reduceCtorEq, Nat.reduceBEq, forall_const, implies_true, exists_const, ne_eq, Int.reduceAdd, Int.reduceSub, Int.reduceMul, Int.reduceBEq, Int.reduceEq, Int.reduceLT, Int.reduceLE, Int.reduceToNat, Int.reduceNeg, Int.reduceBNe]
      simp [putD, hr, hf]
    · simp -implicitDefEqProofs only [↓aP, aQ, ↓reduceIte, Nat.reduceEqDiff, Nat.reduceAdd, Nat.reduceSub, Nat.reduceMul, Nat.reduceLT, Nat.reduceLeDiff, reduceCtorEq, Nat.reduceBEq, forall_const, implies_true, exists_const, ne_eq, Int.reduceAdd, Int.reduceSub, Int.reduceMul, Int.reduceBEq, Int.reduceEq, Int.reduceLT, Int.reduceLE, Int.reduceToNat, Int.reduceNeg, Int.reduceBNe]
      refine fork ?_ ?_ <;> intro hc
      · simp -implicitDefEqProofs only [↓aP, aQ, ↓reduceIte, Nat.reduceEqDiff, Nat.reduceAdd, Nat.reduceSub, Nat.reduceMul, Nat.reduceLT, Nat.reduceLeDiff, reduceCtorEq, Nat.reduceBEq, forall_const, implies_true, exists_const, ne_eq, Int.reduceAdd, Int.reduceSub, Int.reduceMul, Int.reduceBEq, Int.reduceEq, Int.reduceLT, Int.reduceLE, Int.reduceToNat, Int.reduceNeg, Int.reduceBNe]
        have hc' : d.cache.length = 200 := by have := hc; simp at this; omega
        simp [putD, hr, hf, hc']
      · simp -implicitDefEqProofs only [↓aP, aQ, ↓reduceIte, Nat.reduceEqDiff, Nat.reduceAdd, Nat.reduceSub, Nat.reduceMul, Nat.reduceLT, Nat.reduceLeDiff, reduceCtorEq, Nat.reduceBEq, forall_const, implies_true, exists_const, ne_eq, Int.reduceAdd, Int.reduceSub, Int.reduceMul, Int.reduceBEq, Int.reduceEq, Int.reduceLT, Int.reduceLE, Int.reduceToNat, Int.reduceNeg, Int.reduceBNe]
        refine ask (cloneW _ (by simp; omega)) ?_
        simp -implicitDefEqProofs only [↓aP, aQ, ↓reduceIte, Nat.reduceEqDiff, Nat.reduceAdd, Nat.reduceSub, Nat.reduceMul, Nat.reduceLT, Nat.reduceLeDiff, reduceCtorEq, Nat.reduceBEq, forall_const, implies_true, exists_const, ne_eq, Int.reduceAdd, Int.reduceSub, Int.reduceMul, Int.reduceBEq, Int.reduceEq, Int.reduceLT, Int.reduceLE, Int.reduceToNat, Int.reduceNeg, Int.reduceBNe]
        have hc' : d.cache.length ≠ 200 := by have := hc; simp at this; omega
        simp [putD, hr, hf, hc', encWr]
        refine ⟨by omega, by omega, by decide⟩
end Go.Proofs.Ytfmbfgoofiojcaa
namespace Go.Proofs.Ytfmbfgoofiojcaa
open Go.RowKit
set_option linter.unusedVariables false
set_option linter.unusedSimpArgs false
def encB (b : Bool) : List SC := [.pv (.bool b)]


theorem crash_spec (d : Dk) (keep : List Int) (hk : keep.length < 4611686018427387904) : Spec Try.prog 39 [.agg (encDk d), rL 1 (keep.map encI)] (.val (.agg (encDk (crashD d keep)))) := by
  refine spec_val mixed fn39 (by simp) ?_
  unfold ac39
  simp -implicitDefEqProofs only [↓aP, aQ, ↓reduceIte, Nat.reduceEqDiff, Nat.reduceAdd, Nat.reduceSub, Nat.reduceMul, Nat.reduceLT, Nat.reduceLeDiff, reduceCtorEq, Nat.reduceBEq, forall_const, implies_true, exists_const, ne_eq, Int.reduceAdd, Int.reduceSub, Int.reduceMul, Int.reduceBEq, Int.reduceEq, Int.reduceLT, Int.reduceLE, Int.reduceToNat, Int.reduceNeg, Int.reduceBNe, encDk]
  refine ask (right_spec d) ?_
  cases hr : rightB d
  · simp -implicitDefEqProofs only [↓aP, aQ, ↓reduceIte, Nat.reduceEqDiff, Nat.reduceAdd, Nat.reduceSub, Nat.reduceMul, Nat.reduceLT, Nat.reduceLeDiff, reduceCtorEq, Nat.reduceBEq, forall_const, implies_true, exists_const, ne_eq, Int.reduceAdd, Int.reduceSub, Int.reduceMul, Int.reduceBEq, Int.reduceEq, Int.reduceLT, Int.reduceLE, Int.reduceToNat, Int.reduceNeg, Int.reduceBNe, encDk]
    simp [crashD, hr]
  have hl := right_len hr
  simp -implicitDefEqProofs only [↓aP, aQ, ↓reduceIte, Nat.reduceEqDiff, Nat.reduceAdd, Nat.reduceSub, Nat.reduceMul, Nat.reduceLT, Nat.reduceLeDiff, reduceCtorEq, Nat.reduceBEq, forall_const, implies_true, exists_const, ne_eq, Int.reduceAdd, Int.reduceSub, Int.reduceMul, Int.reduceBEq, Int.reduceEq, Int.reduceLT, Int.reduceLE, Int.reduceToNat, Int.reduceNeg, Int.reduceBNe]
  refine ⟨by omega, by omega, ?_⟩
  refine loopA (fun m σ => ∃ i, i + m = keep.length ∧ σ.slot 21 = vI i ∧ σ.slot 19 = vL 1 (keep.map encI) ∧ σ.slot 20 = vI keep.length ∧ σ.slot 5 = .c (.own 18 1) ∧ σ.h.gen 18 = 1 ∧ σ.h.blk 18 = .row 4 1 ((marks d.cache.length (keep.take i)).map encB) ∧ σ.slot 2 = .c (.ptr 2 1 0 0) ∧ σ.h.gen 2 = 1 ∧ σ.h.blk 2 = .box 62 2 [[.s (.sl 1 (d.sectors.map encS)), .s (.sl 2 (d.cache.map encWr))]] ∧ σ.slot 4 = .c (.ptr 4 1 0 0) ∧ σ.h.gen 4 = 1 ∧ σ.h.blk 4 = .box 62 2 [[.zc, .zc]]) keep.length ?_ ?_
  · simp -implicitDefEqProofs only [↓aP, aQ, ↓reduceIte, Nat.reduceEqDiff, Nat.reduceAdd, Nat.reduceSub, Nat.reduceMul, Nat.reduceLT, Nat.reduceLeDiff, reduceCtorEq, Nat.reduceBEq, forall_const, implies_true, exists_const, ne_eq, Int.reduceAdd, Int.reduceSub, Int.reduceMul, Int.reduceBEq, Int.reduceEq, Int.reduceLT, Int.reduceLE, Int.reduceToNat, Int.reduceNeg, Int.reduceBNe]
    refine ⟨0, ?_⟩
    simp -implicitDefEqProofs only [↓aP, aQ, ↓reduceIte, Nat.reduceEqDiff, Nat.reduceAdd, Nat.reduceSub, Nat.reduceMul, Nat.reduceLT, Nat.reduceLeDiff, reduceCtorEq, Nat.reduceBEq, forall_const, implies_true, exists_const, ne_eq, Int.reduceAdd, Int.reduceSub, Int.reduceMul, Int.reduceBEq, Int.reduceEq, Int.reduceLT, Int.reduceLE, Int.reduceToNat, Int.reduceNeg, Int.reduceBNe]
    simp [marks, encB]
  · rintro m σ ⟨i, him, s21, s19, s20, s5, g18, b18, s2, g2, b2, s4, g4, b4⟩
    simp -implicitDefEqProofs only [↓aP, aQ, ↓reduceIte, Nat.reduceEqDiff, Nat.reduceAdd, Nat.reduceSub, Nat.reduceMul, Nat.reduceLT, Nat.reduceLeDiff, reduceCtorEq, Nat.reduceBEq, forall_const, implies_true, exists_const, ne_eq, Int.reduceAdd, Int.reduceSub, Int.reduceMul, Int.reduceBEq, Int.reduceEq, Int.reduceLT, Int.reduceLE, Int.reduceToNat, Int.reduceNeg, Int.reduceBNe, s21, s19, s20, s5, g18, b18, s2, g2, b2, s4, g4, b4]
    refine fork ?_ ?_ <;> intro hc
    · have hi : i < keep.length := by simpa using hc
      simp -implicitDefEqProofs only [↓aP, aQ, ↓reduceIte, Nat.reduceEqDiff, Nat.reduceAdd, Nat.reduceSub, Nat.reduceMul, Nat.reduceLT, Nat.reduceLeDiff, reduceCtorEq, Nat.reduceBEq, forall_const, implies_true, exists_const, ne_eq, Int.reduceAdd, Int.reduceSub, Int.reduceMul, Int.reduceBEq, Int.reduceEq, Int.reduceLT, Int.reduceLE, Int.reduceToNat, Int.reduceNeg, Int.reduceBNe, s21, s19, s20, s5, g18, b18, s2, g2, b2, s4, g4, b4, askIdx_map, hi, encI]
      cases h0 : decide (0 ≤ keep[i])
      · simp -implicitDefEqProofs only [↓aP, aQ, ↓reduceIte, Nat.reduceEqDiff, Nat.reduceAdd, Nat.reduceSub, Nat.reduceMul, Nat.reduceLT, Nat.reduceLeDiff, reduceCtorEq, Nat.reduceBEq, forall_const, implies_true, exists_const, ne_eq, Int.reduceAdd, Int.reduceSub, Int.reduceMul, Int.reduceBEq, Int.reduceEq, Int.reduceLT, Int.reduceLE, Int.reduceToNat, Int.reduceNeg, Int.reduceBNe, s21, s19, s20, s5, g18, b18, s2, g2, b2, s4, g4, b4, wrapS (show i < 4611686018427387904 by omega)]
        refine ⟨m - 1, by omega, i + 1, ?_⟩
        have : mark (marks d.cache.length (keep.take i)) keep[i] = marks d.cache.length (keep.take i) := by
          simp only [decide_eq_false_iff_not] at h0
          simp [mark, h0]
        simp -implicitDefEqProofs only [↓aP, aQ, ↓reduceIte, Nat.reduceEqDiff, Nat.reduceAdd, Nat.reduceSub, Nat.reduceMul, Nat.reduceLT, Nat.reduceLeDiff, reduceCtorEq, Nat.reduceBEq, forall_const, implies_true, exists_const, ne_eq, Int.reduceAdd, Int.reduceSub, Int.reduceMul, Int.reduceBEq, Int.reduceEq, Int.reduceLT, Int.reduceLE, Int.reduceToNat, Int.reduceNeg, Int.reduceBNe, take_snoc hi, marks_snoc, this]
        omega
      · simp -implicitDefEqProofs only [↓aP, aQ, ↓reduceIte, Nat.reduceEqDiff, Nat.reduceAdd, Nat.reduceSub, Nat.reduceMul, Nat.reduceLT, Nat.reduceLeDiff, reduceCtorEq, Nat.reduceBEq, forall_const, implies_true, exists_const, ne_eq, Int.reduceAdd, Int.reduceSub, Int.reduceMul, Int.reduceBEq, Int.reduceEq, Int.reduceLT, Int.reduceLE, Int.reduceToNat, Int.reduceNeg, Int.reduceBNe, s21, s19, s20, s5, g18, b18, s2, g2, b2, s4, g4, b4, marks_len]
        refine fork ?_ ?_ <;> intro h1
        · simp only [decide_eq_true_eq] at h0 h1
          have h2 : keep[i].toNat < (marks d.cache.length (keep.take i)).length := by rw [marks_len]; omega
          simp -implicitDefEqProofs only [↓aP, aQ, ↓reduceIte, Nat.reduceEqDiff, Nat.reduceAdd, Nat.reduceSub, Nat.reduceMul, Nat.reduceLT, Nat.reduceLeDiff, reduceCtorEq, Nat.reduceBEq, forall_const, implies_true, exists_const, ne_eq, Int.reduceAdd, Int.reduceSub, Int.reduceMul, Int.reduceBEq, Int.reduceEq, Int.reduceLT, Int.reduceLE, Int.reduceToNat, Int.reduceNeg, Int.reduceBNe, s21, s19, s20, s5, g18, b18, s2, g2, b2, s4, g4, b4, marks_len]
          refine ⟨h0, by omega, ?_⟩
          simp -implicitDefEqProofs only [↓aP, aQ, ↓reduceIte, Nat.reduceEqDiff, Nat.reduceAdd, Nat.reduceSub, Nat.reduceMul, Nat.reduceLT, Nat.reduceLeDiff, reduceCtorEq, Nat.reduceBEq, forall_const, implies_true, exists_const, ne_eq, Int.reduceAdd, Int.reduceSub, Int.reduceMul, Int.reduceBEq, Int.reduceEq, Int.reduceLT, Int.reduceLE, Int.reduceToNat, Int.reduceNeg, Int.reduceBNe, s21, s19, s20, s5, g18, b18, s2, g2, b2, s4, g4, b4, askIdx_map h2, encB, wrapS (show i < 4611686018427387904 by omega)]
          refine ⟨m - 1, by omega, i + 1, ?_⟩
          have : mark (marks d.cache.length (keep.take i)) keep[i] = (marks d.cache.length (keep.take i)).set keep[i].toNat true := by
            simp only [mark, marks_len]
            rw [if_pos ⟨h0, h1⟩]
          simp -implicitDefEqProofs only [↓aP, aQ, ↓reduceIte, Nat.reduceEqDiff, Nat.reduceAdd, Nat.reduceSub, Nat.reduceMul, Nat.reduceLT, Nat.reduceLeDiff, reduceCtorEq, Nat.reduceBEq, forall_const, implies_true, exists_const, ne_eq, Int.reduceAdd, Int.reduceSub, Int.reduceMul, Int.reduceBEq, Int.reduceEq, Int.reduceLT, Int.reduceLE, Int.reduceToNat, Int.reduceNeg, Int.reduceBNe, take_snoc hi, marks_snoc, this, List.map_set]
          simp [encB]
          omega
        · simp -implicitDefEqProofs only [↓aP, aQ, ↓reduceIte, Nat.reduceEqDiff, Nat.reduceAdd, Nat.reduceSub, Nat.reduceMul, Nat.reduceLT, Nat.reduceLeDiff, reduceCtorEq, Nat.reduceBEq, forall_const, implies_true, exists_const, ne_eq, Int.reduceAdd, Int.reduceSub, Int.reduceMul, Int.reduceBEq, Int.reduceEq, Int.reduceLT, Int.reduceLE, Int.reduceToNat, Int.reduceNeg, Int.reduceBNe, s21, s19, s20, s5, g18, b18, s2, g2, b2, s4, g4, b4, wrapS (show i < 4611686018427387904 by omega)]
          refine ⟨m - 1, by omega, i + 1, ?_⟩
          have : mark (marks d.cache.length (keep.take i)) keep[i] = marks d.cache.length (keep.take i) := by
            simp only [decide_eq_false_iff_not] at h1
            simp [mark, h1, marks_len]
          simp -implicitDefEqProofs only [↓aP, aQ, ↓reduceIte, Nat.reduceEqDiff, Nat.reduceAdd, Nat.reduceSub, Nat.reduceMul, Nat.reduceLT, Nat.reduceLeDiff, reduceCtorEq, Nat.reduceBEq, forall_const, implies_true, exists_const, ne_eq, Int.reduceAdd, Int.reduceSub, Int.reduceMul, Int.reduceBEq, Int.reduceEq, Int.reduceLT, Int.reduceLE, Int.reduceToNat, Int.reduceNeg, Int.reduceBNe, take_snoc hi, marks_snoc, this]
          omega
    · simp -implicitDefEqProofs only [↓aP, aQ, ↓reduceIte, Nat.reduceEqDiff, Nat.reduceAdd, Nat.reduceSub, Nat.reduceMul, Nat.reduceLT, Nat.reduceLeDiff, reduceCtorEq, Nat.reduceBEq, forall_const, implies_true, exists_const, ne_eq, Int.reduceAdd, Int.reduceSub, Int.reduceMul, Int.reduceBEq, Int.reduceEq, Int.reduceLT, Int.reduceLE, Int.reduceToNat, Int.reduceNeg, Int.reduceBNe, s21, s19, s20, s5, g18, b18, s2, g2, b2, s4, g4, b4]
      have hi : i = keep.length := by simp at hc; omega
      rw [hi, List.take_length] at b18
      refine loopA (fun m σ => ∃ i, i + m = d.cache.length ∧ σ.slot 40 = vI i ∧ σ.slot 38 = vL 2 (d.cache.map encWr) ∧ σ.slot 39 = vI d.cache.length ∧ σ.slot 5 = .c (.own 18 1) ∧ σ.h.gen 18 = 1 ∧ σ.h.blk 18 = .row 4 1 ((marks d.cache.length keep).map encB) ∧ σ.slot 2 = .c (.ptr 2 1 0 0) ∧ σ.h.gen 2 = 1 ∧ σ.h.blk 2 = .box 62 2 [[.s (.sl 1 (d.sectors.map encS)), .s (.sl 2 (d.cache.map encWr))]] ∧ σ.slot 4 = .c (.ptr 4 1 0 0) ∧ σ.h.gen 4 = 1 ∧ σ.h.blk 4 = .box 62 2 [[.zc, .zc]] ∧ ∃ x, σ.slot 8 = x ∧ (x = .c .zc ∧ keptW (d.cache.take i) ((marks d.cache.length keep).take i) = [] ∨ ∃ g, x = .c (.own 52 g) ∧ σ.h.gen 52 = g ∧ σ.h.blk 52 = .row 141 2 ((keptW (d.cache.take i) ((marks d.cache.length keep).take i)).map encWr))) d.cache.length ?_ ?_
      · simp -implicitDefEqProofs only [↓aP, aQ, ↓reduceIte, Nat.reduceEqDiff, Nat.reduceAdd, Nat.reduceSub, Nat.reduceMul, Nat.reduceLT, Nat.reduceLeDiff, reduceCtorEq, Nat.reduceBEq, forall_const, implies_true, exists_const, ne_eq, Int.reduceAdd, Int.reduceSub, Int.reduceMul, Int.reduceBEq, Int.reduceEq, Int.reduceLT, Int.reduceLE, Int.reduceToNat, Int.reduceNeg, Int.reduceBNe, s21, s19, s20, s5, g18, b18, s2, g2, b2, s4, g4, b4]
        refine ⟨0, ?_⟩
        simp -implicitDefEqProofs only [↓aP, aQ, ↓reduceIte, Nat.reduceEqDiff, Nat.reduceAdd, Nat.reduceSub, Nat.reduceMul, Nat.reduceLT, Nat.reduceLeDiff, reduceCtorEq, Nat.reduceBEq, forall_const, implies_true, exists_const, ne_eq, Int.reduceAdd, Int.reduceSub, Int.reduceMul, Int.reduceBEq, Int.reduceEq, Int.reduceLT, Int.reduceLE, Int.reduceToNat, Int.reduceNeg, Int.reduceBNe, b18]
        simp [keptW]
      · clear him hc s21 s19 s20 s5 g18 b18 s2 g2 b2 s4 g4 b4 hi
        rintro m σ ⟨i, him, s40, s38, s39, s5, g18, b18, s2, g2, b2, s4, g4, b4, x, s8, hx⟩
        simp -implicitDefEqProofs only [↓aP, aQ, ↓reduceIte, Nat.reduceEqDiff, Nat.reduceAdd, Nat.reduceSub, Nat.reduceMul, Nat.reduceLT, Nat.reduceLeDiff, reduceCtorEq, Nat.reduceBEq, forall_const, implies_true, exists_const, ne_eq, Int.reduceAdd, Int.reduceSub, Int.reduceMul, Int.reduceBEq, Int.reduceEq, Int.reduceLT, Int.reduceLE, Int.reduceToNat, Int.reduceNeg, Int.reduceBNe, s40, s38, s39, s5, g18, b18, s2, g2, b2, s4, g4, b4]
        refine fork ?_ ?_ <;> intro hc
        · have hi : i < d.cache.length := by simpa using hc
          have hi2 : i < (marks d.cache.length keep).length := by rw [marks_len]; exact hi
          simp -implicitDefEqProofs only [↓aP, aQ, ↓reduceIte, Nat.reduceEqDiff, Nat.reduceAdd, Nat.reduceSub, Nat.reduceMul, Nat.reduceLT, Nat.reduceLeDiff, reduceCtorEq, Nat.reduceBEq, forall_const, implies_true, exists_const, ne_eq, Int.reduceAdd, Int.reduceSub, Int.reduceMul, Int.reduceBEq, Int.reduceEq, Int.reduceLT, Int.reduceLE, Int.reduceToNat, Int.reduceNeg, Int.reduceBNe, s40, s38, s39, s5, g18, b18, s2, g2, b2, s4, g4, b4, askIdx_map, hi, encWr, hi2, encB, marks_len]
          have e1 := take_snoc hi
          have e2 := take_snoc hi2
          have e3 := keptW_snoc (ws := d.cache.take i) (ms := (marks d.cache.length keep).take i) (w := d.cache[i]) (m := (marks d.cache.length keep)[i]) (by simp [marks_len])
          rw [← e1, ← e2] at e3
          have hb : ((keptW (d.cache.take i) ((marks d.cache.length keep).take i)).length : Int) ≤ 200 := by
            have := keptW_len (ws := d.cache.take i) (ms := (marks d.cache.length keep).take i)
            have : (d.cache.take i).length ≤ 200 := by rw [List.length_take]; omega
            omega
          refine fork ?_ ?_ <;> intro hm <;> rw [hm] at e3
          · simp only [if_true] at e3
            rcases hx with ⟨rfl, hx⟩ | ⟨g, rfl, g52, b52⟩
            · simp -implicitDefEqProofs only [↓aP, aQ, ↓reduceIte, Nat.reduceEqDiff, Nat.reduceAdd, Nat.reduceSub, Nat.reduceMul, Nat.reduceLT, Nat.reduceLeDiff, reduceCtorEq, Nat.reduceBEq, forall_const, implies_true, exists_const, ne_eq, Int.reduceAdd, Int.reduceSub, Int.reduceMul, Int.reduceBEq, Int.reduceEq, Int.reduceLT, Int.reduceLE, Int.reduceToNat, Int.reduceNeg, Int.reduceBNe, s40, s38, s39, s5, g18, b18, s2, g2, b2, s4, g4, b4, s8, wrapS (show i < 4611686018427387904 by omega)]
              refine ⟨m - 1, by omega, i + 1, ?_⟩
              rw [hx] at e3
              simp -implicitDefEqProofs only [↓aP, aQ, ↓reduceIte, Nat.reduceEqDiff, Nat.reduceAdd, Nat.reduceSub, Nat.reduceMul, Nat.reduceLT, Nat.reduceLeDiff, reduceCtorEq, Nat.reduceBEq, forall_const, implies_true, exists_const, ne_eq, Int.reduceAdd, Int.reduceSub, Int.reduceMul, Int.reduceBEq, Int.reduceEq, Int.reduceLT, Int.reduceLE, Int.reduceToNat, Int.reduceNeg, Int.reduceBNe, e3, encWr]
              simp [encWr]
              omega
            · simp -implicitDefEqProofs only [↓aP, aQ, ↓reduceIte, Nat.reduceEqDiff, Nat.reduceAdd, Nat.reduceSub, Nat.reduceMul, Nat.reduceLT, Nat.reduceLeDiff, reduceCtorEq, Nat.reduceBEq, forall_const, implies_true, exists_const, ne_eq, Int.reduceAdd, Int.reduceSub, Int.reduceMul, Int.reduceBEq, Int.reduceEq, Int.reduceLT, Int.reduceLE, Int.reduceToNat, Int.reduceNeg, Int.reduceBNe, s40, s38, s39, s5, g18, b18, s2, g2, b2, s4, g4, b4, s8, g52, b52, wrapS (show i < 4611686018427387904 by omega)]
              refine ⟨by omega, by omega, m - 1, by omega, i + 1, ?_⟩
              simp -implicitDefEqProofs only [↓aP, aQ, ↓reduceIte, Nat.reduceEqDiff, Nat.reduceAdd, Nat.reduceSub, Nat.reduceMul, Nat.reduceLT, Nat.reduceLeDiff, reduceCtorEq, Nat.reduceBEq, forall_const, implies_true, exists_const, ne_eq, Int.reduceAdd, Int.reduceSub, Int.reduceMul, Int.reduceBEq, Int.reduceEq, Int.reduceLT, Int.reduceLE, Int.reduceToNat, Int.reduceNeg, Int.reduceBNe, e3, encWr]
              simp [encWr]
              omega
          · simp only [Bool.false_eq_true, if_false, List.append_nil] at e3
            simp -implicitDefEqProofs only [↓aP, aQ, ↓reduceIte, Nat.reduceEqDiff, Nat.reduceAdd, Nat.reduceSub, Nat.reduceMul, Nat.reduceLT, Nat.reduceLeDiff, reduceCtorEq, Nat.reduceBEq, forall_const, implies_true, exists_const, ne_eq, Int.reduceAdd, Int.reduceSub, Int.reduceMul, Int.reduceBEq, Int.reduceEq, Int.reduceLT, Int.reduceLE, Int.reduceToNat, Int.reduceNeg, Int.reduceBNe, s40, s38, s39, s5, g18, b18, s2, g2, b2, s4, g4, b4, wrapS (show i < 4611686018427387904 by omega)]
            refine ⟨m - 1, by omega, i + 1, ?_⟩
            simp -implicitDefEqProofs only [↓aP, aQ, ↓reduceIte, Nat.reduceEqDiff, Nat.reduceAdd, Nat.reduceSub, Nat.reduceMul, Nat.reduceLT, Nat.reduceLeDiff, reduceCtorEq, Nat.reduceBEq, forall_const, implies_true, exists_const, ne_eq, Int.reduceAdd, Int.reduceSub, Int.reduceMul, Int.reduceBEq, Int.reduceEq, Int.reduceLT, Int.reduceLE, Int.reduceToNat, Int.reduceNeg, Int.reduceBNe, e3, s8]
            refine ⟨by omega, ?_⟩
            exact ⟨_, rfl, hx⟩
        · simp -implicitDefEqProofs only [↓aP, aQ, ↓reduceIte, Nat.reduceEqDiff, Nat.reduceAdd, Nat.reduceSub, Nat.reduceMul, Nat.reduceLT, Nat.reduceLeDiff, reduceCtorEq, Nat.reduceBEq, forall_const, implies_true, exists_const, ne_eq, Int.reduceAdd, Int.reduceSub, Int.reduceMul, Int.reduceBEq, Int.reduceEq, Int.reduceLT, Int.reduceLE, Int.reduceToNat, Int.reduceNeg, Int.reduceBNe, s40, s38, s39, s5, g18, b18, s2, g2, b2, s4, g4, b4]
          have hi : i = d.cache.length := by simp at hc; omega
          have hmm : keptW (d.cache.take i) ((marks d.cache.length keep).take i) = keptW d.cache (marks d.cache.length keep) := by
            have h1 : d.cache.take i = d.cache := by rw [hi, List.take_length]
            have h2 : (marks d.cache.length keep).take i = marks d.cache.length keep := List.take_of_length_le (by rw [marks_len]; omega)
            rw [h1, h2]
          have hd := done_spec d (keptW d.cache (marks d.cache.length keep)) (by omega) (by have := keptW_len (ws := d.cache) (ms := marks d.cache.length keep); omega) (fun w hw => right_has hr w (keptW_sub hw))
          have hcr : crashD d keep = doneD d (keptW d.cache (marks d.cache.length keep)) := by simp [crashD, hr]
          rw [hmm] at hx
          rcases hx with ⟨rfl, hx⟩ | ⟨g, rfl, g52, b52⟩
          · rw [hx] at hd hcr
            simp -implicitDefEqProofs only [↓aP, aQ, ↓reduceIte, Nat.reduceEqDiff, Nat.reduceAdd, Nat.reduceSub, Nat.reduceMul, Nat.reduceLT, Nat.reduceLeDiff, reduceCtorEq, Nat.reduceBEq, forall_const, implies_true, exists_const, ne_eq, Int.reduceAdd, Int.reduceSub, Int.reduceMul, Int.reduceBEq, Int.reduceEq, Int.reduceLT, Int.reduceLE, Int.reduceToNat, Int.reduceNeg, Int.reduceBNe, s8, s40, s38, s39, s5, g18, b18, s2, g2, b2, s4, g4, b4]
            refine askS hd (by simp [asim, tsim, encDk, simL, rL]) ?_
            simp -implicitDefEqProofs only [↓aP, aQ, ↓reduceIte, Nat.reduceEqDiff, Nat.reduceAdd, Nat.reduceSub, Nat.reduceMul, Nat.reduceLT, Nat.reduceLeDiff, reduceCtorEq, Nat.reduceBEq, forall_const, implies_true, exists_const, ne_eq, Int.reduceAdd, Int.reduceSub, Int.reduceMul, Int.reduceBEq, Int.reduceEq, Int.reduceLT, Int.reduceLE, Int.reduceToNat, Int.reduceNeg, Int.reduceBNe, s40, s38, s39, s5, g18, b18, s2, g2, b2, s4, g4, b4, encDk, hcr]
          · simp -implicitDefEqProofs only [↓aP, aQ, ↓reduceIte, Nat.reduceEqDiff, Nat.reduceAdd, Nat.reduceSub, Nat.reduceMul, Nat.reduceLT, Nat.reduceLeDiff, reduceCtorEq, Nat.reduceBEq, forall_const, implies_true, exists_const, ne_eq, Int.reduceAdd, Int.reduceSub, Int.reduceMul, Int.reduceBEq, Int.reduceEq, Int.reduceLT, Int.reduceLE, Int.reduceToNat, Int.reduceNeg, Int.reduceBNe, s8, s40, s38, s39, s5, g18, b18, s2, g2, b2, s4, g4, b4, g52, b52]
            refine ask hd ?_
            simp -implicitDefEqProofs only [↓aP, aQ, ↓reduceIte, Nat.reduceEqDiff, Nat.reduceAdd, Nat.reduceSub, Nat.reduceMul, Nat.reduceLT, Nat.reduceLeDiff, reduceCtorEq, Nat.reduceBEq, forall_const, implies_true, exists_const, ne_eq, Int.reduceAdd, Int.reduceSub, Int.reduceMul, Int.reduceBEq, Int.reduceEq, Int.reduceLT, Int.reduceLE, Int.reduceToNat, Int.reduceNeg, Int.reduceBNe, s40, s38, s39, s5, g18, b18, s2, g2, b2, s4, g4, b4, g52, b52, encDk, hcr]
end Go.Proofs.Ytfmbfgoofiojcaa
