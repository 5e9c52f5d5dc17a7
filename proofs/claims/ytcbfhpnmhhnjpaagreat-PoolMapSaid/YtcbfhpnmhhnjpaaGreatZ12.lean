import Derived.Test.YtcbfhpnmhhnjpaaGreatZ11
import Derived.Shelf.RegionOpenPlain
import Derived.ProofKit
set_option linter.unusedVariables false
set_option linter.unusedSimpArgs false
namespace Go.Proofs.YtcbfhpnmhhnjpaaGreat
structure Wr where
  at_ : Int
  data : ByteArray
structure Dk where
  sectors : List ByteArray
  cache : List Wr
def hasB (d : Dk) (at_ : Int) : Bool := decide (0 ≤ at_) && decide (at_ < d.sectors.length)
def fitsB (d : Dk) (w : Wr) : Bool := hasB d w.at_ && ((w.data.size : Int) == 16)
def len16 (s : ByteArray) : Bool := ((s.size : Int) == 16)
def rightB (d : Dk) : Bool := decide (1 ≤ d.sectors.length ∧ d.sectors.length ≤ 64 ∧ d.cache.length ≤ 200) && d.sectors.all len16 && d.cache.all (fitsB d)
def put1 (s : List ByteArray) (w : Wr) : List ByteArray := s.set w.at_.toNat w.data
def doneS (s : List ByteArray) (ws : List Wr) : List ByteArray := ws.foldl put1 s
def doneD (d : Dk) (ws : List Wr) : Dk := ⟨doneS d.sectors ws, []⟩
theorem doneS_len (s : List ByteArray) (ws : List Wr) : (doneS s ws).length = s.length := by
  induction ws generalizing s with
  | nil => rfl
  | cons w ws ih => simp only [doneS, List.foldl_cons] at ih ⊢; rw [ih]; simp [put1]
theorem doneS_snoc (s : List ByteArray) (ws : List Wr) (w : Wr) : doneS s (ws ++ [w]) = put1 (doneS s ws) w := by simp [doneS]
theorem right_len {d : Dk} (h : rightB d = true) : 1 ≤ d.sectors.length ∧ d.sectors.length ≤ 64 ∧ d.cache.length ≤ 200 := by
  simp only [rightB, Bool.and_eq_true, decide_eq_true_eq] at h
  exact h.1.1
theorem right_fits {d : Dk} (h : rightB d = true) : ∀ w ∈ d.cache, fitsB d w = true := by
  simp only [rightB, Bool.and_eq_true, List.all_eq_true] at h
  exact h.2
theorem right_has {d : Dk} (h : rightB d = true) : ∀ w ∈ d.cache, hasB d w.at_ = true := fun w hw => by
  have := right_fits h w hw
  simp only [fitsB, Bool.and_eq_true] at this
  exact this.1
def syncD (d : Dk) : Dk := if rightB d then doneD d d.cache else d
def putD (d : Dk) (w : Wr) : Dk × Int := if !rightB d || !fitsB d w then (d, 1) else if d.cache.length = 200 then (d, 7) else ({ d with cache := d.cache ++ [w] }, 0)
def mark (m : List Bool) (k : Int) : List Bool := if 0 ≤ k ∧ k < m.length then m.set k.toNat true else m
def lookB (zs : List Wr) (a : Int) : Option Wr := zs.reverse.find? (fun w => w.at_ == a)
def readD (d : Dk) (a : Int) : ByteArray × Int :=
  if !rightB d || !hasB d a then (ByteArray.empty, 1) else match lookB d.cache a with
    | some w => (w.data, 0)
    | none => (d.sectors[a.toNat]?.getD ByteArray.empty, 0)
def noughts : ByteArray := ⟨#[0, 0, 0, 0, 0, 0, 0, 0, 0, 0, 0, 0, 0, 0, 0, 0]⟩
def newD (n : Int) : Dk × Int := if n < 1 ∨ 64 < n then (⟨[], []⟩, 1) else (⟨List.replicate n.toNat noughts, []⟩, 0)
theorem lookB_nil (a : Int) : lookB [] a = none := rfl
theorem lookB_snoc (ws : List Wr) (w : Wr) (a : Int) : lookB (ws ++ [w]) a = if w.at_ = a then some w else lookB ws a := by
  unfold lookB
  rw [List.reverse_append, List.reverse_singleton, List.singleton_append, List.find?_cons]
  by_cases h : w.at_ = a
  · simp [h]
  · have : (w.at_ == a) = false := by simpa using h
    rw [this, if_neg h]
theorem lookB_mem {ws : List Wr} {a : Int} {w : Wr} (h : lookB ws a = some w) : w ∈ ws ∧ w.at_ = a := by
  unfold lookB at h
  have h1 := List.mem_of_find?_eq_some h
  have h2 := List.find?_some h
  exact ⟨by simpa using h1, by simpa using h2⟩
theorem doneS_at (s : List ByteArray) (a : Nat) (ha : a < s.length) : ∀ (n : Nat) (ws : List Wr), ws.length = n → (∀ w ∈ ws, 0 ≤ w.at_) → (doneS s ws)[a]? = match lookB ws a with
    | some w => some w.data
    | none => s[a]?
  | 0, ws, hn, h => by
    have : ws = [] := List.length_eq_zero_iff.1 hn
    subst this
    rfl
  | n + 1, ws, hn, h => by
    have hne : ws ≠ [] := by intro e; rw [e] at hn; simp at hn
    have e := List.dropLast_concat_getLast hne
    generalize ws.dropLast = us at e
    generalize ws.getLast hne = w at e
    subst e
    have hu : us.length = n := by simpa using hn
    have ih := doneS_at s a ha n us hu (fun x hx => h x (List.mem_append_left _ hx))
    have hw := h w (by simp)
    rw [doneS_snoc, put1, lookB_snoc]
    by_cases hwa : w.at_ = (a : Int)
    · have : w.at_.toNat = a := by omega
      rw [if_pos hwa, this, List.getElem?_set_self (by rw [doneS_len]; exact ha)]
    · have : w.at_.toNat ≠ a := by omega
      rw [if_neg hwa, List.getElem?_set_ne this, ih]
theorem fits_has {d : Dk} {w : Wr} (h : fitsB d w = true) : (0 ≤ w.at_ ∧ w.at_ < d.sectors.length) ∧ ((w.data.size : Int) = 16) := by
  simpa [fitsB, hasB] using h
theorem mem_set_cases {α : Type} {l : List α} {i : Nat} {x y : α} (h : y ∈ l.set i x) : y ∈ l ∨ y = x := by
  rcases List.mem_or_eq_of_mem_set h with h | h
  · exact .inl h
  · exact .inr h
theorem doneS_16 {d : Dk} (hs : d.sectors.all len16 = true) : ∀ (ws : List Wr), (∀ w ∈ ws, fitsB d w = true) → ∀ s, s.all len16 = true → (doneS s ws).all len16 = true
  | [], _, s, h => h
  | w :: ws, hw, s, h => by
    have h1 : (put1 s w).all len16 = true := by
      rw [List.all_eq_true] at h ⊢
      intro x hx
      rcases mem_set_cases hx with hx | rfl
      · exact h x hx
      · have := (fits_has (hw w (by simp))).2
        simp [len16, this]
    exact doneS_16 hs ws (fun x hx => hw x (by simp [hx])) (put1 s w) h1
theorem right_16 {d : Dk} (h : rightB d = true) : d.sectors.all len16 = true := by
  simp only [rightB, Bool.and_eq_true] at h
  exact h.1.2
theorem right_done {d : Dk} (h : rightB d = true) (ws : List Wr) (hw : ∀ w ∈ ws, fitsB d w = true) : rightB (doneD d ws) = true := by
  have h1 := right_len h
  have h2 := doneS_16 (right_16 h) ws hw d.sectors (right_16 h)
  have h3 := doneS_len d.sectors ws
  simp only [rightB, doneD, h2, h3, List.length_nil, List.all_nil, Bool.and_true, decide_eq_true_eq]
  omega
theorem has_done (d : Dk) (ws : List Wr) (a : Int) : hasB (doneD d ws) a = hasB d a := by simp [hasB, doneD, doneS_len]
theorem read_ok {d : Dk} {a : Int} (h : rightB d = true) (hh : hasB d a = true) : readD d a = match lookB d.cache a with
    | some w => (w.data, 0)
    | none => (d.sectors[a.toNat]?.getD ByteArray.empty, 0) := by unfold readD; rw [h, hh]; rfl
theorem has_nat {d : Dk} {a : Int} (hh : hasB d a = true) : ∃ i : Nat, a = i ∧ i < d.sectors.length := by
  simp only [hasB, Bool.and_eq_true, decide_eq_true_eq] at hh
  exact ⟨a.toNat, by omega, by omega⟩
theorem read_sync {d : Dk} {a : Int} (h : rightB d = true) (hh : hasB d a = true) : readD (syncD d) a = readD d a := by
  have hs : syncD d = doneD d d.cache := by simp [syncD, h]
  obtain ⟨i, rfl, hi⟩ := has_nat hh
  rw [hs, read_ok (right_done h d.cache (right_fits h)) (by rw [has_done]; exact hh), read_ok h hh]
  have hl : lookB (doneD d d.cache).cache i = none := rfl
  rw [hl]
  have := doneS_at d.sectors i hi d.cache.length d.cache rfl (fun w hw => ((fits_has (right_fits h w hw)).1).1)
  simp only [doneD, Int.toNat_natCast, this]
  cases lookB d.cache i <;> rfl
theorem put_ok {d : Dk} {w : Wr} (h : rightB d = true) (hf : fitsB d w = true) (hl : d.cache.length ≠ 200) : putD d w = (⟨d.sectors, d.cache ++ [w]⟩, 0) := by simp [putD, h, hf, hl]
end Go.Proofs.YtcbfhpnmhhnjpaaGreat

namespace Go.Proofs.YtcbfhpnmhhnjpaaGreat
open Go.RowKit
def encS (s : ByteArray) : List SC := [.pv (.string s)]
def encI (s : Int) : List SC := [.pv (.int .i64 s)]
def encWr (w : Wr) : List SC := [.pv (.int .i64 w.at_), .pv (.string w.data)]
def encDk (d : Dk) : List SC := [.sl 1 (d.sectors.map encS), .sl 2 (d.cache.map encWr)]
theorem mixed : Tryz.prog.follows .mixedOrders = true := by kernel_rfl
theorem has_spec (d : Dk) (a : Int) : Spec Tryz.prog 131 [.agg (encDk d), .c (.pv (.int .i64 a))] (.val (.c (.pv (.bool (hasB d a))))) := by
  refine spec_val mixed fn131 (by simp) ?_
  unfold ac131 hasB
  simp -implicitDefEqProofs only [↓aP, aR, ↓reduceIte, reduceCtorEq, seval, encDk]
  cases h0 : decide (0 ≤ a)
  · simp -implicitDefEqProofs only [↓aP, aR, ↓reduceIte, reduceCtorEq, seval]
  · simp -implicitDefEqProofs only [↓aP, aR, ↓reduceIte, reduceCtorEq, seval]
theorem fits_spec (d : Dk) (w : Wr) : Spec Tryz.prog 94 [.agg (encDk d), .agg (encWr w)] (.val (.c (.pv (.bool (fitsB d w))))) := by
  refine spec_val mixed fn94 (by simp) ?_
  unfold ac94 fitsB
  simp -implicitDefEqProofs only [↓aP, aR, ↓reduceIte, reduceCtorEq, seval, encDk, encWr]
  refine ask (has_spec d w.at_) ?_
  simp -implicitDefEqProofs only [↓aP, aR, ↓reduceIte, reduceCtorEq, seval]
  cases h0 : hasB d w.at_
  · simp -implicitDefEqProofs only [↓aP, aR, ↓reduceIte, reduceCtorEq, seval]
  · simp -implicitDefEqProofs only [↓aP, aR, ↓reduceIte, reduceCtorEq, seval]
theorem cloneW (l : List (List SC)) (hl : l.length * 24 ≤ 2 ^ 47) : Spec Tryz.prog 95 [.c (.sl 2 l)] (.row 120 2 l) := by
  refine Spec.tag ?_ ?_
  · intro h
    subst h
    refine spec_row mixed fn95 (by simp) ?_
    unfold ac95
    simp -implicitDefEqProofs only [↓aP, aR, ↓reduceIte, reduceCtorEq, seval]
  · refine spec_row mixed fn95 (by simp) ?_
    unfold ac95
    simp -implicitDefEqProofs only [↓aP, aR, ↓reduceIte, reduceCtorEq, seval]
    refine ⟨?_, ?_⟩ <;> omega
theorem cloneS (l : List (List SC)) (hl : l.length * 16 ≤ 2 ^ 47) : Spec Tryz.prog 130 [.c (.sl 1 l)] (.row 9 1 l) := by
  refine Spec.tag ?_ ?_
  · intro h
    subst h
    refine spec_row mixed fn130 (by simp) ?_
    unfold ac130
    simp -implicitDefEqProofs only [↓aP, aR, ↓reduceIte, reduceCtorEq, seval]
  · refine spec_row mixed fn130 (by simp) ?_
    unfold ac130
    simp -implicitDefEqProofs only [↓aP, aR, ↓reduceIte, reduceCtorEq, seval]
    refine ⟨?_, ?_⟩ <;> omega
theorem right_spec (d : Dk) : Spec Tryz.prog 92 [.agg (encDk d)] (.val (.c (.pv (.bool (rightB d))))) := by
  refine spec_val mixed fn92 (by simp) ?_
  unfold ac92
  simp -implicitDefEqProofs only [↓aP, aR, ↓reduceIte, reduceCtorEq, seval, encDk]
  cases h0 : decide ((d.sectors.length : Int) < 1)
  case true =>
    simp -implicitDefEqProofs only [↓aP, aR, ↓reduceIte, reduceCtorEq, seval]
    have : d.sectors = [] := by simp at h0; exact List.eq_nil_of_length_eq_zero (by omega)
    simp [rightB, this]
  simp -implicitDefEqProofs only [↓aP, aR, ↓reduceIte, reduceCtorEq, seval]
  cases h1 : decide ((64 : Int) < d.sectors.length)
  case true =>
    simp -implicitDefEqProofs only [↓aP, aR, ↓reduceIte, reduceCtorEq, seval]
    have : 64 < d.sectors.length := by simp at h1; omega
    simp [rightB]; omega
  simp -implicitDefEqProofs only [↓aP, aR, ↓reduceIte, reduceCtorEq, seval]
  cases h2 : decide ((200 : Int) < d.cache.length)
  case true =>
    simp -implicitDefEqProofs only [↓aP, aR, ↓reduceIte, reduceCtorEq, seval]
    have : 200 < d.cache.length := by simp at h2; omega
    simp [rightB]; omega
  simp -implicitDefEqProofs only [↓aP, aR, ↓reduceIte, reduceCtorEq, seval]
  have hn : 1 ≤ d.sectors.length ∧ d.sectors.length ≤ 64 ∧ d.cache.length ≤ 200 := by simp at h0 h1 h2; omega
  refine loopA (fun m σ => ∃ i, i + m = d.sectors.length ∧ (∀ s ∈ d.sectors.take i, len16 s = true) ∧ σ.slot 26 = vI i ∧ σ.slot 24 = vL 1 (d.sectors.map encS) ∧ σ.slot 25 = vI d.sectors.length ∧ σ.slot 1 = .c (.ptr 1 1 0 0) ∧ σ.h.gen 1 = 1 ∧ σ.h.blk 1 = .box 38 2 [[.s (.sl 1 (d.sectors.map encS)), .s (.sl 2 (d.cache.map encWr))]]) d.sectors.length ?_ ?_
  · simp -implicitDefEqProofs only [↓aP, aR, ↓reduceIte, reduceCtorEq, seval]
    refine ⟨0, ?_⟩
    simp -implicitDefEqProofs only [↓aP, aR, ↓reduceIte, reduceCtorEq, seval]
    simp
  · rintro m σ ⟨i, him, hs, s26, s24, s25, s1, g1, b1⟩
    simp -implicitDefEqProofs only [↓aP, aR, ↓reduceIte, reduceCtorEq, seval, s26, s24, s25, s1, g1, b1]
    refine fork ?_ ?_ <;> intro hc
    · have hi : i < d.sectors.length := by simpa using hc
      simp -implicitDefEqProofs only [↓aP, aR, ↓reduceIte, reduceCtorEq, seval, s26, s24, s25, s1, g1, b1, askIdx_map, hi, encS]
      refine fork ?_ ?_ <;> intro hd
      · simp -implicitDefEqProofs only [↓aP, aR, ↓reduceIte, reduceCtorEq, seval]
        have : len16 d.sectors[i] = false := by simpa [len16] using hd
        have : d.sectors.all len16 = false := by simp only [List.all_eq_false]; exact ⟨_, List.getElem_mem hi, by simp [this]⟩
        simp [rightB, this]
      · simp -implicitDefEqProofs only [↓aP, aR, ↓reduceIte, reduceCtorEq, seval, s26, s24, s25, s1, g1, b1, wrapS (show i < 4611686018427387904 by omega)]
        refine ⟨m - 1, by omega, i + 1, ?_⟩
        refine ⟨by omega, ?_, rfl⟩
        rw [take_snoc hi]
        simp only [List.mem_append, List.mem_singleton]
        rintro s (h | rfl)
        · exact hs s h
        · simpa [len16] using hd
    · simp -implicitDefEqProofs only [↓aP, aR, ↓reduceIte, reduceCtorEq, seval, s26, s24, s25, s1, g1, b1]
      have hi : i = d.sectors.length := by simp at hc; omega
      have hall : d.sectors.all len16 = true := by rw [List.all_eq_true]; intro s h; exact hs s (by rw [hi, List.take_length]; exact h)
      refine loopA (fun m σ => ∃ i, i + m = d.cache.length ∧ (∀ s ∈ d.cache.take i, fitsB d s = true) ∧ σ.slot 37 = vI i ∧ σ.slot 35 = vL 2 (d.cache.map encWr) ∧ σ.slot 36 = vI d.cache.length ∧ σ.slot 1 = .c (.ptr 1 1 0 0) ∧ σ.h.gen 1 = 1 ∧ σ.h.blk 1 = .box 38 2 [[.s (.sl 1 (d.sectors.map encS)), .s (.sl 2 (d.cache.map encWr))]]) d.cache.length ?_ ?_
      · simp -implicitDefEqProofs only [↓aP, aR, ↓reduceIte, reduceCtorEq, seval, s1, g1, b1]
        refine ⟨0, ?_⟩
        simp -implicitDefEqProofs only [↓aP, aR, ↓reduceIte, reduceCtorEq, seval]
        simp
      · clear him hs s26 s24 s25 s1 g1 b1 hc
        rintro m σ ⟨i, him, hs, s37, s35, s36, s1, g1, b1⟩
        simp -implicitDefEqProofs only [↓aP, aR, ↓reduceIte, reduceCtorEq, seval, s37, s35, s36, s1, g1, b1]
        refine fork ?_ ?_ <;> intro hc
        · have hi : i < d.cache.length := by simpa using hc
          simp -implicitDefEqProofs only [↓aP, aR, ↓reduceIte, reduceCtorEq, seval, s37, s35, s36, s1, g1, b1, askIdx_map, hi, encWr]
          refine ask (fits_spec d d.cache[i]) ?_
          simp -implicitDefEqProofs only [↓aP, aR, ↓reduceIte, reduceCtorEq, seval]
          refine fork ?_ ?_ <;> intro hd
          · simp -implicitDefEqProofs only [↓aP, aR, ↓reduceIte, reduceCtorEq, seval]
            have : fitsB d d.cache[i] = false := by simpa using hd
            have : d.cache.all (fitsB d) = false := by simp only [List.all_eq_false]; exact ⟨_, List.getElem_mem hi, by simp [this]⟩
            simp [rightB, this]
          · simp -implicitDefEqProofs only [↓aP, aR, ↓reduceIte, reduceCtorEq, seval, s37, s35, s36, s1, g1, b1, wrapS (show i < 4611686018427387904 by omega)]
            refine ⟨m - 1, by omega, i + 1, ?_⟩
            refine ⟨by omega, ?_, rfl⟩
            rw [take_snoc hi]
            simp only [List.mem_append, List.mem_singleton]
            rintro s (h | rfl)
            · exact hs s h
            · simpa using hd
        · simp -implicitDefEqProofs only [↓aP, aR, ↓reduceIte, reduceCtorEq, seval, s37, s35, s36, s1, g1, b1]
          have hi : i = d.cache.length := by simp at hc; omega
          have hall2 : d.cache.all (fitsB d) = true := by rw [List.all_eq_true]; intro s h; exact hs s (by rw [hi, List.take_length]; exact h)
          simp [rightB, hall, hall2, hn]
end Go.Proofs.YtcbfhpnmhhnjpaaGreat

namespace Go.Proofs.YtcbfhpnmhhnjpaaGreat
open Go.RowKit
def encIt (x : It) : List SC := [.pv (.int .i64 x.page), .pv (.int .i64 x.since)]
theorem cloneIt (l : List (List SC)) (hl : l.length * 16 ≤ 2 ^ 47) : Spec Tryz.prog 192 [.c (.sl 2 l)] (.row 64 2 l) := by
  refine Spec.tag ?_ ?_
  · intro h
    subst h
    refine spec_row mixed fn192 (by simp) ?_
    unfold ac192
    simp -implicitDefEqProofs only [↓aP, aR, ↓reduceIte, reduceCtorEq, seval]
  · refine spec_row mixed fn192 (by simp) ?_
    unfold ac192
    simp -implicitDefEqProofs only [↓aP, aR, ↓reduceIte, reduceCtorEq, seval]
    refine ⟨?_, ?_⟩ <;> omega
theorem infoIt : (Tryz.prog.info? 64).map (fun i => (i.zero, i.size, i.bytes)) = some (some (.agg #[.int .i64 0, .int .i64 0]), 2, 16) := by kernel_rfl
set_option maxRecDepth 100000 in
set_option maxHeartbeats 1600000 in
theorem delIt_walk (g cap k n : Nat) (cur : Array Value) (us : List Value) (w : World) (hb : Blk w g 64 cur) (h5 : cur.size = cap * 2) (h4 : cap ≤ maxLen) (hnc : n + 1 ≤ cap) (hkn : k ≤ n) (hn40 : n ≤ 1000000) (h6 : cur.toList.take ((n + 1) * 2) = us) (h1 : ∀ u ∈ us, u.oneCell' = true) :
    Calls Tryz.prog 194 #[.slice (some ⟨g, 0, none⟩) (n + 1) cap, .int .i64 k, .int .i64 ((k : Int) + 1)] w fun e w' => e = .returned (.slice (some ⟨g, 0, none⟩) n cap) ∧ ∃ cur', Blk w' g 64 cur' ∧ cur'.size = cap * 2 ∧ cur'.toList.take (n * 2) = us.take (k * 2) ++ us.drop ((k + 1) * 2) ∧ Kept g w w' := by
  unfold maxLen at h4
  have hul : us.length = (n + 1) * 2 := by rw [← h6, List.length_take, Array.length_toList, h5]; omega
  obtain ⟨ad, had, hads⟩ : ∃ ad : Addr, (if cap = k + 1 then some (⟨g, 0, none⟩ : Addr) else some ⟨g, (k + 1) * 2, none⟩) = some ad ∧ ∀ j u, (us.drop ((k + 1) * 2))[j]? = some u → w.drew.cell? (ad.add j) = some u := by
    by_cases hck : cap = k + 1
    · refine ⟨⟨g, 0, none⟩, by rw [if_pos hck], ?_⟩
      intro j u hju
      rw [List.drop_eq_nil_of_le (by rw [hul]; omega)] at hju
      simp at hju
    · refine ⟨⟨g, (k + 1) * 2, none⟩, by rw [if_neg hck], ?_⟩
      intro j u hju
      rw [List.getElem?_drop, ← h6, List.getElem?_take] at hju
      split at hju
      · rw [add_off, hb.drew.cell]
        simpa using hju
      · simp at hju
  have hld : (us.drop ((k + 1) * 2)).length = (n - k) * 2 := by rw [List.length_drop, hul]; omega
  have HLD := Lib.hid hld
  have HADS := Lib.hid hads
  have HB := Lib.hid hb.drew
  have H6 := Lib.hid h6
  have H1 := Lib.hid (show ∀ u ∈ us.drop ((k + 1) * 2), u.oneCell' = true from fun u hu => h1 u (List.mem_of_mem_drop hu))
  obtain ⟨i0, hi, hz0, hz1, hz2⟩ := info_parts infoIt
  have HI := Lib.hid (And.intro hi (And.intro hz0 (And.intro hz1 hz2)))
  have hfit : k * 2 + (us.drop ((k + 1) * 2)).length ≤ cur.size := by rw [hld, h5]; omega
  have HF := Lib.hid hfit
  have hbnd : (k : Int) ≤ (n : Int) ∧ (n : Int) + 1 ≤ (cap : Int) ∧ (cap : Int) ≤ 9223372036854775807 := by omega
  obtain ⟨hb1, hb2, hb3⟩ := hbnd
  have hk0 : (0 : Int) ≤ (k : Int) := by omega
  have hk1 : (k : Int) + 1 ≤ (n : Int) + 1 := by omega
  have hk2 : (0 : Int) ≤ (k : Int) + 1 := by omega
  have hk3 : ((k : Int) + 1).toNat = k + 1 := by omega
  have hk4 : (k : Int) ≤ (k : Int) + 1 := by omega
  have hk5 : ((k : Int) == (k : Int) + 1) = false := by rw [beq_eq_false_iff_ne]; omega
  have hkc : k + 1 ≤ cap := by omega
  have hkcap : k ≤ cap := by omega
  have hnk : n + 1 - (k + 1) = n - k := by omega
  have H5 := Lib.hid h5
  clear hb hads hld h6 hi hz0 hz1 hz2 hfit h5 h1 hul
  go_enter Tryz.func194, Tryz.ntmps194
  go_wp2_with fail
  go_region_law (first
    | (refine Del.step_append_room w.drew (by rfl) _ _ 32 (by rfl) 64 i0 2 Tryz.underlying32 HI.out.1 HI.out.2.2.1 g k cap cur HB.out (by rfl) ad (n - k) (cap - (k + 1)) (us.drop ((k + 1) * 2)) (by first | rfl | exact congrArg (fun p => Value.slice p (n - k) (cap - (k + 1))) had | exact congrArg (fun p => Value.slice p (n - k) (cap - (k + 1))) (by have h := had; simp only [Nat.mul_one] at h; exact h)) HLD.out HADS.out H1.out n (by omega) (by omega) HF.out ?_; intro w6 hblk6 hbel6))
  have hn1 : (0 : Int) ≤ (n : Int) + 1 := by omega
  have hn2 : ((n : Int) + 1).toNat = n + 1 := by omega
  have hn3 : (n : Int) ≤ (n : Int) + 1 := by omega
  have hn4 : ¬ cap = n := by omega
  have hn5 : n ≤ cap := by omega
  have hn6 : n + 1 - n = 1 := by omega
  have HB6 := Lib.hid hblk6
  have HBE := Lib.hid hbel6
  clear hblk6 hbel6
  obtain ⟨w7, hrun7, hb7, hbel7⟩ := Del.run_clear (P := Tryz.prog) w6 32 0 64 i0 (.agg #[.int .i64 0, .int .i64 0]) Tryz.underlying32 HI.out.1 HI.out.2.1 (by decide) g (n * 2) 1 (cap - n) _ HB6.out (by decide) (Del.wipe_fit (e := 2) rfl HLD.out H5.out hkn hnc)
  try simp only [Nat.mul_one] at hrun7
  have hfin : ∃ cur', Blk w7 g 64 cur' ∧ cur'.size = cap * 2 ∧ cur'.toList.take (n * 2) = us.take (k * 2) ++ us.drop ((k + 1) * 2) ∧ Kept g w w7 :=
    ⟨_, hb7, Del.wipe_size (e := 2) rfl HLD.out H5.out hkn hnc, Del.wipe_cells (e := 2) rfl H5.out H6.out hkn hnc, ((Del.keptDrew g w).trans HBE.out).trans hbel7⟩
  have HFIN := Lib.hid hfin
  clear hb7 hbel7 hfin
  go_wp2_with fail
  go_ret
  exact ⟨rfl, HFIN.out⟩
theorem delIt_spec (els : List (List SC)) (k : Nat) (hk : k < els.length) (hl : els.length ≤ 1000000) : SpecX Tryz.prog 194 ⟨true, 64, 2, els, none, els.eraseIdx k, none⟩ [rI k, rI ((k : Int) + 1)] := by
  refine ⟨Nat.succ_pos _, ?_, fun h => by simp only at h; subst h; simp at hk⟩
  intro w O b cap us hO hX hus
  obtain ⟨he, cur, hB, hr, hc⟩ := hX
  obtain ⟨hc1, hc2, hc3⟩ := hc rfl
  simp only at he hB hr hc1 hc3
  obtain ⟨u1, us1, rfl, hu1, hus1⟩ := hus.cons_inv
  obtain ⟨u2, us2, rfl, hu2, hus2⟩ := hus1.cons_inv
  obtain rfl := hus2.nil_inv
  obtain rfl := RepS.flat hu1
  obtain rfl := RepS.flat hu2
  obtain ⟨n, hn⟩ : ∃ n, els.length = n + 1 := ⟨els.length - 1, by omega⟩
  have hfl := flatten_len els he
  rw [hn] at hc1 hfl
  have hw := delIt_walk b cap k n cur _ w hB hc3 hc2 hc1 (by omega) (by omega) rfl (fun u hu => by
    rw [← hfl] at hu
    obtain ⟨i, hi, rfl⟩ := List.mem_iff_getElem.1 hu
    exact (hr.2 i (by rw [hr.1]; exact hi) hi).one)
  unfold XR.val
  simp only [hn]
  refine hw.mono ?_
  rintro ex w' ⟨rfl, cur', h1, h2, h3, h4⟩
  have hlen : (els.eraseIdx k).length = n := by rw [List.length_eraseIdx, if_pos hk, hn]; rfl
  refine ⟨_, rfl, b, cap, by rw [hlen], ⟨fun x hx => he x (List.mem_of_mem_eraseIdx hx), cur', h1, ?_, fun _ => ⟨by rw [hlen]; omega, hc2, h2⟩⟩, .inl ⟨rfl, h4⟩⟩
  have hfe := Del.flatten_erase els he k hk
  have hfl2 : (els.eraseIdx k).flatten.length = n * 2 := by
    rw [flatten_len _ (fun x hx => he x (List.mem_of_mem_eraseIdx hx)), hlen]
  rw [hfl2, h3, hfe, ← hfl]
  exact ((hr.take _).append (hr.drop _)).mono (fun x u hx => hx.mono h4.1 (fun k hk hnk => ⟨h4.2.2.2.2 k hk (fun e => hnk (.inr e)), hnk⟩))
theorem dIsPage_spec (p : Int) : Spec Tryz.prog 87 [rI p] (.val (rB (decide (1 ≤ p ∧ p ≤ 16)))) := by
  refine spec_val mixed fn87 (by simp) ?_
  unfold ac87
  simp -implicitDefEqProofs only [↓aP, aR, ↓reduceIte, reduceCtorEq, seval]
  repeat' ((first | ((first | with_reducible refine fork ?_ ?_ | with_reducible refine gcase ?_ ?_ | with_reducible refine gcaseD ?_ ?_) <;> intro hc <;> (have hp := hc) <;> (try simp only [aB] at hp)) | (have hc := True.intro; first | with_reducible refine askM (by omega) ?_ | with_reducible refine And.intro (by first | omega | decide +kernel) ?_ | fail)) <;> (try simp -implicitDefEqProofs only [↓aP, aR, ↓reduceIte, reduceCtorEq, seval, hc]))
  all_goals first | (rw [eq_comm, decide_eq_decide]; omega) | (symm; simp only [decide_eq_true_eq, decide_eq_false_iff_not]; omega)
theorem dplace1_spec (p : Int) (x : It) : Spec Tryz.prog 127 [.agg (encIt x), .c (.sptr [.pv (.int .i64 p)])] (.val (rB (x.page == p))) := by
  refine spec_val mixed fn127 (by simp) ?_
  unfold ac127
  simp -implicitDefEqProofs only [↓aP, aR, ↓reduceIte, reduceCtorEq, seval, encIt]
def fst? {α : Type} (p : α → Bool) (l : List α) : Int := match l.findIdx? p with
  | some i => i
  | none => -1
theorem fst_none {α : Type} {p : α → Bool} {l : List α} (h : ∀ x ∈ l, p x = false) : fst? p l = -1 := by
  unfold fst?
  rw [List.findIdx?_eq_none_iff.2 (fun x hx => by simpa using h x hx)]
theorem fst_at {α : Type} {p : α → Bool} {l : List α} {k : Nat} (hk : k < l.length) (h : p l[k] = true) (hno : ∀ x ∈ l.take k, p x = false) : fst? p l = k := by
  unfold fst?
  rw [show l.findIdx? p = some k by
    rw [List.findIdx?_eq_some_iff_getElem]
    exact ⟨hk, h, fun j hj => by simpa using hno _ (List.mem_take_iff_getElem.2 ⟨j, by omega, rfl⟩)⟩]
theorem idxIt_spec (l : List It) (p : It → Bool) (g : Nat) (caps : List SC) (hg : callable Tryz.prog g = true) (hp : ∀ x, Spec Tryz.prog g (.agg (encIt x) :: caps.map TV.c) (.val (rB (p x)))) (hl : l.length < 4611686018427387904) :
    Spec Tryz.prog 126 [rL 2 (l.map encIt), .c (.fn g caps)] (.val (rI (fst? p l))) := by
  refine spec_val mixed fn126 (by simp) ?_
  unfold ac126
  simp -implicitDefEqProofs only [↓aP, aR, ↓reduceIte, reduceCtorEq, seval]
  refine rangeB l.length (fun i σ => (∀ x ∈ l.take i, p x = false) ∧ σ.slot 0 = vL 2 (l.map encIt) ∧ σ.slot 1 = .c (.s (.fn g caps)) ∧ σ.slot 7 = vI l.length ∧ σ.slot 8 = vI i) ?_ ?_ ?_
  · simp -implicitDefEqProofs only [↓aP, aR, ↓reduceIte, reduceCtorEq, seval]
    simp
  · rintro i m σ him hi hlt ⟨hno, s0, s1, s7, s8⟩
    simp -implicitDefEqProofs only [↓aP, aR, ↓reduceIte, reduceCtorEq, seval, hlt, s0, s1, s7, s8, askIdx_map, hi, hg, encIt]
    refine askV (hp l[i]) ?_
    simp -implicitDefEqProofs only [↓aP, aR, ↓reduceIte, reduceCtorEq, seval]
    refine fork ?_ ?_ <;> intro hc
    · simp -implicitDefEqProofs only [↓aP, aR, ↓reduceIte, reduceCtorEq, seval, fst_at hi hc hno]
    · simp -implicitDefEqProofs only [↓aP, aR, ↓reduceIte, reduceCtorEq, seval, s0, s1, s7, s8, wrapS (show i < 4611686018427387904 by omega)]
      refine nextR hi him ?_
      simp -implicitDefEqProofs only [↓aP, aR, ↓reduceIte, reduceCtorEq, seval, s0, s1, s7, s8]
      rw [take_snoc hi]
      intro x hx
      rcases List.mem_append.1 hx with h | h
      · exact hno x h
      · rw [List.mem_singleton.1 h]; exact hc
  · rintro m σ hlt ⟨hno, s0, s1, s7, s8⟩
    rw [List.take_length] at hno
    simp -implicitDefEqProofs only [↓aP, aR, ↓reduceIte, reduceCtorEq, seval, hlt, s0, s1, s7, s8, fst_none hno]
theorem dplace_spec (l : List It) (p : Int) (hl : l.length < 4611686018427387904) : Spec Tryz.prog 88 [rL 2 (l.map encIt), rI p] (.val (rI (Dy.at' l p))) := by
  refine spec_val mixed fn88 (by simp) ?_
  unfold ac88
  simp -implicitDefEqProofs only [↓aP, aR, ↓reduceIte, reduceCtorEq, seval]
  refine ask (idxIt_spec l (fun x => x.page == p) 127 [.sptr [.pv (.int .i64 p)]] (by kernel_rfl) (fun x => dplace1_spec p x) hl) ?_
  simp -implicitDefEqProofs only [↓aP, aR, ↓reduceIte, reduceCtorEq, seval]
  rfl
end Go.Proofs.YtcbfhpnmhhnjpaaGreat

namespace Go.Proofs.YtcbfhpnmhhnjpaaGreat
open Go.RowKit Dy
theorem dRight_spec (l : List It) (hl : l.length < 4611686018427387904) : Spec Tryz.prog 45 [rL 2 (l.map encIt)] (.val (rB (right l))) := by
  refine spec_val mixed fn45 (by simp) ?_
  unfold ac45
  simp -implicitDefEqProofs only [↓aP, aR, ↓reduceIte, reduceCtorEq, seval]
  refine rangeB l.length (fun i σ => right (l.take i) = true ∧ σ.slot 3 = vI (last (l.take i)) ∧ σ.slot 0 = vL 2 (l.map encIt) ∧ σ.slot 6 = vL 2 (l.map encIt) ∧ σ.slot 7 = vI l.length ∧ σ.slot 8 = vI i) ?_ ?_ ?_
  · simp -implicitDefEqProofs only [↓aP, aR, ↓reduceIte, reduceCtorEq, seval]
    exact ⟨rfl, rfl⟩
  · rintro i m σ him hi hlt ⟨hr, s3, s0, s6, s7, s8⟩
    have hg := good_eq hi
    have hb := bad_of (l := l) hi
    have hs := right_step hi
    have hla := last_take hi
    simp -implicitDefEqProofs only [↓aP, aR, ↓reduceIte, reduceCtorEq, seval, hlt, s3, s0, s6, s7, s8, askIdx_map, hi, encIt]
    repeat' ((first | ((first | with_reducible refine fork ?_ ?_ | with_reducible refine gcase ?_ ?_ | with_reducible refine gcaseD ?_ ?_) <;> intro hc <;> (have hp := hc) <;> (try simp only [aB] at hp)) | (have hc := True.intro; first | with_reducible refine askM (by omega) ?_ | with_reducible refine And.intro (by first | omega | decide +kernel) ?_ | refine ask (dIsPage_spec _) ?_ | refine ask (dplace_spec l _ hl) ?_ | fail)) <;> (try simp -implicitDefEqProofs only [↓aP, aR, ↓reduceIte, reduceCtorEq, seval, hc, s3, s0, s6, s7, s8, encIt, wrapS (show i < 4611686018427387904 by omega)]))
    all_goals first
      | (refine nextR hi him ?_
         have hgt : good (l.take i) l[i] = true := by rw [hg]; simp_all
         simp -implicitDefEqProofs only [↓aP, aR, ↓reduceIte, reduceCtorEq, seval, s0, s6, s7, s8, hla, hs, hr, hgt])
      | (have hgf : good (l.take i) l[i] = false := by rw [hg]; simp_all; try omega
         rw [hb hgf])
  · rintro m σ hlt ⟨hr, s3, s0, s6, s7, s8⟩
    rw [List.take_length] at hr
    simp -implicitDefEqProofs only [↓aP, aR, ↓reduceIte, reduceCtorEq, seval, hlt, s3, s0, s6, s7, s8, hr]
theorem dy_len {l : List It} (h : right l = true) : l.length ≤ 16 := ((right_iff l).1 h).short
def markI (l : List It) (p now : Int) : List It × Int :=
  if right l = false ∨ p < 1 ∨ 16 < p ∨ now < 0 ∨ 2147483647 < now ∨ now < last l then (l, 1) else if 0 ≤ at' l p then (l, 0) else (l ++ [⟨p, now⟩], 0)
def encLs (x : List It × Int) : TV SC := .tup [(false, [.sl 2 (x.1.map encIt)]), (false, [.pv (.int .i64 x.2)])]
theorem last_get {l : List It} (h : 0 < l.length) : last l = (l[l.length - 1]'(by omega)).since := by
  unfold last
  rw [List.getLast?_eq_getElem?, List.getElem?_eq_getElem (by omega)]
theorem dMark_spec (l : List It) (p now : Int) (hl : l.length < 4611686018427387904) : Spec Tryz.prog 172 [rL 2 (l.map encIt), rI p, rI now] (.val (encLs (markI l p now))) := by
  refine spec_val mixed fn172 (by simp) ?_
  unfold ac172
  simp -implicitDefEqProofs only [↓aP, aR, ↓reduceIte, reduceCtorEq, seval, encLs]
  refine ask (dRight_spec l hl) ?_
  cases hr : right l
  · have e : markI l p now = (l, 1) := by unfold markI; rw [if_pos (.inl hr)]
    simp -implicitDefEqProofs only [↓aP, aR, ↓reduceIte, reduceCtorEq, seval, encLs, e]
  have h16 := dy_len hr
  have m1 : (p < 1 ∨ 16 < p ∨ now < 0 ∨ 2147483647 < now ∨ now < last l) → markI l p now = (l, 1) := fun h => by unfold markI; rw [if_pos (.inr h)]
  have m0 : ¬ (p < 1 ∨ 16 < p ∨ now < 0 ∨ 2147483647 < now ∨ now < last l) → markI l p now = if 0 ≤ at' l p then (l, 0) else (l ++ [⟨p, now⟩], 0) := fun h => by
    unfold markI; rw [if_neg (fun h2 => h2.elim (fun h3 => by simp [hr] at h3) h)]
  have m2 : ¬ (p < 1 ∨ 16 < p ∨ now < 0 ∨ 2147483647 < now ∨ now < last l) → 0 ≤ at' l p → markI l p now = (l, 0) := fun h h2 => by rw [m0 h, if_pos h2]
  have m3 : ¬ (p < 1 ∨ 16 < p ∨ now < 0 ∨ 2147483647 < now ∨ now < last l) → at' l p < 0 → markI l p now = (l ++ [⟨p, now⟩], 0) := fun h h2 => by rw [m0 h, if_neg (by omega)]
  simp -implicitDefEqProofs only [↓aP, aR, ↓reduceIte, reduceCtorEq, seval, encLs]
  by_cases h0 : 0 < l.length
  · have e1 := last_get h0
    have e2 : IntKind.i64.wrap ((l.length : Int) - 1) = ((l.length - 1 : Nat) : Int) := by rw [wrapI (by omega)]; omega
    have e3 : decide ((0 : Int) < (l.length : Int)) = true := by simp; omega
    repeat' ((first | ((first | with_reducible refine fork ?_ ?_ | with_reducible refine gcase ?_ ?_ | with_reducible refine gcaseD ?_ ?_) <;> intro hc <;> (have hp := hc) <;> (try simp only [aB] at hp)) | (have hc := True.intro; first | with_reducible refine askM (by omega) ?_ | with_reducible refine And.intro (by first | omega | decide +kernel) ?_ | refine ask (dIsPage_spec p) ?_ | refine ask (dplace_spec l p hl) ?_ | refine ask (cloneIt _ (by simp; omega)) ?_ | fail)) <;> (try simp -implicitDefEqProofs only [↓aP, aR, ↓reduceIte, reduceCtorEq, seval, hc, encLs, e2, e3, encIt]))
    all_goals first | (rw [m1 (by omega)]; simp; done) | (rw [m2 (by omega) (by omega)]; simp; done) | (rw [m3 (by omega) (by omega)]; simp [encIt]; done)
  · have e0 : l = [] := List.eq_nil_of_length_eq_zero (by omega)
    subst e0
    have e1 : last [] = 0 := rfl
    repeat' ((first | ((first | with_reducible refine fork ?_ ?_ | with_reducible refine gcase ?_ ?_ | with_reducible refine gcaseD ?_ ?_) <;> intro hc <;> (have hp := hc) <;> (try simp only [aB] at hp)) | (have hc := True.intro; first | with_reducible refine askM (by omega) ?_ | with_reducible refine And.intro (by first | omega | decide +kernel) ?_ | refine ask (dIsPage_spec p) ?_ | refine ask (dplace_spec [] p hl) ?_ | refine ask (cloneIt _ (by simp)) ?_ | fail)) <;> (try simp -implicitDefEqProofs only [↓aP, aR, ↓reduceIte, reduceCtorEq, seval, hc, encLs, encIt]))
    all_goals first | (rw [m1 (by omega)]; simp; done) | (rw [m2 (by omega) (by omega)]; simp; done) | (rw [m3 (by omega) (by omega)]; simp [encIt]; done)
def cleanI (l : List It) (p : Int) : List It × Int := if right l = false then (l, 1) else if at' l p < 0 then (l, 3) else (l.eraseIdx (at' l p).toNat, 0)
theorem dClean_spec (l : List It) (p : Int) (hl : l.length < 4611686018427387904) : Spec Tryz.prog 174 [rL 2 (l.map encIt), rI p] (.val (encLs (cleanI l p))) := by
  refine spec_val mixed fn174 (by simp) ?_
  unfold ac174
  simp -implicitDefEqProofs only [↓aP, aR, ↓reduceIte, reduceCtorEq, seval, encLs]
  refine ask (dRight_spec l hl) ?_
  cases hr : right l
  · have e : cleanI l p = (l, 1) := by unfold cleanI; rw [if_pos hr]
    simp -implicitDefEqProofs only [↓aP, aR, ↓reduceIte, reduceCtorEq, seval, encLs, e]
  have h16 := dy_len hr
  simp -implicitDefEqProofs only [↓aP, aR, ↓reduceIte, reduceCtorEq, seval, encLs]
  refine ask (dplace_spec l p hl) ?_
  rcases at_cases l p with ⟨e, hno⟩ | ⟨k, hk, e, hkp, _⟩
  · have e1 : cleanI l p = (l, 3) := by unfold cleanI; rw [if_neg (by simp [hr]), if_pos (by omega)]
    simp -implicitDefEqProofs only [↓aP, aR, ↓reduceIte, reduceCtorEq, seval, encLs, e, e1]
    repeat' ((first | ((first | with_reducible refine fork ?_ ?_ | with_reducible refine gcase ?_ ?_ | with_reducible refine gcaseD ?_ ?_) <;> intro hc <;> (have hp := hc) <;> (try simp only [aB] at hp)) | (have hc := True.intro; first | with_reducible refine askM (by omega) ?_ | with_reducible refine And.intro (by first | omega | decide +kernel) ?_ | fail)) <;> (try simp -implicitDefEqProofs only [↓aP, aR, ↓reduceIte, reduceCtorEq, seval, hc]))
    all_goals simp_all
  · have e1 : cleanI l p = (l.eraseIdx k, 0) := by unfold cleanI; rw [if_neg (by simp [hr]), if_neg (by omega), e]; rfl
    have e2 : decide ((k : Int) < 0) = false := by simp
    have her : (l.map encIt).eraseIdx k = (l.eraseIdx k).map encIt := by simp [List.eraseIdx_eq_take_drop_succ, List.map_take, List.map_drop]
    simp -implicitDefEqProofs only [↓aP, aR, ↓reduceIte, reduceCtorEq, seval, encLs, e, e1, e2]
    refine ask (cloneIt _ (by simp; omega)) ?_
    simp -implicitDefEqProofs only [↓aP, aR, ↓reduceIte, reduceCtorEq, seval, wrapI (show -9223372036854775808 ≤ (k : Int) + 1 ∧ (k : Int) + 1 ≤ 9223372036854775807 by omega)]
    refine askX2 (delIt_spec (l.map encIt) k (by simpa using hk) (by simp; omega)) (by simp -implicitDefEqProofs only [↓aP, aR, ↓reduceIte, reduceCtorEq, seval]) ?_
    simp -implicitDefEqProofs only [↓aP, aR, ↓reduceIte, reduceCtorEq, seval, her]
def sinceI (l : List It) (p : Int) : Int × Bool := if right l = true ∧ 0 ≤ at' l p then (sinceOf l p, true) else (0, false)
theorem dSince_spec (l : List It) (p : Int) (hl : l.length < 4611686018427387904) : Spec Tryz.prog 123 [rL 2 (l.map encIt), rI p] (.val (.tup [(false, [.pv (.int .i64 (sinceI l p).1)]), (false, [.pv (.bool (sinceI l p).2)])])) := by
  refine spec_val mixed fn123 (by simp) ?_
  unfold ac123
  simp -implicitDefEqProofs only [↓aP, aR, ↓reduceIte, reduceCtorEq, seval]
  refine ask (dRight_spec l hl) ?_
  cases hr : right l
  · have e : sinceI l p = (0, false) := by unfold sinceI; rw [if_neg (by simp [hr])]
    simp -implicitDefEqProofs only [↓aP, aR, ↓reduceIte, reduceCtorEq, seval, e]
  simp -implicitDefEqProofs only [↓aP, aR, ↓reduceIte, reduceCtorEq, seval]
  refine ask (dplace_spec l p hl) ?_
  rcases at_cases l p with ⟨e, hno⟩ | ⟨k, hk, e, hkp, _⟩
  · have e1 : sinceI l p = (0, false) := by unfold sinceI; rw [if_neg (by omega)]
    simp -implicitDefEqProofs only [↓aP, aR, ↓reduceIte, reduceCtorEq, seval, e, e1]
    repeat' ((first | ((first | with_reducible refine fork ?_ ?_ | with_reducible refine gcase ?_ ?_ | with_reducible refine gcaseD ?_ ?_) <;> intro hc <;> (have hp := hc) <;> (try simp only [aB] at hp)) | (have hc := True.intro; first | with_reducible refine askM (by omega) ?_ | with_reducible refine And.intro (by first | omega | decide +kernel) ?_ | fail)) <;> (try simp -implicitDefEqProofs only [↓aP, aR, ↓reduceIte, reduceCtorEq, seval, hc]))
    all_goals simp_all
  · have e1 : sinceI l p = (l[k].since, true) := by unfold sinceI; rw [if_pos ⟨hr, by omega⟩, sinceOf_at hk e]
    have e2 : decide ((k : Int) < 0) = false := by simp
    simp -implicitDefEqProofs only [↓aP, aR, ↓reduceIte, reduceCtorEq, seval, e, e1, e2, askIdx_map, hk, encIt]
end Go.Proofs.YtcbfhpnmhhnjpaaGreat

namespace Go.Proofs.YtcbfhpnmhhnjpaaGreat
open Go.RowKit
structure Fr where
  page : Int
  pins : Int
  used : Bool
deriving DecidableEq, Inhabited
namespace Ck
def good (f : Fr) : Bool := decide (0 ≤ f.page ∧ f.page ≤ 16 ∧ 0 ≤ f.pins ∧ f.pins ≤ 2147483647)
def right (l : List Fr) (h : Int) : Bool := decide (l.length ≤ 8 ∧ 0 ≤ h ∧ h < l.length) && l.all good
def free (f : Fr) : Bool := f.pins == 0
def fresh (f : Fr) : Bool := f.pins == 0 && !f.used
def first (p : Fr → Bool) (l : List Fr) (h : Nat) : Option Nat := (List.range l.length).find? fun d => p (l.getD ((h + d) % l.length) default)
def stop (l : List Fr) (h : Nat) : Option Nat := match first fresh l h with
  | some d => some d
  | none => (first free l h).map (l.length + ·)
def clearAt (l : List Fr) (h N i : Nat) (f : Fr) : Fr := if f.pins == 0 && decide ((i + l.length - h) % l.length < N) then { f with used := false } else f
def after (l : List Fr) (h N : Nat) : List Fr := l.mapIdx (clearAt l h N)
theorem after_length (l : List Fr) (h N : Nat) : (after l h N).length = l.length := by simp [after]
theorem after_get (l : List Fr) (h N i : Nat) (hi : i < l.length) : (after l h N)[i]'(by rw [after_length]; exact hi) = clearAt l h N i l[i] := by simp [after]
theorem clear_page (l : List Fr) (h N i : Nat) (f : Fr) : (clearAt l h N i f).page = f.page := by unfold clearAt; split <;> rfl
theorem clear_pins (l : List Fr) (h N i : Nat) (f : Fr) : (clearAt l h N i f).pins = f.pins := by unfold clearAt; split <;> rfl
theorem after_zero (l : List Fr) (h : Nat) : after l h 0 = l := by
  unfold after
  apply List.ext_getElem (by simp)
  intro i h1 h2
  simp [clearAt]
theorem dist {n h N : Nat} (hh : h < n) (hN : N < n) : ((h + N) % n + n - h) % n = N := by
  by_cases hlt : h + N < n
  · rw [Nat.mod_eq_of_lt hlt, show h + N + n - h = N + n by omega, Nat.add_mod_right, Nat.mod_eq_of_lt hN]
  · have e : (h + N) % n = h + N - n := by rw [Nat.mod_eq_sub_mod (by omega), Nat.mod_eq_of_lt (by omega)]
    rw [e, show h + N - n + n - h = N by omega, Nat.mod_eq_of_lt hN]
theorem dist_back {n h i : Nat} (hh : h < n) (hi : i < n) : (h + (i + n - h) % n) % n = i := by
  by_cases hlt : i < h
  · rw [Nat.mod_eq_of_lt (show i + n - h < n by omega), show h + (i + n - h) = i + n by omega, Nat.add_mod_right, Nat.mod_eq_of_lt hi]
  · rw [show i + n - h = (i - h) + n by omega, Nat.add_mod_right, Nat.mod_eq_of_lt (show i - h < n by omega), show h + (i - h) = i by omega, Nat.mod_eq_of_lt hi]
theorem dist_inj {n h i N : Nat} (hh : h < n) (hi : i < n) (hN : N < n) : (i + n - h) % n = N ↔ i = (h + N) % n := by
  constructor
  · rintro rfl; exact (dist_back hh hi).symm
  · rintro rfl; exact dist hh hN
theorem getD_eq {l : List Fr} {i : Nat} (h : i < l.length) : l.getD i default = l[i] := by rw [List.getD_eq_getElem?_getD, List.getElem?_eq_getElem h]; rfl
theorem mod_lt' {l : List Fr} {h d : Nat} (hh : h < l.length) : (h + d) % l.length < l.length := Nat.mod_lt _ (by omega)
theorem first_some {p : Fr → Bool} {l : List Fr} {h d : Nat} (hd : d < l.length) (h1 : p (l.getD ((h + d) % l.length) default) = true) (h2 : ∀ j, j < d → p (l.getD ((h + j) % l.length) default) = false) : first p l h = some d := by
  unfold first
  rw [List.find?_range_eq_some]
  exact ⟨h1, by simpa using hd, fun j hj => by rw [h2 j hj]; rfl⟩
theorem first_none {p : Fr → Bool} {l : List Fr} {h : Nat} (h2 : ∀ j, j < l.length → p (l.getD ((h + j) % l.length) default) = false) : first p l h = none := by
  unfold first
  rw [List.find?_eq_none]; intro i hi; rw [h2 i (by simpa using hi)]; simp
theorem first_iff {p : Fr → Bool} {l : List Fr} {h d : Nat} : first p l h = some d ↔ d < l.length ∧ p (l.getD ((h + d) % l.length) default) = true ∧ ∀ j, j < d → p (l.getD ((h + j) % l.length) default) = false := by
  constructor
  · intro e
    unfold first at e
    rw [List.find?_range_eq_some] at e
    exact ⟨by simpa using e.2.1, e.1, fun j hj => by simpa using e.2.2 j hj⟩
  · rintro ⟨a, b, c⟩; exact first_some a b c
theorem first_none_iff {p : Fr → Bool} {l : List Fr} {h : Nat} : first p l h = none ↔ ∀ j, j < l.length → p (l.getD ((h + j) % l.length) default) = false := by
  constructor
  · intro e j hj
    unfold first at e
    rw [List.find?_eq_none] at e
    simpa using e j (by simpa using hj)
  · exact first_none
theorem first_none_all {p : Fr → Bool} {l : List Fr} {h : Nat} (hh : h < l.length) : first p l h = none ↔ ∀ f ∈ l, p f = false := by
  rw [first_none_iff]
  constructor
  · intro e f hf
    obtain ⟨i, hi, rfl⟩ := List.getElem_of_mem hf
    have := e ((i + l.length - h) % l.length) (Nat.mod_lt _ (by omega))
    rw [dist_back hh hi, getD_eq hi] at this
    exact this
  · intro e j hj
    rw [getD_eq (mod_lt' hh)]
    exact e _ (List.getElem_mem _)
def ends (l : List Fr) (h N : Nat) : Bool := free (l.getD ((h + N) % l.length) default) && (!(l.getD ((h + N) % l.length) default).used || decide (l.length ≤ N))
theorem stop_of_ends {l : List Fr} {h N : Nat} (hh : h < l.length) (hN : N < 2 * l.length) (h1 : ends l h N = true) (h2 : ∀ j, j < N → ends l h j = false) : stop l h = some N := by
  unfold stop
  by_cases hlt : N < l.length
  · have e : first fresh l h = some N := by
      apply first_some hlt
      · unfold ends at h1; unfold fresh; rw [Bool.and_eq_true, Bool.or_eq_true, decide_eq_true_iff] at h1
        obtain ⟨ha, hb⟩ := h1
        rcases hb with hb | hb
        · unfold free at ha; rw [ha, hb]; rfl
        · omega
      · intro j hj
        have := h2 j hj
        unfold ends at this
        rw [Bool.and_eq_false_iff, Bool.or_eq_false_iff] at this
        unfold fresh
        rcases this with hc | hc
        · unfold free at hc; rw [hc]; rfl
        · rw [hc.1, Bool.and_false]
    rw [e]
  · have e : first fresh l h = none := by
      apply first_none
      intro j hj
      have := h2 j (by omega)
      unfold ends at this
      rw [Bool.and_eq_false_iff, Bool.or_eq_false_iff] at this
      unfold fresh
      rcases this with hc | hc
      · unfold free at hc; rw [hc]; rfl
      · rw [hc.1, Bool.and_false]
    have hm : ∀ d, (h + (l.length + d)) % l.length = (h + d) % l.length := by
      intro d; rw [show h + (l.length + d) = h + d + l.length by omega, Nat.add_mod_right]
    have e2 : first free l h = some (N - l.length) := by
      apply first_some (by omega)
      · unfold ends at h1
        rw [Bool.and_eq_true] at h1
        have := h1.1
        rw [show N = l.length + (N - l.length) by omega, hm] at this
        exact this
      · intro j hj
        have := h2 (l.length + j) (by omega)
        unfold ends at this
        rw [hm, Bool.and_eq_false_iff, Bool.or_eq_false_iff] at this
        rcases this with hc | hc
        · exact hc
        · have := hc.2; rw [decide_eq_false_iff_not] at this; omega
    rw [e, e2]
    simp
    omega
theorem ends_some {l : List Fr} {h : Nat} (hh : h < l.length) (hf : ∃ f ∈ l, f.pins = 0) (hno : ∀ j, j < 2 * l.length - 1 → ends l h j = false) : ends l h (2 * l.length - 1) = true := by
  obtain ⟨f, hf, h0⟩ := hf
  obtain ⟨i, hi, rfl⟩ := List.getElem_of_mem hf
  have hd : (i + l.length - h) % l.length < l.length := Nat.mod_lt _ (by omega)
  have e : ends l h (l.length + (i + l.length - h) % l.length) = true := by
    unfold ends
    rw [show h + (l.length + (i + l.length - h) % l.length) = h + (i + l.length - h) % l.length + l.length by omega, Nat.add_mod_right, dist_back hh hi, getD_eq hi]
    unfold free
    rw [h0]
    simp
  by_cases hl : l.length + (i + l.length - h) % l.length < 2 * l.length - 1
  · rw [hno _ hl] at e; exact Bool.noConfusion e
  · rw [show 2 * l.length - 1 = l.length + (i + l.length - h) % l.length by omega]; exact e
theorem after_succ {l : List Fr} {h N : Nat} (hh : h < l.length) : after l h (N + 1) = (after l h N).modify ((h + N) % l.length) fun f => if f.pins == 0 then { f with used := false } else f := by
  apply List.ext_getElem (by simp [after_length])
  intro i h1 h2
  have hi : i < l.length := by rw [after_length] at h1; exact h1
  rw [List.getElem_modify, after_get _ _ _ _ hi, after_get _ _ _ _ hi]
  have hd : (i + l.length - h) % l.length < l.length := Nat.mod_lt _ (by omega)
  by_cases hN : N < l.length
  · by_cases e : (h + N) % l.length = i
    · rw [if_pos e]
      have e2 : (i + l.length - h) % l.length = N := (dist_inj hh hi hN).2 e.symm
      unfold clearAt
      rw [e2]
      by_cases hp : l[i].pins == 0 <;> simp [hp]
    · rw [if_neg e]
      have e2 : (i + l.length - h) % l.length ≠ N := fun h' => e ((dist_inj hh hi hN).1 h').symm
      unfold clearAt
      have e3 : decide ((i + l.length - h) % l.length < N + 1) = decide ((i + l.length - h) % l.length < N) := by rw [decide_eq_decide]; omega
      rw [e3]
  · have e3 : decide ((i + l.length - h) % l.length < N + 1) = true := decide_eq_true (by omega)
    have e4 : decide ((i + l.length - h) % l.length < N) = true := decide_eq_true (by omega)
    unfold clearAt
    rw [e3, e4]
    cases hp : (l[i].pins == 0) <;> simp [hp]
theorem after_at {l : List Fr} {h N : Nat} (hh : h < l.length) (hN : N < 2 * l.length) : (after l h N)[(h + N) % l.length]'(by rw [after_length]; exact mod_lt' hh) = (let f := l[(h + N) % l.length]'(mod_lt' hh); if f.pins == 0 && decide (l.length ≤ N) then { f with used := false } else f) := by
  rw [after_get _ _ _ _ (mod_lt' hh)]
  unfold clearAt
  by_cases hlt : N < l.length
  · rw [dist hh hlt]
    have e1 : decide (N < N) = false := decide_eq_false (by omega)
    have e2 : decide (l.length ≤ N) = false := decide_eq_false (by omega)
    simp only [e1, e2]
  · have hd : ((h + N) % l.length + l.length - h) % l.length < l.length := Nat.mod_lt _ (by omega)
    have e1 : decide (((h + N) % l.length + l.length - h) % l.length < N) = true := decide_eq_true (by omega)
    have e2 : decide (l.length ≤ N) = true := decide_eq_true (by omega)
    simp only [e1, e2]
end Ck
end Go.Proofs.YtcbfhpnmhhnjpaaGreat

