/- WORDS FOR SLICES OF STRUCTS, over any program: how things lie in rows of cells. No condition. -/
import Derived.Test.YthhialnnhhemaaaArgs
import Derived.Lib.Hide
namespace Go.Proofs.Ythhialnnhhemaaa
open Go.RowKit Go.ChangeShapes Go.WideShapes
set_option linter.unusedVariables false

/-- how a thing lies in cells: always so many, each of one value -/
structure Enc (α : Type) where
  enc : α → List Value
  n : Nat
  len : ∀ a, (enc a).length = n
  pos : 0 < n
  one : ∀ a, ∀ u ∈ enc a, u.oneCell' = true

namespace Enc
variable {α : Type} (E : Enc α)
def flat (l : List α) : List Value := l.flatMap E.enc
theorem flat_nil : E.flat [] = [] := rfl
theorem flat_cons (a : α) (l : List α) : E.flat (a :: l) = E.enc a ++ E.flat l := rfl
theorem flat_append (a b : List α) : E.flat (a ++ b) = E.flat a ++ E.flat b := by unfold flat; rw [List.flatMap_append]
theorem flat_single (a : α) : E.flat [a] = E.enc a := by simp [flat]
theorem flat_length (l : List α) : (E.flat l).length = l.length * E.n := by
  induction l with
  | nil => simp [flat]
  | cons a l ih => rw [E.flat_cons, List.length_append, ih, E.len, List.length_cons, Nat.add_mul]; omega
theorem flat_get (l : List α) : ∀ (i : Nat) (h : i < l.length) (j : Nat), j < E.n → (E.flat l)[i * E.n + j]? = (E.enc l[i])[j]? := by
  induction l with
  | nil => intro i h; simp at h
  | cons c l ih =>
    intro i h j hj
    have hc := E.len c
    rw [E.flat_cons]
    match i with
    | 0 =>
      rw [List.getElem?_append_left (by omega)]
      simp
    | i + 1 =>
      have hm : (i + 1) * E.n = i * E.n + E.n := by rw [Nat.add_mul]; omega
      rw [List.getElem?_append_right (by omega)]
      rw [show (i + 1) * E.n + j - (E.enc c).length = i * E.n + j by omega]
      rw [ih i (by simpa using h) j hj]
      simp
theorem flat_snoc (l : List α) (k : Nat) (h : k < l.length) : E.flat (l.take (k + 1)) = E.flat (l.take k) ++ E.enc l[k] := by
  rw [List.take_succ_eq_append_getElem h, E.flat_append, E.flat_single]
theorem flat_one (l : List α) : ∀ u ∈ E.flat l, u.oneCell' = true := by
  intro u hu
  unfold flat at hu
  obtain ⟨a, _, h⟩ := List.mem_flatMap.1 hu
  exact E.one a u h

/-- from b, off on lie these things -/
def At (w : World) (b off : Nat) (l : List α) : Prop := ∀ (i : Nat) (h : i < l.length) (j : Nat), j < E.n → w.cell? ⟨b, off + i * E.n + j, none⟩ = (E.enc l[i])[j]?
variable {E}
theorem At.below {w w' : World} {b off : Nat} {l : List α} (h : E.At w b off l) (hb : Below w.heap.size w w') (hl : b < w.heap.size) : E.At w' b off l := by
  intro i hi j hj
  rw [hb.cell (p := ⟨b, _, none⟩) hl]
  exact h i hi j hj
theorem At.of_blk {w : World} {g : Nat} {t : TypeId} {cs : Array Value} {l : List α} (h : Blk w g t cs) (hp : ∀ (j : Nat) (v : Value), (E.flat l)[j]? = some v → cs[j]? = some v) : E.At w g 0 l := by
  intro i hi j hj
  have h1 := E.flat_get l i hi j hj
  have h2 : j < (E.enc l[i]).length := by rw [E.len]; exact hj
  rw [List.getElem?_eq_getElem h2] at h1 ⊢
  rw [h.cell, Nat.zero_add]
  exact hp _ _ h1
theorem add_none (b off j : Nat) : (⟨b, off, none⟩ : Addr).add j = ⟨b, off + j, none⟩ := by
  unfold Addr.add
  by_cases hj : j = 0
  · subst hj; simp
  · simp [hj]
theorem At.cells {w : World} {b off : Nat} {l : List α} (h : E.At w b off l) : ∀ (j : Nat) (u : Value), (E.flat l)[j]? = some u → w.cell? ((⟨b, off, none⟩ : Addr).add j) = some u := by
  intro j u hu
  have hj : j < l.length * E.n := by
    have := (List.getElem?_eq_some_iff.1 hu).1
    rw [E.flat_length] at this
    exact this
  have hp := E.pos
  have hi : j / E.n < l.length := Nat.div_lt_of_lt_mul (by rw [Nat.mul_comm]; exact hj)
  have hr : j % E.n < E.n := Nat.mod_lt _ hp
  have he : j / E.n * E.n + j % E.n = j := by rw [Nat.mul_comm]; exact Nat.div_add_mod j E.n
  have h1 := E.flat_get l (j / E.n) hi (j % E.n) hr
  have h2 := h (j / E.n) hi (j % E.n) hr
  rw [he] at h1
  rw [add_none, show off + j = off + j / E.n * E.n + j % E.n by omega, h2, ← h1]
  exact hu

/-- this value is a slice of these things -/
def Sl (E : Enc α) (w : World) (v : Value) (l : List α) : Prop :=
  ∃ A cap, v = .slice A l.length cap ∧ l.length ≤ cap ∧ cap ≤ maxLen ∧ (A = none → cap = 0) ∧ (0 < l.length → ∃ b off, A = some ⟨b, off, none⟩ ∧ b < w.heap.size ∧ E.At w b off l)
theorem Sl.below {w w' : World} {v : Value} {l : List α} (h : E.Sl w v l) (hb : Below w.heap.size w w') : E.Sl w' v l := by
  obtain ⟨A, cap, hv, h1, h2, h0, h3⟩ := h
  refine ⟨A, cap, hv, h1, h2, h0, fun hp => ?_⟩
  obtain ⟨b, off, hA, hbl, hc⟩ := h3 hp
  exact ⟨b, off, hA, Nat.lt_of_lt_of_le hbl hb.size, hc.below hb hbl⟩
theorem Sl.le {w : World} {v : Value} {l : List α} (h : E.Sl w v l) : l.length ≤ maxLen := by
  obtain ⟨A, cap, hv, h1, h2, _⟩ := h
  omega
theorem Sl.nil (w : World) : E.Sl w (.slice none 0 0) [] := ⟨none, 0, rfl, Nat.le_refl _, by unfold maxLen; omega, fun _ => rfl, fun h => by simp at h⟩
theorem Sl.of_blk {w : World} {g : Nat} {t : TypeId} {l : List α} (h : Blk w g t (E.flat l).toArray) (hm : l.length ≤ maxLen) : E.Sl w (.slice (some ⟨g, 0, none⟩) l.length l.length) l :=
  ⟨_, _, rfl, Nat.le_refl _, hm, fun h => by simp at h, fun _ => ⟨g, 0, rfl, h.lt, At.of_blk h (fun j v hv => by simpa using hv)⟩⟩
/-- a row of the call's own -/
def Own (E : Enc α) (w : World) (base : Nat) (t : TypeId) (v : Value) (l : List α) : Prop := w.ownsRow base t E.n v l.length (E.flat l)
theorem Own.sl {w : World} {base : Nat} {t : TypeId} {v : Value} {l : List α} (h : E.Own w base t v l) : E.Sl w v l := by
  rcases h.2 with ⟨rfl, h0⟩ | ⟨g, cap, cur, rfl, hg, hh, h3, h4, h5, h6⟩
  · obtain rfl := List.eq_nil_of_length_eq_zero h0
    exact Sl.nil w
  · have hb : Blk w g t cur := hh
    refine ⟨_, cap, rfl, h3, h4, fun h => by simp at h, fun _ => ⟨g, 0, rfl, hb.lt, At.of_blk hb ?_⟩⟩
    intro j v hv
    rw [← h6, List.getElem?_take] at hv
    split at hv
    · simpa using hv
    · simp at hv
theorem Own.nil (w : World) (base : Nat) (t : TypeId) : E.Own w base t (.slice none 0 0) [] := ⟨by simp [flat], .inl ⟨rfl, rfl⟩⟩
theorem Own.keep {w w' : World} {base : Nat} {t : TypeId} {v : Value} {l : List α} (h : E.Own w base t v l) (hb : Below w.heap.size w w') : E.Own w' base t v l := own_keep h hb
theorem Own.mono {w : World} {base base' : Nat} {t : TypeId} {v : Value} {l : List α} (h : E.Own w base t v l) (hb : base' ≤ base) : E.Own w base' t v l := by
  refine ⟨h.1, ?_⟩
  rcases h.2 with h2 | ⟨g, cap, cur, hv, hg, hr⟩
  · exact .inl h2
  · exact .inr ⟨g, cap, cur, hv, by omega, hr⟩

/-- such a slice that came in -/
theorem open_rows [Inhabited α] {P : Program} {ok : α → Prop} {H : Type} {enc : TypeId × Value → H} {w : World} {r : Reach} {b0 : Nat} {spare : Nat → Bool} {held : Bool} {v : Value} {d : DataW H} {p : List MemPlace} {t e : TypeId}
    (ht : P.underlying t = some (.slice e)) (hc1 : P.cellsOf e = E.n)
    (ho : ∀ (fuel : Nat) (cs : List Value) (x : DataW H × List MemPlace), DataW.trod enc P w 0 spare held fuel e cs = some x → ∃ a, cs = E.enc a ∧ ok a)
    (hv : Value.okWide P w r b0 t v) (h : DataW.Trod enc P w 0 spare held t v d p) : ∃ l, E.Sl w v l ∧ ∀ a ∈ l, ok a := by
  obtain ⟨a0, len0, cap0, rfl⟩ := okWide_slice ht hv
  obtain ⟨fuel, hf⟩ := h
  have hp := E.pos
  rcases Deep.open_slice ht hf with ⟨hcs, _⟩ | ⟨a, len, cap, m, n, D, Pl, hcs, _, hl, hm, hmm, _, hi⟩
  · simp [Value.cells] at hcs
    obtain ⟨rfl, rfl, rfl⟩ := hcs
    exact ⟨[], Sl.nil w, by intro c hc; simp at hc⟩
  · simp [Value.cells] at hcs
    obtain ⟨rfl, rfl, rfl⟩ := hcs
    have hlm : len0 ≤ m := by rw [hmm]; split <;> omega
    have each : ∀ i, i < len0 → ∃ c : α, (∀ j, j < E.n → w.cell? ((a.add (i * E.n)).add j) = (E.enc c)[j]?) ∧ ok c := by
      intro i hil
      obtain ⟨cs', hc, ht'⟩ := hi i (by omega)
      rw [hc1] at hc
      obtain ⟨c, rfl, hok⟩ := ho _ _ _ ht'
      obtain ⟨_, _, hat⟩ := World.cells?_some hc
      refine ⟨c, fun j hj => ?_, hok⟩
      have h2 : j < (E.enc c).length := by rw [E.len]; exact hj
      rw [List.getElem?_eq_getElem h2]
      have := hat j (by omega)
      rw [this]
      try simp
    obtain ⟨F, hF⟩ := Deep.choose_lt each
    by_cases h0 : len0 = 0
    · subst h0
      exact ⟨[], ⟨some a, cap0, rfl, by omega, hm, fun h => by simp at h, fun h => by simp at h⟩, by intro c hc; simp at hc⟩
    · obtain ⟨b, off, spot⟩ := a
      have hc0 := (hF 0 (by omega)).1 0 hp
      have hlen0 : 0 < (E.enc (F 0)).length := by rw [E.len]; exact hp
      rw [List.getElem?_eq_getElem hlen0, Nat.zero_mul] at hc0
      have hspot : spot = none := by simpa [Addr.add] using World.cell?_spot hc0
      subst hspot
      have hlt : b < w.heap.size := by
        have := World.block_lt_of_cell? w _ hc0
        simpa [Addr.add] using this
      have hlen : ((List.range len0).map F).length = len0 := by simp
      refine ⟨(List.range len0).map F, ⟨some ⟨b, off, none⟩, cap0, by rw [hlen], by rw [hlen]; exact hl, hm, fun h => by simp at h, fun _ => ⟨b, off, rfl, hlt, ?_⟩⟩, ?_⟩
      · intro i hi2 j hj
        rw [hlen] at hi2
        have q0 := (hF i hi2).1 j hj
        have e1 : ((List.range len0).map F)[i]'(by rw [hlen]; exact hi2) = F i := by simp
        rw [e1, ← q0, add_none, add_none]
      · intro c hc
        obtain ⟨i, hi2, rfl⟩ := List.mem_map.1 hc
        exact (hF i (by simpa using hi2)).2
end Enc
end Go.Proofs.Ythhialnnhhemaaa
