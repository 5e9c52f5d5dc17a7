/- WORDS FOR ARGUMENTS AND ROWS, over any program: a slice of integers that came in, opened; two rows of the call's own side by side. No condition. -/
import Derived.Test.YthhialnnhhemaaaMem
import Derived.Deep.Slices
import Derived.ProofKit
import Derived.Maps.AppendAt
namespace Go.Proofs.Ythhialnnhhemaaa
open Go.RowKit Go.ChangeShapes Go.WideShapes
set_option linter.unusedVariables false

/-- this value is a slice of these integers -/
def Ints (k : IntKind) (w : World) (v : Value) (l : List Int) : Prop :=
  ∃ A cap, v = .slice A l.length cap ∧ l.length ≤ cap ∧ cap ≤ maxLen ∧ (l = [] ∨ ∃ b off, A = some ⟨b, off, none⟩ ∧ b < w.heap.size ∧ ∀ i (h : i < l.length), w.cell? ⟨b, off + i, none⟩ = some (.int k l[i]))
theorem Ints.below {k : IntKind} {w w' : World} {v : Value} {l : List Int} (h : Ints k w v l) (hb : Below w.heap.size w w') : Ints k w' v l := by
  obtain ⟨A, cap, hv, h1, h2, h3⟩ := h
  refine ⟨A, cap, hv, h1, h2, ?_⟩
  rcases h3 with h3 | ⟨b, off, hA, hbl, hc⟩
  · exact .inl h3
  · exact .inr ⟨b, off, hA, Nat.lt_of_lt_of_le hbl hb.size, fun i hi => by rw [hb.cell hbl]; exact hc i hi⟩
/-- a slice of integers that came in -/
def IntsArg (k : IntKind) (w : World) (v : Value) : Prop := ∃ l, Ints k w v l ∧ ∀ a ∈ l, (Lit.int k a).wf = true
theorem open_ints {P : Program} {H : Type} {enc : TypeId × Value → H} {w : World} {r : Reach} {b0 : Nat} {spare : Nat → Bool} {held : Bool} {v : Value} {d : DataW H} {p : List MemPlace} {t e : TypeId} {k : IntKind}
    (ht : P.underlying t = some (.slice e)) (he : P.underlying e = some (.int k)) (hc1 : P.cellsOf e = 1)
    (hv : Value.okWide P w r b0 t v) (h : DataW.Trod enc P w 0 spare held t v d p) : IntsArg k w v := by
  obtain ⟨a0, len0, cap0, rfl⟩ := okWide_slice ht hv
  obtain ⟨fuel, hf⟩ := h
  rcases Deep.open_slice1 ht hc1 hf with ⟨hcs, _⟩ | ⟨a, len, cap, m, n, V, D, Pl, hcs, _, hl, hm, hmm, _, hi⟩
  · simp [Value.cells] at hcs
    obtain ⟨rfl, rfl, rfl⟩ := hcs
    exact ⟨[], ⟨none, 0, rfl, Nat.le_refl _, by unfold maxLen; omega, .inl rfl⟩, by intro c hc; simp at hc⟩
  · simp [Value.cells] at hcs
    obtain ⟨rfl, rfl, rfl⟩ := hcs
    have hlm : len0 ≤ m := by rw [hmm]; split <;> omega
    have each : ∀ i, i < len0 → ∃ c : Int, w.cell? (a.add i) = some (.int k c) ∧ (Lit.int k c).wf = true := by
      intro i hil
      obtain ⟨hcell, htr⟩ := hi i (by omega)
      obtain ⟨x, hx, _, hw⟩ := DataW.trod_int he htr
      simp only [List.cons.injEq, and_true] at hx
      exact ⟨x, by rw [hcell, hx], hw⟩
    obtain ⟨F, hF⟩ := Deep.choose_lt each
    by_cases h0 : len0 = 0
    · subst h0
      exact ⟨[], ⟨some a, cap0, rfl, by omega, hm, .inl rfl⟩, by intro c hc; simp at hc⟩
    · obtain ⟨b, off, spot⟩ := a
      have hc0 := (hF 0 (by omega)).1
      have hspot : spot = none := by simpa [Addr.add] using World.cell?_spot hc0
      subst hspot
      have hlt : b < w.heap.size := by
        have := World.block_lt_of_cell? w _ hc0
        simpa [Addr.add] using this
      have hlen : ((List.range len0).map F).length = len0 := by simp
      refine ⟨(List.range len0).map F, ⟨some ⟨b, off, none⟩, cap0, by rw [hlen], by rw [hlen]; exact hl, hm, .inr ⟨b, off, rfl, hlt, ?_⟩⟩, ?_⟩
      · intro i hi2
        rw [hlen] at hi2
        have q0 := (hF i hi2).1
        have e1 : ((List.range len0).map F)[i]'(by rw [hlen]; exact hi2) = F i := by simp
        rw [e1]
        by_cases hz : i = 0
        · simpa [Addr.add, hz] using q0
        · simpa [Addr.add, hz] using q0
      · intro c hc
        obtain ⟨i, hi2, rfl⟩ := List.mem_map.1 hc
        exact (hF i (by simpa using hi2)).2

/-- another row of the call's own, where the first has grown -/
theorem own_other {w w' : World} {base : Nat} {e : TypeId} {size : Nat} {v : Value} {n : Nat} {xs : List Value} (h : w.ownsRow base e size v n xs) {row : Option Nat} (hg : w.grownBy w' row) (hne : ∀ g, v.ownBlock = some g → row ≠ some g) : w'.ownsRow base e size v n xs := by
  refine ⟨h.1, ?_⟩
  rcases h.2 with h2 | ⟨g, cap, cur, rfl, hg', hh, h3, h4, h5, h6⟩
  · exact .inl h2
  · have hb : Blk w g e cur := hh
    exact .inr ⟨g, cap, cur, rfl, hg', hb.grown hg (hne g rfl), h3, h4, h5, h6⟩
/-- two rows lie apart -/
def Apart (u v : Value) : Prop := ∀ g, u.ownBlock = some g → v.ownBlock ≠ some g
theorem Apart.symm {u v : Value} (h : Apart u v) : Apart v u := fun g h1 h2 => h g h2 h1
theorem Apart.grown {w : World} {base : Nat} {e : TypeId} {size : Nat} {u u' v : Value} {n : Nat} {xs : List Value} (h : Apart u v) (hv : w.ownsRow base e size v n xs) {H : Nat} (hat : u'.ownBlock = u.ownBlock ∨ u'.ownBlock = some H) (hH : w.heap.size ≤ H) : Apart u' v := by
  intro g h1 h2
  rcases hat with ha | ha
  · rw [ha] at h1; exact h g h1 h2
  · rw [ha] at h1
    have h3 : H = g := by simpa using h1
    have := (hv.lt g h2).2
    omega
end Go.Proofs.Ythhialnnhhemaaa
