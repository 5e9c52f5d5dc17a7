/- LAYER 9: a clock that came in, opened. No condition. -/
import Derived.Test.YthhialnnhhemaaaClockRef
import Derived.Lib.SmallJoins
import Derived.ProofKit
namespace Go.Proofs.Ythhialnnhhemaaa
open Go.RowKit Go.ChangeShapes Go.WideShapes
set_option linter.unusedVariables false
namespace Enc
variable {α : Type} {E : Enc α}
/-- such a slice that came in -/
theorem open_rows_at [Inhabited α] {P : Program} {ok : α → Prop} {H : Type} {enc : TypeId × Value → H} {w : World} {spare : Nat → Bool} {held : Bool} {v : Value} {t e : TypeId} {fuel : Nat} {x : DataW H × List MemPlace}
    (ht : P.underlying t = some (.slice e)) (hc1 : P.cellsOf e = E.n)
    (ho : ∀ (fuel : Nat) (cs : List Value) (x : DataW H × List MemPlace), DataW.trod enc P w 0 spare held fuel e cs = some x → ∃ a, cs = E.enc a ∧ ok a)
    (hf : DataW.trod enc P w 0 spare held fuel t [v] = some x) : ∃ l, E.Sl w v l ∧ ∀ a ∈ l, ok a := by
  have hp := E.pos
  rcases Deep.open_slice ht hf with ⟨hcs, _⟩ | ⟨a, len0, cap0, m, n, D, Pl, hcs, _, hl, hm, hmm, _, hi⟩
  · obtain rfl : v = .slice none 0 0 := by simpa using hcs
    exact ⟨[], Sl.nil w, by intro c hc; simp at hc⟩
  · obtain rfl : v = .slice (some a) len0 cap0 := by simpa using hcs
    have hlm : len0 ≤ m := by rw [hmm]; split <;> omega
    have each : ∀ i, i < len0 → ∃ c : α, (∀ j, j < E.n → w.cell? ((a.add (i * E.n)).add j) = (E.enc c)[j]?) ∧ ok c := by
      intro i hil
      obtain ⟨cs', hc, ht'⟩ := hi i (by omega)
      rw [hc1] at hc
      obtain ⟨c, rfl, hok⟩ := ho _ _ _ ht'
      obtain ⟨_, _, hat⟩ := World.cells?_some hc
      refine ⟨c, fun j hj => ?_, hok⟩
      have h2 : j < (E.enc c).length := by rw [E.len]; exact hj
      rw [List.getElem?_eq_getElem h2]
      have := hat j (by omega)
      rw [this]
      try simp
    obtain ⟨F, hF⟩ := Deep.choose_lt each
    by_cases h0 : len0 = 0
    · subst h0
      exact ⟨[], ⟨some a, cap0, rfl, by omega, hm, fun h => by simp at h, fun h => by simp at h⟩, by intro c hc; simp at hc⟩
    · obtain ⟨b, off, spot⟩ := a
      have hc0 := (hF 0 (by omega)).1 0 hp
      have hlen0 : 0 < (E.enc (F 0)).length := by rw [E.len]; exact hp
      rw [List.getElem?_eq_getElem hlen0, Nat.zero_mul] at hc0
      have hspot : spot = none := by simpa [Addr.add] using World.cell?_spot hc0
      subst hspot
      have hlt : b < w.heap.size := by
        have := World.block_lt_of_cell? w _ hc0
        simpa [Addr.add] using this
      have hlen : ((List.range len0).map F).length = len0 := by simp
      refine ⟨(List.range len0).map F, ⟨some ⟨b, off, none⟩, cap0, by rw [hlen], by rw [hlen]; exact hl, hm, fun h => by simp at h, fun _ => ⟨b, off, rfl, hlt, ?_⟩⟩, ?_⟩
      · intro i hi2 j hj
        rw [hlen] at hi2
        have q0 := (hF i hi2).1 j hj
        have e1 : ((List.range len0).map F)[i]'(by rw [hlen]; exact hi2) = F i := by simp
        rw [e1, ← q0, add_none, add_none]
      · intro c hc
        obtain ⟨i, hi2, rfl⟩ := List.mem_map.1 hc
        exact (hF i (by simpa using hi2)).2
end Enc
theorem cells_int9 : Try.prog.cellsOf 3 = 1 := by kernel_rfl
theorem cells_bool9 : Try.prog.cellsOf 4 = 1 := by kernel_rfl
theorem cells_fr : Try.prog.cellsOf 42 = 3 := by kernel_rfl
theorem trod_fr {H : Type} {enc : TypeId × Value → H} {w : World} {base : Nat} {spare : Nat → Bool} {held : Bool} (fuel : Nat) (cs : List Value) (x : DataW H × List MemPlace)
    (h : DataW.trod enc Try.prog w base spare held fuel 42 cs = some x) : ∃ a : Fr, cs = frE.enc a ∧ True := by
  obtain ⟨xs, n, _, _, hl, hxs, hf⟩ := DataW.trod_struct Try.underlying42 h
  rw [cells_fr] at hl
  match cs, hl with
  | [x0, x1, x2], _ =>
    have one : ∀ (u : Value) (y : Option (DataW H × List MemPlace)), DataW.trod enc Try.prog w base spare held n 3 [u] = y → y.isSome → ∃ a, u = .int .i64 a := by
      intro u y hy hs
      obtain ⟨z, rfl⟩ := Option.isSome_iff_exists.1 hs
      obtain ⟨a, hu, _, wa⟩ := DataW.trod_int Try.underlying3 hy
      exact ⟨a, by simpa using hu⟩
    have oneb : ∀ (u : Value) (y : Option (DataW H × List MemPlace)), DataW.trod enc Try.prog w base spare held n 4 [u] = y → y.isSome → ∃ a, u = .bool a := by
      intro u y hy hs
      obtain ⟨z, rfl⟩ := Option.isSome_iff_exists.1 hs
      obtain ⟨a, hu, _⟩ := DataW.trod_bool Try.underlying4 hy
      exact ⟨a, by simpa using hu⟩
    have h3 : xs.length = 3 := hxs
    have f0 := hf 0 _ rfl
    have f1 := hf 1 _ rfl
    have f2 := hf 2 _ rfl
    change DataW.trod enc Try.prog w base spare held n 3 (List.take (Try.prog.cellsOf 3) (List.drop 0 [x0, x1, x2])) = _ at f0
    change DataW.trod enc Try.prog w base spare held n 3 (List.take (Try.prog.cellsOf 3) (List.drop 1 [x0, x1, x2])) = _ at f1
    change DataW.trod enc Try.prog w base spare held n 4 (List.take (Try.prog.cellsOf 4) (List.drop 2 [x0, x1, x2])) = _ at f2
    rw [cells_int9] at f0 f1
    rw [cells_bool9] at f2
    obtain ⟨a, rfl⟩ := one x0 _ f0 (by rw [List.getElem?_eq_getElem (by omega)]; rfl)
    obtain ⟨b, rfl⟩ := one x1 _ f1 (by rw [List.getElem?_eq_getElem (by omega)]; rfl)
    obtain ⟨c, rfl⟩ := oneb x2 _ f2 (by rw [List.getElem?_eq_getElem (by omega)]; rfl)
    exact ⟨⟨a, b, c⟩, rfl, trivial⟩
/-- a clock that came in -/
def CkArg (w : World) (v : Value) : Prop := ∃ (u : Value) (l : List Fr) (h : Int), v = .agg #[u, .int .i64 h] ∧ frE.Sl w u l ∧ Ck.fits h
theorem open_ck {H : Type} {enc : TypeId × Value → H} {w : World} {r : Reach} {b0 : Nat} {spare : Nat → Bool} {held : Bool} {v : Value} {d : DataW H} {p : List MemPlace}
    (hv : Value.okWide Try.prog w r b0 24 v) (h : DataW.Trod enc Try.prog w 0 spare held 24 v d p) : CkArg w v := by
  obtain ⟨c0, c1, y0, y1, m, rfl, rfl, rfl, hy0, hy1⟩ := Joins.open_agg2 Try.underlying24 (by kernel_rfl) (by kernel_rfl) hv h
  obtain ⟨a, e1, _, wa⟩ := DataW.trod_int Try.underlying3 hy1
  obtain ⟨l, hs, _⟩ := Enc.open_rows_at (E := frE) (ok := fun _ => True) Try.underlying22 cells_fr (fun fuel cs x h => trod_fr fuel cs x h) hy0
  simp at e1
  subst e1
  exact ⟨c0, l, a, rfl, hs, by simpa [Ck.fits, Lit.wf, IntKind.min, IntKind.max, IntKind.signed, IntKind.bits] using wa⟩
namespace Ck
/-- how far the one who goes lies behind the hand, without a whole round -/
theorem stop_dist {l : List Fr} {H N : Nat} (hH : H < l.length) (hN : stop l H = some N) : ∃ D, D < l.length ∧ (H + D) % l.length = (H + N) % l.length ∧ ∀ j, j < D → fresh (l.getD ((H + j) % l.length) default) = false := by
  rcases stop_cases hH hN with ⟨h1, _, h3⟩ | ⟨h1, h2, h3, _⟩
  · exact ⟨N, h1, rfl, h3⟩
  · refine ⟨N - l.length, by omega, ?_, ?_⟩
    · rw [show H + N = H + (N - l.length) + l.length by omega, Nat.add_mod_right]
    · intro j hj
      rw [getD_eq (mod_lt' hH)]
      exact h3 _ (List.getElem_mem _)
theorem dist_ne {n H j D : Nat} (hH : H < n) (hD : D < n) (hj : j < D) : (H + j) % n ≠ (H + D) % n := by
  intro e
  have h1 := dist hH (show j < n by omega)
  have h2 := dist hH hD
  rw [e] at h1
  omega
theorem anyFree_none {l : List Fr} {H : Nat} (hr : right l (H : Int) = true) (hN : stop l H = none) : anyFree l = false := by
  obtain ⟨_, ⟨H', e, hH⟩, hg⟩ := right_parts hr
  obtain rfl : H = H' := by omega
  cases ha : anyFree l with
  | false => rfl
  | true =>
    obtain ⟨f, hf, h0⟩ := (anyFree_iff hg).1 ha
    have := (stop_none_iff hH).1 hN f hf
    unfold free at this
    rw [h0] at this
    simp at this
end Ck
end Go.Proofs.Ythhialnnhhemaaa
