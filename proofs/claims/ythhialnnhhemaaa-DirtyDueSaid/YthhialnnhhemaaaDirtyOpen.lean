/- LAYER 14: a slice of items that came in, opened; what mark tells. No condition. -/
import Derived.Test.YthhialnnhhemaaaDirtyAwake
import Derived.ProofKit
namespace Go.Proofs.Ythhialnnhhemaaa
open Go.RowKit Go.ChangeShapes Go.WideShapes
set_option linter.unusedVariables false

theorem cells_int : Try.prog.cellsOf 3 = 1 := by kernel_rfl
theorem cells_it : Try.prog.cellsOf 61 = 2 := by kernel_rfl
theorem trod_it {H : Type} {enc : TypeId × Value → H} {w : World} {base : Nat} {spare : Nat → Bool} {held : Bool} (fuel : Nat) (cs : List Value) (x : DataW H × List MemPlace)
    (h : DataW.trod enc Try.prog w base spare held fuel 61 cs = some x) : ∃ a : It, cs = itE.enc a ∧ Dy.fits a.page ∧ Dy.fits a.since := by
  obtain ⟨xs, n, _, _, hl, hxs, hf⟩ := DataW.trod_struct Try.underlying61 h
  rw [cells_it] at hl
  match cs, hl with
  | [x0, x1], _ =>
    have one : ∀ (u : Value) (y : Option (DataW H × List MemPlace)), DataW.trod enc Try.prog w base spare held n 3 [u] = y → y.isSome → ∃ a, u = .int .i64 a ∧ Dy.fits a := by
      intro u y hy hs
      obtain ⟨z, rfl⟩ := Option.isSome_iff_exists.1 hs
      obtain ⟨a, hu, _, wa⟩ := DataW.trod_int Try.underlying3 hy
      exact ⟨a, by simpa using hu, by simpa [Dy.fits, Lit.wf, IntKind.min, IntKind.max, IntKind.signed, IntKind.bits] using wa⟩
    have h3 : xs.length = 2 := hxs
    have f0 := hf 0 _ rfl
    have f1 := hf 1 _ rfl
    change DataW.trod enc Try.prog w base spare held n 3 (List.take (Try.prog.cellsOf 3) (List.drop 0 [x0, x1])) = _ at f0
    change DataW.trod enc Try.prog w base spare held n 3 (List.take (Try.prog.cellsOf 3) (List.drop 1 [x0, x1])) = _ at f1
    rw [cells_int] at f0 f1
    obtain ⟨a, rfl, ha⟩ := one x0 _ f0 (by rw [List.getElem?_eq_getElem (by omega)]; rfl)
    obtain ⟨b, rfl, hb⟩ := one x1 _ f1 (by rw [List.getElem?_eq_getElem (by omega)]; rfl)
    exact ⟨⟨a, b⟩, rfl, ha, hb⟩
theorem same_self (u v : Value) (a : List It) (w : World) (ha : itE.Sl w u a) (hb : itE.Sl w v a) :
    Calls Try.prog 30 #[u, v] w fun e w' => e = .returned (.bool true) ∧ Below w.heap.size w w' := by
  have := same_any u v a a w ha hb
  rwa [show decide (a = a) = true from decide_eq_true rfl] at this
/-- a slice of items that came in -/
def ItArg (w : World) (v : Value) : Prop := ∃ l, itE.Sl w v l ∧ Dy.Fit l
theorem open_its {H : Type} {enc : TypeId × Value → H} {w : World} {r : Reach} {b0 : Nat} {spare : Nat → Bool} {held : Bool} {v : Value} {d : DataW H} {p : List MemPlace}
    (hv : Value.okWide Try.prog w r b0 47 v) (h : DataW.Trod enc Try.prog w 0 spare held 47 v d p) : ItArg w v :=
  Enc.open_rows (E := itE) (ok := fun a : It => Dy.fits a.page ∧ Dy.fits a.since) Try.underlying47 cells_it (fun fuel cs x h => trod_it fuel cs x h) hv h
theorem fits_of {k : Int} (h : (Lit.int .i64 k).wf = true) : Dy.fits k := by
  simpa [Dy.fits, Lit.wf, IntKind.min, IntKind.max, IntKind.signed, IntKind.bits] using h
theorem u8_of {k : Int} (h : (Lit.int .u8 k).wf = true) : 0 ≤ k ∧ k ≤ 255 := by
  simpa [Lit.wf, IntKind.min, IntKind.max, IntKind.signed, IntKind.bits] using h

namespace Dy
theorem right_new {l : List It} {p now : Int} (h1 : right l = true) (h2 : 1 ≤ p ∧ p ≤ 16) (h3 : last l ≤ now) (h4 : now ≤ 2147483647) (h5 : hasPage l p = false) : right (l ++ [⟨p, now⟩]) = true := by
  rw [right_snoc, h1, good_eq2]
  simp only [Bool.true_and, decide_eq_true_eq]
  exact ⟨h2, h5, h3, h4⟩
theorem hasPage_false {l : List It} {p : Int} : hasPage l p = false ↔ ∀ a ∈ l, a.page ≠ p := by
  unfold hasPage
  rw [List.any_eq_false]
  constructor
  · intro h a ha; simpa using h a ha
  · intro h a ha; simpa using h a ha
theorem clean_new {l : List It} {p now : Int} (h : right (l ++ [⟨p, now⟩]) = true) (h5 : hasPage l p = false) : clean (l ++ [⟨p, now⟩]) p = (l, 0) := by
  have hat : at' (l ++ [⟨p, now⟩]) p = (l.length : Int) := by
    refine at_some (k := l.length) (by simp) (by simp) ?_
    intro j hj
    rw [List.getElem_append_left hj]
    exact hasPage_false.1 h5 _ (List.getElem_mem hj)
  unfold clean
  rw [h, if_pos rfl, hasPage_snoc, show ((⟨p, now⟩ : It).page == p) = true by simp, Bool.or_true, if_pos rfl, hat, Int.toNat_natCast]
  rw [List.eraseIdx_append_of_length_le (Nat.le_refl _), Nat.sub_self]
  simp
/-- what mark tells: refused, there, or new; what is new is cleaned away -/
theorem mark_cases (l : List It) (p now : Int) : mark l p now = (l, 1) ∨ (mark l p now = (l, 0) ∧ 0 ≤ at' l p) ∨ (mark l p now = (l ++ [⟨p, now⟩], 0) ∧ at' l p < 0 ∧ clean (l ++ [⟨p, now⟩]) p = (l, 0)) := by
  by_cases h : right l = true ∧ (1 ≤ p ∧ p ≤ 16) ∧ last l ≤ now ∧ now ≤ 2147483647
  · obtain ⟨h1, h2, h3, h4⟩ := h
    rw [mark_ok h1 h2 h3 h4]
    cases h5 : hasPage l p with
    | true => exact .inr (.inl ⟨rfl, (at_has l p).2 h5⟩)
    | false =>
      refine .inr (.inr ⟨rfl, ?_, clean_new (right_new h1 h2 h3 h4 h5) h5⟩)
      have hno : ¬ 0 ≤ at' l p := fun h' => by have := (at_has l p).1 h'; rw [h5] at this; exact Bool.noConfusion this
      omega
  · left
    apply mark_bad
    by_cases h1 : right l = true
    · by_cases h2 : 1 ≤ p ∧ p ≤ 16
      · by_cases h3 : last l ≤ now
        · by_cases h4 : now ≤ 2147483647
          · exact absurd ⟨h1, h2, h3, h4⟩ h
          · exact .inr (.inr (.inr (by omega)))
        · exact .inr (.inr (.inl (by omega)))
      · exact .inr (.inl h2)
    · exact .inl (by simpa using h1)
end Dy
end Go.Proofs.Ythhialnnhhemaaa
