/- layer 11: what came in; the laws' walks. -/
import Derived.Test.YteghmlafodkfpaaA8
import Derived.Test.YteghmlafodkfpaaA9
import Derived.Test.YteghmlafodkfpaaAm19
namespace Go.Proofs.Yteghmlafodkfpaa
open Go.RowKit Go.ChangeShapes Go.WideShapes
set_option linter.unusedVariables false
set_option linter.unusedSimpArgs false
theorem u8_of {k : Int} (h : (Lit.int .u8 k).wf = true) : 0 ≤ k ∧ k ≤ 255 := by
  simpa [Lit.wf, IntKind.min, IntKind.max, IntKind.signed, IntKind.bits] using h
theorem opens_acx {H : Type} {enc : TypeId × Value → H} {w : World} {spare : Nat → Bool} {held : Bool} : Opens Try.prog enc w spare held 57 3 (fun ys => ∃ x : Ac, ys = encAc x) := by
  have h := opens_struct (enc := enc) (w := w) (spare := spare) (held := held) Try.underlying57 (by kernel_rfl) (.cons rfl (opens_int Try.underlying3 (by kernel_rfl)) (.cons rfl (opens_int Try.underlying3 (by kernel_rfl)) (.cons rfl (opens_int Try.underlying3 (by kernel_rfl)) (.nil _))))
  refine ⟨h.1, fun fuel cs x hx => ?_⟩
  obtain ⟨ys, ⟨a, b, rfl, ⟨n, rfl, hn⟩, a2, b2, rfl, ⟨n2, rfl, _⟩, a3, b3, rfl, ⟨n3, rfl, _⟩, rfl⟩, h2, h3⟩ := h.2 _ _ _ hx
  exact ⟨_, ⟨⟨n, n2, n3⟩, rfl⟩, h2, h3⟩
theorem opens_clx {H : Type} {enc : TypeId × Value → H} {w : World} {spare : Nat → Bool} {held : Bool} : Opens Try.prog enc w spare held 59 3 (fun ys => ∃ x : Cl, ys = encCl x) := by
  have h := opens_struct (enc := enc) (w := w) (spare := spare) (held := held) Try.underlying59 (by kernel_rfl) (.cons rfl (opens_int Try.underlying3 (by kernel_rfl)) (.cons rfl (opens_int Try.underlying3 (by kernel_rfl)) (.cons rfl (opens_int Try.underlying3 (by kernel_rfl)) (.nil _))))
  refine ⟨h.1, fun fuel cs x hx => ?_⟩
  obtain ⟨ys, ⟨a, b, rfl, ⟨n, rfl, hn⟩, a2, b2, rfl, ⟨n2, rfl, _⟩, a3, b3, rfl, ⟨n3, rfl, _⟩, rfl⟩, h2, h3⟩ := h.2 _ _ _ hx
  exact ⟨_, ⟨⟨n, n2, n3⟩, rfl⟩, h2, h3⟩
theorem opens_tkx {H : Type} {enc : TypeId × Value → H} {w : World} {spare : Nat → Bool} {held : Bool} : Opens Try.prog enc w spare held 101 2 (fun ys => ∃ x : Tk, ys = encTk x) := by
  have h := opens_struct (enc := enc) (w := w) (spare := spare) (held := held) Try.underlying101 (by kernel_rfl) (.cons rfl (opens_int Try.underlying3 (by kernel_rfl)) (.cons rfl (opens_int Try.underlying3 (by kernel_rfl)) (.nil _)))
  refine ⟨h.1, fun fuel cs x hx => ?_⟩
  obtain ⟨ys, ⟨a, b, rfl, ⟨n, rfl, hn⟩, a2, b2, rfl, ⟨n2, rfl, _⟩, rfl⟩, h2, h3⟩ := h.2 _ _ _ hx
  exact ⟨_, ⟨⟨n, n2⟩, rfl⟩, h2, h3⟩
theorem opens_hax {H : Type} {enc : TypeId × Value → H} {w : World} {spare : Nat → Bool} {held : Bool} : Opens Try.prog enc w spare held 25 4 (fun ys => ∃ x : Ha, ys = encHa x ∧ x.cl.length ≤ maxLen ∧ x.q.length ≤ maxLen) := by
  have h := opens_struct (enc := enc) (w := w) (spare := spare) (held := held) Try.underlying25 (by kernel_rfl) (.cons rfl (opens_int Try.underlying3 (by kernel_rfl)) (.cons rfl (opens_int Try.underlying3 (by kernel_rfl)) (.cons rfl (opens_slice Try.underlying22 (by kernel_rfl) (by decide) opens_clx) (.cons rfl (opens_slice Try.underlying23 (by kernel_rfl) (by decide) opens_tkx) (.nil _)))))
  refine ⟨h.1, fun fuel cs x hx => ?_⟩
  obtain ⟨ys, ⟨a, b, rfl, ⟨n, rfl, _⟩, a2, b2, rfl, ⟨n2, rfl, _⟩, a3, b3, rfl, ⟨els, rfl, he, hm⟩, a4, b4, rfl, ⟨els4, rfl, he4, hm4⟩, rfl⟩, h2, h3⟩ := h.2 _ _ _ hx
  obtain ⟨l, rfl⟩ := all_of_mem (f := encCl) he
  obtain ⟨q, rfl⟩ := all_of_mem (f := encTk) he4
  exact ⟨_, ⟨⟨n, n2, l, q⟩, rfl, by simpa using hm, by simpa using hm4⟩, h2, h3⟩
set_option maxRecDepth 100000 in
theorem open_ha {H : Type} {enc : TypeId × Value → H} {w : World} {spare : Nat → Bool} {held : Bool} {r : Reach} {b0 : Nat} {v : Value} {d : DataW H} {p : List MemPlace} 
    (hv : Value.okWide Try.prog w r b0 25 v) (h : DataW.Trod enc Try.prog w 0 spare held 25 v d p) : ∃ l : Ha, (l.cl.length ≤ maxLen ∧ l.q.length ≤ maxLen) ∧ RepT (RepS w fun _ => False) (.agg (encHa l)) v := by
  obtain ⟨ys, ⟨x, rfl, hm⟩, h2⟩ := open_more opens_hax Try.underlying25 hv h
  exact ⟨x, hm, h2⟩
set_option maxRecDepth 100000 in
theorem open_acx {H : Type} {enc : TypeId × Value → H} {w : World} {spare : Nat → Bool} {held : Bool} {r : Reach} {b0 : Nat} {v : Value} {d : DataW H} {p : List MemPlace} 
    (hv : Value.okWide Try.prog w r b0 54 v) (h : DataW.Trod enc Try.prog w 0 spare held 54 v d p) : ∃ A : List Ac, A.length ≤ maxLen ∧ RepT (RepS w fun _ => False) (rL 3 (A.map encAc)) v := by
  obtain ⟨y, ⟨els, e1, e2, e3⟩, h2⟩ := open_one (opens_slice Try.underlying54 (by kernel_rfl) (by decide) opens_acx) (slice_cells Try.underlying54 hv) h
  simp only [List.cons.injEq, and_true] at e1
  subst e1
  obtain ⟨A, rfl⟩ := all_of_mem (f := encAc) e2
  exact ⟨A, by simpa using e3, h2⟩
theorem admitOnes_walk {w : World} (a : Int) (ha : (Lit.int .u8 a).wf = true) :
    Calls Try.prog 8 #[.int .u8 a] w fun e w' => e = .returned (.bool true) ∧ Below w.heap.size w w' := by
  exact (law_ones a (u8_of ha)).plain (us := [.int .u8 a]) (.cons (.pv rfl) .nil)
theorem admitSafe_walk {w : World} (a : Int) (ha : (Lit.int .u8 a).wf = true) (b : Int) (hb : (Lit.int .u8 b).wf = true) (v2 : Value) (a2 : ∃ A : List Ac, A.length ≤ maxLen ∧ RepT (RepS w fun _ => False) (rL 3 (A.map encAc)) v2) :
    Calls Try.prog 5 #[.int .u8 a, .int .u8 b, v2] w fun e w' => e = .returned (.bool true) ∧ Below w.heap.size w w' := by
  obtain ⟨A, hA, h0⟩ := a2
  exact (law_safe a b (u8_of ha) (u8_of hb) A (by unfold maxLen at hA; omega)).plain (us := [.int .u8 a, .int .u8 b, v2]) (.cons (.pv rfl) (.cons (.pv rfl) (.cons h0 .nil)))
end Go.Proofs.Yteghmlafodkfpaa
