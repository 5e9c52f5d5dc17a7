/- disks and writes that came in. -/
import Derived.Test.YteghmlafodkfpaaAm19
import Derived.Test.YteghmlafodkfpaaQRef1
namespace Go.Proofs.Yteghmlafodkfpaa
open Go.RowKit Go.ChangeShapes Go.WideShapes
set_option linter.unusedVariables false
theorem opens_wr {H : Type} {enc : TypeId × Value → H} {w : World} {spare : Nat → Bool} {held : Bool} : Opens Try.prog enc w spare held 122 2 (fun ys => ∃ x : Wr, ys = encWr x ∧ (Lit.int .i64 x.at_).wf = true) := by
  have h := opens_struct (enc := enc) (w := w) (spare := spare) (held := held) Try.underlying122 (by kernel_rfl) (.cons rfl (opens_int Try.underlying3 (by kernel_rfl)) (.cons rfl (opens_str Try.underlying9 (by kernel_rfl)) (.nil _)))
  refine ⟨h.1, fun fuel cs x hx => ?_⟩
  obtain ⟨ys, ⟨a, b, rfl, ⟨n, rfl, hn⟩, c, e, rfl, ⟨s, rfl, hs⟩, rfl⟩, h2, h3⟩ := h.2 _ _ _ hx
  exact ⟨_, ⟨⟨n, s⟩, rfl, hn⟩, h2, h3⟩
theorem opens_dk {H : Type} {enc : TypeId × Value → H} {w : World} {spare : Nat → Bool} {held : Bool} : Opens Try.prog enc w spare held 68 2 (fun ys => ∃ x : Dk, ys = encDk x) := by
  have h := opens_struct (enc := enc) (w := w) (spare := spare) (held := held) Try.underlying68 (by kernel_rfl) (.cons rfl (opens_slice Try.underlying65 (by kernel_rfl) (by decide) (opens_str Try.underlying9 (by kernel_rfl))) (.cons rfl (opens_slice Try.underlying66 (by kernel_rfl) (by decide) opens_wr) (.nil _)))
  refine ⟨h.1, fun fuel cs x hx => ?_⟩
  obtain ⟨ys, ⟨a, b, rfl, ⟨els, rfl, he, _⟩, c, e, rfl, ⟨els2, rfl, he2, _⟩, rfl⟩, h2, h3⟩ := h.2 _ _ _ hx
  obtain ⟨ss, rfl⟩ := all_of_mem (f := encS) (fun y hy => by obtain ⟨s, e1, _⟩ := he y hy; exact ⟨s, e1⟩)
  obtain ⟨wr, rfl⟩ := all_of_mem (f := encWr) (fun y hy => by obtain ⟨s, e1, _⟩ := he2 y hy; exact ⟨s, e1⟩)
  exact ⟨_, ⟨⟨ss, wr⟩, rfl⟩, h2, h3⟩
set_option maxRecDepth 100000 in
theorem open_disk {H : Type} {enc : TypeId × Value → H} {w : World} {spare : Nat → Bool} {held : Bool} {r : Reach} {b0 : Nat} {v : Value} {d : DataW H} {p : List MemPlace} 
    (hv : Value.okWide Try.prog w r b0 68 v) (h : DataW.Trod enc Try.prog w 0 spare held 68 v d p) : ∃ x : Dk, RepT (RepS w fun _ => False) (.agg (encDk x)) v := by
  obtain ⟨ys, ⟨x, rfl⟩, h2⟩ := open_more opens_dk Try.underlying68 hv h
  exact ⟨x, h2⟩
set_option maxRecDepth 100000 in
theorem open_wr {H : Type} {enc : TypeId × Value → H} {w : World} {spare : Nat → Bool} {held : Bool} {r : Reach} {b0 : Nat} {v : Value} {d : DataW H} {p : List MemPlace} 
    (hv : Value.okWide Try.prog w r b0 122 v) (h : DataW.Trod enc Try.prog w 0 spare held 122 v d p) : ∃ x : Wr, RepT (RepS w fun _ => False) (.agg (encWr x)) v := by
  obtain ⟨ys, ⟨x, rfl, _⟩, h2⟩ := open_more opens_wr Try.underlying122 hv h
  exact ⟨x, h2⟩
set_option maxRecDepth 100000 in
theorem open_ints {H : Type} {enc : TypeId × Value → H} {w : World} {spare : Nat → Bool} {held : Bool} {r : Reach} {b0 : Nat} {v : Value} {d : DataW H} {p : List MemPlace} 
    (hv : Value.okWide Try.prog w r b0 36 v) (h : DataW.Trod enc Try.prog w 0 spare held 36 v d p) : ∃ l : List Int, RepT (RepS w fun _ => False) (rL 1 (l.map encI)) v ∧ ∀ a ∈ l, (Lit.int .i64 a).wf = true := by
  obtain ⟨y, ⟨els, e1, e2, e3⟩, h2⟩ := open_one (opens_slice Try.underlying36 (by kernel_rfl) (by decide) (opens_int Try.underlying3 (by kernel_rfl))) (slice_cells Try.underlying36 hv) h
  simp only [List.cons.injEq, and_true] at e1
  subst e1
  have key : ∃ l : List Int, els = l.map encI ∧ ∀ a ∈ l, (Lit.int .i64 a).wf = true := by
    clear h2 e3
    induction els with
    | nil => exact ⟨[], rfl, by intro a ha; simp at ha⟩
    | cons x xs ih =>
      obtain ⟨n, rfl, hn⟩ := e2 x (by simp)
      obtain ⟨l, rfl, hl⟩ := ih (fun y hy => e2 y (by simp [hy]))
      refine ⟨n :: l, rfl, ?_⟩
      intro a ha
      rcases List.mem_cons.1 ha with rfl | ha
      · exact hn
      · exact hl a ha
  obtain ⟨l, rfl, hl⟩ := key
  exact ⟨l, h2, hl⟩
end Go.Proofs.Yteghmlafodkfpaa
