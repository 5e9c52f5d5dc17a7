/- layer 5: rows of bytes that came in; LanesAlone's walk. -/
import Derived.Test.YtfmbfgoofiojcaaL13
namespace Go.Proofs.Ytfmbfgoofiojcaa
open Go.RowKit Lk Go.ChangeShapes Go.WideShapes
set_option linter.unusedVariables false
theorem u8_of {k : Int} (h : (Lit.int .u8 k).wf = true) : 0 ≤ k ∧ k ≤ 255 := by
  simpa [Lit.wf, IntKind.min, IntKind.max, IntKind.signed, IntKind.bits] using h
theorem all_of_mem2 {α β : Type} {f : α → β} {p : α → Prop} : ∀ {ys : List β}, (∀ y ∈ ys, ∃ x, y = f x ∧ p x) → ∃ xs : List α, ys = xs.map f ∧ ∀ x ∈ xs, p x
  | [], _ => ⟨[], rfl, by simp⟩
  | y :: ys, h => by
    obtain ⟨x, hx, px⟩ := h y (by simp)
    obtain ⟨xs, hxs, pxs⟩ := all_of_mem2 (ys := ys) (fun z hz => h z (by simp [hz]))
    exact ⟨x :: xs, by rw [hx, hxs]; rfl, fun z hz => (List.mem_cons.1 hz).elim (fun e => by rw [e]; exact px) (pxs z)⟩
set_option maxRecDepth 100000 in
theorem open_us {H : Type} {enc : TypeId × Value → H} {w : World} {spare : Nat → Bool} {held : Bool} {r : Reach} {b0 : Nat} {v : Value} {d : DataW H} {p : List MemPlace} 
    (hv : Value.okWide Try.prog w r b0 42 v) (h : DataW.Trod enc Try.prog w 0 spare held 42 v d p) : ∃ l : List Int, U8 l ∧ RepT (RepS w fun _ => False) (rL 1 (l.map encU)) v := by
  obtain ⟨y, ⟨els, e1, e2, e3⟩, h2⟩ := open_one (opens_slice Try.underlying42 (by kernel_rfl) (by decide) (opens_int Try.underlying5 (by kernel_rfl))) (Go.Proofs.Ytfmbfgoofiojcaa.slice_cells Try.underlying42 hv) h
  simp only [List.cons.injEq, and_true] at e1
  subst e1
  obtain ⟨l, rfl, hl⟩ := all_of_mem2 (f := encU) (p := fun u => 0 ≤ u ∧ u ≤ 255) (fun y hy => by obtain ⟨n, e, hn⟩ := e2 y hy; exact ⟨n, e, u8_of hn⟩)
  exact ⟨l, hl, h2⟩
theorem lanesAlone_walk {w : World} (v0 : Value) (a0 : ∃ l : List Int, U8 l ∧ RepT (RepS w fun _ => False) (rL 1 (l.map encU)) v0) (a : Int) (ha : (Lit.int .u8 a).wf = true) (v1 : Value) (a1 : ∃ l : List Int, U8 l ∧ RepT (RepS w fun _ => False) (rL 1 (l.map encU)) v1) :
    Calls Try.prog 7 #[v0, .int .u8 a, v1] w fun e w' => e = .returned (.bool true) ∧ Below w.heap.size w w' := by
  obtain ⟨U, hU, h0⟩ := a0
  obtain ⟨C, hC, h1⟩ := a1
  exact (lawAlone_spec U C a hU hC (u8_of ha)).plain (us := [v0, .int .u8 a, v1]) (.cons h0 (.cons (.pv rfl) (.cons h1 .nil)))
end Go.Proofs.Ytfmbfgoofiojcaa
