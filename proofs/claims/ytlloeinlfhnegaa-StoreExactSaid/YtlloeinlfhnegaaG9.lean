/- layer 13: pages that came in; the walks of StoreSame, StoreKeeps, StoreCrash. -/
import Derived.Test.YtlloeinlfhnegaaG8
namespace Go.Proofs.Ytlloeinlfhnegaa
open Go.RowKit Go.ChangeShapes Go.WideShapes
set_option linter.unusedVariables false
set_option linter.unusedSimpArgs false
theorem u8_of {k : Int} (h : (Lit.int .u8 k).wf = true) : 0 ≤ k ∧ k ≤ 255 := by
  simpa [Lit.wf, IntKind.min, IntKind.max, IntKind.signed, IntKind.bits] using h
theorem opens_pg {H : Type} {enc : TypeId × Value → H} {w : World} {spare : Nat → Bool} {held : Bool} : Opens Try.prog enc w spare held 27 3 (fun ys => ∃ x : Pg, ys = encPg x) := by
  have h := opens_struct (enc := enc) (w := w) (spare := spare) (held := held) Try.underlying27 (by kernel_rfl) (.cons rfl (opens_int Try.underlying3 (by kernel_rfl)) (.cons rfl (opens_int Try.underlying3 (by kernel_rfl)) (.cons rfl (opens_str Try.underlying9 (by kernel_rfl)) (.nil _))))
  refine ⟨h.1, fun fuel cs x hx => ?_⟩
  obtain ⟨ys, ⟨a, b, rfl, ⟨n, rfl, hn⟩, c, e, rfl, ⟨n2, rfl, hn2⟩, c2, e2, rfl, ⟨s, rfl, hs⟩, rfl⟩, h2, h3⟩ := h.2 _ _ _ hx
  exact ⟨_, ⟨⟨n, n2, s⟩, rfl⟩, h2, h3⟩
set_option maxRecDepth 100000 in
theorem open_pg {H : Type} {enc : TypeId × Value → H} {w : World} {spare : Nat → Bool} {held : Bool} {r : Reach} {b0 : Nat} {v : Value} {d : DataW H} {p : List MemPlace} 
    (hv : Value.okWide Try.prog w r b0 27 v) (h : DataW.Trod enc Try.prog w 0 spare held 27 v d p) : ∃ x : Pg, RepT (RepS w fun _ => False) (.agg (encPg x)) v := by
  obtain ⟨ys, ⟨x, rfl⟩, h2⟩ := open_more opens_pg Try.underlying27 hv h
  exact ⟨x, h2⟩
set_option maxRecDepth 100000 in
theorem open_pgs {H : Type} {enc : TypeId × Value → H} {w : World} {spare : Nat → Bool} {held : Bool} {r : Reach} {b0 : Nat} {v : Value} {d : DataW H} {p : List MemPlace} 
    (hv : Value.okWide Try.prog w r b0 48 v) (h : DataW.Trod enc Try.prog w 0 spare held 48 v d p) : ∃ A : List Pg, A.length ≤ maxLen ∧ RepT (RepS w fun _ => False) (rL 3 (A.map encPg)) v := by
  obtain ⟨y, ⟨els, e1, e2, e3⟩, h2⟩ := open_one (opens_slice Try.underlying48 (by kernel_rfl) (by decide) opens_pg) (slice_cells Try.underlying48 hv) h
  simp only [List.cons.injEq, and_true] at e1
  subst e1
  obtain ⟨A, rfl⟩ := all_of_mem (f := encPg) (fun y hy => e2 y hy)
  exact ⟨A, by simpa using e3, h2⟩
theorem storeSame_walk {w : World} (v0 : Value) (a0 : ∃ x : Pg, RepT (RepS w fun _ => False) (.agg (encPg x)) v0) :
    Calls Try.prog 8 #[v0] w fun e w' => e = .returned (.bool true) ∧ Below w.heap.size w w' := by
  obtain ⟨x, h0⟩ := a0
  exact (law_same x).plain (us := [v0]) (.cons h0 .nil)
theorem storeKeeps_walk {w : World} (v0 : Value) (a0 : ∃ A : List Pg, A.length ≤ maxLen ∧ RepT (RepS w fun _ => False) (rL 3 (A.map encPg)) v0) :
    Calls Try.prog 5 #[v0] w fun e w' => e = .returned (.bool true) ∧ Below w.heap.size w w' := by
  obtain ⟨A, h1, h0⟩ := a0
  exact (law_keeps A (by unfold maxLen at h1; omega)).plain (us := [v0]) (.cons h0 .nil)
theorem storeCrash_walk {w : World} (v0 : Value) (a0 : ∃ A : List Pg, A.length ≤ maxLen ∧ RepT (RepS w fun _ => False) (rL 3 (A.map encPg)) v0) (v1 : Value) (a1 : ∃ x : Pg, RepT (RepS w fun _ => False) (.agg (encPg x)) v1) (a : Int) (ha : (Lit.int .u8 a).wf = true) (v3 : Value) (a3 : ∃ l : List Int, RepT (RepS w fun _ => False) (rL 1 (l.map encI)) v3 ∧ ∀ a ∈ l, (Lit.int .i64 a).wf = true) :
    Calls Try.prog 6 #[v0, v1, .int .u8 a, v3] w fun e w' => e = .returned (.bool true) ∧ Below w.heap.size w w' := by
  obtain ⟨A, h1, h0⟩ := a0
  obtain ⟨x, h2⟩ := a1
  obtain ⟨k, hk, _⟩ := a3
  exact (law_crash A (by unfold maxLen at h1; omega) x a (u8_of ha) k).plain (us := [v0, v1, .int .u8 a, v3]) (.cons h0 (.cons h2 (.cons (.pv rfl) (.cons hk .nil))))
end Go.Proofs.Ytlloeinlfhnegaa
