/- layer 18: what came in; the laws OpsApart, OpsReads, OpsBack. -/
import Derived.Test.YtbpipdgkkdifgaaO7
import Derived.Test.YtbpipdgkkdifgaaO8
import Derived.Test.YtbpipdgkkdifgaaAm19
namespace Go.Proofs.Ytbpipdgkkdifgaa
open Go.RowKit Ok Go.ChangeShapes Go.WideShapes
set_option linter.unusedVariables false
set_option linter.unusedSimpArgs false
theorem opens_pg {H : Type} {enc : TypeId × Value → H} {w : World} {spare : Nat → Bool} {held : Bool} : Opens Try.prog enc w spare held 41 3 (fun ys => ∃ x : Pg, ys = encPg x) := by
  have h := opens_struct (enc := enc) (w := w) (spare := spare) (held := held) Try.underlying41 (by kernel_rfl) (.cons rfl (opens_int Try.underlying3 (by kernel_rfl)) (.cons rfl (opens_int Try.underlying3 (by kernel_rfl)) (.cons rfl (opens_str Try.underlying9 (by kernel_rfl)) (.nil _))))
  refine ⟨h.1, fun fuel cs x hx => ?_⟩
  obtain ⟨ys, ⟨a, b, rfl, ⟨n, rfl, hn⟩, a2, b2, rfl, ⟨n2, rfl, hn2⟩, c, e, rfl, ⟨s, rfl, hs⟩, rfl⟩, h2, h3⟩ := h.2 _ _ _ hx
  exact ⟨_, ⟨⟨n, n2, s⟩, rfl⟩, h2, h3⟩
theorem opens_op {H : Type} {enc : TypeId × Value → H} {w : World} {spare : Nat → Bool} {held : Bool} : Opens Try.prog enc w spare held 50 3 (fun ys => ∃ x : Opr, ys = encOp x) := by
  have h := opens_struct (enc := enc) (w := w) (spare := spare) (held := held) Try.underlying50 (by kernel_rfl) (.cons rfl (opens_int Try.underlying3 (by kernel_rfl)) (.cons rfl (opens_int Try.underlying3 (by kernel_rfl)) (.cons rfl (opens_str Try.underlying9 (by kernel_rfl)) (.nil _))))
  refine ⟨h.1, fun fuel cs x hx => ?_⟩
  obtain ⟨ys, ⟨a, b, rfl, ⟨n, rfl, hn⟩, a2, b2, rfl, ⟨n2, rfl, hn2⟩, c, e, rfl, ⟨s, rfl, hs⟩, rfl⟩, h2, h3⟩ := h.2 _ _ _ hx
  exact ⟨_, ⟨⟨n, n2, s⟩, rfl⟩, h2, h3⟩
theorem opens_map {H : Type} {enc : TypeId × Value → H} {w : World} {spare : Nat → Bool} {held : Bool} : Opens Try.prog enc w spare held 24 1 (fun ys => ∃ l : List Pg, ys = encMap l ∧ l.length ≤ maxLen) := by
  have h := opens_struct (enc := enc) (w := w) (spare := spare) (held := held) Try.underlying24 (by kernel_rfl) (.cons rfl (opens_slice Try.underlying22 (by kernel_rfl) (by decide) opens_pg) (.nil _))
  refine ⟨h.1, fun fuel cs x hx => ?_⟩
  obtain ⟨ys, ⟨a, b, rfl, ⟨els, rfl, he, hm⟩, rfl⟩, h2, h3⟩ := h.2 _ _ _ hx
  obtain ⟨l, rfl⟩ := all_of_mem (f := encPg) he
  exact ⟨_, ⟨l, rfl, by simpa using hm⟩, h2, h3⟩
set_option maxRecDepth 100000 in
theorem open_map {H : Type} {enc : TypeId × Value → H} {w : World} {spare : Nat → Bool} {held : Bool} {r : Reach} {b0 : Nat} {v : Value} {d : DataW H} {p : List MemPlace} 
    (hv : Value.okWide Try.prog w r b0 24 v) (h : DataW.Trod enc Try.prog w 0 spare held 24 v d p) : ∃ l : List Pg, l.length ≤ maxLen ∧ RepT (RepS w fun _ => False) (.agg (encMap l)) v := by
  obtain ⟨ys, ⟨x, rfl, hm⟩, h2⟩ := open_more opens_map Try.underlying24 hv h
  exact ⟨x, hm, h2⟩
set_option maxRecDepth 100000 in
theorem open_op {H : Type} {enc : TypeId × Value → H} {w : World} {spare : Nat → Bool} {held : Bool} {r : Reach} {b0 : Nat} {v : Value} {d : DataW H} {p : List MemPlace} 
    (hv : Value.okWide Try.prog w r b0 50 v) (h : DataW.Trod enc Try.prog w 0 spare held 50 v d p) : ∃ x : Opr, RepT (RepS w fun _ => False) (.agg (encOp x)) v := by
  obtain ⟨ys, ⟨x, rfl⟩, h2⟩ := open_more opens_op Try.underlying50 hv h
  exact ⟨x, h2⟩
set_option maxRecDepth 100000 in
theorem open_ops {H : Type} {enc : TypeId × Value → H} {w : World} {spare : Nat → Bool} {held : Bool} {r : Reach} {b0 : Nat} {v : Value} {d : DataW H} {p : List MemPlace} 
    (hv : Value.okWide Try.prog w r b0 54 v) (h : DataW.Trod enc Try.prog w 0 spare held 54 v d p) : ∃ l : List Opr, l.length ≤ maxLen ∧ RepT (RepS w fun _ => False) (rL 3 (l.map encOp)) v := by
  obtain ⟨y, ⟨els, e1, e2, e3⟩, h2⟩ := open_one (opens_slice Try.underlying54 (by kernel_rfl) (by decide) opens_op) (slice_cells Try.underlying54 hv) h
  simp only [List.cons.injEq, and_true] at e1
  subst e1
  obtain ⟨l, rfl⟩ := all_of_mem (f := encOp) e2
  exact ⟨l, by simpa using e3, h2⟩
theorem fields_rs : Try.prog.underlying 49 = some (.struct (Try.prog.fieldsOf 49)) := by kernel_rfl
theorem held_rs : Try.prog.stoodInHeld 49 = false := by kernel_rfl
theorem fieldsL_rs : ((Try.prog.fieldsOf 49).toList.map fun f => (f.type, f.offset)) = [(31, 0), (41, 1)] := by kernel_rfl
set_option maxRecDepth 100000 in
theorem eq_rs (x : Rs) : EqRun Try.prog 49 [.int .i64 x.e, .int .i64 x.p.id, .int .i64 x.p.ver, .string x.p.body] [.int .i64 x.e, .int .i64 x.p.id, .int .i64 x.p.ver, .string x.p.body] true := by
  intro w
  rw [run_eql_struct, run_equalIn_agg w 9999 _ _ _ fields_rs held_rs]
  go_simp
end Go.Proofs.Ytbpipdgkkdifgaa
