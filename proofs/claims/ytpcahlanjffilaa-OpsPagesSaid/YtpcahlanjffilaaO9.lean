/- layer 18: what came in; the laws OpsApart, OpsReads, OpsBack. -/
import Derived.Test.YtpcahlanjffilaaO7
import Derived.Test.YtpcahlanjffilaaO8
import Derived.Test.YtpcahlanjffilaaAm19
namespace Go.Proofs.Ytpcahlanjffilaa
open Go.RowKit Ok Go.ChangeShapes Go.WideShapes
set_option linter.unusedVariables false
set_option linter.unusedSimpArgs false
theorem opens_pg {H : Type} {enc : TypeId × Value → H} {w : World} {spare : Nat → Bool} {held : Bool} : Opens Try.prog enc w spare held 31 3 (fun ys => ∃ x : Pg, ys = encPg x) := by
  have h := opens_struct (enc := enc) (w := w) (spare := spare) (held := held) Try.underlying31 (by kernel_rfl) (.cons rfl (opens_int Try.underlying3 (by kernel_rfl)) (.cons rfl (opens_int Try.underlying3 (by kernel_rfl)) (.cons rfl (opens_str Try.underlying9 (by kernel_rfl)) (.nil _))))
  refine ⟨h.1, fun fuel cs x hx => ?_⟩
  obtain ⟨ys, ⟨a, b, rfl, ⟨n, rfl, hn⟩, a2, b2, rfl, ⟨n2, rfl, hn2⟩, c, e, rfl, ⟨s, rfl, hs⟩, rfl⟩, h2, h3⟩ := h.2 _ _ _ hx
  exact ⟨_, ⟨⟨n, n2, s⟩, rfl⟩, h2, h3⟩
theorem opens_op {H : Type} {enc : TypeId × Value → H} {w : World} {spare : Nat → Bool} {held : Bool} : Opens Try.prog enc w spare held 26 3 (fun ys => ∃ x : Opr, ys = encOp x) := by
  have h := opens_struct (enc := enc) (w := w) (spare := spare) (held := held) Try.underlying26 (by kernel_rfl) (.cons rfl (opens_int Try.underlying3 (by kernel_rfl)) (.cons rfl (opens_int Try.underlying3 (by kernel_rfl)) (.cons rfl (opens_str Try.underlying9 (by kernel_rfl)) (.nil _))))
  refine ⟨h.1, fun fuel cs x hx => ?_⟩
  obtain ⟨ys, ⟨a, b, rfl, ⟨n, rfl, hn⟩, a2, b2, rfl, ⟨n2, rfl, hn2⟩, c, e, rfl, ⟨s, rfl, hs⟩, rfl⟩, h2, h3⟩ := h.2 _ _ _ hx
  exact ⟨_, ⟨⟨n, n2, s⟩, rfl⟩, h2, h3⟩
theorem opens_map {H : Type} {enc : TypeId × Value → H} {w : World} {spare : Nat → Bool} {held : Bool} : Opens Try.prog enc w spare held 24 1 (fun ys => ∃ l : List Pg, ys = encMap l ∧ l.length ≤ maxLen) := by
  have h := opens_struct (enc := enc) (w := w) (spare := spare) (held := held) Try.underlying24 (by kernel_rfl) (.cons rfl (opens_slice Try.underlying22 (by kernel_rfl) (by decide) opens_pg) (.nil _))
  refine ⟨h.1, fun fuel cs x hx => ?_⟩
  obtain ⟨ys, ⟨a, b, rfl, ⟨els, rfl, he, hm⟩, rfl⟩, h2, h3⟩ := h.2 _ _ _ hx
  obtain ⟨l, rfl⟩ := all_of_mem (f := encPg) he
  exact ⟨_, ⟨l, rfl, by simpa using hm⟩, h2, h3⟩
set_option maxRecDepth 100000 in
theorem open_map {H : Type} {enc : TypeId × Value → H} {w : World} {spare : Nat → Bool} {held : Bool} {r : Reach} {b0 : Nat} {v : Value} {d : DataW H} {p : List MemPlace} 
    (hv : Value.okWide Try.prog w r b0 24 v) (h : DataW.Trod enc Try.prog w 0 spare held 24 v d p) : ∃ l : List Pg, l.length ≤ maxLen ∧ RepT (RepS w fun _ => False) (.agg (encMap l)) v := by
  obtain ⟨ys, ⟨x, rfl, hm⟩, h2⟩ := open_more opens_map Try.underlying24 hv h
  exact ⟨x, hm, h2⟩
set_option maxRecDepth 100000 in
theorem open_op {H : Type} {enc : TypeId × Value → H} {w : World} {spare : Nat → Bool} {held : Bool} {r : Reach} {b0 : Nat} {v : Value} {d : DataW H} {p : List MemPlace} 
    (hv : Value.okWide Try.prog w r b0 26 v) (h : DataW.Trod enc Try.prog w 0 spare held 26 v d p) : ∃ x : Opr, RepT (RepS w fun _ => False) (.agg (encOp x)) v := by
  obtain ⟨ys, ⟨x, rfl⟩, h2⟩ := open_more opens_op Try.underlying26 hv h
  exact ⟨x, h2⟩
set_option maxRecDepth 100000 in
theorem open_ints {H : Type} {enc : TypeId × Value → H} {w : World} {spare : Nat → Bool} {held : Bool} {r : Reach} {b0 : Nat} {v : Value} {d : DataW H} {p : List MemPlace} 
    (hv : Value.okWide Try.prog w r b0 56 v) (h : DataW.Trod enc Try.prog w 0 spare held 56 v d p) : ∃ l : List Int, RepT (RepS w fun _ => False) (rL 1 (l.map encI)) v := by
  obtain ⟨y, ⟨els, e1, e2, e3⟩, h2⟩ := open_one (opens_slice Try.underlying56 (by kernel_rfl) (by decide) (opens_int Try.underlying3 (by kernel_rfl))) (slice_cells Try.underlying56 hv) h
  simp only [List.cons.injEq, and_true] at e1
  subst e1
  obtain ⟨l, rfl⟩ := all_of_mem (f := encI) (fun y hy => by obtain ⟨n, e, _⟩ := e2 y hy; exact ⟨n, e⟩)
  exact ⟨l, h2⟩
def encS (s : ByteArray) : List SC := [.pv (.string s)]
set_option maxRecDepth 100000 in
theorem open_strs {H : Type} {enc : TypeId × Value → H} {w : World} {spare : Nat → Bool} {held : Bool} {r : Reach} {b0 : Nat} {v : Value} {d : DataW H} {p : List MemPlace} 
    (hv : Value.okWide Try.prog w r b0 53 v) (h : DataW.Trod enc Try.prog w 0 spare held 53 v d p) : ∃ l : List ByteArray, l.length ≤ maxLen ∧ RepT (RepS w fun _ => False) (rL 1 (l.map encS)) v := by
  obtain ⟨y, ⟨els, e1, e2, e3⟩, h2⟩ := open_one (opens_slice Try.underlying53 (by kernel_rfl) (by decide) (opens_str Try.underlying9 (by kernel_rfl))) (slice_cells Try.underlying53 hv) h
  simp only [List.cons.injEq, and_true] at e1
  subst e1
  obtain ⟨l, rfl⟩ := all_of_mem (f := encS) (fun y hy => by obtain ⟨n, e, _⟩ := e2 y hy; exact ⟨n, e⟩)
  exact ⟨l, by simpa using e3, h2⟩
set_option maxRecDepth 100000 in
theorem open_ops {H : Type} {enc : TypeId × Value → H} {w : World} {spare : Nat → Bool} {held : Bool} {r : Reach} {b0 : Nat} {v : Value} {d : DataW H} {p : List MemPlace} 
    (hv : Value.okWide Try.prog w r b0 46 v) (h : DataW.Trod enc Try.prog w 0 spare held 46 v d p) : ∃ l : List Opr, l.length ≤ maxLen ∧ RepT (RepS w fun _ => False) (rL 3 (l.map encOp)) v := by
  obtain ⟨y, ⟨els, e1, e2, e3⟩, h2⟩ := open_one (opens_slice Try.underlying46 (by kernel_rfl) (by decide) opens_op) (slice_cells Try.underlying46 hv) h
  simp only [List.cons.injEq, and_true] at e1
  subst e1
  obtain ⟨l, rfl⟩ := all_of_mem (f := encOp) e2
  exact ⟨l, by simpa using e3, h2⟩
theorem fields_rs : Try.prog.underlying 33 = some (.struct (Try.prog.fieldsOf 33)) := by kernel_rfl
theorem held_rs : Try.prog.stoodInHeld 33 = false := by kernel_rfl
theorem fieldsL_rs : ((Try.prog.fieldsOf 33).toList.map fun f => (f.type, f.offset)) = [(29, 0), (31, 1)] := by kernel_rfl
set_option maxRecDepth 100000 in
theorem eq_rs (x : Rs) : EqRun Try.prog 33 [.int .i64 x.e, .int .i64 x.p.id, .int .i64 x.p.ver, .string x.p.body] [.int .i64 x.e, .int .i64 x.p.id, .int .i64 x.p.ver, .string x.p.body] true := by
  intro w
  rw [run_eql_struct, run_equalIn_agg w 9999 _ _ _ fields_rs held_rs]
  go_simp
end Go.Proofs.Ytpcahlanjffilaa
