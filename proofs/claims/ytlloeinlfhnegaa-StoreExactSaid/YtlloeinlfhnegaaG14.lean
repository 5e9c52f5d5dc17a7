/- layer 13: the walks of StoreOther, StoreLists, StoreExact. -/
import Derived.Test.YtlloeinlfhnegaaG13
namespace Go.Proofs.Ytlloeinlfhnegaa
open Go.RowKit Go.ChangeShapes Go.WideShapes
set_option linter.unusedVariables false
theorem storeLists_walk {w : World} (v0 : Value) (a0 : ∃ d : Dk, RepT (RepS w fun _ => False) (.agg (encDk d)) v0) :
    Calls Try.prog 4 #[v0] w fun e w' => e = .returned (.bool true) ∧ Below w.heap.size w w' := by
  obtain ⟨x, h0⟩ := a0
  exact (law_lists x).plain (us := [v0]) (.cons h0 .nil)
theorem storeOther_walk {w : World} (v0 : Value) (a0 : ∃ d : Dk, RepT (RepS w fun _ => False) (.agg (encDk d)) v0) (v1 : Value) (a1 : ∃ x : Pg, RepT (RepS w fun _ => False) (.agg (encPg x)) v1) (gone : Bool) :
    Calls Try.prog 7 #[v0, v1, .bool gone] w fun e w' => e = .returned (.bool true) ∧ Below w.heap.size w w' := by
  obtain ⟨d, h0⟩ := a0
  obtain ⟨x, h1⟩ := a1
  exact (law_other d x gone).plain (us := [v0, v1, .bool gone]) (.cons h0 (.cons h1 (.cons (.pv rfl) .nil)))
theorem storeExact_walk {w : World} (v0 : Value) (a0 : ∃ d : Dk, RepT (RepS w fun _ => False) (.agg (encDk d)) v0) (v1 : Value) (a1 : ∃ x : Pg, RepT (RepS w fun _ => False) (.agg (encPg x)) v1) (q : Int) (hq : (Lit.int .i64 q).wf = true) :
    Calls Try.prog 3 #[v0, v1, .int .i64 q] w fun e w' => e = .returned (.bool true) ∧ Below w.heap.size w w' := by
  obtain ⟨d, h0⟩ := a0
  obtain ⟨x, h1⟩ := a1
  exact (law_exact d x q).plain (us := [v0, v1, .int .i64 q]) (.cons h0 (.cons h1 (.cons (.pv rfl) .nil)))
end Go.Proofs.Ytlloeinlfhnegaa
