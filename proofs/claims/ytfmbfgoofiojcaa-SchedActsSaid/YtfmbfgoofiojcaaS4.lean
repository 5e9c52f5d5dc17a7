/- layer 6: the contracts of New, submit, Ask. -/
import Derived.Test.YtfmbfgoofiojcaaS3
import Derived.Test.YtfmbfgoofiojcaaVA
import Derived.Test.YtfmbfgoofiojcaaDelKit
import Derived.Lib.Hide
import Derived.Shelf.RegionOpenPlain
import Derived.WalkKit
import Derived.ProofKit
namespace Go.Proofs.Ytfmbfgoofiojcaa
open Go.RowKit Lk
set_option linter.unusedVariables false
set_option linter.unusedSimpArgs false
theorem cloneJb (l : List (List SC)) (hl : l.length * 48 ≤ 2 ^ 47) : Spec Try.prog 52 [.c (.sl 5 l)] (.row 80 5 l) := by
  refine Spec.tag ?_ ?_
  · intro h
    subst h
    refine spec_row mixed fn52 (by simp) ?_
    unfold ac52
    simp -implicitDefEqProofs only [↓aP, aQ, ↓reduceIte, Nat.reduceEqDiff, Nat.reduceAdd, Nat.reduceSub, Nat.reduceMul, Nat.reduceLT, Nat.reduceLeDiff, reduceCtorEq, Nat.reduceBEq, forall_const, implies_true, exists_const, ne_eq, Int.reduceAdd, Int.reduceSub, Int.reduceMul, Int.reduceBEq, Int.reduceEq, Int.reduceLT, Int.reduceLE, Int.reduceToNat, Int.reduceNeg, Int.reduceBNe]
  · refine spec_row mixed fn52 (by simp) ?_
    unfold ac52
    simp -implicitDefEqProofs only [↓aP, aQ, ↓reduceIte, Nat.reduceEqDiff, Nat.reduceAdd, Nat.reduceSub, Nat.reduceMul, Nat.reduceLT, Nat.reduceLeDiff, reduceCtorEq, Nat.reduceBEq, forall_const, implies_true, exists_const, ne_eq, Int.reduceAdd, Int.reduceSub, Int.reduceMul, Int.reduceBEq, Int.reduceEq, Int.reduceLT, Int.reduceLE, Int.reduceToNat, Int.reduceNeg, Int.reduceBNe]
    refine ⟨?_, ?_⟩ <;> omega

theorem cloneJs (l : List (List SC)) (hl : l.length * 24 ≤ 2 ^ 47) : Spec Try.prog 51 [.c (.sl 1 l)] (.row 66 1 l) := by
  refine Spec.tag ?_ ?_
  · intro h
    subst h
    refine spec_row mixed fn51 (by simp) ?_
    unfold ac51
    simp -implicitDefEqProofs only [↓aP, aQ, ↓reduceIte, Nat.reduceEqDiff, Nat.reduceAdd, Nat.reduceSub, Nat.reduceMul, Nat.reduceLT, Nat.reduceLeDiff, reduceCtorEq, Nat.reduceBEq, forall_const, implies_true, exists_const, ne_eq, Int.reduceAdd, Int.reduceSub, Int.reduceMul, Int.reduceBEq, Int.reduceEq, Int.reduceLT, Int.reduceLE, Int.reduceToNat, Int.reduceNeg, Int.reduceBNe]
  · refine spec_row mixed fn51 (by simp) ?_
    unfold ac51
    simp -implicitDefEqProofs only [↓aP, aQ, ↓reduceIte, Nat.reduceEqDiff, Nat.reduceAdd, Nat.reduceSub, Nat.reduceMul, Nat.reduceLT, Nat.reduceLeDiff, reduceCtorEq, Nat.reduceBEq, forall_const, implies_true, exists_const, ne_eq, Int.reduceAdd, Int.reduceSub, Int.reduceMul, Int.reduceBEq, Int.reduceEq, Int.reduceLT, Int.reduceLE, Int.reduceToNat, Int.reduceNeg, Int.reduceBNe]
    refine ⟨?_, ?_⟩ <;> omega

def encSi (x : Sd × Int) : TV SC := .tup [(true, encSd x.1), (false, [.pv (.int .i64 x.2)])]
theorem flat_rep {α : Type} (n : Nat) (x : α) : (List.replicate n [x]).flatten = List.replicate n x := by
  induction n with
  | zero => rfl
  | succ n ih => rw [List.replicate_succ, List.flatten_cons, ih]; rfl
theorem sim_rep (n : Nat) : Sim (.sl 1 (List.replicate n [.sl 1 []])) (.sl 1 ((List.replicate n ([] : List Jb)).map encJs)) := by
  rw [List.map_replicate]
  refine .sl (by simp [encJs]) (by rw [encJs, flat_rep, flat_rep, List.length_replicate, List.length_replicate]) fun i h h' => ?_
  have a : (List.replicate n [SC.sl 1 []]).flatten[i] = .sl 1 [] := by
    simp only [flat_rep]
    exact List.getElem_replicate _
  have b : (List.replicate n (encJs [])).flatten[i] = .sl 5 [] := by
    simp only [encJs, flat_rep]
    exact List.getElem_replicate _
  rw [a, b]
  exact .nil (by decide)
theorem snewS_spec (d : Dv) (ws : List Int) (hl : ws.length ≤ 1000000) : Spec Try.prog 25 [.agg (encDv d), rL 1 (ws.map encI)] (.val (encSi (Sc.newS d ws))) := by
  refine spec_val mixed fn25 (by simp) ?_
  unfold ac25
  simp -implicitDefEqProofs only [↓aP, aQ, ↓reduceIte, Nat.reduceEqDiff, Nat.reduceAdd, Nat.reduceSub, Nat.reduceMul, Nat.reduceLT, Nat.reduceLeDiff, reduceCtorEq, Nat.reduceBEq, forall_const, implies_true, exists_const, ne_eq, Int.reduceAdd, Int.reduceSub, Int.reduceMul, Int.reduceBEq, Int.reduceEq, Int.reduceLT, Int.reduceLE, Int.reduceToNat, Int.reduceNeg, Int.reduceBNe, encDv, encSi]
  refine ask (by have := dvRight_spec d; rw [encDv] at this; exact this) ?_
  cases hr : rightV d
  · have e : Sc.newS d ws = (Sc.zS, 1) := by unfold Sc.newS; rw [if_pos (.inl hr)]
    simp -implicitDefEqProofs only [↓aP, aQ, ↓reduceIte, Nat.reduceEqDiff, Nat.reduceAdd, Nat.reduceSub, Nat.reduceMul, Nat.reduceLT, Nat.reduceLeDiff, reduceCtorEq, Nat.reduceBEq, forall_const, implies_true, exists_const, ne_eq, Int.reduceAdd, Int.reduceSub, Int.reduceMul, Int.reduceBEq, Int.reduceEq, Int.reduceLT, Int.reduceLE, Int.reduceToNat, Int.reduceNeg, Int.reduceBNe, e, Sc.zS, encSd, List.map_nil]
  by_cases hf : d.flight = []
  case neg =>
    have hn : d.flight.length ≠ 0 := fun h => hf (List.eq_nil_of_length_eq_zero h)
    have e : Sc.newS d ws = (Sc.zS, 1) := by unfold Sc.newS; rw [if_pos (.inr hf)]
    simp -implicitDefEqProofs only [↓aP, aQ, ↓reduceIte, Nat.reduceEqDiff, Nat.reduceAdd, Nat.reduceSub, Nat.reduceMul, Nat.reduceLT, Nat.reduceLeDiff, reduceCtorEq, Nat.reduceBEq, forall_const, implies_true, exists_const, ne_eq, Int.reduceAdd, Int.reduceSub, Int.reduceMul, Int.reduceBEq, Int.reduceEq, Int.reduceLT, Int.reduceLE, Int.reduceToNat, Int.reduceNeg, Int.reduceBNe, List.length_map, show decide ((0 : Int) < (d.flight.length : Int)) = true by simp; omega, e, Sc.zS, encSd, List.map_nil]
  simp -implicitDefEqProofs only [↓aP, aQ, ↓reduceIte, Nat.reduceEqDiff, Nat.reduceAdd, Nat.reduceSub, Nat.reduceMul, Nat.reduceLT, Nat.reduceLeDiff, reduceCtorEq, Nat.reduceBEq, forall_const, implies_true, exists_const, ne_eq, Int.reduceAdd, Int.reduceSub, Int.reduceMul, Int.reduceBEq, Int.reduceEq, Int.reduceLT, Int.reduceLE, Int.reduceToNat, Int.reduceNeg, Int.reduceBNe, hf, List.map_nil, List.length_nil, show decide ((0 : Int) < ((0 : Nat) : Int)) = false by decide]
  refine ask (lNew_spec ws (by omega)) ?_
  by_cases hw : (newI ws).2 = 0
  case neg =>
    have e : Sc.newS d ws = (Sc.zS, (newI ws).2) := by unfold Sc.newS; rw [if_neg (by rw [hr, hf]; simp), if_pos hw]
    simp -implicitDefEqProofs only [↓aP, aQ, ↓reduceIte, Nat.reduceEqDiff, Nat.reduceAdd, Nat.reduceSub, Nat.reduceMul, Nat.reduceLT, Nat.reduceLeDiff, reduceCtorEq, Nat.reduceBEq, forall_const, implies_true, exists_const, ne_eq, Int.reduceAdd, Int.reduceSub, Int.reduceMul, Int.reduceBEq, Int.reduceEq, Int.reduceLT, Int.reduceLE, Int.reduceToNat, Int.reduceNeg, Int.reduceBNe, encR, encLs, show ((newI ws).2 != 0) = true from bne_iff_ne.2 hw, e, Sc.zS, encSd, List.map_nil]
  have e : Sc.newS d ws = (⟨(newI ws).1, List.replicate ws.length [], d, []⟩, 0) := by unfold Sc.newS; rw [if_neg (by rw [hr, hf]; simp), if_neg (by rw [hw]; exact fun h => h rfl)]
  simp -implicitDefEqProofs only [↓aP, aQ, ↓reduceIte, Nat.reduceEqDiff, Nat.reduceAdd, Nat.reduceSub, Nat.reduceMul, Nat.reduceLT, Nat.reduceLeDiff, reduceCtorEq, Nat.reduceBEq, forall_const, implies_true, exists_const, ne_eq, Int.reduceAdd, Int.reduceSub, Int.reduceMul, Int.reduceBEq, Int.reduceEq, Int.reduceLT, Int.reduceLE, Int.reduceToNat, Int.reduceNeg, Int.reduceBNe, encR, encLs, hw, bne_self_eq_false, e, encSd, encDv, hf, List.map_nil, List.length_map]
  exact ⟨by omega, by omega, by decide +kernel, sim_rep _⟩
/-- a scheduler whose waiting jobs are handed through -/
def encSx (s : Sd) (x : SC) : List SC := [.sl 3 (s.l.l.map encLn), .pv (.int .i64 s.l.at'), .pv (.bool s.l.g), x, .sl 1 (s.dv.disk.sectors.map encS), .sl 2 (s.dv.disk.cache.map encWr), .pv (.int .i64 s.dv.next), .sl 4 (s.dv.flight.map encRq), .sl 5 (s.out.map encJb)]
set_option maxRecDepth 100000 in
theorem ssubm_spec (s : Sd) (x : SC) (j : Jb) (hl : s.out.length ≤ 1000000) (ht : -1000 ≤ j.tries ∧ j.tries ≤ 1000) : Spec Try.prog 57 [.agg (encSx s x), .agg (encJb j)] (.val (.agg (encSx (Sc.submS s j) x))) := by
  refine spec_val mixed fn57 (by simp) ?_
  unfold ac57
  simp -implicitDefEqProofs only [↓aP, aQ, ↓reduceIte, Nat.reduceEqDiff, Nat.reduceAdd, Nat.reduceSub, Nat.reduceMul, Nat.reduceLT, Nat.reduceLeDiff, reduceCtorEq, Nat.reduceBEq, forall_const, implies_true, exists_const, ne_eq, Int.reduceAdd, Int.reduceSub, Int.reduceMul, Int.reduceBEq, Int.reduceEq, Int.reduceLT, Int.reduceLE, Int.reduceToNat, Int.reduceNeg, Int.reduceBNe, encSx, encJb]
  refine ask (by have := submit_spec s.dv j.kind j.page j.data; rw [encDv] at this; exact this) ?_
  simp -implicitDefEqProofs only [↓aP, aQ, ↓reduceIte, Nat.reduceEqDiff, Nat.reduceAdd, Nat.reduceSub, Nat.reduceMul, Nat.reduceLT, Nat.reduceLeDiff, reduceCtorEq, Nat.reduceBEq, forall_const, implies_true, exists_const, ne_eq, Int.reduceAdd, Int.reduceSub, Int.reduceMul, Int.reduceBEq, Int.reduceEq, Int.reduceLT, Int.reduceLE, Int.reduceToNat, Int.reduceNeg, Int.reduceBNe, encSub, encDv, show IntKind.i64.wrap (j.tries + 1) = j.tries + 1 from wrapI (by omega)]
  refine ask (cloneJb _ (by simp; omega)) ?_
  simp -implicitDefEqProofs only [↓aP, aQ, ↓reduceIte, Nat.reduceEqDiff, Nat.reduceAdd, Nat.reduceSub, Nat.reduceMul, Nat.reduceLT, Nat.reduceLeDiff, reduceCtorEq, Nat.reduceBEq, forall_const, implies_true, exists_const, ne_eq, Int.reduceAdd, Int.reduceSub, Int.reduceMul, Int.reduceBEq, Int.reduceEq, Int.reduceLT, Int.reduceLE, Int.reduceToNat, Int.reduceNeg, Int.reduceBNe, Sc.submS, Sc.more, encSx, encJb, List.length_map, List.map_append, List.map_cons, List.map_nil]
  exact ⟨by omega, by omega, by decide +kernel⟩
end Go.Proofs.Ytfmbfgoofiojcaa
