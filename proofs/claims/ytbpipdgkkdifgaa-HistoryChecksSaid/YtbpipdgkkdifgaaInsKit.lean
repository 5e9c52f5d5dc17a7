/- slices.Insert of one element into a row of the caller's own: the memory's part, over any program. No condition. -/
import Derived.Test.YtbpipdgkkdifgaaDelKit
import Derived.Laws.Externs
import Derived.Laws.CopyRow
import Derived.Lib.AppendZeros
import Derived.Lib.AppendZerosOnto
import Derived.Deep.AppendSrc
import Derived.Shelf.RegionOpenPlain
namespace Go.Proofs.Ytbpipdgkkdifgaa
open Go.RowKit
set_option linter.unusedVariables false
set_option linter.unusedSimpArgs false
namespace Ins
theorem run_overlaps {P : Program} (w : World) (tS tR e : TypeId) (ht : P.underlying tS = some (.slice e)) (size : Nat) (hz : ∀ w, (Go.sizeOf e).run P w = .ok size w)
    (a b : Addr) (la ca lb cb : Nat) (hne : a.block ≠ b.block) (va : Value) (hca : w.cell? a = some va) (ty : TypeId) (cur : Array Value) (hb : w.heap[b.block]? = some (.cells cur ty (0, 0))) (hpos : 0 < cur.size) :
    (Extern.SlicesOverlaps.overlaps #[tS, tS] #[tR] #[.slice (some a) la ca, .slice (some b) lb cb]).run P w = .ok (.bool false) w := by
  have hnb : (a.block != b.block) = true := by simpa using hne
  have hnb' : (a.block == b.block) = false := by simpa using hne
  obtain ⟨tA, kA, hsa⟩ : ∃ tA kA, w.shape? a.block = some (tA, kA + 1) := by
    unfold World.cell? at hca
    split at hca
    · rename_i c t fr hc
      have hlt : 0 < c.size := by
        rcases Nat.eq_zero_or_pos c.size with h | h
        · have : c = #[] := Array.eq_empty_of_size_eq_zero h
          subst this
          simp at hca
        · exact h
      exact ⟨t, c.size - 1, by unfold World.shape?; rw [hc]; simp; omega⟩
    · cases hca
  obtain ⟨kB, hkB⟩ : ∃ kB, cur.size = kB + 1 := ⟨cur.size - 1, by omega⟩
  have hsb : w.shape? b.block = some (ty, kB + 1) := by unfold World.shape?; rw [hb, ← hkB]
  have hfb : w.frozen? b = false := by unfold World.frozen?; rw [hb]; simp
  have hfe : w.frozen? { block := b.block, off := kB + 1 } = false := by unfold World.frozen?; simp only [hb]; simp
  change Sem.run P (α := Value) (do
    let some t := (#[tS, tS] : Array TypeId)[0]? | stuck "slices.overlaps: no parameter types"
    let .slice elem ← underlying t | stuck "slices.overlaps: slice type expected"
    let size ← sizeOf elem
    match (some a : Option Addr), (some b : Option Addr) with
    | some a, some b =>
      if la = 0 ∨ lb = 0 ∨ size = 0 then pure (Value.bool false)
      else if a.block != b.block && (← frozen a) && (← frozen b) then unsupported .addressObserved
      else do
        if a.block != b.block then do
          noView a; noView b
          if ← mayBeOne a b then return Value.bool ((← choose (.extern "sameAddr.stringBytes" 2)) == 1)
        pure (Value.bool (a.block == b.block && a.off < b.off + lb * size && b.off < a.off + la * size))
    | _, _ => pure (Value.bool false)) w = _
  by_cases h0 : la = 0 ∨ lb = 0 ∨ size = 0
  · simp [run_underlying ht, hz, h0]
  · cases hfa : w.frozen? a <;> cases hfa2 : w.frozen? { block := a.block, off := kA + 1 } <;>
    simp [run_underlying ht, hz, h0, hnb, hnb', frozen, noView, viewAt, mayBeOne, stringish, shape, Sem.run, hsa, hsb, hfa, hfe, hfb, hfa2]
theorem run_copy {P : Program} (w : World) (dT sT ty elem : TypeId) (s g o dLen dCap : Nat) (a : Addr) (sLen sCap : Nat) (cur : Array Value) (t : TypeId) (cs : List Value) (n : Nat)
    (hu : P.underlying dT = some (.slice elem)) (hs : (P.info? elem).map (·.size) = some s)
    (hg : w.heap[g]? = some (.cells cur t (0, 0))) (hn : Nat.min sLen dLen = n) (hcl : cs.length = n * s)
    (hsrc : ∀ j v, cs[j]? = some v → w.cell? (a.add j) = some v) (hfit : o + cs.length ≤ cur.size) (h1 : ∀ v ∈ cs, v.oneCell' = true) :
    (Builtin.copy_ #[dT, sT] ty #[.slice (some ⟨g, o, none⟩) dLen dCap, .slice (some a) sLen sCap]).run P w =
      .ok (goInt n) (w.setRow g (cur.toList.take o ++ cs ++ cur.toList.drop (o + cs.length)).toArray) := by
  have hst := run_storeCells_at P g o t cs 0 cur w hg (by simpa using hfit) h1
  have hf := run_firstCells_some (P := P) w s n a sLen sCap cs hcl hsrc
  cases hq : P.info? elem with
  | none => simp [hq] at hs
  | some i =>
    have hi : i.size = s := by simpa [hq] using hs
    simp [Builtin.copy_, run_underlying hu, Builtin.lenOf, sizeOf, typeInfo, hq, hi, hn, hf, hst]
theorem cells_in {α : Type} (cur us vs : List α) (A E N : Nat) (hus : cur.take N = us) (hN : N + E ≤ cur.length) (hA : A ≤ N) (hv : vs.length = E) :
    (((cur.take (A + E) ++ us.drop A ++ cur.drop (A + E + (us.drop A).length)).take A ++ vs ++ (cur.take (A + E) ++ us.drop A ++ cur.drop (A + E + (us.drop A).length)).drop (A + vs.length)).take (N + E)) = us.take A ++ vs ++ us.drop A := by
  have hul : us.length = N := by rw [← hus, List.length_take]; omega
  have h1 : (cur.take (A + E) ++ us.drop A ++ cur.drop (A + E + (us.drop A).length)).take A = us.take A := by
    rw [List.append_assoc, List.take_append_of_le_length (by rw [List.length_take]; omega), List.take_take, ← hus, List.take_take]
    congr 1; omega
  have h2 : (cur.take (A + E) ++ us.drop A ++ cur.drop (A + E + (us.drop A).length)).drop (A + vs.length) = us.drop A ++ cur.drop (A + E + (us.drop A).length) := by
    have hl : (cur.take (A + E)).length = A + vs.length := by rw [List.length_take]; omega
    rw [List.append_assoc, ← hl, List.drop_left]
  rw [h1, h2, ← List.append_assoc]
  rw [List.take_append_of_le_length (by simp; omega), List.take_of_length_le (by simp; omega)]
theorem cells_new {α : Type} (us vs Z : List α) (A E N : Nat) (hul : us.length = N) (hA : A ≤ N) (hv : vs.length = E) (hZ : N + E ≤ A + Z.length) :
    ((((us.take A ++ Z).take A ++ vs ++ (us.take A ++ Z).drop (A + vs.length)).take (A + E) ++ us.drop A ++ ((us.take A ++ Z).take A ++ vs ++ (us.take A ++ Z).drop (A + vs.length)).drop (A + E + (us.drop A).length)).take (N + E)) = us.take A ++ vs ++ us.drop A := by
  have hl : (us.take A).length = A := by rw [List.length_take]; omega
  have h1 : (us.take A ++ Z).take A = us.take A := by
    rw [List.take_append_of_le_length (by omega), List.take_of_length_le (by omega)]
  rw [h1]
  have h2 : (us.take A ++ vs ++ (us.take A ++ Z).drop (A + vs.length)).take (A + E) = us.take A ++ vs := by
    rw [List.take_append_of_le_length (by simp; omega), List.take_of_length_le (by simp; omega)]
  rw [h2, List.take_append_of_le_length (by simp; omega), List.take_of_length_le (by simp; omega)]

theorem wp_copy_run {P : Program} (w : World) {o : Oper} {a : Act} {K : Act → World → Prop} {Q : Exit → Act → World → Prop} (d s : Operand) (t t' : TypeId)
    (ho : o.op = .call { callee := .builtin .copy, args := #[d, s], argTypes := #[t, t'] }) (v u : Value) (hd : a.eval d = v) (hs : a.eval s = u) {v' : Value} {w' : World}
    (hr : (Builtin.copy_ #[t, t'] o.type #[v, u]).run P w = .ok v' w') (h : K (a.put o.dst v') w') : o.wp P a w K Q := by
  unfold Oper.wp execOp
  simp only [ho, resolve, invoke, builtin, Sem.run_bind, Sem.run_pure, Result.andThen_ok, List.map_toArray, List.map_cons, List.map_nil, hd, hs, hr]
  exact h
theorem wpList_copy_run {P : Program} (w : World) {ops : Array Oper} {rest : List Oper} {o : Oper} {a : Act} {Q : Exit → Act → World → Prop} (hgd : o.guard = none) (d s : Operand) (t t' : TypeId)
    (ho : o.op = .call { callee := .builtin .copy, args := #[d, s], argTypes := #[t, t'] }) (v u : Value) (hd : a.eval d = v) (hs : a.eval s = u) {v' : Value} {w' : World}
    (hr : (Builtin.copy_ #[t, t'] o.type #[v, u]).run P w = .ok v' w') (h : wpList P ops Q rest (a.put o.dst v') w') : wpList P ops Q (o :: rest) a w :=
  wpList_plain hgd fun _ hK => wp_copy_run w d s t t' ho v u hd hs hr (hK _ _ h)
theorem step_copy_run {P : Program} {ops : Array Oper} {o : Oper} {a : Act} {w : World} {K : Act → World → Prop} {Q : Exit → Act → World → Prop} {E : Prop}
    (hg : o.guard = none) (d x : Operand) (dT sT : TypeId) (hop : o.op = Op.call { callee := Callee.builtin Builtin.copy, args := #[d, x], argTypes := #[dT, sT] })
    (v u : Value) (hd : a.eval d = v) (hx : a.eval x = u) {v' : Value} {w' : World} (hr : (Builtin.copy_ #[dT, sT] o.type #[v, u]).run P w = .ok v' w') (hK : K (a.put o.dst v') w') :
    if Region.wanted o (yielded ops a.tmps) = true then Oper.wp P o a w K Q else E := by
  have hw : Region.wanted o (yielded ops a.tmps) = true := by simp [Region.wanted, hg]
  rw [if_pos hw]
  unfold Oper.wp
  simp [execOp, hop, resolve, invoke, builtin, hd, hx, hr, Result.andThen]
  exact hK
/-- what is there behind it -/
def Done (w : World) (g n k : Nat) (us vs : List Value) (ty S : Nat) (v : Value) (w' : World) : Prop :=
  ∃ b' cap' cur', v = .slice (some ⟨b', 0, none⟩) (n + 1) cap' ∧ Blk w' b' ty cur' ∧ cur'.size = cap' * S ∧ n + 1 ≤ cap' ∧ cap' ≤ maxLen ∧ cur'.toList.take ((n + 1) * S) = us.take (k * S) ++ vs ++ us.drop (k * S) ∧ (b' = g ∧ Kept g w w' ∨ w.heap.size ≤ b' ∧ Below w.heap.size w w')
theorem seg_size (cur : Array Value) (o : Nat) (xs : List Value) (h : o + xs.length ≤ cur.size) : (cur.toList.take o ++ xs ++ cur.toList.drop (o + xs.length)).toArray.size = cur.size := by
  simp only [List.size_toArray, List.length_append, List.length_take, List.length_drop, Array.length_toList]
  omega
end Ins
end Go.Proofs.Ytbpipdgkkdifgaa
