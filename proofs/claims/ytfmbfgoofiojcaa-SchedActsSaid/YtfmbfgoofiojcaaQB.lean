/- slices.Backward at disk writes: its closure's contract for every loop body. -/
import Derived.RangeFuncNested
import Derived.RangeFuncBound
import Derived.RangeFuncCalls
import Derived.RangeFuncLeaves
import Derived.RangeFuncBox
import Derived.Shelf.Abstract
import Derived.Shelf.RegionOpen
import Derived.WalkKit
import Derived.OwnWalkIn
import Derived.TacticsInMore
import Derived.LoopNIn
import Derived.LoopIn
import Derived.Test.YtfmbfgoofiojcaaQA
namespace Go.Proofs.Ytfmbfgoofiojcaa
open Go.RowKit Go.Shelf
attribute [local go_sem] Oper.semAt_some
set_option linter.unusedVariables false
instance : Inhabited Wr := ⟨⟨0, ByteArray.empty⟩⟩
def upto {α : Type} (f : Nat → α) (k : Nat) : List α := (List.range k).map f
theorem upto_succ {α : Type} (f : Nat → α) (k : Nat) : upto f (k + 1) = upto f k ++ [f k] := by simp [upto, List.range_succ]
theorem upto_length {α : Type} (f : Nat → α) (k : Nat) : (upto f k).length = k := by simp [upto]
/-- the j-th that comes: from the last one back -/
def fromBack (zs : List Wr) (len j : Nat) : Nat × Wr := (len - 1 - j, zs[len - 1 - j]?.getD default)

set_option maxRecDepth 100000 in
set_option maxHeartbeats 2000000 in
theorem back1_in (F : Fence) (n : Nat) (h8 : F.fn 115) (hro : F.round = none) (hn : 1 ≤ n) (l Bs n₀ b off len cap : Nat) (zs : List Wr) (hreach : len * 24 ≤ 140737488351232) (hb : b < n₀) (J Jx : List (Nat × Wr) → World → Prop)
    (hY : ∀ pre x W, J pre W → pre.length < len → YieldAt F (n - 1) Try.prog l #[.int .i64 (x.1 : Int), .agg #[.int .i64 x.2.at_, .string x.2.data]] W fun e W' =>
      (e = .returned (.bool true) ∧ J (pre ++ [x]) W' ∧ Below n₀ W W') ∨ (e = .returned (.bool false) ∧ Jx (pre ++ [x]) W'))
    (W : World) (hBs : W.cell? ⟨Bs, 0, none⟩ = some (.slice (some ⟨b, off, none⟩) len cap)) (hBn : Bs < n₀)
    (hc : ∀ j, j < len → W.cell? ⟨b, off + j * 2, none⟩ = some (.int .i64 (zs[j]?.getD default).at_) ∧ W.cell? ⟨b, off + j * 2 + 1, none⟩ = some (.string (zs[j]?.getD default).data)) (h0 : J [] W) :
    CallsIn F n Try.prog 115 #[.func (.yield l) #[] #[], .pointer (some ⟨Bs, 0, none⟩)] W fun e W' => (∃ v, e = .returned v) ∧
      ((∃ ys, ys = upto (fromBack zs len) len ∧ J ys W') ∨ (∃ pre, (∃ k, k ≤ len ∧ pre = upto (fromBack zs len) k) ∧ Jx pre W')) := by
  refine callsIn_of_wp Try.func115 rfl h8 ?_ hro
  simp only [Try.ntmps115, List.size_toArray, List.length_cons, List.length_nil, Nat.reduceAdd, Nat.reduceSub, Array.replicate_succ, Array.replicate_zero, List.push_toArray, List.append_toArray, List.nil_append, List.cons_append]
  gi_wp2
  gi_loopw [3] (fun i wr => ∃ r : Nat, r ≤ len ∧ i = .int .i64 ((r : Int) - 1) ∧ J (upto (fromBack zs len) (len - r)) wr ∧ Below n₀ W wr)
    (fun i _ => (intOf i + 1).toNat)
  case atStart =>
    exact ⟨len, Nat.le_refl _, rfl, by simpa [upto] using h0, Below.refl _ _⟩
  case round =>
    obtain ⟨r, hr, rfl, hJs, hnx⟩ := hrel
    have hBs2 : wr.cell? ⟨Bs, 0, none⟩ = some (.slice (some ⟨b, off, none⟩) len cap) := (hnx.cell (p := ⟨Bs, 0, none⟩) hBn).trans hBs
    cases r with
    | zero =>
      gi_wp2
      go_end0
      exact ⟨⟨_, rfl⟩, .inl ⟨_, rfl, hJs⟩⟩
    | succ r' =>
      have e1 : ((r' + 1 : Nat) : Int) - 1 = (r' : Int) := by omega
      rw [e1]
      obtain ⟨hc1, hc2⟩ := hc r' (by omega)
      have hcx := (hnx.cell (p := ⟨b, off + r' * 2, none⟩) hb).trans hc1
      have hcy := (hnx.cell (p := ⟨b, off + r' * 2 + 1, none⟩) hb).trans hc2
      obtain ⟨fn, tmps, assign, body, hy, hR⟩ := hY _ (r', zs[r']?.getD default) wr hJs (by rw [upto_length]; omega)
      dsimp only at hy
      have e2 : upto (fromBack zs len) (len - (r' + 1)) ++ [(r', zs[r']?.getD default)] = upto (fromBack zs len) (len - r') := by
        have e3 : len - r' = (len - (r' + 1)) + 1 := by omega
        have e4 : len - 1 - (len - (r' + 1)) = r' := by omega
        rw [e3, upto_succ, fromBack, e4]
      gi_wp2
      refine hR.mono ?_
      rintro e W3 (⟨rfl, hJ3, hk3⟩ | ⟨rfl, hJx3⟩)
      · gi_wp2
        go_roundw
        case rel => exact ⟨r', by omega, rfl, by rw [← e2]; exact hJ3, hnx.trans hk3⟩
        case measure => simp [intOf]
      · gi_wp2
        refine bodyPost_ret (results_none rfl _ _ _) rfl ?_
        exact ⟨⟨_, rfl⟩, .inr ⟨_, ⟨len - r', by omega, e2⟩, hJx3⟩⟩

set_option maxRecDepth 100000 in
set_option maxHeartbeats 1000000 in
theorem back1_nil_in (F : Fence) (n : Nat) (h8 : F.fn 115) (hro : F.round = none) (l Bs : Nat) (A : Option Addr) (cap : Nat) (J : List (Nat × Wr) → World → Prop) (W : World) (hBs : W.cell? ⟨Bs, 0, none⟩ = some (.slice A 0 cap)) (h0 : J [] W) :
    CallsIn F n Try.prog 115 #[.func (.yield l) #[] #[], .pointer (some ⟨Bs, 0, none⟩)] W fun e W' => (∃ v, e = .returned v) ∧ J [] W' := by
  refine callsIn_of_wp Try.func115 rfl h8 ?_ hro
  simp only [Try.ntmps115, List.size_toArray, List.length_cons, List.length_nil, Nat.reduceAdd, Nat.reduceSub, Array.replicate_succ, Array.replicate_zero, List.push_toArray, List.append_toArray, List.nil_append, List.cons_append]
  gi_wp2
  gi_loopw [3] (fun i wr => i = .int .i64 (-1) ∧ J [] wr) (fun _ _ => 0)
  case atStart => exact ⟨rfl, h0⟩
  case round =>
    obtain ⟨rfl, hJs⟩ := hrel
    gi_wp2
    go_end0
    exact ⟨⟨_, rfl⟩, hJs⟩

set_option maxHeartbeats 1000000 in
theorem back_in (F : Fence) (n : Nat) (h6 : F.fn 111) (hro : F.round = none) (a : Option Addr) (len cap : Nat) (w : World) :
    CallsIn F n Try.prog 111 #[.slice a len cap] w fun e w' => e = .returned (.func (.func 115) #[] #[.pointer (some ⟨w.heap.size, 0, none⟩)]) ∧ w' = w.alloc (.cells #[.slice a len cap] 60) := by
  refine callsIn_of_wp Try.func111 rfl h6 ?_ hro
  simp only [Try.ntmps111, List.size_toArray, List.length_cons, List.length_nil, Nat.reduceAdd, Nat.reduceSub, Array.replicate_succ, Array.replicate_zero, List.push_toArray, List.append_toArray, List.nil_append, List.cons_append]
  gi_wp2
  go_ret
  exact ⟨rfl, rfl⟩

/-- these writes lie there, below n₀ -/
def WrsAt (n₀ : Nat) (W : World) (sv : Value) (zs : List Wr) : Prop :=
  (∃ A cap, sv = .slice A 0 cap ∧ zs = []) ∨ ∃ b off cap, sv = .slice (some ⟨b, off, none⟩) zs.length cap ∧ b < n₀ ∧
    ∀ j, j < zs.length → W.cell? ⟨b, off + j * 2, none⟩ = some (.int .i64 (zs[j]?.getD default).at_) ∧ W.cell? ⟨b, off + j * 2 + 1, none⟩ = some (.string (zs[j]?.getD default).data)
theorem WrsAt.below {n₀ : Nat} {A B : World} (h : Below n₀ A B) {sv : Value} {zs : List Wr} : WrsAt n₀ A sv zs → WrsAt n₀ B sv zs
  | .inl e => .inl e
  | .inr ⟨b, off, cap, e, hb, hc⟩ => .inr ⟨b, off, cap, e, hb, fun j hj => ⟨(h.cell (p := ⟨b, off + j * 2, none⟩) hb).trans (hc j hj).1, (h.cell (p := ⟨b, off + j * 2 + 1, none⟩) hb).trans (hc j hj).2⟩⟩

theorem back_stops (F : Fence) (n : Nat) (h8 : F.fn 115) (hro : F.round = none) (hn : 1 ≤ n) (Bs n₀ : Nat) (sv : Value) (zs : List Wr) (hreach : zs.length * 24 ≤ 140737488351232) (w : World) (hBs : Bs < w.heap.size) (hn₀ : n₀ ≤ w.heap.size) (hBn : Bs < n₀)
    (hc : w.cell? ⟨Bs, 0, none⟩ = some sv) (hI : WrsAt n₀ w sv zs) :
    SeqStopsK F n Try.prog 115 #[.pointer (some ⟨Bs, 0, none⟩)] (fun x : Nat × Wr => #[Value.int .i64 (x.1 : Int), .agg #[.int .i64 x.2.at_, .string x.2.data]]) (Below n₀) (fun ys => ys = upto (fromBack zs zs.length) zs.length)
      (fun pre => ∃ k, k ≤ zs.length ∧ pre = upto (fromBack zs zs.length) k) zs.length w := fun l J Jx W hW _ _ hY h0 => by
  have hc' := (hW.cell (p := ⟨Bs, 0, none⟩) hBs).trans hc
  rcases hI.below (hW.mono hn₀) with ⟨A, cap, rfl, rfl⟩ | ⟨b, off, cap, rfl, hb, hcs⟩
  · exact (back1_nil_in F n h8 hro l Bs A cap J W hc' h0).mono fun e W' ⟨he, hj⟩ => ⟨he, .inl ⟨_, rfl, hj⟩⟩
  · exact back1_in F n h8 hro hn l Bs n₀ b off zs.length cap zs hreach hb J Jx hY W hc' hBn hcs h0
end Go.Proofs.Ytfmbfgoofiojcaa
namespace Go.Proofs.Ytfmbfgoofiojcaa
open Go.RowKit Go.Shelf
attribute [local go_sem] Oper.semAt_some
set_option linter.unusedVariables false

theorem RL.two {α : Type} {R : α → Value → Prop} {x y : α} {us : List Value} (h : RL R [x, y] us) : ∃ u v, us = [u, v] ∧ R x u ∧ R y v := by
  obtain ⟨u, us', rfl, h1, h2⟩ := h.cons_inv
  obtain ⟨v, us'', rfl, h3, h4⟩ := h2.cons_inv
  rw [h4.nil_inv]
  exact ⟨u, v, rfl, h1, h3⟩
theorem RepS.slice_form {w : World} {O : Nat → Prop} {e : Nat} {els : List (List SC)} {v : Value} (h : RepS w O (.sl e els) v) : ∃ A cap, v = .slice A els.length cap := by
  cases h with
  | sl0 => exact ⟨_, _, rfl⟩
  | sl => exact ⟨_, _, rfl⟩
theorem ownFrom_heap {β : Type} {B b : Nat} (hb : b < B) (o : Obj) : OwnFrom B (fun (_ : β) W => W.heap[b]? = some o) := fun s W W' row hs hg hr =>
  (hg.block b (Array.getElem?_eq_some_iff.1 hs).1 (fun e => by have := (hr b e.symm).1; omega)).trans hs
theorem ownFrom_pureP {β : Type} {B : Nat} (p : β → Prop) : OwnFrom B (fun (s : β) (_ : World) => p s) := fun s W W' row hs hg hr => hs
theorem own_cells {β : Type} {B b : Nat} (o : Obj) (ho : o.isCells = true) : OwnFrom B (fun (_ : β) W => W.heap[b]? = some o) := fun s W W' row hs hg hr =>
  (hg.block b (Array.getElem?_eq_some_iff.1 hs).1 (fun e => by obtain ⟨_, o', h1, h2⟩ := hr b e.symm; rw [hs] at h1; cases h1; rw [ho] at h2; cases h2)).trans hs
theorem heapCell {W : World} {B i : Nat} {cs : Array Value} {t : TypeId} {f : Nat × Nat} {v : Value} (h : W.heap[B]? = some (.cells cs t f)) (hv : cs[i]? = some v) : W.cell? ⟨B, i, none⟩ = some v := by simp [World.cell?, h, hv]
theorem heapFroz {W : World} {B i : Nat} {cs : Array Value} {t : TypeId} (h : W.heap[B]? = some (.cells cs t (0, 0))) : W.frozen? ⟨B, i, none⟩ = false := by simp [World.frozen?, h]
theorem flatWr : ∀ (zs : List Wr) (j : Nat), j < zs.length → (zs.map encWr).flatten[j * 2]? = some (.pv (.int .i64 (zs[j]?.getD default).at_)) ∧ (zs.map encWr).flatten[j * 2 + 1]? = some (.pv (.string (zs[j]?.getD default).data))
  | [], j, h => by simp at h
  | z :: zs, 0, h => by simp [encWr]
  | z :: zs, j + 1, h => by
    obtain ⟨h1, h2⟩ := flatWr zs j (by simpa using h)
    have e : (j + 1) * 2 = j * 2 + 1 + 1 := by omega
    rw [e]
    refine ⟨?_, ?_⟩
    · rw [List.map_cons, List.flatten_cons]
      simpa [encWr] using h1
    · rw [List.map_cons, List.flatten_cons]
      simpa [encWr] using h2
theorem wrsAt_of {w : World} {O : Nat → Prop} {zs : List Wr} {v : Value} {n₀ : Nat} (h : RepS w O (.sl 2 (zs.map encWr)) v) (hn : w.heap.size ≤ n₀) : WrsAt n₀ w v zs := by
  generalize hx : SC.sl 2 (zs.map encWr) = x at h
  cases h with
  | pv => cases hx
  | sptr => cases hx
  | fn => cases hx
  | tag => cases hx
  | sl0 =>
    simp only [SC.sl.injEq, List.map_eq_nil_iff] at hx
    exact .inl ⟨_, _, rfl, hx.2⟩
  | @sl e els b off cap us h0 hcap hm hb hO he hl hr hc =>
    simp only [SC.sl.injEq] at hx
    obtain ⟨rfl, rfl⟩ := hx
    have key : ∀ i u, (zs.map encWr).flatten[i]? = some (.pv u) → w.cell? ⟨b, off + i, none⟩ = some u := fun i u hi => by
      obtain ⟨h1, h2⟩ := List.getElem?_eq_some_iff.1 hi
      have h3 := hr i h1 (by omega)
      rw [h2] at h3
      rw [hc i (by omega), RepS.flat h3]
    refine .inr ⟨b, off, cap, by simp, by omega, fun j hj => ?_⟩
    obtain ⟨h1, h2⟩ := flatWr zs j hj
    exact ⟨key _ _ h1, by rw [Nat.add_assoc]; exact key _ _ h2⟩
theorem strsAt_of {w : World} {O : Nat → Prop} {zs : List ByteArray} {v : Value} (h : RepS w O (.sl 1 (zs.map encS)) v) (hz : zs ≠ []) :
    ∃ b off cap, v = .slice (some ⟨b, off, none⟩) zs.length cap ∧ b < w.heap.size ∧ ∀ j, j < zs.length → w.cell? ⟨b, off + j, none⟩ = some (.string (zs[j]?.getD ByteArray.empty)) := by
  generalize hx : SC.sl 1 (zs.map encS) = x at h
  cases h with
  | pv => cases hx
  | sptr => cases hx
  | fn => cases hx
  | tag => cases hx
  | sl0 =>
    simp only [SC.sl.injEq, List.map_eq_nil_iff] at hx
    exact absurd hx.2 hz
  | @sl e els b off cap us h0 hcap hm hb hO he hl hr hc =>
    simp only [SC.sl.injEq] at hx
    obtain ⟨rfl, rfl⟩ := hx
    have hfl : (zs.map encS).flatten = zs.map (fun s => SC.pv (.string s)) := by
      clear hl hr hc he hcap hz
      induction zs with
      | nil => rfl
      | cons z zs ih => simp [encS, ih]
    refine ⟨b, off, cap, by simp, hb, fun j hj => ?_⟩
    have hj2 : j < (zs.map encS).flatten.length := by rw [hfl]; simpa using hj
    have h3 := hr j hj2 (by omega)
    have h4 : (zs.map encS).flatten[j] = .pv (.string zs[j]) := by simp [hfl]
    rw [h4] at h3
    rw [hc j (by omega), RepS.flat h3]
    simp [hj]
theorem rev_upto (zs : List Wr) : zs.reverse = (upto (fromBack zs zs.length) zs.length).map (·.2) := by
  apply List.ext_getElem
  · simp [upto]
  · intro i h1 h2
    have h3 : i < zs.length := by simpa using h1
    have h4 : zs.length - 1 - i < zs.length := by omega
    simp [upto, fromBack, List.getElem_reverse, h4]
theorem upto_take {α : Type} (f : Nat → α) {k n : Nat} (h : k ≤ n) : upto f n = upto f k ++ (upto f n).drop k := by
  have : (upto f n).take k = upto f k := by simp [upto, ← List.map_take, List.take_range, Nat.min_eq_left h]
  conv => lhs; rw [← List.take_append_drop k (upto f n), this]
theorem look_none {zs : List Wr} {a : Int} (h : ∀ x ∈ upto (fromBack zs zs.length) zs.length, x.2.at_ ≠ a) : lookB zs a = none := by
  rw [lookB, rev_upto, List.find?_eq_none]
  intro w hw
  obtain ⟨x, hx, rfl⟩ := List.mem_map.1 hw
  simpa using h x hx
theorem look_some {zs : List Wr} {a : Int} {k : Nat} {ini : List (Nat × Wr)} {last : Nat × Wr} (hk : k ≤ zs.length) (hp : ini ++ [last] = upto (fromBack zs zs.length) k) (h : ∀ x ∈ ini, x.2.at_ ≠ a) (hl : last.2.at_ = a) : lookB zs a = some last.2 := by
  rw [lookB, rev_upto, upto_take _ hk, ← hp, List.append_assoc, List.map_append, List.find?_append]
  have : List.find? (fun w : Wr => w.at_ == a) (ini.map (·.2)) = none := by
    rw [List.find?_eq_none]
    intro w hw
    obtain ⟨x, hx, rfl⟩ := List.mem_map.1 hw
    simpa using h x hx
  rw [this]
  simp [hl]
set_option maxRecDepth 100000 in
set_option maxHeartbeats 4000000 in
theorem read_in (d : Dk) (a : Int) (w : World) (v1 v2 : Value) (h1 : RepS w (fun _ => False) (.sl 1 (d.sectors.map encS)) v1) (h2 : RepS w (fun _ => False) (.sl 2 (d.cache.map encWr)) v2) (hr : rightB d = true) (hh : hasB d a = true) :
    CallsIn .wide 3 Try.prog 102 #[.agg #[v1, v2], .int .i64 a] w fun e W' => e = .returned (.tuple #[.string (readD d a).1, .int .i64 (readD d a).2]) ∧ Below w.heap.size w W' := by
  have hright : ∀ W, Below w.heap.size w W → CallsIn .wide 2 Try.prog 72 #[.agg #[v1, v2]] W fun e W' => e = .returned (.bool true) ∧ Below W.heap.size W W' := fun W hB => by
    have := (right_spec d).plain (w := W) (us := [.agg #[v1, v2]]) (.cons ⟨[v1, v2], rfl, .cons (h1.bel hB) (.cons (h2.bel hB) .nil)⟩ .nil)
    rw [hr] at this
    exact callsIn_wide.2 this
  have hhas : ∀ W, Below w.heap.size w W → CallsIn .wide 2 Try.prog 105 #[.agg #[v1, v2], .int .i64 a] W fun e W' => e = .returned (.bool true) ∧ Below W.heap.size W W' := fun W hB => by
    have := (has_spec d a).plain (w := W) (us := [.agg #[v1, v2], .int .i64 a]) (.cons ⟨[v1, v2], rfl, .cons (h1.bel hB) (.cons (h2.bel hB) .nil)⟩ (.cons (.pv rfl) .nil))
    rw [hh] at this
    exact callsIn_wide.2 this
  have hback : ∀ W, CallsIn .wide 2 Try.prog 111 #[v2] W fun e w' => e = .returned (.func (.func 115) #[] #[.pointer (some ⟨W.heap.size, 0, none⟩)]) ∧ w' = W.alloc (.cells #[v2] 60) := fun W => by
    obtain ⟨A2, c2, rfl⟩ := h2.slice_form
    exact back_in .wide 2 trivial rfl _ _ _ W
  have hlen := right_len hr
  obtain ⟨i, rfl⟩ : ∃ i : Nat, a = i := by
    simp only [hasB, Bool.and_eq_true, decide_eq_true_eq] at hh
    exact ⟨a.toNat, by omega⟩
  have hi : i < d.sectors.length := by
    simp only [hasB, Bool.and_eq_true, decide_eq_true_eq] at hh
    omega
  obtain ⟨b1, o1, c1, hv1, hb1, hcs⟩ := strsAt_of h1 (by intro e; rw [e] at hi; simp at hi)
  obtain ⟨A2, c2, hv2⟩ := h2.slice_form
  refine callsIn_of_wp_marks Try.func102 rfl trivial ?_ rfl
  simp only [Try.ntmps102, List.size_toArray, List.length_cons, List.length_nil, Nat.reduceAdd, Nat.reduceSub, Array.replicate_succ, Array.replicate_zero, List.push_toArray, List.append_toArray, List.nil_append, List.cons_append]
  rw [hv1, hv2]
  rw [hv1, hv2] at hright hhas
  rw [hv2] at hback
  gi_wp2
  refine ⟨trivial, ?_⟩
  obtain ⟨W4, hW4⟩ : ∃ W4, ((((w.alloc (.cells #[.slice (some ⟨b1, o1, none⟩) d.sectors.length c1, .slice A2 d.cache.length c2] 62)).alloc (.cells #[.int .i64 (i : Int)] 3)).alloc (.cells #[.string ⟨#[]⟩] 9)).alloc (.cells #[.int .i64 0] 32)) = W4 := ⟨_, rfl⟩
  have hB4 : Below w.heap.size w W4 := by
    rw [← hW4]
    exact ((((Below.refl _ w).alloc (Nat.le_refl _) _).alloc (by simp) _).alloc (by simp <;> omega) _).alloc (by simp <;> omega) _
  have k4 : W4.heap[w.heap.size]? = some (.cells #[.slice (some ⟨b1, o1, none⟩) d.sectors.length c1, .slice A2 d.cache.length c2] 62 (0, 0)) ∧ W4.heap[w.heap.size + 1]? = some (.cells #[.int .i64 (i : Int)] 3 (0, 0)) ∧ W4.heap[w.heap.size + 1 + 1]? = some (.cells #[.string ⟨#[]⟩] 9 (0, 0)) ∧ W4.heap[w.heap.size + 1 + 1 + 1]? = some (.cells #[.int .i64 0] 32 (0, 0)) ∧ W4.heap.size = w.heap.size + 4 := by
    rw [← hW4]
    refine ⟨?_, ?_, ?_, ?_, by simp⟩
    · rw [Below.heap_alloc _ _ _ (by simp <;> omega), Below.heap_alloc _ _ _ (by simp <;> omega), Below.heap_alloc _ _ _ (by simp), World.alloc_heap_new]
    · rw [Below.heap_alloc _ _ _ (by simp <;> omega), Below.heap_alloc _ _ _ (by simp)]
      have := World.alloc_heap_new (w.alloc (.cells #[.slice (some ⟨b1, o1, none⟩) d.sectors.length c1, .slice A2 d.cache.length c2] 62)) (.cells #[.int .i64 (i : Int)] 3)
      rwa [World.size_alloc] at this
    · rw [Below.heap_alloc _ _ _ (by simp)]
      have := World.alloc_heap_new ((w.alloc (.cells #[.slice (some ⟨b1, o1, none⟩) d.sectors.length c1, .slice A2 d.cache.length c2] 62)).alloc (.cells #[.int .i64 (i : Int)] 3)) (.cells #[.string ⟨#[]⟩] 9)
      rwa [World.size_alloc, World.size_alloc] at this
    · have := World.alloc_heap_new (((w.alloc (.cells #[.slice (some ⟨b1, o1, none⟩) d.sectors.length c1, .slice A2 d.cache.length c2] 62)).alloc (.cells #[.int .i64 (i : Int)] 3)).alloc (.cells #[.string ⟨#[]⟩] 9)) (.cells #[.int .i64 0] 32)
      rwa [World.size_alloc, World.size_alloc, World.size_alloc] at this
  simp only [List.length_map] at *
  rw [hW4]
  refine (hright W4 hB4).mono ?_
  rintro e w5 ⟨rfl, b5⟩
  have k5 : w5.heap[w.heap.size]? = some (.cells #[.slice (some ⟨b1, o1, none⟩) d.sectors.length c1, .slice A2 d.cache.length c2] 62 (0, 0)) ∧ w5.heap[w.heap.size + 1]? = some (.cells #[.int .i64 (i : Int)] 3 (0, 0)) ∧ w5.heap[w.heap.size + 1 + 1]? = some (.cells #[.string ⟨#[]⟩] 9 (0, 0)) ∧ w5.heap[w.heap.size + 1 + 1 + 1]? = some (.cells #[.int .i64 0] 32 (0, 0)) := by
    rw [b5.block _ (by omega), b5.block _ (by omega), b5.block _ (by omega), b5.block _ (by omega)]
    exact ⟨k4.1, k4.2.1, k4.2.2.1, k4.2.2.2.1⟩
  have hB5 : Below w.heap.size w w5 := hB4.trans (b5.mono hB4.size)
  have hz5 : w.heap.size + 4 ≤ w5.heap.size := by have := b5.size; omega
  have c5a := heapCell (i := 0) k5.1 rfl
  have c5b := heapCell (i := 1) k5.1 rfl
  have c5c := heapCell (i := 0) k5.2.1 rfl
  clear k4 b5 hB4 hW4
  gi_wp2
  refine ⟨trivial, ?_⟩
  refine (hhas w5 hB5).mono ?_
  rintro e w6 ⟨rfl, b6⟩
  have k6 : w6.heap[w.heap.size]? = some (.cells #[.slice (some ⟨b1, o1, none⟩) d.sectors.length c1, .slice A2 d.cache.length c2] 62 (0, 0)) ∧ w6.heap[w.heap.size + 1]? = some (.cells #[.int .i64 (i : Int)] 3 (0, 0)) ∧ w6.heap[w.heap.size + 1 + 1]? = some (.cells #[.string ⟨#[]⟩] 9 (0, 0)) ∧ w6.heap[w.heap.size + 1 + 1 + 1]? = some (.cells #[.int .i64 0] 32 (0, 0)) := by
    rw [b6.block _ (by omega), b6.block _ (by omega), b6.block _ (by omega), b6.block _ (by omega)]
    exact k5
  have hB6 : Below w.heap.size w w6 := hB5.trans (b6.mono hB5.size)
  have hz6 : w.heap.size + 4 ≤ w6.heap.size := by have := b6.size; omega
  clear c5a c5b c5c k5 hB5 b6 hz5
  have c6a := heapCell (i := 0) k6.1 rfl
  have c6b := heapCell (i := 1) k6.1 rfl
  have c6c := heapCell (i := 0) k6.2.1 rfl
  gi_wp2
  refine ⟨trivial, ?_⟩
  refine (hback w6).mono ?_
  rintro e w7 ⟨rfl, rfl⟩
  obtain ⟨W7, hW7⟩ : ∃ W7, w6.alloc (.cells #[.slice A2 d.cache.length c2] 60) = W7 := ⟨_, rfl⟩
  have b7 : Below w6.heap.size w6 W7 := by rw [← hW7]; exact (Below.refl _ w6).alloc (Nat.le_refl _) _
  have hz7 : W7.heap.size = w6.heap.size + 1 := by rw [← hW7]; simp
  have n7 : W7.heap[w6.heap.size]? = some (.cells #[.slice A2 d.cache.length c2] 60 (0, 0)) := by rw [← hW7]; exact World.alloc_heap_new w6 _
  have k7 : W7.heap[w.heap.size]? = some (.cells #[.slice (some ⟨b1, o1, none⟩) d.sectors.length c1, .slice A2 d.cache.length c2] 62 (0, 0)) ∧ W7.heap[w.heap.size + 1]? = some (.cells #[.int .i64 (i : Int)] 3 (0, 0)) ∧ W7.heap[w.heap.size + 1 + 1]? = some (.cells #[.string ⟨#[]⟩] 9 (0, 0)) ∧ W7.heap[w.heap.size + 1 + 1 + 1]? = some (.cells #[.int .i64 0] 32 (0, 0)) := by
    rw [b7.block _ (by omega), b7.block _ (by omega), b7.block _ (by omega), b7.block _ (by omega)]
    exact k6
  have hB7 : Below w.heap.size w W7 := hB6.trans (b7.mono hB6.size)
  rw [hW7]
  clear c6a c6b c6c k6 b7
  have hws : WrsAt W7.heap.size W7 (.slice A2 d.cache.length c2) d.cache := by
    have := h2.bel hB7
    rw [hv2] at this
    exact wrsAt_of this (Nat.le_refl _)
  gi_wp2
  refine wpIn_rangeFunc_ownH (α := Nat × Wr) rfl (by omega) (gf := 115) (lb := #[.pointer (some ⟨w6.heap.size, 0, none⟩)]) rfl trivial (enters_of Try.func115 (by kernel_rfl) rfl)
    (back_stops .wide 2 trivial rfl (by omega) w6.heap.size W7.heap.size _ d.cache (by omega) W7 (by omega) (Nat.le_refl _) (by omega) (heapCell n7 rfl) hws) belowK_t (belowK_b (Nat.le_refl _)) (Below.refl _ _) (fun _ => rfl)
    (fun pre W => (∀ x ∈ pre, x.2.at_ ≠ (i : Int)) ∧ W.heap[w.heap.size]? = some (.cells #[.slice (some ⟨b1, o1, none⟩) d.sectors.length c1, .slice A2 d.cache.length c2] 62 (0, 0)) ∧ W.heap[w.heap.size + 1]? = some (.cells #[.int .i64 (i : Int)] 3 (0, 0)) ∧ W.heap[w.heap.size + 1 + 1]? = some (.cells #[.string ⟨#[]⟩] 9 (0, 0)) ∧ W.heap[w.heap.size + 1 + 1 + 1]? = some (.cells #[.int .i64 0] 32 (0, 0)) ∧ Below w.heap.size w W ∧ W7.heap.size ≤ W.heap.size)
    (fun c pre W => (c = .ret ∧ ∃ ini last, pre = ini ++ [last] ∧ (∀ x ∈ ini, x.2.at_ ≠ (i : Int)) ∧ last.2.at_ = (i : Int) ∧ W.heap[w.heap.size + 1 + 1]? = some (.cells #[.string last.2.data] 9 (0, 0)) ∧ W.heap[w.heap.size + 1 + 1 + 1]? = some (.cells #[.int .i64 0] 32 (0, 0))) ∧ Below w.heap.size w W)
    (OwnFrom.and (ownFrom_pureP _) (OwnFrom.and (ownFrom_heap (by omega) _) (OwnFrom.and (ownFrom_heap (by omega) _) (OwnFrom.and (ownFrom_heap (by omega) _) (OwnFrom.and (ownFrom_heap (by omega) _) (OwnFrom.and (ownFrom_below (Nat.le_refl _) (by omega)) (fun s W W' row hs hg hr => Nat.le_trans hs hg.size)))))))
    (fun c => OwnFrom.and (fun s W W' row hs hg hr => by
      obtain ⟨e0, ini, last, e1, e2, e3, e4, e5⟩ := hs
      exact ⟨e0, ini, last, e1, e2, e3, ownFrom_heap (β := Unit) (B := W7.heap.size) (by omega) _ () _ _ _ e4 hg hr, ownFrom_heap (β := Unit) (B := W7.heap.size) (by omega) _ () _ _ _ e5 hg hr⟩) (ownFrom_below (Nat.le_refl _) (by omega)))
    ⟨by simp, k7.1, k7.2.1, k7.2.2.1, k7.2.2.2, hB7, Nat.le_refl _⟩
    (fun x a' W => ∃ Bx, w6.heap.size < Bx ∧ W.heap[Bx]? = some (.cells #[.int .i64 x.2.at_, .string x.2.data] 141 (0, 0)) ∧ a' = { tmps := #[.agg #[.slice (some ⟨b1, o1, none⟩) d.sectors.length c1, .slice A2 d.cache.length c2], .int .i64 (i : Int), .pointer (some ⟨w.heap.size, 0, none⟩), .pointer (some ⟨w.heap.size + 1, 0, none⟩), .pointer (some ⟨w.heap.size + 1 + 1, 0, none⟩), .pointer (some ⟨w.heap.size + 1 + 1 + 1, 0, none⟩), undef, .pointer (some ⟨Bx, 0, none⟩), .agg #[.slice (some ⟨b1, o1, none⟩) d.sectors.length c1, .slice A2 d.cache.length c2], .bool true, .bool false, .bool false, .agg #[.slice (some ⟨b1, o1, none⟩) d.sectors.length c1, .slice A2 d.cache.length c2], .int .i64 (i : Int), .bool true, .bool false, .bool false, .pointer (some ⟨w.heap.size, 1, none⟩), .slice A2 d.cache.length c2, .func (.func 115) #[] #[.pointer (some ⟨w6.heap.size, 0, none⟩)], .int .i64 (x.1 : Int), .agg #[.int .i64 x.2.at_, .string x.2.data], undef, undef, undef, undef, undef, undef, undef, undef, undef, undef, undef], defers := [] })
    (fun x a' => fun s W W' row hs hg hr => by
      obtain ⟨Bx, e1, e2, e3⟩ := hs
      exact ⟨Bx, e1, own_cells (β := Unit) (B := W7.heap.size) _ rfl () _ _ _ e2 hg hr, e3⟩) ?assign ?body ?done ?stop
  case assign =>
    rintro l pre x W K ⟨i1, i2, i3, i4, i5, i6, i7⟩ hK
    gi_wp2
    have up : ∀ b o, W.heap[b]? = some o → (W.alloc (.cells #[.int .i64 x.2.at_, .string x.2.data] 141)).heap[b]? = some o := fun b o h => (Below.heap_alloc W _ b (Array.getElem?_eq_some_iff.1 h).1).trans h
    exact hK _ _ ((KeepsOthers.alloc _ _).from _) ((Below.refl _ W).alloc i7 _) ⟨i1, up _ _ i2, up _ _ i3, up _ _ i4, up _ _ i5, i6.alloc (by have := hB7.size; omega) _, by simp; omega⟩ ⟨W.heap.size, by omega, World.alloc_heap_new W _, rfl⟩
  case body =>
    rintro l pre x a' W hl hrec ⟨i1, i2, i3, i4, i5, i6, i7⟩ ⟨Bx, e1, e2, rfl⟩ hlt
    have f1 := heapCell (i := 0) e2 rfl
    have f2 := heapCell (i := 1) e2 rfl
    have f3 := heapCell (i := 0) i3 rfl
    have f4 := heapCell (i := 0) i4 rfl
    have f5 := heapCell (i := 0) i5 rfl
    have f6 := heapFroz (i := 0) i4
    have f7 := heapFroz (i := 0) i5
    by_cases he : x.2.at_ = (i : Int)
    · have g4 : Boxed W (w.heap.size + 1 + 1) 9 (.string ⟨#[]⟩) := i4
      have g5 : Boxed W (w.heap.size + 1 + 1 + 1) 32 (.int .i64 0) := i5
      gi_wp2
      refine ⟨((KeepsOthers.setCell _ _ _).trans (KeepsOthers.setCell _ _ _)).from _, ⟨rfl, pre, x, rfl, i1, he, (g4.set _).other (by omega) _, (g5.other (by omega) _).set _⟩, ?_⟩
      exact (i6.setCell (p := ⟨w.heap.size + 1 + 1, 0, none⟩) (show w.heap.size ≤ w.heap.size + 1 + 1 by omega) _).setCell (p := ⟨w.heap.size + 1 + 1 + 1, 0, none⟩) (show w.heap.size ≤ w.heap.size + 1 + 1 + 1 by omega) _
    · gi_wp2
      refine ⟨KeepsFrom.refl _ _, Below.refl _ _, ?_, i2, i3, i4, i5, i6, i7⟩
      intro y hy
      rcases List.mem_append.1 hy with h | h
      · exact i1 y h
      · rw [List.mem_singleton] at h
        rw [h]
        exact he
  case done =>
    rintro D ys W hD rfl ⟨i1, i2, i3, i4, i5, i6, i7⟩ hK
    have f1 := heapCell (i := 0) i2 rfl
    have f2 := heapCell (i := 1) i2 rfl
    have f3 := heapCell (i := 0) i3 rfl
    have f4 := heapCell (i := 0) i4 rfl
    have f5 := heapCell (i := 0) i5 rfl
    have f6 := heapFroz (i := 0) i4
    have f7 := heapFroz (i := 0) i5
    have f8 : W.cell? ⟨b1, o1 + i, none⟩ = some (.string (d.sectors[i]?.getD ByteArray.empty)) := (i6.cell (p := ⟨b1, o1 + i, none⟩) hb1).trans (hcs i hi)
    have g4 : Boxed W (w.heap.size + 1 + 1) 9 (.string ⟨#[]⟩) := i4
    have g5 : Boxed W (w.heap.size + 1 + 1 + 1) 32 (.int .i64 0) := i5
    gi_wp2
    have q4 := (g4.set (.string d.sectors[i])).other (B' := w.heap.size + 1 + 1 + 1) (by omega) (.int .i64 0)
    have q5 := (g5.other (B' := w.heap.size + 1 + 1) (by omega) (.string d.sectors[i])).set (.int .i64 0)
    have q6 := (i6.setCell (p := ⟨w.heap.size + 1 + 1, 0, none⟩) (show w.heap.size ≤ w.heap.size + 1 + 1 by omega) (.string d.sectors[i])).setCell (p := ⟨w.heap.size + 1 + 1 + 1, 0, none⟩) (show w.heap.size ≤ w.heap.size + 1 + 1 + 1 by omega) (.int .i64 0)
    have hK' := ((KeepsOthers.setCell W ⟨w.heap.size + 1 + 1, 0, none⟩ (.string d.sectors[i])).trans (KeepsOthers.setCell _ ⟨w.heap.size + 1 + 1 + 1, 0, none⟩ (.int .i64 0))).same D _ hK rfl
    refine ⟨by simp, .inl ⟨_, _, rfl, run_takeDeferred hK', ?_⟩⟩
    have r4 := cell_kept q4.cell (grownBy_putObj' _ D (.deferred none)) (fun r e => by cases e; exact ⟨_, hK', rfl⟩)
    have r5 := cell_kept q5.cell (grownBy_putObj' _ D (.deferred none)) (fun r e => by cases e; exact ⟨_, hK', rfl⟩)
    refine ⟨.tuple #[.string d.sectors[i], .int .i64 0], ?_, ?_, q6.trans (belowK_b (w := w) (Nat.le_refl _) _ D _ _ (by have := hB7.size; omega) hK' rfl rfl)⟩
    · simp [results, Try.f102, go_sem, r4, r5]
    · have : readD d i = (d.sectors[i], 0) := by simp [readD, hr, hh, look_none i1, hi]
      rw [this]
  case stop =>
    rintro D c pre W hD ⟨k, hk, hpre⟩ ⟨⟨rfl, ini, last, e1, e2, e3, e4, e5⟩, i6⟩ hK
    have g4 : Boxed W (w.heap.size + 1 + 1) 9 (.string last.2.data) := e4
    have g5 : Boxed W (w.heap.size + 1 + 1 + 1) 32 (.int .i64 0) := e5
    gi_wp2
    refine ⟨by simp, .inl ⟨_, _, rfl, run_takeDeferred hK, ?_⟩⟩
    have r4 := cell_kept g4.cell (grownBy_putObj' _ D (.deferred none)) (fun r e => by cases e; exact ⟨_, hK, rfl⟩)
    have r5 := cell_kept g5.cell (grownBy_putObj' _ D (.deferred none)) (fun r e => by cases e; exact ⟨_, hK, rfl⟩)
    refine ⟨.tuple #[.string last.2.data, .int .i64 0], ?_, ?_, i6.trans (belowK_b (w := w) (Nat.le_refl _) _ D _ _ (by have := hB7.size; omega) hK rfl rfl)⟩
    · simp [results, Try.f102, go_sem, r4, r5]
    · have : readD d i = (last.2.data, 0) := by simp [readD, hr, hh, look_some hk (e1.symm.trans hpre) e2 e3]
      rw [this]
/-- what Read refuses -/
theorem read_no (d : Dk) (a : Int) (w : World) (v1 v2 : Value) (h1 : RepS w (fun _ => False) (.sl 1 (d.sectors.map encS)) v1) (h2 : RepS w (fun _ => False) (.sl 2 (d.cache.map encWr)) v2) (hr : (!rightB d || !hasB d a) = true) :
    CallsIn .wide 3 Try.prog 102 #[.agg #[v1, v2], .int .i64 a] w fun e W' => e = .returned (.tuple #[.string (readD d a).1, .int .i64 (readD d a).2]) ∧ Below w.heap.size w W' := by
  obtain ⟨A1, c1, hv1⟩ := h1.slice_form
  obtain ⟨A2, c2, hv2⟩ := h2.slice_form
  simp only [List.length_map] at hv1 hv2
  have hright : ∀ W, Below w.heap.size w W → CallsIn .wide 2 Try.prog 72 #[.agg #[v1, v2]] W fun e W' => e = .returned (.bool (rightB d)) ∧ Below W.heap.size W W' := fun W hB =>
    callsIn_wide.2 ((right_spec d).plain (w := W) (us := [.agg #[v1, v2]]) (.cons ⟨[v1, v2], rfl, .cons (h1.bel hB) (.cons (h2.bel hB) .nil)⟩ .nil))
  have hhas : ∀ W, Below w.heap.size w W → CallsIn .wide 2 Try.prog 105 #[.agg #[v1, v2], .int .i64 a] W fun e W' => e = .returned (.bool (hasB d a)) ∧ Below W.heap.size W W' := fun W hB =>
    callsIn_wide.2 ((has_spec d a).plain (w := W) (us := [.agg #[v1, v2], .int .i64 a]) (.cons ⟨[v1, v2], rfl, .cons (h1.bel hB) (.cons (h2.bel hB) .nil)⟩ (.cons (.pv rfl) .nil)))
  rw [hv1, hv2] at hright hhas
  have hres : readD d a = (ByteArray.empty, 1) := by rw [readD, if_pos hr]
  rw [hv1, hv2, hres]
  refine callsIn_of_wp_marks Try.func102 rfl trivial ?_ rfl
  simp only [Try.ntmps102, List.size_toArray, List.length_cons, List.length_nil, Nat.reduceAdd, Nat.reduceSub, Array.replicate_succ, Array.replicate_zero, List.push_toArray, List.append_toArray, List.nil_append, List.cons_append]
  gi_wp2
  refine ⟨trivial, ?_⟩
  obtain ⟨W4, hW4⟩ : ∃ W4, ((((w.alloc (.cells #[.slice A1 d.sectors.length c1, .slice A2 d.cache.length c2] 62)).alloc (.cells #[.int .i64 a] 3)).alloc (.cells #[.string ⟨#[]⟩] 9)).alloc (.cells #[.int .i64 0] 32)) = W4 := ⟨_, rfl⟩
  have hB4 : Below w.heap.size w W4 := by
    rw [← hW4]
    exact ((((Below.refl _ w).alloc (Nat.le_refl _) _).alloc (by simp) _).alloc (by simp; omega) _).alloc (by simp; omega) _
  have k4 : W4.heap[w.heap.size]? = some (.cells #[.slice A1 d.sectors.length c1, .slice A2 d.cache.length c2] 62 (0, 0)) ∧ W4.heap[w.heap.size + 1]? = some (.cells #[.int .i64 a] 3 (0, 0)) ∧ W4.heap[w.heap.size + 1 + 1]? = some (.cells #[.string ⟨#[]⟩] 9 (0, 0)) ∧ W4.heap[w.heap.size + 1 + 1 + 1]? = some (.cells #[.int .i64 0] 32 (0, 0)) ∧ W4.heap.size = w.heap.size + 4 := by
    rw [← hW4]
    refine ⟨?_, ?_, ?_, ?_, by simp⟩
    · rw [Below.heap_alloc _ _ _ (by simp <;> omega), Below.heap_alloc _ _ _ (by simp <;> omega), Below.heap_alloc _ _ _ (by simp), World.alloc_heap_new]
    · rw [Below.heap_alloc _ _ _ (by simp <;> omega), Below.heap_alloc _ _ _ (by simp)]
      have := World.alloc_heap_new (w.alloc (.cells #[.slice A1 d.sectors.length c1, .slice A2 d.cache.length c2] 62)) (.cells #[.int .i64 a] 3)
      rwa [World.size_alloc] at this
    · rw [Below.heap_alloc _ _ _ (by simp)]
      have := World.alloc_heap_new ((w.alloc (.cells #[.slice A1 d.sectors.length c1, .slice A2 d.cache.length c2] 62)).alloc (.cells #[.int .i64 a] 3)) (.cells #[.string ⟨#[]⟩] 9)
      rwa [World.size_alloc, World.size_alloc] at this
    · have := World.alloc_heap_new (((w.alloc (.cells #[.slice A1 d.sectors.length c1, .slice A2 d.cache.length c2] 62)).alloc (.cells #[.int .i64 a] 3)).alloc (.cells #[.string ⟨#[]⟩] 9)) (.cells #[.int .i64 0] 32)
      rwa [World.size_alloc, World.size_alloc, World.size_alloc] at this
  rw [hW4]
  refine (hright W4 hB4).mono ?_
  rintro e w5 ⟨rfl, b5⟩
  have k5 : w5.heap[w.heap.size]? = some (.cells #[.slice A1 d.sectors.length c1, .slice A2 d.cache.length c2] 62 (0, 0)) ∧ w5.heap[w.heap.size + 1]? = some (.cells #[.int .i64 a] 3 (0, 0)) ∧ w5.heap[w.heap.size + 1 + 1]? = some (.cells #[.string ⟨#[]⟩] 9 (0, 0)) ∧ w5.heap[w.heap.size + 1 + 1 + 1]? = some (.cells #[.int .i64 0] 32 (0, 0)) := by
    rw [b5.block _ (by omega), b5.block _ (by omega), b5.block _ (by omega), b5.block _ (by omega)]
    exact ⟨k4.1, k4.2.1, k4.2.2.1, k4.2.2.2.1⟩
  have hB5 : Below w.heap.size w w5 := hB4.trans (b5.mono hB4.size)
  have hz5 : w.heap.size + 4 ≤ w5.heap.size := by have := b5.size; omega
  have c5a := heapCell (i := 0) k5.1 rfl
  have c5b := heapCell (i := 1) k5.1 rfl
  have c5c := heapCell (i := 0) k5.2.1 rfl
  clear k4 b5 hB4 hW4
  have g4 : Boxed w5 (w.heap.size + 1 + 1) 9 (.string ⟨#[]⟩) := k5.2.2.1
  have g5 : Boxed w5 (w.heap.size + 1 + 1 + 1) 32 (.int .i64 0) := k5.2.2.2
  have c5d := heapCell (i := 0) k5.2.2.1 rfl
  have c5e := heapCell (i := 0) k5.2.2.2 rfl
  have c5f := heapFroz (i := 0) k5.2.2.1
  have c5g := heapFroz (i := 0) k5.2.2.2
  cases hq : rightB d
  · gi_wp2
    refine ⟨trivial, ?_⟩
    gi_wp2
    have q4 := (g4.set (.string ⟨#[]⟩)).other (B' := w.heap.size + 1 + 1 + 1) (by omega) (.int .i64 1)
    have q5 := (g5.other (B' := w.heap.size + 1 + 1) (by omega) (.string ⟨#[]⟩)).set (.int .i64 1)
    have q6 := (hB5.setCell (p := ⟨w.heap.size + 1 + 1, 0, none⟩) (show w.heap.size ≤ w.heap.size + 1 + 1 by omega) (.string ⟨#[]⟩)).setCell (p := ⟨w.heap.size + 1 + 1 + 1, 0, none⟩) (show w.heap.size ≤ w.heap.size + 1 + 1 + 1 by omega) (.int .i64 1)
    have r4 := q4.cell
    have r5 := q5.cell
    refine ⟨.tuple #[.string ByteArray.empty, .int .i64 1], ?_, rfl, q6⟩
    simp [results, Try.f102, go_sem, r4, r5]
    rfl
  · rw [hq] at hr
    have hh : hasB d a = false := by simpa using hr
    rw [hh] at hhas
    gi_wp2
    refine ⟨trivial, ?_⟩
    refine (hhas w5 hB5).mono ?_
    rintro e w6 ⟨rfl, b6⟩
    have k6 : w6.heap[w.heap.size]? = some (.cells #[.slice A1 d.sectors.length c1, .slice A2 d.cache.length c2] 62 (0, 0)) ∧ w6.heap[w.heap.size + 1]? = some (.cells #[.int .i64 a] 3 (0, 0)) ∧ w6.heap[w.heap.size + 1 + 1]? = some (.cells #[.string ⟨#[]⟩] 9 (0, 0)) ∧ w6.heap[w.heap.size + 1 + 1 + 1]? = some (.cells #[.int .i64 0] 32 (0, 0)) := by
      rw [b6.block _ (by omega), b6.block _ (by omega), b6.block _ (by omega), b6.block _ (by omega)]
      exact k5
    have hB6 : Below w.heap.size w w6 := hB5.trans (b6.mono hB5.size)
    have hz6 : w.heap.size + 4 ≤ w6.heap.size := by have := b6.size; omega
    have n4 : Boxed w6 (w.heap.size + 1 + 1) 9 (.string ⟨#[]⟩) := k6.2.2.1
    have n5 : Boxed w6 (w.heap.size + 1 + 1 + 1) 32 (.int .i64 0) := k6.2.2.2
    have c6d := heapCell (i := 0) k6.2.2.1 rfl
    have c6e := heapCell (i := 0) k6.2.2.2 rfl
    have c6f := heapFroz (i := 0) k6.2.2.1
    have c6g := heapFroz (i := 0) k6.2.2.2
    gi_wp2
    have q4 := (n4.set (.string ⟨#[]⟩)).other (B' := w.heap.size + 1 + 1 + 1) (by omega) (.int .i64 1)
    have q5 := (n5.other (B' := w.heap.size + 1 + 1) (by omega) (.string ⟨#[]⟩)).set (.int .i64 1)
    have q6 := (hB6.setCell (p := ⟨w.heap.size + 1 + 1, 0, none⟩) (show w.heap.size ≤ w.heap.size + 1 + 1 by omega) (.string ⟨#[]⟩)).setCell (p := ⟨w.heap.size + 1 + 1 + 1, 0, none⟩) (show w.heap.size ≤ w.heap.size + 1 + 1 + 1 by omega) (.int .i64 1)
    have r4 := q4.cell
    have r5 := q5.cell
    refine ⟨.tuple #[.string ByteArray.empty, .int .i64 1], ?_, rfl, q6⟩
    simp [results, Try.f102, go_sem, r4, r5]
    rfl
theorem read_spec (d : Dk) (a : Int) : Spec Try.prog 102 [.agg (encDk d), rI a] (.val (.tup [(false, [.pv (.string (readD d a).1)]), (false, [.pv (.int .i64 (readD d a).2)])])) := by
  intro w O us hO hus
  obtain ⟨dv, av, rfl, hd, ha⟩ := hus.two
  obtain ⟨vs, rfl, hvs⟩ := hd
  obtain ⟨v1, v2, rfl, h1, h2⟩ := hvs.two
  have e : av = .int .i64 a := RepS.flat ha
  subst e
  have h1' := h1.less (O' := fun _ => False) (fun b h => h.elim)
  have h2' := h2.less (O' := fun _ => False) (fun b h => h.elim)
  have key : CallsIn .wide 3 Try.prog 102 #[.agg #[v1, v2], .int .i64 a] w fun e W' => e = .returned (.tuple #[.string (readD d a).1, .int .i64 (readD d a).2]) ∧ Below w.heap.size w W' := by
    cases hc : (!rightB d || !hasB d a) with
    | true => exact read_no d a w v1 v2 h1' h2' hc
    | false =>
      simp only [Bool.or_eq_false_iff, Bool.not_eq_false'] at hc
      exact read_in d a w v1 v2 h1' h2' hc.1 hc.2
  refine (callsIn_wide.1 key).mono ?_
  rintro e w' ⟨rfl, hB⟩
  refine ⟨_, rfl, ⟨[.string (readD d a).1, .int .i64 (readD d a).2], rfl, rfl, ?_⟩, hB⟩
  intro i h h'
  match i, h with
  | 0, _ => exact ⟨fun e => by simp at e, fun _ => ⟨_, rfl, .pv rfl⟩⟩
  | 1, _ => exact ⟨fun e => by simp at e, fun _ => ⟨_, rfl, .pv rfl⟩⟩
end Go.Proofs.Ytfmbfgoofiojcaa
