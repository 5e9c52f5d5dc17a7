import Derived.Test.YtcbfhpnmhhnjpaaGreatZ14
import Derived.Laws.CopyOwn
import Derived.OwnWalk
import Derived.Maps.AppendAt
set_option linter.unusedVariables false
set_option linter.unusedSimpArgs false
namespace Go.Proofs.YtcbfhpnmhhnjpaaGreat
open Go.RowKit Go.Shelf
attribute [local go_sem] Oper.semAt_some
instance : Inhabited Wr := ⟨⟨0, ByteArray.empty⟩⟩
def upto {α : Type} (f : Nat → α) (k : Nat) : List α := (List.range k).map f
theorem upto_succ {α : Type} (f : Nat → α) (k : Nat) : upto f (k + 1) = upto f k ++ [f k] := by simp [upto, List.range_succ]
theorem upto_length {α : Type} (f : Nat → α) (k : Nat) : (upto f k).length = k := by simp [upto]
def fromBack (zs : List Wr) (len j : Nat) : Nat × Wr := (len - 1 - j, zs[len - 1 - j]?.getD default)
set_option maxRecDepth 100000 in
set_option maxHeartbeats 2000000 in
theorem back1_in (F : Fence) (n : Nat) (h8 : F.fn 162) (hro : F.round = none) (hn : 1 ≤ n) (l Bs n₀ b off len cap : Nat) (zs : List Wr) (hreach : len * 24 ≤ 140737488351232) (hb : b < n₀) (J Jx : List (Nat × Wr) → World → Prop)
    (hY : ∀ pre x W, J pre W → pre.length < len → YieldAt F (n - 1) Tryz.prog l #[.int .i64 (x.1 : Int), .agg #[.int .i64 x.2.at_, .string x.2.data]] W fun e W' =>
      (e = .returned (.bool true) ∧ J (pre ++ [x]) W' ∧ Below n₀ W W') ∨ (e = .returned (.bool false) ∧ Jx (pre ++ [x]) W'))
    (W : World) (hBs : W.cell? ⟨Bs, 0, none⟩ = some (.slice (some ⟨b, off, none⟩) len cap)) (hBn : Bs < n₀)
    (hc : ∀ j, j < len → W.cell? ⟨b, off + j * 2, none⟩ = some (.int .i64 (zs[j]?.getD default).at_) ∧ W.cell? ⟨b, off + j * 2 + 1, none⟩ = some (.string (zs[j]?.getD default).data)) (h0 : J [] W) :
    CallsIn F n Tryz.prog 162 #[.func (.yield l) #[] #[], .pointer (some ⟨Bs, 0, none⟩)] W fun e W' => (∃ v, e = .returned v) ∧
      ((∃ ys, ys = upto (fromBack zs len) len ∧ J ys W') ∨ (∃ pre, (∃ k, k ≤ len ∧ pre = upto (fromBack zs len) k) ∧ Jx pre W')) := by
  refine callsIn_of_wp Tryz.func162 rfl h8 ?_ hro
  simp only [Tryz.ntmps162, List.size_toArray, List.length_cons, List.length_nil, Nat.reduceAdd, Nat.reduceSub, Array.replicate_succ, Array.replicate_zero, List.push_toArray, List.append_toArray, List.nil_append, List.cons_append]
  gi_wp2
  gi_loopw [3] (fun i wr => ∃ r : Nat, r ≤ len ∧ i = .int .i64 ((r : Int) - 1) ∧ J (upto (fromBack zs len) (len - r)) wr ∧ Below n₀ W wr)
    (fun i _ => (intOf i + 1).toNat)
  case atStart =>
    exact ⟨len, Nat.le_refl _, rfl, by simpa [upto] using h0, Below.refl _ _⟩
  case round =>
    obtain ⟨r, hr, rfl, hJs, hnx⟩ := hrel
    have hBs2 : wr.cell? ⟨Bs, 0, none⟩ = some (.slice (some ⟨b, off, none⟩) len cap) := (hnx.cell (p := ⟨Bs, 0, none⟩) hBn).trans hBs
    cases r with
    | zero =>
      gi_wp2
      go_end0
      exact ⟨⟨_, rfl⟩, .inl ⟨_, rfl, hJs⟩⟩
    | succ r' =>
      have e1 : ((r' + 1 : Nat) : Int) - 1 = (r' : Int) := by omega
      rw [e1]
      obtain ⟨hc1, hc2⟩ := hc r' (by omega)
      have hcx := (hnx.cell (p := ⟨b, off + r' * 2, none⟩) hb).trans hc1
      have hcy := (hnx.cell (p := ⟨b, off + r' * 2 + 1, none⟩) hb).trans hc2
      obtain ⟨fn, tmps, assign, body, hy, hR⟩ := hY _ (r', zs[r']?.getD default) wr hJs (by rw [upto_length]; omega)
      dsimp only at hy
      have e2 : upto (fromBack zs len) (len - (r' + 1)) ++ [(r', zs[r']?.getD default)] = upto (fromBack zs len) (len - r') := by
        have e3 : len - r' = (len - (r' + 1)) + 1 := by omega
        have e4 : len - 1 - (len - (r' + 1)) = r' := by omega
        rw [e3, upto_succ, fromBack, e4]
      gi_wp2
      refine hR.mono ?_
      rintro e W3 (⟨rfl, hJ3, hk3⟩ | ⟨rfl, hJx3⟩)
      · gi_wp2
        go_roundw
        case rel => exact ⟨r', by omega, rfl, by rw [← e2]; exact hJ3, hnx.trans hk3⟩
        case measure => simp [intOf]
      · gi_wp2
        refine bodyPost_ret (results_none rfl _ _ _) rfl ?_
        exact ⟨⟨_, rfl⟩, .inr ⟨_, ⟨len - r', by omega, e2⟩, hJx3⟩⟩
set_option maxRecDepth 100000 in
set_option maxHeartbeats 1000000 in
theorem back1_nil_in (F : Fence) (n : Nat) (h8 : F.fn 162) (hro : F.round = none) (l Bs : Nat) (A : Option Addr) (cap : Nat) (J : List (Nat × Wr) → World → Prop) (W : World) (hBs : W.cell? ⟨Bs, 0, none⟩ = some (.slice A 0 cap)) (h0 : J [] W) :
    CallsIn F n Tryz.prog 162 #[.func (.yield l) #[] #[], .pointer (some ⟨Bs, 0, none⟩)] W fun e W' => (∃ v, e = .returned v) ∧ J [] W' := by
  refine callsIn_of_wp Tryz.func162 rfl h8 ?_ hro
  simp only [Tryz.ntmps162, List.size_toArray, List.length_cons, List.length_nil, Nat.reduceAdd, Nat.reduceSub, Array.replicate_succ, Array.replicate_zero, List.push_toArray, List.append_toArray, List.nil_append, List.cons_append]
  gi_wp2
  gi_loopw [3] (fun i wr => i = .int .i64 (-1) ∧ J [] wr) (fun _ _ => 0)
  case atStart => exact ⟨rfl, h0⟩
  case round =>
    obtain ⟨rfl, hJs⟩ := hrel
    gi_wp2
    go_end0
    exact ⟨⟨_, rfl⟩, hJs⟩
set_option maxHeartbeats 1000000 in
theorem back_in (F : Fence) (n : Nat) (h6 : F.fn 132) (hro : F.round = none) (a : Option Addr) (len cap : Nat) (w : World) :
    CallsIn F n Tryz.prog 132 #[.slice a len cap] w fun e w' => e = .returned (.func (.func 162) #[] #[.pointer (some ⟨w.heap.size, 0, none⟩)]) ∧ w' = w.alloc (.cells #[.slice a len cap] 36) := by
  refine callsIn_of_wp Tryz.func132 rfl h6 ?_ hro
  simp only [Tryz.ntmps132, List.size_toArray, List.length_cons, List.length_nil, Nat.reduceAdd, Nat.reduceSub, Array.replicate_succ, Array.replicate_zero, List.push_toArray, List.append_toArray, List.nil_append, List.cons_append]
  gi_wp2
  go_ret
  exact ⟨rfl, rfl⟩
def WrsAt (n₀ : Nat) (W : World) (sv : Value) (zs : List Wr) : Prop :=
  (∃ A cap, sv = .slice A 0 cap ∧ zs = []) ∨ ∃ b off cap, sv = .slice (some ⟨b, off, none⟩) zs.length cap ∧ b < n₀ ∧
    ∀ j, j < zs.length → W.cell? ⟨b, off + j * 2, none⟩ = some (.int .i64 (zs[j]?.getD default).at_) ∧ W.cell? ⟨b, off + j * 2 + 1, none⟩ = some (.string (zs[j]?.getD default).data)
theorem WrsAt.below {n₀ : Nat} {A B : World} (h : Below n₀ A B) {sv : Value} {zs : List Wr} : WrsAt n₀ A sv zs → WrsAt n₀ B sv zs
  | .inl e => .inl e
  | .inr ⟨b, off, cap, e, hb, hc⟩ => .inr ⟨b, off, cap, e, hb, fun j hj => ⟨(h.cell (p := ⟨b, off + j * 2, none⟩) hb).trans (hc j hj).1, (h.cell (p := ⟨b, off + j * 2 + 1, none⟩) hb).trans (hc j hj).2⟩⟩
theorem back_stops (F : Fence) (n : Nat) (h8 : F.fn 162) (hro : F.round = none) (hn : 1 ≤ n) (Bs n₀ : Nat) (sv : Value) (zs : List Wr) (hreach : zs.length * 24 ≤ 140737488351232) (w : World) (hBs : Bs < w.heap.size) (hn₀ : n₀ ≤ w.heap.size) (hBn : Bs < n₀)
    (hc : w.cell? ⟨Bs, 0, none⟩ = some sv) (hI : WrsAt n₀ w sv zs) :
    SeqStopsK F n Tryz.prog 162 #[.pointer (some ⟨Bs, 0, none⟩)] (fun x : Nat × Wr => #[Value.int .i64 (x.1 : Int), .agg #[.int .i64 x.2.at_, .string x.2.data]]) (Below n₀) (fun ys => ys = upto (fromBack zs zs.length) zs.length)
      (fun pre => ∃ k, k ≤ zs.length ∧ pre = upto (fromBack zs zs.length) k) zs.length w := fun l J Jx W hW _ _ hY h0 => by
  have hc' := (hW.cell (p := ⟨Bs, 0, none⟩) hBs).trans hc
  rcases hI.below (hW.mono hn₀) with ⟨A, cap, rfl, rfl⟩ | ⟨b, off, cap, rfl, hb, hcs⟩
  · exact (back1_nil_in F n h8 hro l Bs A cap J W hc' h0).mono fun e W' ⟨he, hj⟩ => ⟨he, .inl ⟨_, rfl, hj⟩⟩
  · exact back1_in F n h8 hro hn l Bs n₀ b off zs.length cap zs hreach hb J Jx hY W hc' hBn hcs h0
end Go.Proofs.YtcbfhpnmhhnjpaaGreat

namespace Go.Proofs.YtcbfhpnmhhnjpaaGreat
open Go.RowKit Go.Shelf
attribute [local go_sem] Oper.semAt_some
theorem RL.two {α : Type} {R : α → Value → Prop} {x y : α} {us : List Value} (h : RL R [x, y] us) : ∃ u v, us = [u, v] ∧ R x u ∧ R y v := by
  obtain ⟨u, us', rfl, h1, h2⟩ := h.cons_inv
  obtain ⟨v, us'', rfl, h3, h4⟩ := h2.cons_inv
  rw [h4.nil_inv]
  exact ⟨u, v, rfl, h1, h3⟩
theorem RepS.slice_form {w : World} {O : Nat → Prop} {e : Nat} {els : List (List SC)} {v : Value} (h : RepS w O (.sl e els) v) : ∃ A cap, v = .slice A els.length cap := by
  cases h with
  | sl0 => exact ⟨_, _, rfl⟩
  | sl => exact ⟨_, _, rfl⟩
theorem ownFrom_heap {β : Type} {B b : Nat} (hb : b < B) (o : Obj) : OwnFrom B (fun (_ : β) W => W.heap[b]? = some o) := fun s W W' row hs hg hr =>
  (hg.block b (Array.getElem?_eq_some_iff.1 hs).1 (fun e => by have := (hr b e.symm).1; omega)).trans hs
theorem ownFrom_pureP {β : Type} {B : Nat} (p : β → Prop) : OwnFrom B (fun (s : β) (_ : World) => p s) := fun s W W' row hs hg hr => hs
theorem own_cells {β : Type} {B b : Nat} (o : Obj) (ho : o.isCells = true) : OwnFrom B (fun (_ : β) W => W.heap[b]? = some o) := fun s W W' row hs hg hr =>
  (hg.block b (Array.getElem?_eq_some_iff.1 hs).1 (fun e => by obtain ⟨_, o', h1, h2⟩ := hr b e.symm; rw [hs] at h1; cases h1; rw [ho] at h2; cases h2)).trans hs
theorem heapCell {W : World} {B i : Nat} {cs : Array Value} {t : TypeId} {f : Nat × Nat} {v : Value} (h : W.heap[B]? = some (.cells cs t f)) (hv : cs[i]? = some v) : W.cell? ⟨B, i, none⟩ = some v := by simp [World.cell?, h, hv]
theorem heapFroz {W : World} {B i : Nat} {cs : Array Value} {t : TypeId} (h : W.heap[B]? = some (.cells cs t (0, 0))) : W.frozen? ⟨B, i, none⟩ = false := by simp [World.frozen?, h]
theorem flatWr : ∀ (zs : List Wr) (j : Nat), j < zs.length → (zs.map encWr).flatten[j * 2]? = some (.pv (.int .i64 (zs[j]?.getD default).at_)) ∧ (zs.map encWr).flatten[j * 2 + 1]? = some (.pv (.string (zs[j]?.getD default).data))
  | [], j, h => by simp at h
  | z :: zs, 0, h => by simp [encWr]
  | z :: zs, j + 1, h => by
    obtain ⟨h1, h2⟩ := flatWr zs j (by simpa using h)
    have e : (j + 1) * 2 = j * 2 + 1 + 1 := by omega
    rw [e]
    refine ⟨?_, ?_⟩
    · rw [List.map_cons, List.flatten_cons]
      simpa [encWr] using h1
    · rw [List.map_cons, List.flatten_cons]
      simpa [encWr] using h2
theorem wrsAt_of {w : World} {O : Nat → Prop} {zs : List Wr} {v : Value} {n₀ : Nat} (h : RepS w O (.sl 2 (zs.map encWr)) v) (hn : w.heap.size ≤ n₀) : WrsAt n₀ w v zs := by
  generalize hx : SC.sl 2 (zs.map encWr) = x at h
  cases h with
  | pv => cases hx
  | sptr => cases hx
  | fn => cases hx
  | tag => cases hx
  | sl0 =>
    simp only [SC.sl.injEq, List.map_eq_nil_iff] at hx
    exact .inl ⟨_, _, rfl, hx.2⟩
  | @sl e els b off cap us h0 hcap hm hb hO he hl hr hc =>
    simp only [SC.sl.injEq] at hx
    obtain ⟨rfl, rfl⟩ := hx
    have key : ∀ i u, (zs.map encWr).flatten[i]? = some (.pv u) → w.cell? ⟨b, off + i, none⟩ = some u := fun i u hi => by
      obtain ⟨h1, h2⟩ := List.getElem?_eq_some_iff.1 hi
      have h3 := hr i h1 (by omega)
      rw [h2] at h3
      rw [hc i (by omega), RepS.flat h3]
    refine .inr ⟨b, off, cap, by simp, by omega, fun j hj => ?_⟩
    obtain ⟨h1, h2⟩ := flatWr zs j hj
    exact ⟨key _ _ h1, by rw [Nat.add_assoc]; exact key _ _ h2⟩
theorem strsAt_of {w : World} {O : Nat → Prop} {zs : List ByteArray} {v : Value} (h : RepS w O (.sl 1 (zs.map encS)) v) (hz : zs ≠ []) :
    ∃ b off cap, v = .slice (some ⟨b, off, none⟩) zs.length cap ∧ b < w.heap.size ∧ ∀ j, j < zs.length → w.cell? ⟨b, off + j, none⟩ = some (.string (zs[j]?.getD ByteArray.empty)) := by
  generalize hx : SC.sl 1 (zs.map encS) = x at h
  cases h with
  | pv => cases hx
  | sptr => cases hx
  | fn => cases hx
  | tag => cases hx
  | sl0 =>
    simp only [SC.sl.injEq, List.map_eq_nil_iff] at hx
    exact absurd hx.2 hz
  | @sl e els b off cap us h0 hcap hm hb hO he hl hr hc =>
    simp only [SC.sl.injEq] at hx
    obtain ⟨rfl, rfl⟩ := hx
    have hfl : (zs.map encS).flatten = zs.map (fun s => SC.pv (.string s)) := by
      clear hl hr hc he hcap hz
      induction zs with
      | nil => rfl
      | cons z zs ih => simp [encS, ih]
    refine ⟨b, off, cap, by simp, hb, fun j hj => ?_⟩
    have hj2 : j < (zs.map encS).flatten.length := by rw [hfl]; simpa using hj
    have h3 := hr j hj2 (by omega)
    have h4 : (zs.map encS).flatten[j] = .pv (.string zs[j]) := by simp [hfl]
    rw [h4] at h3
    rw [hc j (by omega), RepS.flat h3]
    simp [hj]
theorem rev_upto (zs : List Wr) : zs.reverse = (upto (fromBack zs zs.length) zs.length).map (·.2) := by
  apply List.ext_getElem
  · simp [upto]
  · intro i h1 h2
    have h3 : i < zs.length := by simpa using h1
    have h4 : zs.length - 1 - i < zs.length := by omega
    simp [upto, fromBack, List.getElem_reverse, h4]
theorem upto_take {α : Type} (f : Nat → α) {k n : Nat} (h : k ≤ n) : upto f n = upto f k ++ (upto f n).drop k := by
  have : (upto f n).take k = upto f k := by simp [upto, ← List.map_take, List.take_range, Nat.min_eq_left h]
  conv => lhs; rw [← List.take_append_drop k (upto f n), this]
theorem look_none {zs : List Wr} {a : Int} (h : ∀ x ∈ upto (fromBack zs zs.length) zs.length, x.2.at_ ≠ a) : lookB zs a = none := by
  rw [lookB, rev_upto, List.find?_eq_none]
  intro w hw
  obtain ⟨x, hx, rfl⟩ := List.mem_map.1 hw
  simpa using h x hx
theorem look_some {zs : List Wr} {a : Int} {k : Nat} {ini : List (Nat × Wr)} {last : Nat × Wr} (hk : k ≤ zs.length) (hp : ini ++ [last] = upto (fromBack zs zs.length) k) (h : ∀ x ∈ ini, x.2.at_ ≠ a) (hl : last.2.at_ = a) : lookB zs a = some last.2 := by
  rw [lookB, rev_upto, upto_take _ hk, ← hp, List.append_assoc, List.map_append, List.find?_append]
  have : List.find? (fun w : Wr => w.at_ == a) (ini.map (·.2)) = none := by
    rw [List.find?_eq_none]
    intro w hw
    obtain ⟨x, hx, rfl⟩ := List.mem_map.1 hw
    simpa using h x hx
  rw [this]
  simp [hl]
set_option maxRecDepth 100000 in
set_option maxHeartbeats 4000000 in
theorem read_in (d : Dk) (a : Int) (w : World) (v1 v2 : Value) (h1 : RepS w (fun _ => False) (.sl 1 (d.sectors.map encS)) v1) (h2 : RepS w (fun _ => False) (.sl 2 (d.cache.map encWr)) v2) (hr : rightB d = true) (hh : hasB d a = true) :
    CallsIn .wide 3 Tryz.prog 99 #[.agg #[v1, v2], .int .i64 a] w fun e W' => e = .returned (.tuple #[.string (readD d a).1, .int .i64 (readD d a).2]) ∧ Below w.heap.size w W' := by
  have hright : ∀ W, Below w.heap.size w W → CallsIn .wide 2 Tryz.prog 92 #[.agg #[v1, v2]] W fun e W' => e = .returned (.bool true) ∧ Below W.heap.size W W' := fun W hB => by
    have := (right_spec d).plain (w := W) (us := [.agg #[v1, v2]]) (.cons ⟨[v1, v2], rfl, .cons (h1.bel hB) (.cons (h2.bel hB) .nil)⟩ .nil)
    rw [hr] at this
    exact callsIn_wide.2 this
  have hhas : ∀ W, Below w.heap.size w W → CallsIn .wide 2 Tryz.prog 131 #[.agg #[v1, v2], .int .i64 a] W fun e W' => e = .returned (.bool true) ∧ Below W.heap.size W W' := fun W hB => by
    have := (has_spec d a).plain (w := W) (us := [.agg #[v1, v2], .int .i64 a]) (.cons ⟨[v1, v2], rfl, .cons (h1.bel hB) (.cons (h2.bel hB) .nil)⟩ (.cons (.pv rfl) .nil))
    rw [hh] at this
    exact callsIn_wide.2 this
  have hback : ∀ W, CallsIn .wide 2 Tryz.prog 132 #[v2] W fun e w' => e = .returned (.func (.func 162) #[] #[.pointer (some ⟨W.heap.size, 0, none⟩)]) ∧ w' = W.alloc (.cells #[v2] 36) := fun W => by
    obtain ⟨A2, c2, rfl⟩ := h2.slice_form
    exact back_in .wide 2 trivial rfl _ _ _ W
  have hlen := right_len hr
  obtain ⟨i, rfl⟩ : ∃ i : Nat, a = i := by
    simp only [hasB, Bool.and_eq_true, decide_eq_true_eq] at hh
    exact ⟨a.toNat, by omega⟩
  have hi : i < d.sectors.length := by
    simp only [hasB, Bool.and_eq_true, decide_eq_true_eq] at hh
    omega
  obtain ⟨b1, o1, c1, hv1, hb1, hcs⟩ := strsAt_of h1 (by intro e; rw [e] at hi; simp at hi)
  obtain ⟨A2, c2, hv2⟩ := h2.slice_form
  refine callsIn_of_wp_marks Tryz.func99 rfl trivial ?_ rfl
  simp only [Tryz.ntmps99, List.size_toArray, List.length_cons, List.length_nil, Nat.reduceAdd, Nat.reduceSub, Array.replicate_succ, Array.replicate_zero, List.push_toArray, List.append_toArray, List.nil_append, List.cons_append]
  rw [hv1, hv2]
  rw [hv1, hv2] at hright hhas
  rw [hv2] at hback
  gi_wp2
  refine ⟨trivial, ?_⟩
  obtain ⟨W4, hW4⟩ : ∃ W4, ((((w.alloc (.cells #[.slice (some ⟨b1, o1, none⟩) d.sectors.length c1, .slice A2 d.cache.length c2] 38)).alloc (.cells #[.int .i64 (i : Int)] 3)).alloc (.cells #[.string ⟨#[]⟩] 9)).alloc (.cells #[.int .i64 0] 52)) = W4 := ⟨_, rfl⟩
  have hB4 : Below w.heap.size w W4 := by
    rw [← hW4]
    exact ((((Below.refl _ w).alloc (Nat.le_refl _) _).alloc (by simp) _).alloc (by simp <;> omega) _).alloc (by simp <;> omega) _
  have k4 : W4.heap[w.heap.size]? = some (.cells #[.slice (some ⟨b1, o1, none⟩) d.sectors.length c1, .slice A2 d.cache.length c2] 38 (0, 0)) ∧ W4.heap[w.heap.size + 1]? = some (.cells #[.int .i64 (i : Int)] 3 (0, 0)) ∧ W4.heap[w.heap.size + 1 + 1]? = some (.cells #[.string ⟨#[]⟩] 9 (0, 0)) ∧ W4.heap[w.heap.size + 1 + 1 + 1]? = some (.cells #[.int .i64 0] 52 (0, 0)) ∧ W4.heap.size = w.heap.size + 4 := by
    rw [← hW4]
    refine ⟨?_, ?_, ?_, ?_, by simp⟩
    · rw [Below.heap_alloc _ _ _ (by simp <;> omega), Below.heap_alloc _ _ _ (by simp <;> omega), Below.heap_alloc _ _ _ (by simp), World.alloc_heap_new]
    · rw [Below.heap_alloc _ _ _ (by simp <;> omega), Below.heap_alloc _ _ _ (by simp)]
      have := World.alloc_heap_new (w.alloc (.cells #[.slice (some ⟨b1, o1, none⟩) d.sectors.length c1, .slice A2 d.cache.length c2] 38)) (.cells #[.int .i64 (i : Int)] 3)
      rwa [World.size_alloc] at this
    · rw [Below.heap_alloc _ _ _ (by simp)]
      have := World.alloc_heap_new ((w.alloc (.cells #[.slice (some ⟨b1, o1, none⟩) d.sectors.length c1, .slice A2 d.cache.length c2] 38)).alloc (.cells #[.int .i64 (i : Int)] 3)) (.cells #[.string ⟨#[]⟩] 9)
      rwa [World.size_alloc, World.size_alloc] at this
    · have := World.alloc_heap_new (((w.alloc (.cells #[.slice (some ⟨b1, o1, none⟩) d.sectors.length c1, .slice A2 d.cache.length c2] 38)).alloc (.cells #[.int .i64 (i : Int)] 3)).alloc (.cells #[.string ⟨#[]⟩] 9)) (.cells #[.int .i64 0] 52)
      rwa [World.size_alloc, World.size_alloc, World.size_alloc] at this
  simp only [List.length_map] at *
  rw [hW4]
  refine (hright W4 hB4).mono ?_
  rintro e w5 ⟨rfl, b5⟩
  have k5 : w5.heap[w.heap.size]? = some (.cells #[.slice (some ⟨b1, o1, none⟩) d.sectors.length c1, .slice A2 d.cache.length c2] 38 (0, 0)) ∧ w5.heap[w.heap.size + 1]? = some (.cells #[.int .i64 (i : Int)] 3 (0, 0)) ∧ w5.heap[w.heap.size + 1 + 1]? = some (.cells #[.string ⟨#[]⟩] 9 (0, 0)) ∧ w5.heap[w.heap.size + 1 + 1 + 1]? = some (.cells #[.int .i64 0] 52 (0, 0)) := by
    rw [b5.block _ (by omega), b5.block _ (by omega), b5.block _ (by omega), b5.block _ (by omega)]
    exact ⟨k4.1, k4.2.1, k4.2.2.1, k4.2.2.2.1⟩
  have hB5 : Below w.heap.size w w5 := hB4.trans (b5.mono hB4.size)
  have hz5 : w.heap.size + 4 ≤ w5.heap.size := by have := b5.size; omega
  have c5a := heapCell (i := 0) k5.1 rfl
  have c5b := heapCell (i := 1) k5.1 rfl
  have c5c := heapCell (i := 0) k5.2.1 rfl
  clear k4 b5 hB4 hW4
  gi_wp2
  refine ⟨trivial, ?_⟩
  refine (hhas w5 hB5).mono ?_
  rintro e w6 ⟨rfl, b6⟩
  have k6 : w6.heap[w.heap.size]? = some (.cells #[.slice (some ⟨b1, o1, none⟩) d.sectors.length c1, .slice A2 d.cache.length c2] 38 (0, 0)) ∧ w6.heap[w.heap.size + 1]? = some (.cells #[.int .i64 (i : Int)] 3 (0, 0)) ∧ w6.heap[w.heap.size + 1 + 1]? = some (.cells #[.string ⟨#[]⟩] 9 (0, 0)) ∧ w6.heap[w.heap.size + 1 + 1 + 1]? = some (.cells #[.int .i64 0] 52 (0, 0)) := by
    rw [b6.block _ (by omega), b6.block _ (by omega), b6.block _ (by omega), b6.block _ (by omega)]
    exact k5
  have hB6 : Below w.heap.size w w6 := hB5.trans (b6.mono hB5.size)
  have hz6 : w.heap.size + 4 ≤ w6.heap.size := by have := b6.size; omega
  clear c5a c5b c5c k5 hB5 b6 hz5
  have c6a := heapCell (i := 0) k6.1 rfl
  have c6b := heapCell (i := 1) k6.1 rfl
  have c6c := heapCell (i := 0) k6.2.1 rfl
  gi_wp2
  refine ⟨trivial, ?_⟩
  refine (hback w6).mono ?_
  rintro e w7 ⟨rfl, rfl⟩
  obtain ⟨W7, hW7⟩ : ∃ W7, w6.alloc (.cells #[.slice A2 d.cache.length c2] 36) = W7 := ⟨_, rfl⟩
  have b7 : Below w6.heap.size w6 W7 := by rw [← hW7]; exact (Below.refl _ w6).alloc (Nat.le_refl _) _
  have hz7 : W7.heap.size = w6.heap.size + 1 := by rw [← hW7]; simp
  have n7 : W7.heap[w6.heap.size]? = some (.cells #[.slice A2 d.cache.length c2] 36 (0, 0)) := by rw [← hW7]; exact World.alloc_heap_new w6 _
  have k7 : W7.heap[w.heap.size]? = some (.cells #[.slice (some ⟨b1, o1, none⟩) d.sectors.length c1, .slice A2 d.cache.length c2] 38 (0, 0)) ∧ W7.heap[w.heap.size + 1]? = some (.cells #[.int .i64 (i : Int)] 3 (0, 0)) ∧ W7.heap[w.heap.size + 1 + 1]? = some (.cells #[.string ⟨#[]⟩] 9 (0, 0)) ∧ W7.heap[w.heap.size + 1 + 1 + 1]? = some (.cells #[.int .i64 0] 52 (0, 0)) := by
    rw [b7.block _ (by omega), b7.block _ (by omega), b7.block _ (by omega), b7.block _ (by omega)]
    exact k6
  have hB7 : Below w.heap.size w W7 := hB6.trans (b7.mono hB6.size)
  rw [hW7]
  clear c6a c6b c6c k6 b7
  have hws : WrsAt W7.heap.size W7 (.slice A2 d.cache.length c2) d.cache := by
    have := h2.bel hB7
    rw [hv2] at this
    exact wrsAt_of this (Nat.le_refl _)
  gi_wp2
  refine wpIn_rangeFunc_ownH (α := Nat × Wr) rfl (by omega) (gf := 162) (lb := #[.pointer (some ⟨w6.heap.size, 0, none⟩)]) rfl trivial (enters_of Tryz.func162 (by kernel_rfl) rfl)
    (back_stops .wide 2 trivial rfl (by omega) w6.heap.size W7.heap.size _ d.cache (by omega) W7 (by omega) (Nat.le_refl _) (by omega) (heapCell n7 rfl) hws) belowK_t (belowK_b (Nat.le_refl _)) (Below.refl _ _) (fun _ => rfl)
    (fun pre W => (∀ x ∈ pre, x.2.at_ ≠ (i : Int)) ∧ W.heap[w.heap.size]? = some (.cells #[.slice (some ⟨b1, o1, none⟩) d.sectors.length c1, .slice A2 d.cache.length c2] 38 (0, 0)) ∧ W.heap[w.heap.size + 1]? = some (.cells #[.int .i64 (i : Int)] 3 (0, 0)) ∧ W.heap[w.heap.size + 1 + 1]? = some (.cells #[.string ⟨#[]⟩] 9 (0, 0)) ∧ W.heap[w.heap.size + 1 + 1 + 1]? = some (.cells #[.int .i64 0] 52 (0, 0)) ∧ Below w.heap.size w W ∧ W7.heap.size ≤ W.heap.size)
    (fun c pre W => (c = .ret ∧ ∃ ini last, pre = ini ++ [last] ∧ (∀ x ∈ ini, x.2.at_ ≠ (i : Int)) ∧ last.2.at_ = (i : Int) ∧ W.heap[w.heap.size + 1 + 1]? = some (.cells #[.string last.2.data] 9 (0, 0)) ∧ W.heap[w.heap.size + 1 + 1 + 1]? = some (.cells #[.int .i64 0] 52 (0, 0))) ∧ Below w.heap.size w W)
    (OwnFrom.and (ownFrom_pureP _) (OwnFrom.and (ownFrom_heap (by omega) _) (OwnFrom.and (ownFrom_heap (by omega) _) (OwnFrom.and (ownFrom_heap (by omega) _) (OwnFrom.and (ownFrom_heap (by omega) _) (OwnFrom.and (ownFrom_below (Nat.le_refl _) (by omega)) (fun s W W' row hs hg hr => Nat.le_trans hs hg.size)))))))
    (fun c => OwnFrom.and (fun s W W' row hs hg hr => by
      obtain ⟨e0, ini, last, e1, e2, e3, e4, e5⟩ := hs
      exact ⟨e0, ini, last, e1, e2, e3, ownFrom_heap (β := Unit) (B := W7.heap.size) (by omega) _ () _ _ _ e4 hg hr, ownFrom_heap (β := Unit) (B := W7.heap.size) (by omega) _ () _ _ _ e5 hg hr⟩) (ownFrom_below (Nat.le_refl _) (by omega)))
    ⟨by simp, k7.1, k7.2.1, k7.2.2.1, k7.2.2.2, hB7, Nat.le_refl _⟩
    (fun x a' W => ∃ Bx, w6.heap.size < Bx ∧ W.heap[Bx]? = some (.cells #[.int .i64 x.2.at_, .string x.2.data] 120 (0, 0)) ∧ a' = { tmps := #[.agg #[.slice (some ⟨b1, o1, none⟩) d.sectors.length c1, .slice A2 d.cache.length c2], .int .i64 (i : Int), .pointer (some ⟨w.heap.size, 0, none⟩), .pointer (some ⟨w.heap.size + 1, 0, none⟩), .pointer (some ⟨w.heap.size + 1 + 1, 0, none⟩), .pointer (some ⟨w.heap.size + 1 + 1 + 1, 0, none⟩), undef, .pointer (some ⟨Bx, 0, none⟩), .agg #[.slice (some ⟨b1, o1, none⟩) d.sectors.length c1, .slice A2 d.cache.length c2], .bool true, .bool false, .bool false, .agg #[.slice (some ⟨b1, o1, none⟩) d.sectors.length c1, .slice A2 d.cache.length c2], .int .i64 (i : Int), .bool true, .bool false, .bool false, .pointer (some ⟨w.heap.size, 1, none⟩), .slice A2 d.cache.length c2, .func (.func 162) #[] #[.pointer (some ⟨w6.heap.size, 0, none⟩)], .int .i64 (x.1 : Int), .agg #[.int .i64 x.2.at_, .string x.2.data], undef, undef, undef, undef, undef, undef, undef, undef, undef, undef, undef], defers := [] })
    (fun x a' => fun s W W' row hs hg hr => by
      obtain ⟨Bx, e1, e2, e3⟩ := hs
      exact ⟨Bx, e1, own_cells (β := Unit) (B := W7.heap.size) _ rfl () _ _ _ e2 hg hr, e3⟩) ?assign ?body ?done ?stop
  case assign =>
    rintro l pre x W K ⟨i1, i2, i3, i4, i5, i6, i7⟩ hK
    gi_wp2
    have up : ∀ b o, W.heap[b]? = some o → (W.alloc (.cells #[.int .i64 x.2.at_, .string x.2.data] 120)).heap[b]? = some o := fun b o h => (Below.heap_alloc W _ b (Array.getElem?_eq_some_iff.1 h).1).trans h
    exact hK _ _ ((KeepsOthers.alloc _ _).from _) ((Below.refl _ W).alloc i7 _) ⟨i1, up _ _ i2, up _ _ i3, up _ _ i4, up _ _ i5, i6.alloc (by have := hB7.size; omega) _, by simp; omega⟩ ⟨W.heap.size, by omega, World.alloc_heap_new W _, rfl⟩
  case body =>
    rintro l pre x a' W hl hrec ⟨i1, i2, i3, i4, i5, i6, i7⟩ ⟨Bx, e1, e2, rfl⟩ hlt
    have f1 := heapCell (i := 0) e2 rfl
    have f2 := heapCell (i := 1) e2 rfl
    have f3 := heapCell (i := 0) i3 rfl
    have f4 := heapCell (i := 0) i4 rfl
    have f5 := heapCell (i := 0) i5 rfl
    have f6 := heapFroz (i := 0) i4
    have f7 := heapFroz (i := 0) i5
    by_cases he : x.2.at_ = (i : Int)
    · have g4 : Boxed W (w.heap.size + 1 + 1) 9 (.string ⟨#[]⟩) := i4
      have g5 : Boxed W (w.heap.size + 1 + 1 + 1) 52 (.int .i64 0) := i5
      gi_wp2
      refine ⟨((KeepsOthers.setCell _ _ _).trans (KeepsOthers.setCell _ _ _)).from _, ⟨rfl, pre, x, rfl, i1, he, (g4.set _).other (by omega) _, (g5.other (by omega) _).set _⟩, ?_⟩
      exact (i6.setCell (p := ⟨w.heap.size + 1 + 1, 0, none⟩) (show w.heap.size ≤ w.heap.size + 1 + 1 by omega) _).setCell (p := ⟨w.heap.size + 1 + 1 + 1, 0, none⟩) (show w.heap.size ≤ w.heap.size + 1 + 1 + 1 by omega) _
    · gi_wp2
      refine ⟨KeepsFrom.refl _ _, Below.refl _ _, ?_, i2, i3, i4, i5, i6, i7⟩
      intro y hy
      rcases List.mem_append.1 hy with h | h
      · exact i1 y h
      · rw [List.mem_singleton] at h
        rw [h]
        exact he
  case done =>
    rintro D ys W hD rfl ⟨i1, i2, i3, i4, i5, i6, i7⟩ hK
    have f1 := heapCell (i := 0) i2 rfl
    have f2 := heapCell (i := 1) i2 rfl
    have f3 := heapCell (i := 0) i3 rfl
    have f4 := heapCell (i := 0) i4 rfl
    have f5 := heapCell (i := 0) i5 rfl
    have f6 := heapFroz (i := 0) i4
    have f7 := heapFroz (i := 0) i5
    have f8 : W.cell? ⟨b1, o1 + i, none⟩ = some (.string (d.sectors[i]?.getD ByteArray.empty)) := (i6.cell (p := ⟨b1, o1 + i, none⟩) hb1).trans (hcs i hi)
    have g4 : Boxed W (w.heap.size + 1 + 1) 9 (.string ⟨#[]⟩) := i4
    have g5 : Boxed W (w.heap.size + 1 + 1 + 1) 52 (.int .i64 0) := i5
    gi_wp2
    have q4 := (g4.set (.string d.sectors[i])).other (B' := w.heap.size + 1 + 1 + 1) (by omega) (.int .i64 0)
    have q5 := (g5.other (B' := w.heap.size + 1 + 1) (by omega) (.string d.sectors[i])).set (.int .i64 0)
    have q6 := (i6.setCell (p := ⟨w.heap.size + 1 + 1, 0, none⟩) (show w.heap.size ≤ w.heap.size + 1 + 1 by omega) (.string d.sectors[i])).setCell (p := ⟨w.heap.size + 1 + 1 + 1, 0, none⟩) (show w.heap.size ≤ w.heap.size + 1 + 1 + 1 by omega) (.int .i64 0)
    have hK' := ((KeepsOthers.setCell W ⟨w.heap.size + 1 + 1, 0, none⟩ (.string d.sectors[i])).trans (KeepsOthers.setCell _ ⟨w.heap.size + 1 + 1 + 1, 0, none⟩ (.int .i64 0))).same D _ hK rfl
    refine ⟨by simp, .inl ⟨_, _, rfl, run_takeDeferred hK', ?_⟩⟩
    have r4 := cell_kept q4.cell (grownBy_putObj' _ D (.deferred none)) (fun r e => by cases e; exact ⟨_, hK', rfl⟩)
    have r5 := cell_kept q5.cell (grownBy_putObj' _ D (.deferred none)) (fun r e => by cases e; exact ⟨_, hK', rfl⟩)
    refine ⟨.tuple #[.string d.sectors[i], .int .i64 0], ?_, ?_, q6.trans (belowK_b (w := w) (Nat.le_refl _) _ D _ _ (by have := hB7.size; omega) hK' rfl rfl)⟩
    · simp [results, Tryz.f99, go_sem, r4, r5]
    · have : readD d i = (d.sectors[i], 0) := by simp [readD, hr, hh, look_none i1, hi]
      rw [this]
  case stop =>
    rintro D c pre W hD ⟨k, hk, hpre⟩ ⟨⟨rfl, ini, last, e1, e2, e3, e4, e5⟩, i6⟩ hK
    have g4 : Boxed W (w.heap.size + 1 + 1) 9 (.string last.2.data) := e4
    have g5 : Boxed W (w.heap.size + 1 + 1 + 1) 52 (.int .i64 0) := e5
    gi_wp2
    refine ⟨by simp, .inl ⟨_, _, rfl, run_takeDeferred hK, ?_⟩⟩
    have r4 := cell_kept g4.cell (grownBy_putObj' _ D (.deferred none)) (fun r e => by cases e; exact ⟨_, hK, rfl⟩)
    have r5 := cell_kept g5.cell (grownBy_putObj' _ D (.deferred none)) (fun r e => by cases e; exact ⟨_, hK, rfl⟩)
    refine ⟨.tuple #[.string last.2.data, .int .i64 0], ?_, ?_, i6.trans (belowK_b (w := w) (Nat.le_refl _) _ D _ _ (by have := hB7.size; omega) hK rfl rfl)⟩
    · simp [results, Tryz.f99, go_sem, r4, r5]
    · have : readD d i = (last.2.data, 0) := by simp [readD, hr, hh, look_some hk (e1.symm.trans hpre) e2 e3]
      rw [this]
theorem read_no (d : Dk) (a : Int) (w : World) (v1 v2 : Value) (h1 : RepS w (fun _ => False) (.sl 1 (d.sectors.map encS)) v1) (h2 : RepS w (fun _ => False) (.sl 2 (d.cache.map encWr)) v2) (hr : (!rightB d || !hasB d a) = true) :
    CallsIn .wide 3 Tryz.prog 99 #[.agg #[v1, v2], .int .i64 a] w fun e W' => e = .returned (.tuple #[.string (readD d a).1, .int .i64 (readD d a).2]) ∧ Below w.heap.size w W' := by
  obtain ⟨A1, c1, hv1⟩ := h1.slice_form
  obtain ⟨A2, c2, hv2⟩ := h2.slice_form
  simp only [List.length_map] at hv1 hv2
  have hright : ∀ W, Below w.heap.size w W → CallsIn .wide 2 Tryz.prog 92 #[.agg #[v1, v2]] W fun e W' => e = .returned (.bool (rightB d)) ∧ Below W.heap.size W W' := fun W hB =>
    callsIn_wide.2 ((right_spec d).plain (w := W) (us := [.agg #[v1, v2]]) (.cons ⟨[v1, v2], rfl, .cons (h1.bel hB) (.cons (h2.bel hB) .nil)⟩ .nil))
  have hhas : ∀ W, Below w.heap.size w W → CallsIn .wide 2 Tryz.prog 131 #[.agg #[v1, v2], .int .i64 a] W fun e W' => e = .returned (.bool (hasB d a)) ∧ Below W.heap.size W W' := fun W hB =>
    callsIn_wide.2 ((has_spec d a).plain (w := W) (us := [.agg #[v1, v2], .int .i64 a]) (.cons ⟨[v1, v2], rfl, .cons (h1.bel hB) (.cons (h2.bel hB) .nil)⟩ (.cons (.pv rfl) .nil)))
  rw [hv1, hv2] at hright hhas
  have hres : readD d a = (ByteArray.empty, 1) := by rw [readD, if_pos hr]
  rw [hv1, hv2, hres]
  refine callsIn_of_wp_marks Tryz.func99 rfl trivial ?_ rfl
  simp only [Tryz.ntmps99, List.size_toArray, List.length_cons, List.length_nil, Nat.reduceAdd, Nat.reduceSub, Array.replicate_succ, Array.replicate_zero, List.push_toArray, List.append_toArray, List.nil_append, List.cons_append]
  gi_wp2
  refine ⟨trivial, ?_⟩
  obtain ⟨W4, hW4⟩ : ∃ W4, ((((w.alloc (.cells #[.slice A1 d.sectors.length c1, .slice A2 d.cache.length c2] 38)).alloc (.cells #[.int .i64 a] 3)).alloc (.cells #[.string ⟨#[]⟩] 9)).alloc (.cells #[.int .i64 0] 52)) = W4 := ⟨_, rfl⟩
  have hB4 : Below w.heap.size w W4 := by
    rw [← hW4]
    exact ((((Below.refl _ w).alloc (Nat.le_refl _) _).alloc (by simp) _).alloc (by simp; omega) _).alloc (by simp; omega) _
  have k4 : W4.heap[w.heap.size]? = some (.cells #[.slice A1 d.sectors.length c1, .slice A2 d.cache.length c2] 38 (0, 0)) ∧ W4.heap[w.heap.size + 1]? = some (.cells #[.int .i64 a] 3 (0, 0)) ∧ W4.heap[w.heap.size + 1 + 1]? = some (.cells #[.string ⟨#[]⟩] 9 (0, 0)) ∧ W4.heap[w.heap.size + 1 + 1 + 1]? = some (.cells #[.int .i64 0] 52 (0, 0)) ∧ W4.heap.size = w.heap.size + 4 := by
    rw [← hW4]
    refine ⟨?_, ?_, ?_, ?_, by simp⟩
    · rw [Below.heap_alloc _ _ _ (by simp <;> omega), Below.heap_alloc _ _ _ (by simp <;> omega), Below.heap_alloc _ _ _ (by simp), World.alloc_heap_new]
    · rw [Below.heap_alloc _ _ _ (by simp <;> omega), Below.heap_alloc _ _ _ (by simp)]
      have := World.alloc_heap_new (w.alloc (.cells #[.slice A1 d.sectors.length c1, .slice A2 d.cache.length c2] 38)) (.cells #[.int .i64 a] 3)
      rwa [World.size_alloc] at this
    · rw [Below.heap_alloc _ _ _ (by simp)]
      have := World.alloc_heap_new ((w.alloc (.cells #[.slice A1 d.sectors.length c1, .slice A2 d.cache.length c2] 38)).alloc (.cells #[.int .i64 a] 3)) (.cells #[.string ⟨#[]⟩] 9)
      rwa [World.size_alloc, World.size_alloc] at this
    · have := World.alloc_heap_new (((w.alloc (.cells #[.slice A1 d.sectors.length c1, .slice A2 d.cache.length c2] 38)).alloc (.cells #[.int .i64 a] 3)).alloc (.cells #[.string ⟨#[]⟩] 9)) (.cells #[.int .i64 0] 52)
      rwa [World.size_alloc, World.size_alloc, World.size_alloc] at this
  rw [hW4]
  refine (hright W4 hB4).mono ?_
  rintro e w5 ⟨rfl, b5⟩
  have k5 : w5.heap[w.heap.size]? = some (.cells #[.slice A1 d.sectors.length c1, .slice A2 d.cache.length c2] 38 (0, 0)) ∧ w5.heap[w.heap.size + 1]? = some (.cells #[.int .i64 a] 3 (0, 0)) ∧ w5.heap[w.heap.size + 1 + 1]? = some (.cells #[.string ⟨#[]⟩] 9 (0, 0)) ∧ w5.heap[w.heap.size + 1 + 1 + 1]? = some (.cells #[.int .i64 0] 52 (0, 0)) := by
    rw [b5.block _ (by omega), b5.block _ (by omega), b5.block _ (by omega), b5.block _ (by omega)]
    exact ⟨k4.1, k4.2.1, k4.2.2.1, k4.2.2.2.1⟩
  have hB5 : Below w.heap.size w w5 := hB4.trans (b5.mono hB4.size)
  have hz5 : w.heap.size + 4 ≤ w5.heap.size := by have := b5.size; omega
  have c5a := heapCell (i := 0) k5.1 rfl
  have c5b := heapCell (i := 1) k5.1 rfl
  have c5c := heapCell (i := 0) k5.2.1 rfl
  clear k4 b5 hB4 hW4
  have g4 : Boxed w5 (w.heap.size + 1 + 1) 9 (.string ⟨#[]⟩) := k5.2.2.1
  have g5 : Boxed w5 (w.heap.size + 1 + 1 + 1) 52 (.int .i64 0) := k5.2.2.2
  have c5d := heapCell (i := 0) k5.2.2.1 rfl
  have c5e := heapCell (i := 0) k5.2.2.2 rfl
  have c5f := heapFroz (i := 0) k5.2.2.1
  have c5g := heapFroz (i := 0) k5.2.2.2
  cases hq : rightB d
  · gi_wp2
    refine ⟨trivial, ?_⟩
    gi_wp2
    have q4 := (g4.set (.string ⟨#[]⟩)).other (B' := w.heap.size + 1 + 1 + 1) (by omega) (.int .i64 1)
    have q5 := (g5.other (B' := w.heap.size + 1 + 1) (by omega) (.string ⟨#[]⟩)).set (.int .i64 1)
    have q6 := (hB5.setCell (p := ⟨w.heap.size + 1 + 1, 0, none⟩) (show w.heap.size ≤ w.heap.size + 1 + 1 by omega) (.string ⟨#[]⟩)).setCell (p := ⟨w.heap.size + 1 + 1 + 1, 0, none⟩) (show w.heap.size ≤ w.heap.size + 1 + 1 + 1 by omega) (.int .i64 1)
    have r4 := q4.cell
    have r5 := q5.cell
    refine ⟨.tuple #[.string ByteArray.empty, .int .i64 1], ?_, rfl, q6⟩
    simp [results, Tryz.f99, go_sem, r4, r5]
    rfl
  · rw [hq] at hr
    have hh : hasB d a = false := by simpa using hr
    rw [hh] at hhas
    gi_wp2
    refine ⟨trivial, ?_⟩
    refine (hhas w5 hB5).mono ?_
    rintro e w6 ⟨rfl, b6⟩
    have k6 : w6.heap[w.heap.size]? = some (.cells #[.slice A1 d.sectors.length c1, .slice A2 d.cache.length c2] 38 (0, 0)) ∧ w6.heap[w.heap.size + 1]? = some (.cells #[.int .i64 a] 3 (0, 0)) ∧ w6.heap[w.heap.size + 1 + 1]? = some (.cells #[.string ⟨#[]⟩] 9 (0, 0)) ∧ w6.heap[w.heap.size + 1 + 1 + 1]? = some (.cells #[.int .i64 0] 52 (0, 0)) := by
      rw [b6.block _ (by omega), b6.block _ (by omega), b6.block _ (by omega), b6.block _ (by omega)]
      exact k5
    have hB6 : Below w.heap.size w w6 := hB5.trans (b6.mono hB5.size)
    have hz6 : w.heap.size + 4 ≤ w6.heap.size := by have := b6.size; omega
    have n4 : Boxed w6 (w.heap.size + 1 + 1) 9 (.string ⟨#[]⟩) := k6.2.2.1
    have n5 : Boxed w6 (w.heap.size + 1 + 1 + 1) 52 (.int .i64 0) := k6.2.2.2
    have c6d := heapCell (i := 0) k6.2.2.1 rfl
    have c6e := heapCell (i := 0) k6.2.2.2 rfl
    have c6f := heapFroz (i := 0) k6.2.2.1
    have c6g := heapFroz (i := 0) k6.2.2.2
    gi_wp2
    have q4 := (n4.set (.string ⟨#[]⟩)).other (B' := w.heap.size + 1 + 1 + 1) (by omega) (.int .i64 1)
    have q5 := (n5.other (B' := w.heap.size + 1 + 1) (by omega) (.string ⟨#[]⟩)).set (.int .i64 1)
    have q6 := (hB6.setCell (p := ⟨w.heap.size + 1 + 1, 0, none⟩) (show w.heap.size ≤ w.heap.size + 1 + 1 by omega) (.string ⟨#[]⟩)).setCell (p := ⟨w.heap.size + 1 + 1 + 1, 0, none⟩) (show w.heap.size ≤ w.heap.size + 1 + 1 + 1 by omega) (.int .i64 1)
    have r4 := q4.cell
    have r5 := q5.cell
    refine ⟨.tuple #[.string ByteArray.empty, .int .i64 1], ?_, rfl, q6⟩
    simp [results, Tryz.f99, go_sem, r4, r5]
    rfl
theorem read_spec (d : Dk) (a : Int) : Spec Tryz.prog 99 [.agg (encDk d), rI a] (.val (.tup [(false, [.pv (.string (readD d a).1)]), (false, [.pv (.int .i64 (readD d a).2)])])) := by
  intro w O us hO hus
  obtain ⟨dv, av, rfl, hd, ha⟩ := hus.two
  obtain ⟨vs, rfl, hvs⟩ := hd
  obtain ⟨v1, v2, rfl, h1, h2⟩ := hvs.two
  have e : av = .int .i64 a := RepS.flat ha
  subst e
  have h1' := h1.less (O' := fun _ => False) (fun b h => h.elim)
  have h2' := h2.less (O' := fun _ => False) (fun b h => h.elim)
  have key : CallsIn .wide 3 Tryz.prog 99 #[.agg #[v1, v2], .int .i64 a] w fun e W' => e = .returned (.tuple #[.string (readD d a).1, .int .i64 (readD d a).2]) ∧ Below w.heap.size w W' := by
    cases hc : (!rightB d || !hasB d a) with
    | true => exact read_no d a w v1 v2 h1' h2' hc
    | false =>
      simp only [Bool.or_eq_false_iff, Bool.not_eq_false'] at hc
      exact read_in d a w v1 v2 h1' h2' hc.1 hc.2
  refine (callsIn_wide.1 key).mono ?_
  rintro e w' ⟨rfl, hB⟩
  refine ⟨_, rfl, ⟨[.string (readD d a).1, .int .i64 (readD d a).2], rfl, rfl, ?_⟩, hB⟩
  intro i h h'
  match i, h with
  | 0, _ => exact ⟨fun e => by simp at e, fun _ => ⟨_, rfl, .pv rfl⟩⟩
  | 1, _ => exact ⟨fun e => by simp at e, fun _ => ⟨_, rfl, .pv rfl⟩⟩
end Go.Proofs.YtcbfhpnmhhnjpaaGreat

namespace Go.Proofs.YtcbfhpnmhhnjpaaGreat
open Go.RowKit
theorem splice_rep {α : Type} {a z : α} {k m n : Nat} (h : k + m ≤ n) : splice (List.replicate k a ++ List.replicate (n - k) z) k (List.replicate m a) = List.replicate (k + m) a ++ List.replicate (n - (k + m)) z := by
  unfold splice
  rw [List.take_left' (by simp), List.drop_append, List.length_replicate, List.length_replicate, List.drop_eq_nil_of_le (by simp), List.nil_append, ← List.append_assoc, List.replicate_append_replicate, List.drop_replicate]
  congr 2
  omega
theorem infoStr : (Tryz.prog.info? 9).map (fun i => (i.zero, i.size, i.bytes)) = some (some (.string ⟨#[]⟩), 1, 16) := by kernel_rfl
set_option maxRecDepth 100000 in
set_option maxHeartbeats 2000000 in
theorem rep_sl (b off cap n : Nat) (s : ByteArray) (w : World) (hn1 : 1 ≤ n) (hn : n ≤ 64) (hc : w.cell? ⟨b, off, none⟩ = some (.string s)) (hb : b < w.heap.size) (hcap : 1 ≤ cap) :
    Calls Tryz.prog 68 #[.slice (some ⟨b, off, none⟩) 1 cap, .int .i64 n] w fun e w' => ∃ g, e = .returned (.slice (some ⟨g, 0, none⟩) n n) ∧ w.heap.size ≤ g ∧ w'.heap[g]? = some (.cells (List.replicate n (.string s)).toArray 9 (0, 0)) ∧ Below w.heap.size w w' := by
  have hw1 : IntKind.u64.wrap (n : Int) = (n : Int) := by rw [IntKind.wrap_u64]; omega
  go_enter Tryz.func68, Tryz.ntmps68
  have hq : ¬ ((n : Int) < 0) := by omega
  have hmul : Calls Tryz.prog 105 #[.int .u64 1, .int .u64 n] w fun e w' => e = .returned (.tuple #[.int .u64 0, .int .u64 n]) ∧ w' = w := by
    refine (Tryz.bits_Mul 1 n (by omega) (by omega) w).mono ?_
    rintro e w' ⟨rfl, rfl⟩
    have e1 : 1 * n / 18446744073709551616 = 0 := by omega
    have e2 : 1 * n % 18446744073709551616 = n := by omega
    rw [e1, e2]
    exact ⟨rfl, rfl⟩
  go_wp2_with fail
  refine hmul.mono ?_
  rintro e w1 ⟨rfl, rfl⟩
  have hw2 : IntKind.i64.wrap (n : Int) = (n : Int) := by rw [IntKind.wrap_i64]; omega
  have hq2 : ¬ ((9223372036854775807 : Int) < (n : Int)) := by omega
  go_wp2_with fail
  obtain ⟨i0, hi, hz0, hz1, hz2⟩ := info_parts infoStr
  rw [run_make (P := Tryz.prog) w1 35 9 i0 _ Tryz.underlying35 hi hz0 .i64 .i64 n n (by omega) (by omega) (by rw [hz2]; omega) (by omega)]
  have hmc : madeCells (Value.string ⟨#[]⟩).cells ((n : Int).toNat * i0.size) = (List.replicate n (Value.string ⟨#[]⟩)).toArray := by
    rw [hz1]
    apply Array.ext
    · simp [size_madeCells]
    · intro i h1 h2
      simp [madeCells, Value.cells, Nat.mod_one]
  rw [hmc, Int.toNat_natCast]
  obtain ⟨W2, hW2⟩ : ∃ W2, w1.alloc (.cells (List.replicate n (Value.string ⟨#[]⟩)).toArray 9) = W2 := ⟨_, rfl⟩
  have hB2 : Below w1.heap.size w1 W2 := by rw [← hW2]; exact (Below.refl _ _).alloc (Nat.le_refl _) _
  have hk2 : W2.heap[w1.heap.size]? = some (.cells (List.replicate n (Value.string ⟨#[]⟩)).toArray 9 (0, 0)) := by rw [← hW2]; exact World.alloc_heap_new w1 _
  rw [hW2]
  have hc2 : W2.cell? ⟨b, off, none⟩ = some (.string s) := (hB2.cell (p := ⟨b, off, none⟩) hb).trans hc
  have hsz : (Tryz.prog.info? 9).map (·.size) = some 1 := by rw [hi]; simp [hz1]
  go_wp2_with fail
  rw [run_copy_row (P := Tryz.prog) W2 35 35 3 9 w1.heap.size 0 n n ⟨b, off, none⟩ 1 cap (List.replicate n (Value.string ⟨#[]⟩)).toArray 9 [.string s] Tryz.underlying35 hsz hk2 (by show 1 = min 1 n; omega) (fun j v hj => by
    cases j with
    | zero => simp only [List.getElem?_cons_zero, Option.some.injEq] at hj; subst hj; exact hc2
    | succ j => simp at hj) (by simp; omega) (by simp [Value.oneCell'])]
  have hrow : (((List.replicate n (Value.string ⟨#[]⟩)).toArray.toList.take 0) ++ [Value.string s] ++ ((List.replicate n (Value.string ⟨#[]⟩)).toArray.toList.drop (0 + [Value.string s].length))) = List.replicate 1 (Value.string s) ++ List.replicate (n - 1) (Value.string ⟨#[]⟩) := by simp
  rw [hrow]
  obtain ⟨W3, hW3⟩ : ∃ W3, W2.setRow w1.heap.size (List.replicate 1 (Value.string s) ++ List.replicate (n - 1) (Value.string ⟨#[]⟩)).toArray = W3 := ⟨_, rfl⟩
  have hB3 : Below w1.heap.size w1 W3 := by rw [← hW3]; exact below_setRow hB2 (Nat.le_refl _) _
  have hk3 : W3.heap[w1.heap.size]? = some (.cells (List.replicate 1 (Value.string s) ++ List.replicate (n - 1) (Value.string ⟨#[]⟩)).toArray 9 (0, 0)) := by rw [← hW3]; exact setRow_heap W2 _ _ _ _ _ hk2
  rw [hW3]
  clear hW3 hrow hW2 hk2 hB2 hc2 hmc hmul
  go_wp2_with fail
  go_loopw [8] (fun v wr => ∃ k : Nat, 1 ≤ k ∧ k ≤ n ∧ v = .int .i64 k ∧ Hid (wr.heap[w1.heap.size]? = some (.cells (List.replicate k (Value.string s) ++ List.replicate (n - k) (Value.string ⟨#[]⟩)).toArray 9 (0, 0))) ∧ Below w1.heap.size w1 wr)
    (fun v _ => n - (intOf v).toNat)
  case atStart => exact ⟨1, Nat.le_refl _, hn1, rfl, hk3, hB3⟩
  case round =>
    obtain ⟨k, hk1, hkn, rfl, hkr, hBr⟩ := hrel
    by_cases hlt : k < n
    · go_wp2_with fail
      obtain ⟨m, hm⟩ : ∃ m, m = Nat.min k (n - k) := ⟨_, rfl⟩
      have hkd : wr.drew.heap[w1.heap.size]? = some (.cells (List.replicate k (Value.string s) ++ List.replicate (n - k) (Value.string ⟨#[]⟩)).toArray 9 (0, 0)) := hkr.out
      have hBd : Below w1.heap.size w1 wr.drew := hBr.drew
      have hm1 : 1 ≤ m := by rw [hm]; show 1 ≤ min k (n - k); omega
      have hm2 : k + m ≤ n := by rw [hm]; show k + min k (n - k) ≤ n; omega
      have hm3 : m ≤ k := by rw [hm]; show min k (n - k) ≤ k; omega
      have hsrc : ∀ j v, (List.replicate m (Value.string s))[j]? = some v → wr.drew.cell? ((⟨w1.heap.size, 0, none⟩ : Addr).add j) = some v := by
        intro j v hj
        have hj2 : j < m := by
          have := (List.getElem?_eq_some_iff.1 hj).1
          simpa using this
        have hv : v = .string s := by
          obtain ⟨h1, h2⟩ := List.getElem?_eq_some_iff.1 hj
          simpa using h2.symm
        subst hv
        have := heapCell (i := j) (v := .string s) hkd (by rw [List.getElem?_toArray, List.getElem?_append_left (by simp; omega), List.getElem?_replicate, if_pos (by omega)])
        by_cases h0 : j = 0
        · subst h0; simpa [Addr.add] using this
        · simpa [Addr.add, h0] using this
      have HSZ := Lib.hid hsz
      have HKD := Lib.hid hkd
      have HBD := Lib.hid hBd
      have HLM := Lib.hid (show (List.replicate m (Value.string s)).length = Nat.min k (n - k) by rw [List.length_replicate]; exact hm)
      have HSR := Lib.hid (show 0 < (List.replicate m (Value.string s)).length → some (⟨w1.heap.size, k, none⟩ : Addr) = some ⟨w1.heap.size, k, none⟩ ∧ ∃ ad, some (⟨w1.heap.size, 0, none⟩ : Addr) = some ad ∧ ∀ j v, (List.replicate m (Value.string s))[j]? = some v → wr.drew.cell? (ad.add j) = some v from fun _ => ⟨rfl, ⟨w1.heap.size, 0, none⟩, rfl, hsrc⟩)
      have HFT := Lib.hid (show k + (List.replicate m (Value.string s)).length ≤ (List.replicate k (Value.string s) ++ List.replicate (n - k) (Value.string ⟨#[]⟩)).length by simp; omega)
      have HON := Lib.hid (show ∀ v ∈ List.replicate m (Value.string s), v.oneCell' = true by intro v hv; rw [List.mem_replicate] at hv; rw [hv.2]; rfl)
      have hcut1 : k ≤ n := hkn
      have hcut2 : ¬ (n = k) := by omega
      have hcut3 : ¬ (n ≤ k) := by omega
      clear hkd hBd hsrc hsz hm
      go_region_law (refine step_copy_splice (w := wr.drew) (by rfl) (.tmp 41) (.tmp 44) 35 35 (by rfl) 9 Tryz.underlying35 HSZ.out (some ⟨w1.heap.size, k, none⟩) (some ⟨w1.heap.size, 0, none⟩) (n - k) (n - k) k n (by simp [Act.put, Act.eval, go_sem]) (by simp [Act.put, Act.eval, go_sem]) w1.heap.size k (List.replicate k (Value.string s) ++ List.replicate (n - k) (Value.string ⟨#[]⟩)) 9 HKD.out (List.replicate m (Value.string s)) HLM.out HSR.out HFT.out HON.out w1.heap.size w1 HBD.out (Nat.le_refl _) ?_; intro w4 hg4 hb4)
      have hwk : IntKind.i64.wrap ((k : Int) + (m : Int)) = ((k + m : Nat) : Int) := by rw [IntKind.wrap_i64]; omega
      rw [hwk]
      have H4 : Hid (w4.heap[w1.heap.size]? = some (.cells (List.replicate (k + m) (Value.string s) ++ List.replicate (n - (k + m)) (Value.string ⟨#[]⟩)).toArray 9 (0, 0))) := by
        rw [← splice_rep hm2]
        exact hg4
      clear hg4 HKD HBD HLM HSR HFT HON HSZ
      simp [Act.put]
      go_wp2_with fail
      go_roundw
      case rel => exact ⟨k + m, by omega, hm2, by simp, H4, hb4⟩
      case measure => simp [intOf]; omega
    · obtain rfl : k = n := by omega
      go_wp2_with fail
      go_ret
      refine ⟨w1.heap.size, rfl, Nat.le_refl _, ?_, hBr⟩
      have := hkr.out
      simpa using this
end Go.Proofs.YtcbfhpnmhhnjpaaGreat

namespace Go.Proofs.YtcbfhpnmhhnjpaaGreat
open Go.RowKit
theorem noughts_spec : Spec Tryz.prog 67 [rS ⟨#[0]⟩, rI 16] (.val (rS noughts)) := by
  intro w O us hO hus
  obtain ⟨a, b, rfl, ha, hb⟩ := hus.two
  have e1 : a = .string ⟨#[0]⟩ := RepS.flat ha
  have e2 : b = .int .i64 16 := RepS.flat hb
  subst e1 e2
  refine (Tryz.strings_Repeat ⟨#[0]⟩ 16 w (by omega) (by decide)).mono ?_
  rintro e w' ⟨rfl, hB⟩
  exact ⟨_, rfl, .pv rfl, hB⟩
theorem repeat_spec (s : ByteArray) (n : Nat) (h1 : 1 ≤ n) (h2 : n ≤ 64) : Spec Tryz.prog 68 [rL 1 [encS s], rI n] (.val (rL 1 (List.replicate n (encS s)))) := by
  intro w O us hO hus
  obtain ⟨a, b, rfl, ha, hb⟩ := hus.two
  have e2 : b = .int .i64 n := RepS.flat hb
  subst e2
  obtain ⟨g, off, cap, e3, hg, hcs⟩ := strsAt_of (zs := [s]) ha (by simp)
  have hcap : 1 ≤ cap := by
    have ha' : RepS w O (.sl 1 [encS s]) a := ha
    rw [e3] at ha'
    cases ha' with
    | sl h0 hcap => exact hcap
  subst e3
  have hc := hcs 0 (by simp)
  simp only [Nat.add_zero, List.getElem?_cons_zero, Option.getD_some] at hc
  refine (rep_sl g off cap n s w h1 h2 hc hg hcap).mono ?_
  rintro e w' ⟨g2, rfl, hg2, hk, hB⟩
  refine ⟨_, rfl, ?_, hB⟩
  have hfl : (List.replicate n (encS s)).flatten = List.replicate n (.pv (.string s)) := by
    clear h1 h2 hk hB hus hb
    induction n with
    | zero => rfl
    | succ n ih => simp [List.replicate_succ, encS, ih]
  have hlen : (List.replicate n (encS s)).length = n := by simp
  show RepS w' O (.sl 1 (List.replicate n (encS s))) _
  have := RepS.sl (w := w') (O := O) (e := 1) (els := List.replicate n (encS s)) (b := g2) (off := 0) (cap := n) (us := List.replicate n (.string s)) (by omega) (by simp) (by unfold maxLen; omega) ((Array.getElem?_eq_some_iff.1 hk).1) (fun h => by have := hO _ h; omega)
    (by intro x hx; rw [List.mem_replicate] at hx; rw [hx.2]; rfl) (by rw [hfl]; simp) (by intro i h h'; simp only [hfl, List.getElem_replicate]; exact .pv rfl) (by
      intro i h'
      have h3 : i < n := by simpa using h'
      rw [Nat.zero_add, List.getElem_replicate]
      exact heapCell hk (by simp [h3]))
  rw [hlen] at this
  exact this
theorem new_spec (n : Int) : Spec Tryz.prog 39 [rI n] (.val (.tup [(true, encDk (newD n).1), (false, [.pv (.int .i64 (newD n).2)])])) := by
  refine spec_val mixed fn39 (by simp) ?_
  unfold ac39
  simp -implicitDefEqProofs only [↓aP, aR, ↓reduceIte, reduceCtorEq, seval]
  cases h1 : decide (n < 1)
  · simp -implicitDefEqProofs only [↓aP, aR, ↓reduceIte, reduceCtorEq, seval]
    cases h2 : decide (64 < n)
    · simp -implicitDefEqProofs only [↓aP, aR, ↓reduceIte, reduceCtorEq, seval]
      refine ask noughts_spec ?_
      simp -implicitDefEqProofs only [↓aP, aR, ↓reduceIte, reduceCtorEq, seval]
      simp only [decide_eq_false_iff_not] at h1 h2
      obtain ⟨k, rfl⟩ : ∃ k : Nat, n = k := ⟨n.toNat, by omega⟩
      refine ask (repeat_spec noughts k (by omega) (by omega)) ?_
      have e : newD k = (⟨List.replicate k noughts, []⟩, 0) := by rw [newD, if_neg (by omega)]; simp
      simp -implicitDefEqProofs only [↓aP, aR, ↓reduceIte, reduceCtorEq, seval, e, encDk]
      simp
    · simp -implicitDefEqProofs only [↓aP, aR, ↓reduceIte, reduceCtorEq, seval]
      simp only [decide_eq_true_eq, decide_eq_false_iff_not] at h1 h2
      have e : newD n = (⟨[], []⟩, 1) := by rw [newD, if_pos (by omega)]
      simp -implicitDefEqProofs only [↓aP, aR, ↓reduceIte, reduceCtorEq, seval, e, encDk]
  · simp -implicitDefEqProofs only [↓aP, aR, ↓reduceIte, reduceCtorEq, seval]
    simp only [decide_eq_true_eq] at h1
    have e : newD n = (⟨[], []⟩, 1) := by rw [newD, if_pos (by omega)]
    simp -implicitDefEqProofs only [↓aP, aR, ↓reduceIte, reduceCtorEq, seval, e, encDk]
end Go.Proofs.YtcbfhpnmhhnjpaaGreat

namespace Go.Proofs.YtcbfhpnmhhnjpaaGreat
open Go.RowKit
theorem refRight_spec (d : Dk) : Spec Tryz.prog 56 [.agg (encDk d)] (.val (rB (rightB d))) := by
  refine spec_val mixed fn56 (by simp) ?_
  unfold ac56
  simp -implicitDefEqProofs only [↓aP, aR, ↓reduceIte, reduceCtorEq, seval, encDk]
  cases h0 : decide ((d.sectors.length : Int) < 1)
  case true =>
    simp -implicitDefEqProofs only [↓aP, aR, ↓reduceIte, reduceCtorEq, seval]
    have : d.sectors = [] := by simp at h0; exact List.eq_nil_of_length_eq_zero (by omega)
    simp [rightB, this]
  simp -implicitDefEqProofs only [↓aP, aR, ↓reduceIte, reduceCtorEq, seval]
  cases h1 : decide ((64 : Int) < d.sectors.length)
  case true =>
    simp -implicitDefEqProofs only [↓aP, aR, ↓reduceIte, reduceCtorEq, seval]
    have : 64 < d.sectors.length := by simp at h1; omega
    simp [rightB]; omega
  simp -implicitDefEqProofs only [↓aP, aR, ↓reduceIte, reduceCtorEq, seval]
  cases h2 : decide ((200 : Int) < d.cache.length)
  case true =>
    simp -implicitDefEqProofs only [↓aP, aR, ↓reduceIte, reduceCtorEq, seval]
    have : 200 < d.cache.length := by simp at h2; omega
    simp [rightB]; omega
  simp -implicitDefEqProofs only [↓aP, aR, ↓reduceIte, reduceCtorEq, seval]
  have hn : 1 ≤ d.sectors.length ∧ d.sectors.length ≤ 64 ∧ d.cache.length ≤ 200 := by simp at h0 h1 h2; omega
  refine loopA (fun m σ => ∃ i, i + m = d.sectors.length ∧ (∀ s ∈ d.sectors.take i, len16 s = true) ∧ σ.slot 3 = vI i ∧ σ.slot 1 = .c (.ptr 1 1 0 0) ∧ σ.h.gen 1 = 1 ∧ σ.h.blk 1 = .box 38 2 [[.s (.sl 1 (d.sectors.map encS)), .s (.sl 2 (d.cache.map encWr))]]) d.sectors.length ?_ ?_
  · simp -implicitDefEqProofs only [↓aP, aR, ↓reduceIte, reduceCtorEq, seval]
    refine ⟨0, ?_⟩
    simp -implicitDefEqProofs only [↓aP, aR, ↓reduceIte, reduceCtorEq, seval]
    simp
  · rintro m σ ⟨i, him, hs, s3, s1, g1, b1⟩
    simp -implicitDefEqProofs only [↓aP, aR, ↓reduceIte, reduceCtorEq, seval, s3, s1, g1, b1]
    refine fork ?_ ?_ <;> intro hc
    · have hi : i < d.sectors.length := by simpa using hc
      simp -implicitDefEqProofs only [↓aP, aR, ↓reduceIte, reduceCtorEq, seval, s3, s1, g1, b1, askIdx_map, hi, encS]
      refine fork ?_ ?_ <;> intro hd
      · simp -implicitDefEqProofs only [↓aP, aR, ↓reduceIte, reduceCtorEq, seval]
        have : len16 d.sectors[i] = false := by simpa [len16] using hd
        have : d.sectors.all len16 = false := by simp only [List.all_eq_false]; exact ⟨_, List.getElem_mem hi, by simp [this]⟩
        simp [rightB, this]
      · simp -implicitDefEqProofs only [↓aP, aR, ↓reduceIte, reduceCtorEq, seval, s3, s1, g1, b1, wrapS (show i < 4611686018427387904 by omega)]
        refine ⟨m - 1, by omega, i + 1, ?_⟩
        simp -implicitDefEqProofs only [↓aP, aR, ↓reduceIte, reduceCtorEq, seval]
        refine ⟨by omega, ?_⟩
        rw [take_snoc hi]
        simp only [List.mem_append, List.mem_singleton]
        rintro s (h | rfl)
        · exact hs s h
        · simpa [len16] using hd
    · simp -implicitDefEqProofs only [↓aP, aR, ↓reduceIte, reduceCtorEq, seval, s3, s1, g1, b1]
      have hi : i = d.sectors.length := by simp at hc; omega
      have hall : d.sectors.all len16 = true := by rw [List.all_eq_true]; intro s h; exact hs s (by rw [hi, List.take_length]; exact h)
      refine loopA (fun m σ => ∃ i, i + m = d.cache.length ∧ (∀ s ∈ d.cache.take i, fitsB d s = true) ∧ σ.slot 4 = vI i ∧ σ.slot 1 = .c (.ptr 1 1 0 0) ∧ σ.h.gen 1 = 1 ∧ σ.h.blk 1 = .box 38 2 [[.s (.sl 1 (d.sectors.map encS)), .s (.sl 2 (d.cache.map encWr))]]) d.cache.length ?_ ?_
      · simp -implicitDefEqProofs only [↓aP, aR, ↓reduceIte, reduceCtorEq, seval, s1, g1, b1]
        refine ⟨0, ?_⟩
        simp -implicitDefEqProofs only [↓aP, aR, ↓reduceIte, reduceCtorEq, seval]
        simp
      · clear him hs s3 s1 g1 b1 hc hi
        rintro m σ ⟨i, him, hs, s4, s1, g1, b1⟩
        simp -implicitDefEqProofs only [↓aP, aR, ↓reduceIte, reduceCtorEq, seval, s4, s1, g1, b1]
        refine fork ?_ ?_ <;> intro hc
        · have hi : i < d.cache.length := by simpa using hc
          simp -implicitDefEqProofs only [↓aP, aR, ↓reduceIte, reduceCtorEq, seval, s4, s1, g1, b1, askIdx_map, hi, encWr]
          have bad : fitsB d d.cache[i] = false → rightB d = false := fun h => by
            have : d.cache.all (fitsB d) = false := by simp only [List.all_eq_false]; exact ⟨_, List.getElem_mem hi, by simp [h]⟩
            simp [rightB, this]
          cases q1 : decide (d.cache[i].at_ < 0)
          · simp -implicitDefEqProofs only [↓aP, aR, ↓reduceIte, reduceCtorEq, seval, s4, s1, g1, b1]
            cases q2 : decide ((d.sectors.length : Int) ≤ d.cache[i].at_)
            · simp -implicitDefEqProofs only [↓aP, aR, ↓reduceIte, reduceCtorEq, seval, s4, s1, g1, b1]
              refine fork ?_ ?_ <;> intro q3
              · simp -implicitDefEqProofs only [↓aP, aR, ↓reduceIte, reduceCtorEq, seval]
                exact (bad (by simp [fitsB]; intro _; simpa using q3)).symm
              · simp -implicitDefEqProofs only [↓aP, aR, ↓reduceIte, reduceCtorEq, seval, s4, s1, g1, b1, wrapS (show i < 4611686018427387904 by omega)]
                refine ⟨m - 1, by omega, i + 1, ?_⟩
                simp -implicitDefEqProofs only [↓aP, aR, ↓reduceIte, reduceCtorEq, seval]
                refine ⟨by omega, ?_⟩
                rw [take_snoc hi]
                simp only [List.mem_append, List.mem_singleton]
                rintro s (h | rfl)
                · exact hs s h
                · simp only [decide_eq_false_iff_not, Int.not_lt, Int.not_le, bne_eq_false_iff_eq] at q1 q2 q3
                  simp [fitsB, hasB, q1, q2, q3]
            · simp -implicitDefEqProofs only [↓aP, aR, ↓reduceIte, reduceCtorEq, seval]
              exact (bad (by simp only [decide_eq_true_eq] at q2; simp [fitsB, hasB, Int.not_lt.2 q2])).symm
          · simp -implicitDefEqProofs only [↓aP, aR, ↓reduceIte, reduceCtorEq, seval]
            exact (bad (by simp only [decide_eq_true_eq] at q1; simp [fitsB, hasB, Int.not_le.2 q1])).symm
        · simp -implicitDefEqProofs only [↓aP, aR, ↓reduceIte, reduceCtorEq, seval, s4, s1, g1, b1]
          have hi : i = d.cache.length := by simp at hc; omega
          have hall2 : d.cache.all (fitsB d) = true := by rw [List.all_eq_true]; intro s h; exact hs s (by rw [hi, List.take_length]; exact h)
          simp [rightB, hall, hall2, hn]
end Go.Proofs.YtcbfhpnmhhnjpaaGreat

