/- WORDS FOR SLICES OF STRUCTS, over any program: parts of a row; append where there is room; clear. No condition. -/
import Derived.Test.YthhialnnhhemaaaRows2
import Derived.Deep.RegionLaw
import Derived.Laws.OwnMore
import Derived.Laws.MakeOwn
import Derived.BigFrame
namespace Go.Proofs.Ythhialnnhhemaaa
open Go.RowKit
set_option linter.unusedVariables false

theorem below_setRow {w : World} {g B : Nat} (cs : Array Value) (h : B ≤ g) : Below B w (w.setRow g cs) :=
  ⟨rfl, rfl, rfl, by simp [World.setRow], fun k hk => setRow_other w g k cs (by omega)⟩
theorem Blk.setRow {w : World} {g : Nat} {t : TypeId} {cs : Array Value} (h : Blk w g t cs) (cs' : Array Value) : Blk (w.setRow g cs') g t cs' := setRow_heap w g cs cs' t (0, 0) h
theorem own_empty {w : World} {g B size : Nat} {e : TypeId} (h : Blk w g e #[]) (hb : B ≤ g) : w.ownsRow B e size (.slice (some ⟨g, 0, none⟩) 0 0) 0 [] :=
  ⟨by simp, .inr ⟨g, 0, #[], rfl, hb, h, Nat.le_refl _, by unfold maxLen; omega, by simp, by simp⟩⟩
namespace Enc
variable {α : Type} {E : Enc α}
theorem At.drop {w : World} {b off : Nat} {l : List α} (h : E.At w b off l) (k : Nat) : E.At w b (off + k * E.n) (l.drop k) := by
  intro i hi j hj
  rw [List.length_drop] at hi
  have := h (k + i) (by omega) j hj
  rw [List.getElem_drop]
  rw [show off + k * E.n + i * E.n + j = off + (k + i) * E.n + j by rw [Nat.add_mul]; omega]
  exact this
theorem At.take {w : World} {b off : Nat} {l : List α} (h : E.At w b off l) (k : Nat) : E.At w b off (l.take k) := by
  intro i hi j hj
  rw [List.length_take] at hi
  rw [List.getElem_take]
  exact h i (by omega) j hj
theorem Own.blk {w : World} {base : Nat} {t : TypeId} {v : Value} {l : List α} (h : E.Own w base t v l) (hl : 0 < l.length) :
    ∃ (g cap : Nat) (cur : Array Value), v = .slice (some ⟨g, 0, none⟩) l.length cap ∧ base ≤ g ∧ Blk w g t cur ∧ l.length ≤ cap ∧ cap ≤ maxLen ∧ cur.size = cap * E.n ∧ cur.toList.take (l.length * E.n) = E.flat l := by
  rcases h.2 with ⟨_, h0⟩ | ⟨g, cap, cur, hv, hg, hh, h3, h4, h5, h6⟩
  · omega
  · exact ⟨g, cap, cur, hv, hg, hh, h3, h4, h5, h6⟩
theorem Own.of_blk {w : World} {base : Nat} {t : TypeId} {g cap : Nat} {cur : Array Value} {l : List α} (hg : base ≤ g) (hb : Blk w g t cur) (h3 : l.length ≤ cap) (h4 : cap ≤ maxLen) (h5 : cur.size = cap * E.n) (h6 : cur.toList.take (l.length * E.n) = E.flat l) :
    E.Own w base t (.slice (some ⟨g, 0, none⟩) l.length cap) l := ⟨E.flat_length l, .inr ⟨g, cap, cur, rfl, hg, hb, h3, h4, h5, h6⟩⟩
theorem flat_take (l : List α) (k : Nat) (hk : k ≤ l.length) : (E.flat l).take (k * E.n) = E.flat (l.take k) := by
  have e : E.flat l = E.flat (l.take k) ++ E.flat (l.drop k) := by rw [← E.flat_append, List.take_append_drop]
  have hl : (E.flat (l.take k)).length = k * E.n := by rw [E.flat_length, List.length_take, Nat.min_eq_left hk]
  rw [e, ← hl]; exact List.take_left
theorem At.carry {w w' : World} {A : Option Addr} {n : Nat} {l : List α} (h : 0 < n → ∃ b off, A = some ⟨b, off, none⟩ ∧ b < w.heap.size ∧ E.At w b off l) (hB : Below w.heap.size w w') : 0 < n → ∃ b off, A = some ⟨b, off, none⟩ ∧ b < w'.heap.size ∧ E.At w' b off l := by
  intro hp
  obtain ⟨b, off, hA, hbl, hc⟩ := h hp
  exact ⟨b, off, hA, Nat.lt_of_lt_of_le hbl hB.size, hc.below hB hbl⟩
/-- a store elsewhere -/
theorem Sl.set {w : World} {v : Value} {l : List α} (h : E.Sl w v l) {p : Addr} (u : Value) (hne : ∀ g, v.ownBlock = some g → g ≠ p.block) : E.Sl (w.setCell p u) v l := by
  obtain ⟨A, c, rfl, h1, h2, h0, h3⟩ := h
  refine ⟨A, c, rfl, h1, h2, h0, fun hp => ?_⟩
  obtain ⟨b, off, rfl, hbl, hc⟩ := h3 hp
  refine ⟨b, off, rfl, by simpa using hbl, ?_⟩
  intro i hi j hj
  rw [← hc i hi j hj]
  have hh := Below.heap_setCell w p u b (hne b rfl)
  simp only [World.cell?, hh]
theorem Sl.form {w : World} {v : Value} {l : List α} {n : Nat} (h : E.Sl w v l) (hn : l.length = n) : ∃ A c, v = .slice A n c ∧ n ≤ c ∧ c ≤ maxLen ∧ (0 < n → ∃ b off, A = some ⟨b, off, none⟩ ∧ b < w.heap.size ∧ E.At w b off l) := by
  obtain ⟨A, c, rfl, h1, h2, _, h3⟩ := h
  subst hn
  exact ⟨A, c, rfl, h1, h2, h3⟩
theorem Own.snoc {w : World} {base : Nat} {t : TypeId} {v : Value} {l : List α} {a : α} (h : w.ownsRow base t E.n v (l.length + 1) (E.flat l ++ E.enc a)) : E.Own w base t v (l ++ [a]) := by
  unfold Own
  rw [E.flat_append, E.flat_single, List.length_append]
  exact h
end Enc

/-- append to a row of one's own, as a step of a region that draws -/
theorem step_append_own {P : Program} {ops : Array Oper} {o : Oper} {a : Act} (w : World) {K : Act → World → Prop} {Q : Exit → Act → World → Prop} {E : Prop} (hgd : o.guard = none) (s x : Operand) (t : TypeId)
    (ho : o.op = .call { callee := .builtin .append, args := #[s, x], argTypes := #[t, t] })
    (base : Nat) (e : TypeId) (i : TypeInfo) (z : Value) (size bytes : Nat) (ht : P.underlying t = some (.slice e)) (hi : P.info? e = some i) (hz : i.zero = some z)
    (hsize : i.size = size) (hby : i.bytes = bytes) (hzs : z.cells.size = size) (hsz : 0 < size)
    (v : Value) (n : Nat) (xs : List Value) (hs : a.eval s = v) (hown : w.ownsRow base e size v n xs)
    (ad : Addr) (m c : Nat) (news : List Value) (hx : a.eval x = .slice (some ad) m c) (hl : news.length = m * size) (hnews : ∀ j u, news[j]? = some u → w.cell? (ad.add j) = some u) (h1 : ∀ u ∈ news, u.oneCell' = true)
    (h63 : n + m ≤ maxLen) (hbytes : (n + m) * bytes ≤ 140737488355328) (hbase : base ≤ w.heap.size)
    (h : ∀ v' w', w'.ownsRow base e size v' (n + m) (xs ++ news) → w.grownBy w' v.ownBlock → K (a.put o.dst v') w') :
    if Region.wanted o (yielded ops a.tmps) = true then Oper.wp P o a w K Q else E := by
  have hw : Region.wanted o (yielded ops a.tmps) = true := by simp [Region.wanted, hgd]
  rw [if_pos hw]
  exact wp_append_own w s x t ho base e i z size bytes ht hi hz hsize hby hzs hsz v n xs hs hown ad m c news hx hl hnews h1 h63 hbytes hbase fun v' w' h2 h3 _ => h v' w' h2 h3

/-- append where the row has room: the row alone turns -/
theorem wp_append_room {P : Program} {o : Oper} {a : Act} (w : World) {K : Act → World → Prop} {Q : Exit → Act → World → Prop} (s x : Operand) (t : TypeId)
    (ho : o.op = .call { callee := .builtin .append, args := #[s, x], argTypes := #[t, t] })
    (e : TypeId) (i : TypeInfo) (size : Nat) (ht : P.underlying t = some (.slice e)) (hi : P.info? e = some i) (hsize : i.size = size)
    (g n cap : Nat) (cur : Array Value) (hb : Blk w g e cur) (hs : a.eval s = .slice (some ⟨g, 0, none⟩) n cap)
    (ad : Addr) (m c : Nat) (news : List Value) (hx : a.eval x = .slice (some ad) m c) (hl : news.length = m * size) (hnews : ∀ j u, news[j]? = some u → w.cell? (ad.add j) = some u) (h1 : ∀ u ∈ news, u.oneCell' = true)
    (nm : Nat) (hnm : n + m = nm) (hroom : n + m ≤ cap) (hfit : n * size + news.length ≤ cur.size)
    (h : ∀ w', Blk w' g e (cur.toList.take (n * size) ++ news ++ cur.toList.drop (n * size + news.length)).toArray → (∀ B, B ≤ g → Below B w w') → K (a.put o.dst (.slice (some ⟨g, 0, none⟩) nm cap)) w') : o.wp P a w K Q := by
  subst hsize
  subst hnm
  have hr := run_append_room (P := P) w t o.type e i ht hi g n cap cur hb ad m c news hl hnews h1 hroom hfit
  unfold Oper.wp execOp
  simp only [ho, resolve, invoke, builtin, Sem.run_bind, Sem.run_pure, Result.andThen_ok, List.map_toArray, List.map_cons, List.map_nil, hs, hx, hr]
  exact h _ (hb.setRow _) (fun B hB => below_setRow _ hB)
theorem step_append_room {P : Program} {ops : Array Oper} {o : Oper} {a : Act} (w : World) {K : Act → World → Prop} {Q : Exit → Act → World → Prop} {E : Prop} (hgd : o.guard = none) (s x : Operand) (t : TypeId)
    (ho : o.op = .call { callee := .builtin .append, args := #[s, x], argTypes := #[t, t] })
    (e : TypeId) (i : TypeInfo) (size : Nat) (ht : P.underlying t = some (.slice e)) (hi : P.info? e = some i) (hsize : i.size = size)
    (g n cap : Nat) (cur : Array Value) (hb : Blk w g e cur) (hs : a.eval s = .slice (some ⟨g, 0, none⟩) n cap)
    (ad : Addr) (m c : Nat) (news : List Value) (hx : a.eval x = .slice (some ad) m c) (hl : news.length = m * size) (hnews : ∀ j u, news[j]? = some u → w.cell? (ad.add j) = some u) (h1 : ∀ u ∈ news, u.oneCell' = true)
    (nm : Nat) (hnm : n + m = nm) (hroom : n + m ≤ cap) (hfit : n * size + news.length ≤ cur.size)
    (h : ∀ w', Blk w' g e (cur.toList.take (n * size) ++ news ++ cur.toList.drop (n * size + news.length)).toArray → (∀ B, B ≤ g → Below B w w') → K (a.put o.dst (.slice (some ⟨g, 0, none⟩) nm cap)) w') :
    if Region.wanted o (yielded ops a.tmps) = true then Oper.wp P o a w K Q else E := by
  have hw : Region.wanted o (yielded ops a.tmps) = true := by simp [Region.wanted, hgd]
  rw [if_pos hw]
  exact wp_append_room w s x t ho e i size ht hi hsize g n cap cur hb hs ad m c news hx hl hnews h1 nm hnm hroom hfit h

/-- clear of a part of a row -/
theorem run_clear {P : Program} (w : World) (t ty e : TypeId) (i : TypeInfo) (z : Value) (ht : P.underlying t = some (.slice e)) (hi : P.info? e = some i) (hz : i.zero = some z) (h1 : ∀ u ∈ z.cells, u.oneCell' = true)
    (g off m c : Nat) (cur : Array Value) (hb : Blk w g e cur) (hm : 0 < m) (hfit : off + m * z.cells.size ≤ cur.size) :
    ∃ w', (Builtin.clear_ #[t] ty #[.slice (some ⟨g, off, none⟩) m c]).run P w = .ok (.tuple #[]) w' ∧ Blk w' g e (cur.toList.take off ++ (Builtin.zeroCells z.cells m).toList ++ cur.toList.drop (off + m * z.cells.size)).toArray ∧ (∀ B, B ≤ g → Below B w w') := by
  have hst := run_storeCells_at P g off e (Builtin.zeroCells z.cells m).toList 0 cur w hb (by rw [Array.length_toList, size_zeroCells]; omega) (by
    intro u hu
    have hu2 : u ∈ Builtin.zeroCells z.cells m := by simpa using hu
    unfold Builtin.zeroCells at hu2
    obtain ⟨i, hi', rfl⟩ := Array.mem_map.1 hu2
    have hlt : i < m * z.cells.size := by simpa using hi'
    have hp : 0 < z.cells.size := by
      cases hz0 : z.cells.size with
      | zero => rw [hz0] at hlt; omega
      | succ n => omega
    have hmod : i % z.cells.size < z.cells.size := Nat.mod_lt _ hp
    rw [getElem!_pos z.cells _ hmod]
    exact h1 _ (Array.getElem_mem hmod))
  simp only [Nat.add_zero, Array.length_toList, size_zeroCells] at hst
  obtain ⟨m', rfl⟩ : ∃ m', m = m' + 1 := ⟨m - 1, by omega⟩
  refine ⟨_, ?_, hb.setRow _, fun B hB => below_setRow _ hB⟩
  simp [Builtin.clear_, run_underlying ht, zeroValue, typeInfo, hi, hz, hst]
end Go.Proofs.Ythhialnnhhemaaa
