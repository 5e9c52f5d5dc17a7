/- slices.Delete over a row of the caller's own: the memory's part, over any program. No condition. -/
import Derived.Test.YtbpipdgkkdifgaaAm21
import Derived.Deep.RegionLaw
import Derived.Laws.OwnMore
import Derived.Laws.MakeOwn
import Derived.BigFrame
namespace Go.Proofs.Ytbpipdgkkdifgaa
open Go.RowKit
set_option linter.unusedVariables false
namespace Del
theorem _root_.Go.Proofs.Ytbpipdgkkdifgaa.Blk.setRow {w : World} {g : Nat} {t : TypeId} {cs : Array Value} (h : Blk w g t cs) (cs' : Array Value) : Blk (w.setRow g cs') g t cs' := setRow_heap w g cs cs' t (0, 0) h
theorem keptRow (w : World) (g : Nat) (cs : Array Value) : Kept g w (w.setRow g cs) :=
  ⟨by simp [World.setRow], rfl, rfl, rfl, fun k hk hne => setRow_oth (w := w) (g := g) cs k hk (by simpa using hne)⟩
theorem _root_.Go.Proofs.Ytbpipdgkkdifgaa.Kept.trans {b : Nat} {w w' w'' : World} (h : Kept b w w') (h' : Kept b w' w'') : Kept b w w'' :=
  ⟨Nat.le_trans h.1 h'.1, h'.2.1.trans h.2.1, h'.2.2.1.trans h.2.2.1, h'.2.2.2.1.trans h.2.2.2.1, fun k hk hne => (h'.2.2.2.2 k (Nat.lt_of_lt_of_le hk h.1) hne).trans (h.2.2.2.2 k hk hne)⟩
theorem _root_.Go.Proofs.Ytbpipdgkkdifgaa.Kept.refl (b : Nat) (w : World) : Kept b w w := ⟨Nat.le_refl _, rfl, rfl, rfl, fun _ _ _ => rfl⟩
theorem keptDrew (b : Nat) (w : World) : Kept b w w.drew := ⟨Nat.le_refl _, rfl, rfl, rfl, fun _ _ _ => rfl⟩
theorem wp_append_room {P : Program} {o : Oper} {a : Act} (w : World) {K : Act → World → Prop} {Q : Exit → Act → World → Prop} (s x : Operand) (t : TypeId)
    (ho : o.op = .call { callee := .builtin .append, args := #[s, x], argTypes := #[t, t] })
    (e : TypeId) (i : TypeInfo) (size : Nat) (ht : P.underlying t = some (.slice e)) (hi : P.info? e = some i) (hsize : i.size = size)
    (g n cap : Nat) (cur : Array Value) (hb : Blk w g e cur) (hs : a.eval s = .slice (some ⟨g, 0, none⟩) n cap)
    (ad : Addr) (m c : Nat) (news : List Value) (hx : a.eval x = .slice (some ad) m c) (hl : news.length = m * size) (hnews : ∀ j u, news[j]? = some u → w.cell? (ad.add j) = some u) (h1 : ∀ u ∈ news, u.oneCell' = true)
    (nm : Nat) (hnm : n + m = nm) (hroom : n + m ≤ cap) (hfit : n * size + news.length ≤ cur.size)
    (h : ∀ w', Blk w' g e (cur.toList.take (n * size) ++ news ++ cur.toList.drop (n * size + news.length)).toArray → Kept g w w' → K (a.put o.dst (.slice (some ⟨g, 0, none⟩) nm cap)) w') : o.wp P a w K Q := by
  subst hsize
  subst hnm
  have hr := run_append_room (P := P) w t o.type e i ht hi g n cap cur hb ad m c news hl hnews h1 hroom hfit
  unfold Oper.wp execOp
  simp only [ho, resolve, invoke, builtin, Sem.run_bind, Sem.run_pure, Result.andThen_ok, List.map_toArray, List.map_cons, List.map_nil, hs, hx, hr]
  exact h _ (hb.setRow _) (keptRow _ _ _)
theorem step_append_room {P : Program} {ops : Array Oper} {o : Oper} {a : Act} (w : World) {K : Act → World → Prop} {Q : Exit → Act → World → Prop} {E : Prop} (hgd : o.guard = none) (s x : Operand) (t : TypeId)
    (ho : o.op = .call { callee := .builtin .append, args := #[s, x], argTypes := #[t, t] })
    (e : TypeId) (i : TypeInfo) (size : Nat) (ht : P.underlying t = some (.slice e)) (hi : P.info? e = some i) (hsize : i.size = size)
    (g n cap : Nat) (cur : Array Value) (hb : Blk w g e cur) (hs : a.eval s = .slice (some ⟨g, 0, none⟩) n cap)
    (ad : Addr) (m c : Nat) (news : List Value) (hx : a.eval x = .slice (some ad) m c) (hl : news.length = m * size) (hnews : ∀ j u, news[j]? = some u → w.cell? (ad.add j) = some u) (h1 : ∀ u ∈ news, u.oneCell' = true)
    (nm : Nat) (hnm : n + m = nm) (hroom : n + m ≤ cap) (hfit : n * size + news.length ≤ cur.size)
    (h : ∀ w', Blk w' g e (cur.toList.take (n * size) ++ news ++ cur.toList.drop (n * size + news.length)).toArray → Kept g w w' → K (a.put o.dst (.slice (some ⟨g, 0, none⟩) nm cap)) w') :
    if Region.wanted o (yielded ops a.tmps) = true then Oper.wp P o a w K Q else E := by
  have hw : Region.wanted o (yielded ops a.tmps) = true := by simp [Region.wanted, hgd]
  rw [if_pos hw]
  exact wp_append_room w s x t ho e i size ht hi hsize g n cap cur hb hs ad m c news hx hl hnews h1 nm hnm hroom hfit h
theorem run_clear {P : Program} (w : World) (t ty e : TypeId) (i : TypeInfo) (z : Value) (ht : P.underlying t = some (.slice e)) (hi : P.info? e = some i) (hz : i.zero = some z) (h1 : ∀ u ∈ z.cells, u.oneCell' = true)
    (g off m c : Nat) (cur : Array Value) (hb : Blk w g e cur) (hm : 0 < m) (hfit : off + m * z.cells.size ≤ cur.size) :
    ∃ w', (Builtin.clear_ #[t] ty #[.slice (some ⟨g, off, none⟩) m c]).run P w = .ok (.tuple #[]) w' ∧ Blk w' g e (cur.toList.take off ++ (Builtin.zeroCells z.cells m).toList ++ cur.toList.drop (off + m * z.cells.size)).toArray ∧ Kept g w w' := by
  have hst := run_storeCells_at P g off e (Builtin.zeroCells z.cells m).toList 0 cur w hb (by rw [Array.length_toList, size_zeroCells]; omega) (by
    intro u hu
    have hu2 : u ∈ Builtin.zeroCells z.cells m := by simpa using hu
    unfold Builtin.zeroCells at hu2
    obtain ⟨i, hi', rfl⟩ := Array.mem_map.1 hu2
    have hlt : i < m * z.cells.size := by simpa using hi'
    have hp : 0 < z.cells.size := by
      cases hz0 : z.cells.size with
      | zero => rw [hz0] at hlt; omega
      | succ n => omega
    have hmod : i % z.cells.size < z.cells.size := Nat.mod_lt _ hp
    rw [getElem!_pos z.cells _ hmod]
    exact h1 _ (Array.getElem_mem hmod))
  simp only [Nat.add_zero, Array.length_toList, size_zeroCells] at hst
  obtain ⟨m', rfl⟩ : ∃ m', m = m' + 1 := ⟨m - 1, by omega⟩
  refine ⟨_, ?_, hb.setRow _, keptRow _ _ _⟩
  simp [Builtin.clear_, run_underlying ht, zeroValue, typeInfo, hi, hz, hst]
def move (e : Nat) (cur : Array Value) (k : Nat) (xs : List Value) : Array Value := (cur.toList.take (k * e) ++ xs ++ cur.toList.drop (k * e + xs.length)).toArray
def wipe (e : Nat) (cur : Array Value) (n : Nat) (z : Value) : Array Value := (cur.toList.take (n * e) ++ (Builtin.zeroCells z.cells 1).toList ++ cur.toList.drop (n * e + 1 * z.cells.size)).toArray
theorem mulS (a e : Nat) : (a + 1) * e = a * e + e := by rw [Nat.add_mul, Nat.one_mul]
theorem move_size {e : Nat} {cur : Array Value} {k n cap : Nat} {xs : List Value} (hx : xs.length = (n - k) * e) (h5 : cur.size = cap * e) (hkn : k ≤ n) (hnc : n + 1 ≤ cap) : (move e cur k xs).size = cap * e := by
  unfold move
  have h1 : k * e + (n - k) * e = n * e := by rw [← Nat.add_mul]; congr 1; omega
  have h2 : (n + 1) * e ≤ cap * e := Nat.mul_le_mul_right _ hnc
  rw [mulS] at h2
  simp only [List.size_toArray, List.length_append, List.length_take, List.length_drop, Array.length_toList]
  omega
theorem wipe_fit {e : Nat} {cur : Array Value} {k n cap : Nat} {xs : List Value} {z : Value} (hz : z.cells.size = e) (hx : xs.length = (n - k) * e) (h5 : cur.size = cap * e) (hkn : k ≤ n) (hnc : n + 1 ≤ cap) : n * e + 1 * z.cells.size ≤ (move e cur k xs).size := by
  rw [move_size hx h5 hkn hnc, hz]
  have h2 : (n + 1) * e ≤ cap * e := Nat.mul_le_mul_right _ hnc
  rw [mulS] at h2
  omega
theorem wipe_size {e : Nat} {cur : Array Value} {k n cap : Nat} {xs : List Value} {z : Value} (hz : z.cells.size = e) (hx : xs.length = (n - k) * e) (h5 : cur.size = cap * e) (hkn : k ≤ n) (hnc : n + 1 ≤ cap) : (wipe e (move e cur k xs) n z).size = cap * e := by
  have h := move_size hx h5 hkn hnc
  have h2 : (n + 1) * e ≤ cap * e := Nat.mul_le_mul_right _ hnc
  rw [mulS] at h2
  unfold wipe
  simp only [List.size_toArray, List.length_append, List.length_take, List.length_drop, Array.length_toList, size_zeroCells, hz]
  omega
theorem wipe_cells {e : Nat} {cur : Array Value} {k n cap : Nat} {us : List Value} {z : Value} (hz : z.cells.size = e) (h5 : cur.size = cap * e) (h6 : cur.toList.take ((n + 1) * e) = us) (hkn : k ≤ n) (hnc : n + 1 ≤ cap) :
    (wipe e (move e cur k (us.drop ((k + 1) * e))) n z).toList.take (n * e) = us.take (k * e) ++ us.drop ((k + 1) * e) := by
  have h2 : (n + 1) * e ≤ cap * e := Nat.mul_le_mul_right _ hnc
  have h1 : k * e + (n - k) * e = n * e := by rw [← Nat.add_mul]; congr 1; omega
  have hul : us.length = (n + 1) * e := by rw [← h6, List.length_take, Array.length_toList, h5]; omega
  have hx : (us.drop ((k + 1) * e)).length = (n - k) * e := by
    rw [List.length_drop, hul, ← Nat.sub_mul]; congr 1; omega
  have h := move_size hx h5 hkn hnc
  rw [mulS] at h2
  have hk2 : k * e ≤ n * e := Nat.mul_le_mul_right _ hkn
  have e1 : (wipe e (move e cur k (us.drop ((k + 1) * e))) n z).toList.take (n * e) = (move e cur k (us.drop ((k + 1) * e))).toList.take (n * e) := by
    unfold wipe
    have hl1 : ((move e cur k (us.drop ((k + 1) * e))).toList.take (n * e)).length = n * e := by rw [List.length_take, Array.length_toList, h]; omega
    show List.take (n * e) (_ ++ _ ++ _) = _
    rw [List.append_assoc, List.take_append_of_le_length (by rw [hl1]; exact Nat.le_refl _), List.take_of_length_le (by rw [hl1]; exact Nat.le_refl _)]
  have hck : (cur.toList.take (k * e)).length = k * e := by rw [List.length_take, Array.length_toList, h5]; omega
  have e2 : (move e cur k (us.drop ((k + 1) * e))).toList.take (n * e) = cur.toList.take (k * e) ++ us.drop ((k + 1) * e) := by
    unfold move
    show List.take (n * e) (_ ++ _ ++ _) = _
    have hl2 : (cur.toList.take (k * e) ++ us.drop ((k + 1) * e)).length = n * e := by rw [List.length_append, hck, hx]; omega
    rw [List.take_append_of_le_length (by rw [hl2]; exact Nat.le_refl _), List.take_of_length_le (by rw [hl2]; exact Nat.le_refl _)]
  have e3 : cur.toList.take (k * e) = us.take (k * e) := by
    rw [← h6, List.take_take]
    congr 1
    rw [mulS]; omega
  rw [e1, e2, e3]
theorem flatten_erase {α : Type} {e : Nat} : ∀ (els : List (List α)), (∀ x ∈ els, x.length = e) → ∀ k, k < els.length → (els.eraseIdx k).flatten = els.flatten.take (k * e) ++ els.flatten.drop ((k + 1) * e) := by
  intro els he k hk
  rw [List.eraseIdx_eq_take_drop_succ, List.flatten_append, flatten_takeE els he, flatten_dropE els he]
end Del
end Go.Proofs.Ytbpipdgkkdifgaa
