/- AN ABSTRACT MACHINE over the model, seven: stores, slices, append, calls. No condition. -/
import Derived.Test.YtbpipdgkkdifgaaAm6
namespace Go.Proofs.Ytbpipdgkkdifgaa
open Go.RowKit
set_option linter.unusedVariables false

theorem flatten_set {α : Type} {e : Nat} : ∀ (els : List (List α)), (∀ x ∈ els, x.length = e) → ∀ (i : Nat) (hi : i < els.length) (off : Nat) (cs : List α), off + cs.length ≤ e →
    (els.set i (patch els[i] off cs)).flatten = patch els.flatten (i * e + off) cs := by
  intro els
  induction els with
  | nil => intro _ i hi; simp at hi
  | cons x xs ih =>
    intro he i hi off cs hoff
    have hx := he x (by simp)
    cases i with
    | zero =>
      simp only [List.set_cons_zero, List.flatten_cons, List.getElem_cons_zero, Nat.zero_mul, Nat.zero_add]
      unfold patch
      rw [List.take_append_of_le_length (by omega), List.drop_append_of_le_length (by omega)]
      simp
    | succ i =>
      have hi' : i < xs.length := by simpa using hi
      have := ih (fun y hy => he y (by simp [hy])) i hi' off cs hoff
      simp only [List.set_cons_succ, List.flatten_cons, List.getElem_cons_succ]
      rw [this]
      unfold patch
      have e1 : (i + 1) * e + off = x.length + (i * e + off) := by rw [Nat.add_mul]; omega
      rw [e1, List.take_append, List.drop_append]
      have e2 : List.take (x.length + (i * e + off)) x = x := List.take_of_length_le (by omega)
      have e3 : List.drop (x.length + (i * e + off) + cs.length) x = [] := List.drop_of_length_le (by omega)
      rw [e2, e3]
      rw [show x.length + (i * e + off) - x.length = i * e + off by omega, show x.length + (i * e + off) + cs.length - x.length = i * e + off + cs.length by omega]
      simp
theorem take_patch {α : Type} (l : List α) (p : Nat) (xs : List α) (m : Nat) (h : p + xs.length ≤ m) : (patch l p xs).take m = patch (l.take m) p xs := by
  unfold patch
  by_cases hl : p ≤ l.length
  · have e1 : (l.take p).length = p := by simp; omega
    rw [List.take_append, List.take_append, List.length_append, e1]
    rw [List.take_take, Nat.min_eq_right (by omega), List.take_take, Nat.min_eq_left (by omega)]
    rw [List.take_of_length_le (show xs.length ≤ m - p by omega)]
    rw [List.drop_take]
  · have e1 : l.take p = l := List.take_of_length_le (by omega)
    have e2 : l.drop (p + xs.length) = [] := List.drop_of_length_le (by omega)
    have e3 : (l.take m) = l := List.take_of_length_le (by omega)
    rw [e3, e1, e2]
    simp only [List.append_nil]
    rw [List.take_of_length_le (by simp; omega)]
section
variable {P : Program} {O : Nat → Prop} {w0 : Base} {n : Nat} {σ : St} {β : Env} {a : Act} {w : World}
theorem setRow_oth {w : World} {g : Nat} (cs : Array Value) : ∀ k, k < w.heap.size → some k ≠ some g → (w.setRow g cs).heap[k]? = w.heap[k]? :=
  fun k _ h => setRow_other w g k cs (fun e => h (by rw [e]))
theorem run_storeV {t : Nat} {ti : TI} (ht : TIs P t ti) {b off ty : Nat} {cur : Array Value} {u : Value} (hb : Blk w b ty cur) (hu : u.cells.toList.length = ti.n) (h1 : ∀ v ∈ u.cells.toList, v.oneCell' = true) (hf : off + ti.n ≤ cur.size) :
    (storeVar t ⟨b, off, none⟩ u).run P w = .ok () (w.setRow b (patch cur.toList off u.cells.toList).toArray) := by
  obtain ⟨i, d, h2, h3, h4, h5, h6, h7⟩ := ht.info
  have hst := run_storeCells_at P b off ty u.cells.toList 0 cur w hb (by omega) h1
  simp only [Nat.add_zero] at hst
  have hsz : u.cells.size = ti.n := by simpa using hu
  simp only [storeVar, Sem.run_bind, run_sizeOf' h2, Result.andThen_ok, h5, hsz, ne_eq, not_true_eq_false, if_false]
  rw [hst]
  rfl
/-- a store into a local block -/
theorem op_store (r : Rel O w0 n σ β a w) {o : Oper} {x y : Operand} {x' y' : Opd} {t : Nat} {ti : TI} {l g i off ty e : Nat} {row : Bool} {els : List (List AC)} {cs : List AC} {lb : LB} (ho : o.op = .store t x y) (ex : copd x = some x') (ey : copd y = some y') (ht : TIs P t ti)
    (hx : σ.ev x' = .c (.ptr l g i off)) (hc : (σ.ev y').cells = some cs) (hl : cs.length = ti.n) (hg : g = σ.h.gen l) (hv : σ.h.view l = .mem row ty e els) (hi : i < els.length) (hoff : off + ti.n ≤ e)
    (hlb : ∃ cs', lb.view = .mem row ty e (els.set i (patch els[i] off cs')) ∧ cs'.length = cs.length ∧ ∀ us, us = (a.eval y).cells.toList → RL (RepA σ.h β w (Mine O σ.h β)) cs us → RL (RepA σ.h β w (Mine O σ.h β)) cs' us) :
    Ok1 P o a w (Done O w0 n σ a .no [(l, g, lb)]) := by
  obtain ⟨cs', hlb, hcl, hcs⟩ := hlb
  have h1 := r.ev ex
  rw [hx] at h1
  obtain ⟨b, hb, hu⟩ := r.place h1 hg hv
  obtain ⟨h2, _⟩ := (r.ev ey).cellsInv hc
  have h3 := r.blks l
  unfold RepB at h3
  rw [hv] at h3
  simp only at h3
  obtain ⟨h0, he, ⟨_, h4, _⟩ | ⟨b', cap, cur, h4, h5, h6, h7⟩⟩ := h3
  · subst h4; simp at hi
  rw [hb] at h4
  obtain rfl : b = b' := by simpa using h4
  have hpl : i * e + off + ti.n ≤ els.flatten.length := by
    have := flatten_lt els he i hi (e - 1) (by omega)
    omega
  have hcz : els.flatten.length ≤ cur.size := by
    have := h6.1
    simp only [List.length_take, Array.length_toList] at this
    omega
  have hrun := run_storeV (P := P) ht (off := i * e + off) h5 (u := a.eval y) (by rw [← h2.1]; exact hl) (by
    intro v hv
    obtain ⟨k, hk, rfl⟩ := List.getElem_of_mem hv
    exact RepA.one (h2.2 k (by rw [h2.1]; exact hk) hk)) (by omega)
  let sv := (β l).2
  have hβ : upd β l (some b, sv) = β := by
    funext k
    by_cases hk : k = l
    · rw [hk, upd_at, ← hb]
    · rw [upd_ne _ _ hk]
  have t : Turn O σ.h β w (w.setRow b (patch cur.toList (i * e + off) (a.eval y).cells.toList).toArray) l g lb (some b) sv :=
    ⟨by simp, rfl, rfl, rfl, setRow_oth _, fun k hk => .inr ⟨by rw [hv]; rfl, by rw [hb]; exact hk⟩, .inr ⟨hg, row, ty, e, els, _, hv, hlb, by rw [← hb]⟩⟩
  have hrel := t.rel r (by
    unfold RepB
    rw [Hp.view_at, hlb]
    refine ⟨h0, fun z hz => ?_, .inr ⟨b, cap, (patch cur.toList (i * e + off) (a.eval y).cells.toList).toArray, by rw [upd_at], ?_, ?_, fun hr => ?_⟩⟩
    · rcases List.mem_or_eq_of_mem_set hz with hz | rfl
      · exact he z hz
      · rw [patch_length _ _ _ (by rw [he _ (List.getElem_mem hi)]; omega)]; exact he _ (List.getElem_mem hi)
    · exact setRow_heap w b cur _ ty (0, 0) h5
    · rw [flatten_set els he i hi off cs' (by omega)]
      rw [patch_length _ _ _ (by omega)]
      simp only
      rw [take_patch _ _ _ _ (by rw [← h2.1]; omega)]
      exact (h6.patch (hcs _ rfl h2) _).mono (fun z u hz => t.repA r.toRelH hz)
    · obtain ⟨k1, k2, k3, k4⟩ := h7 hr
      rw [upd_at]
      refine ⟨by rw [List.length_set]; exact k1, by rw [List.length_set]; exact k2, k3, ?_⟩
      have : (patch cur.toList (i * e + off) (a.eval y).cells.toList).length = cur.toList.length := patch_length _ _ _ (by rw [← h2.1]; simp; omega)
      simpa [k4] using this)
  refine Ok1.skip (w' := w.setRow b (patch cur.toList (i * e + off) (a.eval y).cells.toList).toArray) ?_ ⟨_, hrel, trivial⟩
  simp [execOp, ho, hu, Instr.storeAt, Instr.sureAddr, hrun]
theorem op_mkSlice (r : Rel O w0 n σ β a w) {o : Oper} {d t e : Nat} {ti : TI} {x y : Operand} {x' y' : Opd} {kl kc : IntKind} {l c : Int} {zs : List SC} (ho : o.op = .makeSlice t x y) (ex : copd x = some x') (ey : copd y = some y') (ht : P.underlying t = some (.slice e)) (hti : TIs P e ti)
    (hx : σ.ev x' = .c (.s (.pv (.int kl l)))) (hy : σ.ev y' = .c (.s (.pv (.int kc c)))) (h0 : 0 ≤ l) (hlc : l ≤ c) (hby : (ti.bytes : Int) * c ≤ 140737488355328) (h63 : c ≤ 9223372036854775807) (hz : all? sh0 ti.zero = some zs) :
    Ok1 P o a w (Done O w0 n σ a (.c (.own d (σ.h.gen d + 1))) [(d, σ.h.gen d + 1, .row e ti.n (List.replicate l.toNat zs))]) := by
  obtain ⟨i, dd, h1, h2, h3, h4, h5, h6⟩ := hti.info
  have hx2 := r.ev ex
  rw [hx] at hx2
  have hx3 := hx2.pvInv
  have hy2 := r.ev ey
  rw [hy] at hy2
  have hy3 := hy2.pvInv
  have hrun := run_make (P := P) w t e i ti.zv ht h1 h3 kl kc l c h0 hlc (by rw [h5]; omega) h63
  have hzr := cacs_ok (h := σ.h) (β := β) (w := w) (O := Mine O σ.h β) hti.zero
  have hzs : RL (RepS w (Mine O σ.h β)) zs ti.zv.cells.toList := hzr.all hz (fun x y u _ hy hu => sh0_ok hy hu)
  have hzl : ti.zv.cells.size = ti.n := by have := hzr.1; have h := hti.len; simp at this; omega
  have hp := hti.pos
  have hzsl : zs.length = ti.n := by rw [hzs.1]; simpa using hzl
  have hln : ((List.replicate l.toNat zs).map (List.map AC.s)).length = l.toNat := by simp
  have hlb : (LB.row e ti.n (List.replicate l.toNat zs)).view = .mem true e ti.n ((List.replicate l.toNat zs).map (List.map AC.s)) := rfl
  have hmul : l.toNat * ti.n ≤ c.toNat * ti.n := Nat.mul_le_mul_right _ (by omega)
  have hcells : RL (RepA σ.h β w (Mine O σ.h β)) ((List.replicate l.toNat zs).map (List.map AC.s)).flatten ((madeCells ti.zv.cells (c.toNat * i.size)).toList.take ((List.replicate l.toNat zs).map (List.map AC.s)).flatten.length) := by
    have hfl : ((List.replicate l.toNat zs).map (List.map AC.s)).flatten = ((List.replicate l.toNat zs).flatten).map AC.s := by rw [← List.map_flatten]
    have hflen : (List.replicate l.toNat zs).flatten.length = l.toNat * ti.n := by simp [hzsl]
    rw [hfl, List.length_map, hflen]
    refine RL.map AC.s (S := RepS w (Mine O σ.h β)) ⟨by rw [hflen, List.length_take, Array.length_toList, size_madeCells, h4, Nat.min_eq_left hmul], fun k hk hk' => ?_⟩ (fun x u hx => hx)
    have hk2 : k < l.toNat * ti.n := by rw [hflen] at hk; exact hk
    have hdiv : k / ti.n < l.toNat := Nat.div_lt_of_lt_mul (by rw [Nat.mul_comm]; exact hk2)
    have hmod : k % ti.n < ti.n := Nat.mod_lt _ hp
    have hka : k / ti.n * ti.n + k % ti.n = k := by rw [Nat.mul_comm]; exact Nat.div_add_mod k ti.n
    have hg := flatten_get (e := ti.n) (List.replicate l.toNat zs) (fun x hx => by rw [List.eq_of_mem_replicate hx]; exact hzsl) (k / ti.n) (by simpa using hdiv) (k % ti.n) hmod
    rw [hka, List.getElem_replicate] at hg
    rw [List.getElem?_eq_getElem hk, List.getElem?_eq_getElem (by rw [hzsl]; exact hmod)] at hg
    have hg2 : ((List.replicate l.toNat zs).flatten)[k] = zs[k % ti.n]'(by rw [hzsl]; exact hmod) := by simpa using hg
    rw [hg2]
    have := hzs.2 (k % ti.n) (by rw [hzsl]; exact hmod) (by simp [hzl]; exact hmod)
    simp only [List.getElem_take, Array.getElem_toList, madeCells, Array.getElem_map, Array.getElem_range, hzl]
    rw [getElem!_pos ti.zv.cells _ (by rw [hzl]; exact hmod)]
    simpa using this
  have hfr := r.fresh (d := d) (g := w.heap.size) (cap := c.toNat) hlb hp (by intro x hx; obtain ⟨y, hy, rfl⟩ := List.mem_map.1 hx; rw [List.length_map, List.eq_of_mem_replicate hy]; exact hzsl)
    (alloc_below w (.cells (madeCells ti.zv.cells (c.toNat * i.size)) e)) (Nat.le_refl _) (Blk.new _ _ _) hcells (fun _ => ⟨by rw [hln]; omega, by unfold maxLen; omega, by rw [size_madeCells, h4]⟩)
  have hown := own_mk (w := w.alloc (.cells (madeCells ti.zv.cells (c.toNat * i.size)) e)) (O := Mine O (σ.h.set d (σ.h.gen d + 1) (.row e ti.n (List.replicate l.toNat zs))) (upd β d (some w.heap.size, .slice (some ⟨w.heap.size, 0, none⟩) ((List.replicate l.toNat zs).map (List.map AC.s)).length c.toNat))) (β := β) (h := σ.h) (l := d) (g := σ.h.gen d + 1) (b := some w.heap.size) (A := some ⟨w.heap.size, 0, none⟩) (k := ((List.replicate l.toNat zs).map (List.map AC.s)).length) (c := c.toNat) hlb
  refine Ok1.value (u := .slice (some ⟨w.heap.size, 0, none⟩) l.toNat c.toNat) (w' := w.alloc (.cells (madeCells ti.zv.cells (c.toNat * i.size)) e)) ?_ ⟨_, hfr, ?_⟩
  · simp [execOp, ho, hx3, hy3, hrun]
  · rw [hln] at hown ⊢
    exact hown
end
end Go.Proofs.Ytbpipdgkkdifgaa
