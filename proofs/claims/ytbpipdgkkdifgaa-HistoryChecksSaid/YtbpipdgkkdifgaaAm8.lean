/- AN ABSTRACT MACHINE over the model, eight: parts of slices and strings; append; calls. No condition. -/
import Derived.Test.YtbpipdgkkdifgaaAm7
import Derived.Laws.Slices
namespace Go.Proofs.Ytbpipdgkkdifgaa
open Go.RowKit
set_option linter.unusedVariables false

theorem flatten_takeE {α : Type} {e : Nat} : ∀ (els : List (List α)), (∀ x ∈ els, x.length = e) → ∀ k, (els.take k).flatten = els.flatten.take (k * e) := by
  intro els
  induction els with
  | nil => intro _ k; simp
  | cons x xs ih =>
    intro he k
    cases k with
    | zero => simp
    | succ k =>
      have hx := he x (by simp)
      simp only [List.take_succ_cons, List.flatten_cons, ih (fun y hy => he y (by simp [hy]))]
      have e2 : x.take (x.length + k * e) = x := List.take_of_length_le (by omega)
      rw [List.take_append, show (k + 1) * e = x.length + k * e by rw [Nat.add_mul]; omega, e2]
      rw [show x.length + k * e - x.length = k * e by omega]
theorem flatten_dropE {α : Type} {e : Nat} : ∀ (els : List (List α)), (∀ x ∈ els, x.length = e) → ∀ k, (els.drop k).flatten = els.flatten.drop (k * e) := by
  intro els
  induction els with
  | nil => intro _ k; simp
  | cons x xs ih =>
    intro he k
    cases k with
    | zero => simp
    | succ k =>
      have hx := he x (by simp)
      simp only [List.drop_succ_cons, List.flatten_cons, ih (fun y hy => he y (by simp [hy]))]
      have e2 : x.drop (x.length + k * e) = [] := List.drop_of_length_le (by omega)
      rw [List.drop_append, show (k + 1) * e = x.length + k * e by rw [Nat.add_mul]; omega, e2]
      rw [show x.length + k * e - x.length = k * e by omega]
      simp
def coptd : Option Operand → Option (Option Opd)
  | none => some none
  | some x => (copd x).map some
section
variable {P : Program} {O : Nat → Prop} {w0 : Base} {n : Nat} {σ : St} {β : Env} {a : Act} {w : World}
theorem bnd_ok (r : Rel O w0 n σ β a w) {lo : Option Operand} {lo' : Option Opd} (e : coptd lo = some lo') {dflt : Nat} {l : Int} (hb : bnd σ.ev dflt lo' = some l) : (lo = none ∧ l = dflt) ∨ ∃ x k, lo = some x ∧ a.eval x = .int k l := by
  cases lo with
  | none =>
    simp only [coptd, Option.some.injEq] at e
    subst e
    simp only [bnd, Option.some.injEq] at hb
    exact .inl ⟨rfl, hb.symm⟩
  | some x =>
    simp only [coptd, Option.map_eq_some_iff] at e
    obtain ⟨x', h1, rfl⟩ := e
    unfold bnd at hb
    simp only at hb
    split at hb
    · rename_i h2
      simp only [Option.some.injEq] at hb
      subst hb
      have h3 := r.ev h1
      rw [h2] at h3
      exact .inr ⟨x, _, rfl, h3.pvInv⟩
    · simp at hb
theorem run_bounds (sl : Bool) (len cap : Nat) (lo hi : Option Value) (l m : Int) (hl : (lo = none ∧ l = 0) ∨ ∃ k, lo = some (.int k l)) (hm : (hi = none ∧ m = len) ∨ ∃ k, hi = some (.int k m)) (h0 : 0 ≤ l) (h1 : l ≤ m) (h2 : m ≤ len) (h3 : len ≤ cap) (w : World) :
    (Instr.sliceBounds sl len cap lo hi none).run P w = .ok (l.toNat, m.toNat, cap) w := by
  have hm0 : 0 ≤ m := by omega
  have hmc : m ≤ (cap : Int) := by omega
  have hlm : l ≤ ((m.toNat : Nat) : Int) := by omega
  rcases hm with ⟨rfl, rfl⟩ | ⟨k, rfl⟩
  · rcases hl with ⟨rfl, rfl⟩ | ⟨k', rfl⟩
    · simp [Instr.sliceBounds]
    · simp [Instr.sliceBounds, run_sliceBound, h0, h1]
  · rcases hl with ⟨rfl, rfl⟩ | ⟨k', rfl⟩
    · simp [Instr.sliceBounds, run_sliceBound, hm0, hmc]
    · have e1 := run_sliceBound (P := P) w k' l m.toNat .sliceB h0 hlm
      simp [Instr.sliceBounds, run_sliceBound, hm0, hmc, e1]
theorem mem_part {α : Type} {l : List α} {p q : Nat} {x : α} (h : x ∈ (l.take q).drop p) : x ∈ l := List.mem_of_mem_take (List.mem_of_mem_drop h)
/-- a part of a shared slice -/
theorem RepS.part {O : Nat → Prop} {w : World} {e : Nat} {els : List (List SC)} {A : Option Addr} {cap : Nat} (hx : RepS w O (.sl e els) (.slice A els.length cap)) {l m : Nat} (h1 : l ≤ m) (h2 : m ≤ els.length) :
    RepS w O (.sl e ((els.take m).drop l)) (.slice (if cap = l then A else A.map (·.add (l * e))) (m - l) (cap - l)) := by
  by_cases hlm : l = m
  · subst hlm
    have e1 : (els.take l).drop l = [] := List.drop_of_length_le (by simp; omega)
    rw [e1, Nat.sub_self]
    obtain ⟨h0, hm⟩ : 0 < e ∧ cap ≤ maxLen := by
      cases hx with
      | sl0 h0 hm => exact ⟨h0, hm⟩
      | sl h0 _ hm => exact ⟨h0, hm⟩
    exact .sl0 h0 (by omega)
  · generalize hu : Value.slice A els.length cap = u at hx
    cases hx with
    | sl0 h0 hm => simp at h2; omega
    | sl h0 hcap hm hb hO he hl hr hc =>
      rename_i b off cap' us
      simp only [Value.slice.injEq, true_and] at hu
      obtain ⟨rfl, rfl⟩ := hu
      rw [if_neg (by omega)]
      simp only [Option.map_some, add_off]
      have hlen : ((els.take m).drop l).length = m - l := by simp; omega
      have hfl : ((els.take m).drop l).flatten = (els.flatten.take (m * e)).drop (l * e) := by
        rw [flatten_dropE _ (fun x hx => he x (List.mem_of_mem_take hx)), flatten_takeE _ he]
      have hRL : RL (RepS w O) els.flatten us := ⟨hl, hr⟩
      have h3 := (hRL.take (m * e)).drop (l * e)
      rw [← hfl] at h3
      rw [← hlen]
      refine .sl (us := (us.take (m * e)).drop (l * e)) h0 (by rw [hlen]; omega) (by omega) hb hO (fun x hx => he x (mem_part hx)) h3.1 h3.2 (fun i a => ?_)
      rw [List.getElem_drop, List.getElem_take, Nat.add_assoc]
      exact hc _ (by simp at a; omega)
theorem op_sub (r : Rel O w0 n σ β a w) {o : Oper} {x : Operand} {x' : Opd} {t e : Nat} {ti : TI} {lo hi : Option Operand} {lo' hi' : Option Opd} {els : List (List SC)} {ws : List (Nat × Nat × LB)} {m : Nat} {p q : Int} (ho : o.op = .slice t x lo hi none) (ex : copd x = some x') (el : coptd lo = some lo') (eh : coptd hi = some hi')
    (ht : P.underlying t = some (.slice e)) (hti : TIs P e ti) (hs : sliceOf ti.n σ.h (σ.ev x') = some (els, ws)) (hm : lenOf σ.h (σ.ev x') = some m) (hp : bnd σ.ev 0 lo' = some p) (hq : bnd σ.ev m hi' = some q) (h0 : 0 ≤ p) (h1 : p ≤ q) (h2 : q ≤ m) :
    Ok1 P o a w (Done O w0 n σ a (.c (.s (.sl ti.n ((els.take q.toNat).drop p.toNat)))) ws) := by
  obtain ⟨i, dd, i1, i2, i3, i4, i5, i6⟩ := hti.info
  have hS := sliceOf_ok hs
  have hln := hS.len hm
  subst hln
  obtain ⟨r1, r2, r3⟩ := hS.froz r.toRelH (r.ev ex)
  have r' : Rel O w0 n ⟨σ.slot, σ.h.app ws⟩ β a w := ⟨r1, r.hd, r.hn, fun k => (r.slots k).mono (fun x u hx => r2 x u hx)⟩
  have hx2 : RepS w (Mine O (σ.h.app ws) β) (.sl ti.n els) (a.eval x) := by
    rcases r3 with ⟨rfl, A, h⟩ | h
    · rw [h]; exact .sl0 hti.pos (by unfold maxLen; omega)
    · exact h
  obtain ⟨A, cap, hu, hc1, hc2⟩ := hx2.slForm
  rw [hu] at hx2
  have hlo := bnd_ok r el hp
  have hhi := bnd_ok r eh hq
  have hrun := run_bounds (P := P) true els.length cap (lo.map a.eval) (hi.map a.eval) p q (by
    rcases hlo with ⟨rfl, h⟩ | ⟨y, k, rfl, h⟩
    · exact .inl ⟨rfl, h⟩
    · exact .inr ⟨k, by simp [h]⟩) (by
    rcases hhi with ⟨rfl, h⟩ | ⟨y, k, rfl, h⟩
    · exact .inl ⟨rfl, h⟩
    · exact .inr ⟨k, by simp [h]⟩) h0 h1 h2 hc1 w
  refine Ok1.value (u := .slice (if cap = p.toNat then A else A.map (·.add (p.toNat * ti.n))) (q.toNat - p.toNat) (cap - p.toNat)) (w' := w) ?_ ⟨β, r', ?_⟩
  · simp only [execOp, ho, hu, Instr.sliceAt, Sem.run_bind, run_underlying ht, Result.andThen_ok, Instr.slice]
    have e0 : (none : Option Operand).map a.eval = none := rfl
    rw [e0, hrun]
    simp [run_sizeOf' i1, i4]
  · exact hx2.part (by omega) (by omega)
theorem op_z3 (r : Rel O w0 n σ β a w) {o : Oper} {x : Operand} {x' : Opd} {t e : Nat} {ti : TI} {k1 k2 k3 : IntKind} {lo : Option Operand} {m : Nat} (ho : o.op = .slice t x lo (some (.const (.int k2 0))) (some (.const (.int k3 0)))) (hlo : lo = none ∨ lo = some (.const (.int k1 0))) (ex : copd x = some x')
    (ht : P.underlying t = some (.slice e)) (hti : TIs P e ti) (hm : lenOf σ.h (σ.ev x') = some m) : Ok1 P o a w (Done O w0 n σ a (.c .zc) []) := by
  obtain ⟨i, dd, i1, i2, i3, i4, i5, i6⟩ := hti.info
  obtain ⟨A, cap, hu⟩ := lenOf_ok r (r.ev ex) hm
  refine Ok1.value (u := .slice A 0 0) (w' := w) ?_ (r.pure ⟨A, rfl⟩)
  have ec : ∀ v, a.eval (.const v) = v := fun v => rfl
  rcases hlo with rfl | rfl <;> simp [execOp, ho, hu, Instr.sliceAt, run_underlying ht, Instr.slice, Instr.sliceBounds, ec, run_sliceBound, run_sizeOf' i1]
theorem op_ssub (r : Rel O w0 n σ β a w) {o : Oper} {x : Operand} {x' : Opd} {t : Nat} {lo hi : Option Operand} {lo' hi' : Option Opd} {s : ByteArray} {p q : Int} (ho : o.op = .slice t x lo hi none) (ex : copd x = some x') (el : coptd lo = some lo') (eh : coptd hi = some hi')
    (ht : P.underlying t = some .string) (hx : σ.ev x' = .c (.s (.pv (.string s)))) (hp : bnd σ.ev 0 lo' = some p) (hq : bnd σ.ev s.size hi' = some q) (h0 : 0 ≤ p) (h1 : p ≤ q) (h2 : q ≤ s.size) :
    Ok1 P o a w (Done O w0 n σ a (.c (.s (.pv (.string (s.extract p.toNat q.toNat))))) []) := by
  have hx2 := r.ev ex
  rw [hx] at hx2
  have hu := hx2.pvInv
  have hlo := bnd_ok r el hp
  have hhi := bnd_ok r eh hq
  have hrun := run_bounds (P := P) false s.size s.size (lo.map a.eval) (hi.map a.eval) p q (by
    rcases hlo with ⟨rfl, h⟩ | ⟨y, k, rfl, h⟩
    · exact .inl ⟨rfl, h⟩
    · exact .inr ⟨k, by simp [h]⟩) (by
    rcases hhi with ⟨rfl, h⟩ | ⟨y, k, rfl, h⟩
    · exact .inl ⟨rfl, h⟩
    · exact .inr ⟨k, by simp [h]⟩) h0 h1 h2 (Nat.le_refl _) w
  refine Ok1.value (u := .string (s.extract p.toNat q.toNat)) (w' := w) ?_ (r.pure (pv_mk rfl))
  simp only [execOp, ho, hu, Instr.sliceAt, Sem.run_bind, run_underlying ht, Result.andThen_ok, Instr.slice]
  simp [hrun]
theorem op_sidx (r : Rel O w0 n σ β a w) {o : Oper} {x y : Operand} {x' y' : Opd} {t : Nat} {k : IntKind} {m : Int} {s : ByteArray} (ho : o.op = .index t x y) (ex : copd x = some x') (ey : copd y = some y') (ht : P.underlying t = some .string)
    (hx : σ.ev x' = .c (.s (.pv (.string s)))) (hy : σ.ev y' = .c (.s (.pv (.int k m)))) (h0 : 0 ≤ m) (hn : m.toNat < s.size) : Ok1 P o a w (Done O w0 n σ a (.c (.s (.pv (.int .u8 (s[m.toNat].toNat : Int))))) []) := by
  have hx2 := r.ev ex
  rw [hx] at hx2
  have hu := hx2.pvInv
  have hy2 := r.ev ey
  rw [hy] at hy2
  have hv := hy2.pvInv
  refine Ok1.value (u := .int .u8 (s[m.toNat].toNat : Int)) (w' := w) ?_ (r.pure (pv_mk rfl))
  have hg : s[m.toNat]? = some s[m.toNat] := getElem?_pos s m.toNat hn
  simp [execOp, ho, hu, hv, Instr.index, asIntOf, run_underlying ht, h0, hg]
theorem op_field (r : Rel O w0 n σ β a w) {o : Oper} {x : Operand} {x' : Opd} {t k : Nat} {fs : Array Field} {f : Field} {ti : TI} {cs : List AC} {v : TV AC} (ho : o.op = .field t x k) (ex : copd x = some x') (ht : P.underlying t = some (.struct fs)) (hf : fs[k]? = some f) (hti : TIs P f.type ti)
    (hx : σ.ev x' = .agg cs) (hl : f.offset + ti.n ≤ cs.length) (hv : if ti.agg then v = .agg ((cs.drop f.offset).take ti.n) else ∃ c, cs[f.offset]? = some c ∧ v = .c c) : Ok1 P o a w (Done O w0 n σ a v []) := by
  obtain ⟨i, dd, i1, i2, i3, i4, i5, i6⟩ := hti.info
  have hx2 := r.ev ex
  rw [hx] at hx2
  obtain ⟨us, hu, hr⟩ := hx2
  cases hag : ti.agg with
  | true =>
    rw [hag] at hv
    simp only [if_true] at hv
    subst hv
    refine Ok1.value (u := .agg (us.toArray.extract f.offset (f.offset + ti.n))) (w' := w) ?_ (r.pure ⟨(us.drop f.offset).take ti.n, ?_, (hr.drop _).take _⟩)
    · simp [execOp, ho, hu, Instr.field, run_underlying ht, hf, asAgg, part, run_isAgg' i2, i6, hag, run_sizeOf' i1, i4]
    · simp
  | false =>
    rw [hag] at hv
    simp only [Bool.false_eq_true, if_false] at hv
    obtain ⟨c, h1, rfl⟩ := hv
    obtain ⟨u, h2, h3⟩ := hr.get h1
    refine Ok1.value (u := u) (w' := w) ?_ (r.pure h3)
    have h4 : us.toArray[f.offset]? = some u := by simpa using h2
    simp [execOp, ho, hu, Instr.field, run_underlying ht, hf, asAgg, part, run_isAgg' i2, i6, hag, h2]
theorem op_ext (r : Rel O w0 n σ β a w) {o : Oper} {x : Operand} {x' : Opd} {k : Nat} {vs : List (Bool × List AC)} {v : TV AC} (ho : o.op = .extract x k) (ex : copd x = some x') (hx : σ.ev x' = .tup vs)
    (hv : (∃ cs, vs[k]? = some (true, cs) ∧ v = .agg cs) ∨ (∃ c, vs[k]? = some (false, [c]) ∧ v = .c c)) : Ok1 P o a w (Done O w0 n σ a v []) := by
  have hx2 := r.ev ex
  rw [hx] at hx2
  obtain ⟨us, hu, hl, hr⟩ := hx2
  rcases hv with ⟨cs, h1, rfl⟩ | ⟨c, h1, rfl⟩
  · obtain ⟨hk, h2⟩ := List.getElem?_eq_some_iff.1 h1
    obtain ⟨ws, h3, h4⟩ := (hr k hk (by omega)).1 (by rw [h2])
    rw [h2] at h4
    refine Ok1.value (u := us[k]) (w' := w) ?_ (r.pure ⟨ws, h3, h4⟩)
    simp [execOp, ho, hu, Instr.extract, show k < us.length by omega]
  · obtain ⟨hk, h2⟩ := List.getElem?_eq_some_iff.1 h1
    obtain ⟨y, h3, h4⟩ := (hr k hk (by omega)).2 (by rw [h2])
    rw [h2] at h3
    simp only [List.cons.injEq, and_true] at h3
    subst h3
    refine Ok1.value (u := us[k]) (w' := w) ?_ (r.pure h4)
    simp [execOp, ho, hu, Instr.extract, show k < us.length by omega]
theorem pvs_ok {h : Hp} {O : Nat → Prop} : ∀ {xs : List AC} {us : List Value} {vs : List Value}, pvs xs = some vs → RL (RepA h β w O) xs us → us = vs := by
  intro xs
  induction xs with
  | nil => intro us vs h1 h2; simp [pvs] at h1; rw [h2.nil_inv, h1]
  | cons x xs ih =>
    intro us vs h1 h2
    obtain ⟨u, us', rfl, h3, h4⟩ := h2.cons_inv
    cases x with
    | s x =>
      cases x with
      | pv v =>
        simp only [pvs, Option.map_eq_some_iff] at h1
        obtain ⟨vs', h5, rfl⟩ := h1
        rw [RepS.flat h3, ih h5 h4]
      | _ => simp [pvs] at h1
    | _ => simp [pvs] at h1
theorem op_eqs (r : Rel O w0 n σ β a w) {o : Oper} {neg : Bool} {x y : Operand} {x' y' : Opd} {t ty : Nat} {xs ys : List AC} {us vs : List Value} {b : Bool} (ho : o.op = .binOp (if neg then .neq else .eql) t x y ty) (ex : copd x = some x') (ey : copd y = some y') (hg : P.eqGuardType P.depth t = false)
    (hx : σ.ev x' = .agg xs) (hy : σ.ev y' = .agg ys) (hxs : pvs xs = some us) (hys : pvs ys = some vs) (hr : EqRun P t us vs b) : Ok1 P o a w (Done O w0 n σ a (.c (.s (.pv (.bool (neg ^^ b))))) []) := by
  have hx2 := r.ev ex
  rw [hx] at hx2
  obtain ⟨us', hu, hru⟩ := hx2
  have hy2 := r.ev ey
  rw [hy] at hy2
  obtain ⟨vs', hv, hrv⟩ := hy2
  rw [pvs_ok hxs hru] at hu
  rw [pvs_ok hys hrv] at hv
  refine Ok1.value (u := .bool (neg ^^ b)) (w' := w) ?_ (r.pure (pv_mk rfl))
  have h1 := hr w
  cases neg with
  | false =>
    simp only [Bool.false_eq_true, if_false] at ho
    simp only [execOp, ho, hu, hv, Sem.run_bind, run_eqGuard_agg (hm := hg), Result.andThen_ok, h1]
    simp
  | true =>
    simp only [if_true] at ho
    rw [run_eql_struct] at h1
    have h2 : (binOp .neq t (.agg us.toArray) (.agg vs.toArray)).run P w = .ok (.bool !b) w := by
      rw [run_neq_struct]
      cases h3 : (Op.equalIn 10000 t (.agg us.toArray) (.agg vs.toArray)).run P w with
      | ok r1 w1 =>
        rw [h3] at h1
        simp only [Result.andThen_ok, Result.ok.injEq, Value.bool.injEq] at h1
        obtain ⟨rfl, rfl⟩ := h1
        rfl
      | halt q w1 => rw [h3] at h1; simp at h1
    simp only [execOp, ho, hu, hv, Sem.run_bind, run_eqGuard_agg (hm := hg), Result.andThen_ok, h2]
    simp
theorem op_mm (r : Rel O w0 n σ β a w) {o : Oper} {mx : Bool} {x y : Operand} {x' y' : Opd} {ts : Array TypeId} {k k' : IntKind} {p q : Int} (ho : o.op = .call { callee := .builtin (if mx then .max else .min), args := #[x, y], argTypes := ts }) (ex : copd x = some x') (ey : copd y = some y')
    (hx : σ.ev x' = .c (.s (.pv (.int k p)))) (hy : σ.ev y' = .c (.s (.pv (.int k' q)))) : Ok1 P o a w (Done O w0 n σ a (.c (.s (.pv (.int k (if mx then max p q else min p q))))) []) := by
  have hx2 := r.ev ex
  rw [hx] at hx2
  have hu := hx2.pvInv
  have hy2 := r.ev ey
  rw [hy] at hy2
  have hv := hy2.pvInv
  refine Ok1.value (u := .int k (if mx then max p q else min p q)) (w' := w) ?_ (r.pure (pv_mk rfl))
  cases mx with
  | true =>
    have : (if q > p then q else p) = max p q := by split <;> omega
    simp [execOp, ho, resolve, invoke, builtin, hu, hv, Builtin.max_, Builtin.max2, this]
  | false =>
    have : (if q < p then q else p) = min p q := by split <;> omega
    simp [execOp, ho, resolve, invoke, builtin, hu, hv, Builtin.min_, Builtin.min2, this]
end
end Go.Proofs.Ytbpipdgkkdifgaa
