/- AN ABSTRACT MACHINE over the model, four: the operations of the model, as its own. No condition. -/
import Derived.Test.YtbpipdgkkdifgaaAm3
import Derived.Laws.OwnMore
import Derived.Laws.Small
import Derived.Laws.StructEq
namespace Go.Proofs.Ytbpipdgkkdifgaa
open Go.RowKit
set_option linter.unusedVariables false

def cac : Value → Option AC
  | .slice none 0 0 => some .zc
  | v => if plain v then some (.s (.pv v)) else none
def ctv : Value → Option (TV AC)
  | .agg vs => (all? cac vs.toList).map TV.agg
  | .tuple _ => none
  | v => (cac v).map TV.c
def copd : Operand → Option Opd
  | .tmp t => some (.t t)
  | .const v => (ctv v).map Opd.k
  | .func f => some (.k (.c (.s (.fn f []))))
  | .global _ => none
structure TI where
  agg : Bool
  n : Nat
  bytes : Nat
  zv : Value
  zero : List AC
def tyAgg : TypeDesc → Bool
  | .struct _ | .array _ _ => true
  | _ => false
def tinf (P : Program) (t : Nat) : Option TI :=
  match P.info? t, P.underlying t with
  | some i, some d => match i.zero with
    | some z => match all? cac z.cells.toList with
      | some cs => if cs.length = i.size ∧ 0 < i.size ∧ (tyAgg d = false → i.size = 1) then some ⟨tyAgg d, i.size, i.bytes, z, cs⟩ else none
      | none => none
    | none => none
  | _, _ => none
structure TIs (P : Program) (t : Nat) (x : TI) : Prop where
  info : ∃ i d, P.info? t = some i ∧ P.underlying t = some d ∧ i.zero = some x.zv ∧ i.size = x.n ∧ i.bytes = x.bytes ∧ tyAgg d = x.agg
  zero : all? cac x.zv.cells.toList = some x.zero
  len : x.zero.length = x.n
  pos : 0 < x.n
  one : x.agg = false → x.n = 1
theorem tinf_ok {P : Program} {t : Nat} {x : TI} (h : tinf P t = some x) : TIs P t x := by
  unfold tinf at h
  cases h1 : P.info? t with
  | none => rw [h1] at h; simp at h
  | some i =>
    cases h2 : P.underlying t with
    | none => rw [h1, h2] at h; simp at h
    | some d =>
      rw [h1, h2] at h
      simp only at h
      cases h3 : i.zero with
      | none => rw [h3] at h; simp at h
      | some z =>
        rw [h3] at h
        simp only at h
        cases h4 : all? cac z.cells.toList with
        | none => rw [h4] at h; simp at h
        | some cs =>
          rw [h4] at h
          simp only at h
          split at h
          · rename_i hc
            simp only [Option.some.injEq] at h
            subst h
            exact ⟨⟨i, d, h1, h2, h3, rfl, rfl, rfl⟩, h4, hc.1, hc.2.1, hc.2.2⟩
          · simp at h

/-- an operation, for all that can come of it -/
def Ok1 (P : Program) (o : Oper) (a : Act) (w : World) (R : Value → World → Prop) : Prop :=
  ∀ (K : Act → World → Prop) (Q : Exit → Act → World → Prop), (∀ u w', R u w' → K (a.put o.dst u) w') → o.wp P a w K Q
section
variable {P : Program} {o : Oper} {a : Act} {w : World} {R : Value → World → Prop}
theorem Ok1.value {u : Value} {w' : World} (h : (execOp a.eval o).run P w = .ok (.value u) w') (hr : R u w') : Ok1 P o a w R := by
  intro K Q hK
  unfold Oper.wp
  rw [h]
  exact hK _ _ hr
theorem Ok1.skip {w' : World} (h : (execOp a.eval o).run P w = .ok .skip w') (hr : R undef w') : Ok1 P o a w R := by
  intro K Q hK
  unfold Oper.wp
  rw [h]
  exact hK _ _ hr
theorem Ok1.call {f : FuncId} {args : Array Value} (h : (execOp a.eval o).run P w = .ok (.enter f args) w) (hc : Calls P f args w fun e w' => ∃ v, e = .returned v ∧ R v w') : Ok1 P o a w R := by
  intro K Q hK
  unfold Oper.wp
  rw [h]
  refine hc.mono ?_
  rintro e w' ⟨v, rfl, hv⟩
  exact hK _ _ hv
end
/-- what is behind an operation -/
def Done (O : Nat → Prop) (w0 : Base) (n : Nat) (σ : St) (a : Act) (v : TV AC) (ws : List (Nat × Nat × LB)) : Value → World → Prop :=
  fun u w' => ∃ β, Rel O w0 n ⟨σ.slot, σ.h.app ws⟩ β a w' ∧ RepT (RepA (σ.h.app ws) β w' (Mine O (σ.h.app ws) β)) v u

theorem cac_ok {h : Hp} {β : Env} {w : World} {O : Nat → Prop} {v : Value} {x : AC} (e : cac v = some x) : RepA h β w O x v := by
  unfold cac at e
  split at e
  · simp only [Option.some.injEq] at e; subst e; exact ⟨_, rfl⟩
  · split at e
    · simp only [Option.some.injEq] at e; subst e; exact .pv (by assumption)
    · simp at e
theorem cacs_ok {h : Hp} {β : Env} {w : World} {O : Nat → Prop} : ∀ {vs : List Value} {xs : List AC}, all? cac vs = some xs → RL (RepA h β w O) xs vs := by
  intro vs
  induction vs with
  | nil => intro xs e; rw [all?_nil e]; exact .nil
  | cons v vs ih =>
    intro xs e
    obtain ⟨y, ys, h1, h2, rfl⟩ := all?_cons e
    exact .cons (cac_ok h1) (ih h2)
theorem ctv_ok {h : Hp} {β : Env} {w : World} {O : Nat → Prop} {v : Value} {x : TV AC} (e : ctv v = some x) : RepT (RepA h β w O) x v := by
  unfold ctv at e
  split at e
  · simp only [Option.map_eq_some_iff] at e
    obtain ⟨xs, h1, rfl⟩ := e
    exact ⟨_, rfl, cacs_ok h1⟩
  · simp at e
  · simp only [Option.map_eq_some_iff] at e
    obtain ⟨y, h1, rfl⟩ := e
    exact cac_ok h1
section
variable {P : Program} {O : Nat → Prop} {w0 : Base} {n : Nat} {σ : St} {β : Env} {a : Act} {w : World}
theorem Rel.ev (r : Rel O w0 n σ β a w) {x : Operand} {y : Opd} (e : copd x = some y) : RepT (RepA σ.h β w (Mine O σ.h β)) (σ.ev y) (a.eval x) := by
  cases x with
  | tmp t => simp only [copd, Option.some.injEq] at e; subst e; exact r.slots t
  | const v =>
    simp only [copd, Option.map_eq_some_iff] at e
    obtain ⟨z, h1, rfl⟩ := e
    exact ctv_ok h1
  | func f =>
    simp only [copd, Option.some.injEq] at e
    subst e
    exact RepS.fn (us := []) rfl (fun i h => by simp at h)
  | global g => simp [copd] at e
/-- nothing is behind it but a value -/
theorem Rel.pure (r : Rel O w0 n σ β a w) {v : TV AC} {u : Value} (hv : RepT (RepA σ.h β w (Mine O σ.h β)) v u) : Done O w0 n σ a v [] u w := ⟨β, r, hv⟩
theorem RepT.pvInv {h : Hp} {u v : Value} {O : Nat → Prop} (r : RepT (RepA h β w O) (.c (.s (.pv u))) v) : v = u := RepS.flat r
theorem RepT.cellsInv {h : Hp} {x : TV AC} {cs : List AC} {v : Value} {O : Nat → Prop} (r : RepT (RepA h β w O) x v) (e : x.cells = some cs) : RL (RepA h β w O) cs v.cells.toList ∧ (v.cells.toList = [v] ∨ ∃ us : List Value, v = .agg us.toArray ∧ v.cells.toList = us) := by
  cases x with
  | no => simp [TV.cells] at e
  | c y =>
    simp only [TV.cells, Option.some.injEq] at e
    subst e
    have h1 := RepA.one r
    have h2 : v.cells.toList = [v] := by
      cases v <;> first | rfl | simp [Value.oneCell'] at h1
    rw [h2]
    exact ⟨.one r, .inl rfl⟩
  | agg ys =>
    simp only [TV.cells, Option.some.injEq] at e
    subst e
    obtain ⟨us, rfl, h1⟩ := r
    exact ⟨by simpa [Value.cells] using h1, .inr ⟨us, rfl, by simp [Value.cells]⟩⟩
  | tup vs => simp [TV.cells] at e
theorem pv_mk {h : Hp} {O : Nat → Prop} {v : Value} (e : plain v = true) : RepT (RepA h β w O) (.c (.s (.pv v))) v := RepS.pv e

/-! the operations that look at plain values alone -/
theorem op_mv (r : Rel O w0 n σ β a w) {o : Oper} {x : Operand} {y : Opd} (ho : o.op = .move x ∨ o.op = .assign x) (e : copd x = some y) : Ok1 P o a w (Done O w0 n σ a (σ.ev y) []) := by
  refine Ok1.value (u := a.eval x) (w' := w) ?_ (r.pure (r.ev e))
  rcases ho with ho | ho <;> simp [execOp, ho]
theorem op_pick (r : Rel O w0 n σ β a w) {o : Oper} {c x y : Operand} {c' x' y' : Opd} {t : Bool} (ho : o.op = .pick c x y) (ec : copd c = some c') (ex : copd x = some x') (ey : copd y = some y')
    (hc : σ.ev c' = .c (.s (.pv (.bool t)))) : Ok1 P o a w (Done O w0 n σ a (bif t then σ.ev x' else σ.ev y') []) := by
  have h1 := r.ev ec
  rw [hc] at h1
  have h2 := h1.pvInv
  refine Ok1.value (u := if t then a.eval x else a.eval y) (w' := w) ?_ (r.pure ?_)
  · simp [execOp, ho, h2, asBool]
  · cases t
    · exact r.ev ey
    · exact r.ev ex
theorem op_not (r : Rel O w0 n σ β a w) {o : Oper} {x : Operand} {x' : Opd} {t : Bool} {ty : Nat} (ho : o.op = .unOp .not ty x) (ex : copd x = some x')
    (hx : σ.ev x' = .c (.s (.pv (.bool t)))) : Ok1 P o a w (Done O w0 n σ a (.c (.s (.pv (.bool !t)))) []) := by
  have h1 := r.ev ex
  rw [hx] at h1
  have h2 := h1.pvInv
  refine Ok1.value (u := .bool !t) (w' := w) ?_ (r.pure (pv_mk rfl))
  simp [execOp, ho, h2, Op.unary]
theorem op_conv (r : Rel O w0 n σ β a w) {o : Oper} {x : Operand} {x' : Opd} {k k' : IntKind} {m : Int} {src dst : Nat} {d : TypeDesc} (ho : o.op = .convert src dst x) (ex : copd x = some x') (hs : P.underlying src = some d) (hd : P.underlying dst = some (.int k))
    (hx : σ.ev x' = .c (.s (.pv (.int k' m)))) : Ok1 P o a w (Done O w0 n σ a (.c (.s (.pv (.int k (k.wrap m))))) []) := by
  have h1 := r.ev ex
  rw [hx] at h1
  have h2 := h1.pvInv
  refine Ok1.value (u := .int k (k.wrap m)) (w' := w) ?_ (r.pure (pv_mk rfl))
  simp [execOp, ho, h2, convert, run_underlying hs, run_underlying hd, Conv.intToInt]
theorem op_bin (r : Rel O w0 n σ β a w) {o : Oper} {op : BinOp} {x y : Operand} {x' y' : Opd} {u v z : Value} {c : Prop} {t ty : Nat} {d : TypeDesc} (ho : o.op = .binOp op t x y ty) (ex : copd x = some x') (ey : copd y = some y')
    (ht : P.underlying t = some d) (hb : (match d with | .bool | .int _ | .string => true | _ => false) = true)
    (hx : σ.ev x' = .c (.s (.pv u))) (hy : σ.ev y' = .c (.s (.pv v))) (hz : binv op u v = some (c, z)) (hc : c) (hbb : ∀ p q, u = .bool p → v = .bool q → d = .bool) : Ok1 P o a w (Done O w0 n σ a (.c (.s (.pv z))) []) := by
  have h1 := r.ev ex
  rw [hx] at h1
  have h2 := h1.pvInv
  have h3 := r.ev ey
  rw [hy] at h3
  have h4 := h3.pvInv
  have hp : plain z = true ∧ (do eqGuard op t x y u v; binOp op t u v : Sem Value).run P w = .ok z w := by
    unfold binv at hz
    split at hz
    all_goals first
      | (split at hz
         · rename_i hk
           simp only [Option.some.injEq, Prod.mk.injEq] at hz
           obtain ⟨rfl, rfl⟩ := hz
           subst hk
           refine ⟨rfl, ?_⟩
           simp [eqGuard, binOp, Op.intArith, Op.intDiv, Op.intCmp, Op.intBits, hc]
         · simp at hz)
      | (simp only [Option.some.injEq, Prod.mk.injEq] at hz
         obtain ⟨rfl, rfl⟩ := hz
         refine ⟨rfl, ?_⟩
         simp [eqGuard, binOp, Op.shift, Int.not_lt.2 hc]
         done)
      | (simp only [Option.some.injEq, Prod.mk.injEq] at hz
         obtain ⟨rfl, rfl⟩ := hz
         have hd := hbb _ _ rfl rfl
         subst hd
         refine ⟨rfl, ?_⟩
         first
           | (simp [eqGuard, run_eql_bool w t _ _ ht]; done)
           | (simp [eqGuard, run_neq_bool w t _ _ ht]; done))
      | (simp only [Option.some.injEq, Prod.mk.injEq] at hz
         obtain ⟨rfl, rfl⟩ := hz
         refine ⟨rfl, ?_⟩
         simp [eqGuard, binOp, Op.stringOp]
         try omega
         try rfl)
      | simp at hz
  refine Ok1.value (u := z) (w' := w) ?_ (r.pure (pv_mk hp.1))
  have h5 := hp.2
  simp only [execOp, ho, h2, h4]
  simp only [Sem.run_bind] at h5 ⊢
  rw [h5]
  rfl
end
end Go.Proofs.Ytbpipdgkkdifgaa
