/- AN ABSTRACT MACHINE over the model, seventeen: code; functions. No condition. -/
import Derived.Test.YtbpipdgkkdifgaaAm16
import Derived.Scope
namespace Go.Proofs.Ytbpipdgkkdifgaa
open Go.RowKit
set_option linter.unusedVariables false

inductive ACode where
  | skip
  | reg (ops : List ROp)
  | draw (ops : List ROp)
  | seq (a b : ACode)
  | cond (c : Opd) (a b : ACode)
  | block (id : Nat) (b : ACode)
  | loop (b : ACode)
  | exit (id : Nat)
  | ret
deriving Inhabited
def compC (P : Program) (n : Nat) : Code → Option ACode
  | .skip => some .skip
  | .region _ ops d => (compOps P n ops).map fun qs => if d then .draw qs else .reg qs
  | .seq a b => match compC P n a, compC P n b with
    | some a, some b => some (.seq a b)
    | _, _ => none
  | .cond c a b => match copd c, compC P n a, compC P n b with
    | some c, some a, some b => some (.cond c a b)
    | _, _, _ => none
  | .block id b => (compC P n b).map (ACode.block id)
  | .loop b => (compC P n b).map ACode.loop
  | .exit id => some (.exit id)
  | .ret => some .ret
  | .scope b => compC P n b
  | .label _ => some .skip
  | _ => none

inductive Ex where
  | normal
  | exit (id : Nat)
  | ret
def Ex.real : Ex → Exit
  | .normal => .normal
  | .exit id => .exit id
  | .ret => .ret
def Ex.then (next : St → Prop) (Q : Ex → St → Prop) : Ex → St → Prop
  | .normal, σ => next σ
  | e, σ => Q e σ
def Ex.inBlock (id : Nat) (Q : Ex → St → Prop) : Ex → St → Prop
  | .exit id', σ => if id' = id then Q .normal σ else Q (.exit id') σ
  | e, σ => Q e σ
/-- one state seen as another -/
def Sub (σ σ' : St) : Prop := ∀ (O : Nat → Prop) (w0 : Base) (n : Nat) (β : Env) (a : Act) (w : World), Rel O w0 n σ β a w → ∃ β', Rel O w0 n σ' β' a w
theorem Sub.refl (σ : St) : Sub σ σ := fun _ _ _ β _ _ r => ⟨β, r⟩
theorem Sub.trans {σ σ' σ'' : St} (h : Sub σ σ') (h' : Sub σ' σ'') : Sub σ σ'' := fun O w0 n β a w r => by
  obtain ⟨β', r'⟩ := h O w0 n β a w r
  exact h' O w0 n β' a w r'
/-- nothing, seen as an empty row of the call's own -/
theorem sub_slot {σ : St} {s : Nat} (l ty e : Nat) (hs : σ.slot s = .c .zc) (h0 : 0 < e) : Sub σ ⟨upd σ.slot s (.c (.own l (σ.h.gen l + 1))), σ.h.set l (σ.h.gen l + 1) (.row ty e [])⟩ := by
  intro O w0 n β a w r
  have hz := r.slots s
  rw [hs] at hz
  obtain ⟨A, hA⟩ := hz
  have r1 := r.fresh0 (d := l) (ty := ty) h0 A
  refine ⟨_, r1.toRelH, r1.hd, r1.hn, fun t => ?_⟩
  show RepT _ (upd σ.slot s _ t) _
  by_cases et : t = s
  · rw [et, upd_at, hA]
    exact own_mk rfl
  · rw [upd_ne _ _ et]
    exact r1.slots t
theorem flat_set {α : Type} : ∀ (els : List (List α)) (i j : Nat) (x : α), ∀ (hi : i < els.length), j < els[i].length → ∃ k, k < els.flatten.length ∧ (els.set i (els[i].set j x)).flatten = els.flatten.set k x ∧ els.flatten[k]? = els[i][j]?
  | [], i, j, x, hi, _ => by simp at hi
  | y :: ys, 0, j, x, _, hj => by
    refine ⟨j, ?_, ?_, ?_⟩
    · simp at hj ⊢; omega
    · simp at hj ⊢; rw [List.set_append_left _ _ hj]
    · simp at hj ⊢; rw [List.getElem?_append_left hj]
  | y :: ys, i + 1, j, x, hi, hj => by
    obtain ⟨k, h1, h2, h3⟩ := flat_set ys i j x (by simpa using hi) (by simpa using hj)
    refine ⟨y.length + k, by simp at h1 ⊢; omega, ?_, ?_⟩
    · simp only [List.set_cons_succ, List.flatten_cons, List.getElem_cons_succ, h2]
      rw [List.set_append_right _ _ (by omega)]
      congr 2; omega
    · simp only [List.flatten_cons, List.getElem_cons_succ]
      rw [List.getElem?_append_right (by omega), ← h3]
      congr 1; omega
theorem sub_cell {σ : St} {p tp ep i j : Nat} {els : List (List AC)} (l ty e : Nat) (hb : σ.h.blk p = .box tp ep els) (hi : i < els.length) (hj : els[i][j]? = some .zc) (hpl : p ≠ l) (h0 : 0 < e) :
    Sub σ ⟨σ.slot, (σ.h.set l (σ.h.gen l + 1) (.row ty e [])).set p (σ.h.gen p) (.box tp ep (els.set i (els[i].set j (.own l (σ.h.gen l + 1)))))⟩ := by
  intro O w0 n β a w r
  have hv : σ.h.view p = .mem false tp ep els := by unfold Hp.view; rw [hb]; rfl
  have hB := r.toRelH.blks p
  unfold RepB at hB
  rw [hv] at hB
  simp only at hB
  obtain ⟨h1, h2, ⟨h3, _⟩ | ⟨b, cap, cur, h3, h4, h5, h6⟩⟩ := hB
  · simp at h3
  obtain ⟨hjl, hje⟩ := List.getElem?_eq_some_iff.1 hj
  obtain ⟨k, hk, hset, hget⟩ := flat_set els i j (.own l (σ.h.gen l + 1)) hi hjl
  rw [hj] at hget
  obtain ⟨u, hu, hzu⟩ := h5.get hget
  obtain ⟨A, rfl⟩ := hzu
  have r1 := r.fresh0 (d := l) (ty := ty) h0 A
  have hv1 : (σ.h.set l (σ.h.gen l + 1) (.row ty e [])).view p = .mem false tp ep els := by rw [Hp.view_ne _ _ _ hpl]; exact hv
  have hg1 : (σ.h.set l (σ.h.gen l + 1) (.row ty e [])).gen p = σ.h.gen p := Hp.gen_ne _ _ _ hpl
  have hβ : (upd β l (none, .slice A 0 0) p) = β p := upd_ne _ _ hpl
  have t : Turn O (σ.h.set l (σ.h.gen l + 1) (.row ty e [])) (upd β l (none, .slice A 0 0)) w w p (σ.h.gen p) (.box tp ep (els.set i (els[i].set j (.own l (σ.h.gen l + 1))))) (some b) (β p).2 :=
    ⟨Nat.le_refl _, rfl, rfl, rfl, fun _ _ _ => rfl, fun q hq => .inr ⟨by rw [hv1]; rfl, by rw [hβ, h3]; exact hq⟩, .inr ⟨hg1.symm, false, tp, ep, els, _, hv1, rfl, by rw [hβ, ← h3]⟩⟩
  have hB2 := r1.toRelH.blks p
  unfold RepB at hB2
  rw [show (St.h ⟨σ.slot, σ.h.set l (σ.h.gen l + 1) (.row ty e [])⟩).view p = .mem false tp ep els from hv1] at hB2
  simp only at hB2
  obtain ⟨_, _, ⟨c3, _⟩ | ⟨b', cap', cur', c3, c4, c5, c6⟩⟩ := hB2
  · simp at c3
  rw [hβ, h3] at c3
  obtain rfl : b = b' := by simpa using c3
  have hcur : cur' = cur := by
    have := c4.symm.trans h4
    simpa using this
  subst hcur
  refine ⟨_, t.rel r1 ?_⟩
  unfold RepB
  rw [Hp.view_at]
  simp only [LB.view]
  refine ⟨h1, fun x hx => ?_, .inr ⟨b, cap', cur', by rw [upd_at], c4, ?_, fun hr => by simp at hr⟩⟩
  · rcases List.mem_or_eq_of_mem_set hx with hx | rfl
    · exact h2 x hx
    · rw [List.length_set]; exact h2 _ (List.getElem_mem hi)
  · rw [hset, List.length_set]
    have c7 : RL (RepA (σ.h.set l (σ.h.gen l + 1) (.row ty e [])) (upd β l (none, .slice A 0 0)) w (Mine O (σ.h.set l (σ.h.gen l + 1) (.row ty e [])) (upd β l (none, .slice A 0 0)))) (els.flatten.set k (.own l (σ.h.gen l + 1))) (cur'.toList.take els.flatten.length) := by
      have := c5.set (x := .own l (σ.h.gen l + 1)) (u := .slice A 0 0) (own_mk rfl) k
      have e1 : (cur'.toList.take els.flatten.length).set k (.slice A 0 0) = cur'.toList.take els.flatten.length := by
        apply List.ext_getElem?
        intro q
        rw [List.getElem?_set]
        split
        · rename_i hq
          subst hq
          split
          · exact hu.symm
          · rename_i hlt
            rw [List.getElem?_eq_none (by omega)]
        · rfl
      rw [e1] at this
      exact this
    exact c7.mono (fun x u hx => t.repA r1.toRelH hx)
/-- a loop: by what holds with so many rounds to go -/
def LoopA (body : (Ex → St → Prop) → St → Prop) (Q : Ex → St → Prop) (σ : St) : Prop :=
  ∃ (I : Nat → St → Prop) (m : Nat), (∃ σ1, Sub σ σ1 ∧ I m σ1) ∧ ∀ m σ, I m σ → body (Ex.then (fun σ' => ∃ m', m' < m ∧ I m' σ') Q) σ
def wpA (P : Program) : ACode → (Ex → St → Prop) → St → Prop
  | .skip, Q, σ => Q .normal σ
  | .reg ops, Q, σ => wseq P ops σ (Q .normal)
  | .draw ops, Q, σ => wdraw P ops σ [] (fun σ' fps => chk (ops.map ROp.deps) fps = true ∧ Q .normal σ')
  | .seq a b, Q, σ => wpA P a (Ex.then (wpA P b Q) Q) σ
  | .cond c a b, Q, σ => match σ.ev c with
    | .c (.s (.pv (.bool t))) => (t = true → wpA P a Q σ) ∧ (t = false → wpA P b Q σ)
    | _ => False
  | .block id b, Q, σ => wpA P b (Ex.inBlock id Q) σ
  | .loop b, Q, σ => LoopA (wpA P b) Q σ
  | .exit id, Q, σ => Q (.exit id) σ
  | .ret, Q, σ => Q .ret σ

section
variable {P : Program} {O : Nat → Prop} {w0 : Base} {n : Nat} {β : Env} {a : Act} {w : World}
theorem wp_loop_ix {c : Code} {Q : Exit → Act → World → Prop} (I : Nat → Act → World → Prop) (m : Nat) (h0 : I m a w)
    (round : ∀ m a w, I m a w → c.wp P (Exit.then (fun a' w' => ∃ m', m' < m ∧ I m' a' w') Q) a w) : (Code.loop c).wp P Q a w := by
  intro b k cs
  have key : ∀ n a w, I n a w → ∃ e a' w', Q e a' w' ∧ Arrives P (lone (b.at a (.code c :: .inLoop c :: k)) cs w) b k cs e a' w' := by
    intro n
    induction n using Nat.strongRecOn with
    | _ n ih =>
      intro a w hI
      obtain ⟨e, a₁, w₁, hq, harr⟩ := round n a w hI b (.inLoop c :: k) cs
      cases e with
      | normal =>
        obtain ⟨n', hlt, hI₁⟩ := hq
        obtain ⟨e₂, a₂, w₂, hq₂, harr₂⟩ := ih n' hlt a₁ w₁ hI₁
        exact ⟨e₂, a₂, w₂, hq₂, .of_steps (Steps.trans harr (.one step_inLoop)) harr₂⟩
      | exit id => exact ⟨_, a₁, w₁, hq, .pass (x := .inLoop c) rfl (fun _ _ => .inl (by simp)) harr⟩
      | goto l => exact ⟨_, a₁, w₁, hq, .pass (x := .inLoop c) rfl (fun _ _ => .inl (by simp)) harr⟩
      | ret => exact ⟨_, a₁, w₁, hq, .pass (x := .inLoop c) rfl (fun _ _ => .inl (by simp)) harr⟩
      | panic ch => exact ⟨_, a₁, w₁, hq, .pass (x := .inLoop c) rfl (fun _ _ => .inl (by simp)) harr⟩
      | outgrown => exact ⟨_, a₁, w₁, hq, .pass (x := .inLoop c) rfl (fun _ _ => .inl (by simp)) harr⟩
  obtain ⟨e, a', w', hq, harr⟩ := key m a w h0
  exact ⟨e, a', w', hq, .of_steps (.one step_loop) harr⟩
theorem wpA_ok (hm : P.follows .mixedOrders = true) : ∀ {c : Code} {ac : ACode}, compC P n c = some ac → ∀ {Q : Ex → St → Prop} {R : Exit → Act → World → Prop},
    (∀ e σ β a w, Q e σ → Rel O w0 n σ β a w → R e.real a w) → ∀ {σ : St} {β : Env} {a : Act} {w : World}, Rel O w0 n σ β a w → wpA P ac Q σ → c.wp P R a w := by
  intro c
  induction c with
  | skip =>
    intro ac hc Q R hQ σ β a w r h
    simp only [compC, Option.some.injEq] at hc
    subst hc
    exact wp_skip (hQ .normal σ β a w h r)
  | region id ops d =>
    intro ac hc Q R hQ σ β a w r h
    simp only [compC, Option.map_eq_some_iff] at hc
    obtain ⟨qs, h1, rfl⟩ := hc
    cases d with
    | true =>
      simp only [if_true] at h
      exact draw_ok h1 hm (fun σ β a w h r => hQ .normal σ β a w h r) r h
    | false =>
      simp only [Bool.false_eq_true, if_false] at h
      exact seq_ok h1 (fun σ β a w h r => hQ .normal σ β a w h r) r h
  | seq x y ihx ihy =>
    intro ac hc Q R hQ σ β a w r h
    simp only [compC] at hc
    split at hc
    · rename_i ax ay h1 h2
      simp only [Option.some.injEq] at hc
      subst hc
      refine wp_seq (ihx h1 (Q := Ex.then (wpA P ay Q) Q) (fun e σ β a w hq hr => ?_) r h)
      cases e with
      | normal => exact ihy h2 hQ hr hq
      | exit id => exact hQ _ _ _ _ _ hq hr
      | ret => exact hQ _ _ _ _ _ hq hr
    · simp at hc
  | cond c x y ihx ihy =>
    intro ac hc Q R hQ σ β a w r h
    simp only [compC] at hc
    split at hc
    · rename_i c' ax ay h1 h2 h3
      simp only [Option.some.injEq] at hc
      subst hc
      simp only [wpA] at h
      split at h
      · rename_i t h4
        have h5 := r.ev h1
        rw [h4] at h5
        exact wp_cond_split h5.pvInv (fun ht => ihx h2 hQ r (h.1 ht)) (fun hf => ihy h3 hQ r (h.2 hf))
      · exact h.elim
    · simp at hc
  | block id b ih =>
    intro ac hc Q R hQ σ β a w r h
    simp only [compC, Option.map_eq_some_iff] at hc
    obtain ⟨ab, h1, rfl⟩ := hc
    refine wp_block (ih h1 (Q := Ex.inBlock id Q) (fun e σ β a w hq hr => ?_) r h)
    cases e with
    | normal => exact hQ .normal _ _ _ _ hq hr
    | ret => exact hQ .ret _ _ _ _ hq hr
    | exit id' =>
      simp only [Ex.inBlock] at hq
      simp only [Ex.real, Exit.inBlock]
      split
      · rename_i he
        rw [if_pos he] at hq
        exact hQ .normal _ _ _ _ hq hr
      · rename_i he
        rw [if_neg he] at hq
        exact hQ (.exit id') _ _ _ _ hq hr
  | loop b ih =>
    intro ac hc Q R hQ σ β a w r h
    simp only [compC, Option.map_eq_some_iff] at hc
    obtain ⟨ab, h1, rfl⟩ := hc
    obtain ⟨I, m, ⟨σ1, hsub, h2⟩, h3⟩ := h
    obtain ⟨β, r⟩ := hsub _ _ _ _ _ _ r
    refine wp_loop_ix (fun m a w => ∃ σ β, I m σ ∧ Rel O w0 n σ β a w) m ⟨σ1, β, h2, r⟩ (fun m a w hI => ?_)
    obtain ⟨σ1, β1, h4, r1⟩ := hI
    refine ih h1 (Q := Ex.then (fun σ' => ∃ m', m' < m ∧ I m' σ') Q) (fun e σ β a w hq hr => ?_) r1 (h3 m σ1 h4)
    cases e with
    | normal => obtain ⟨m', h5, h6⟩ := hq; exact ⟨m', h5, σ, β, h6, hr⟩
    | exit id => exact hQ _ _ _ _ _ hq hr
    | ret => exact hQ _ _ _ _ _ hq hr
  | exit id =>
    intro ac hc Q R hQ σ β a w r h
    simp only [compC, Option.some.injEq] at hc
    subst hc
    exact wp_exit (hQ (.exit id) σ β a w h r)
  | ret =>
    intro ac hc Q R hQ σ β a w r h
    simp only [compC, Option.some.injEq] at hc
    subst hc
    exact wp_ret (hQ .ret σ β a w h r)
  | scope b ih =>
    intro ac hc Q R hQ σ β a w r h
    simp only [compC] at hc
    refine wp_scope_straight (ih hc (Q := Q) (fun e σ β a w hq hr => ?_) r h)
    cases e with
    | normal => exact hQ .normal _ _ _ _ hq hr
    | ret => exact hQ .ret _ _ _ _ hq hr
    | exit id => exact hQ (.exit id) _ _ _ _ hq hr
  | label l =>
    intro ac hc Q R hQ σ β a w r h
    simp only [compC, Option.some.injEq] at hc
    subst hc
    exact wp_label (hQ .normal σ β a w h r)
  | _ => intro ac hc; simp [compC] at hc

/-! functions -/
inductive RA where
  | t (k : Nat)
  | cell (k : Nat) (agg : Bool) (n : Nat)
deriving Inhabited
end
def compR (P : Program) : ResultVar → Option RA
  | .tmp t => some (.t t)
  | .cell k ty => (tinf P ty).map fun ti => .cell k ti.agg ti.n
def outs (σ : St) : List RA → List (Bool × List AC) → (List (Bool × List AC) → Prop) → Prop
  | [], vs, K => K vs
  | .t k :: rs, vs, K => match σ.slot k with
    | .c x => outs σ rs (vs ++ [(false, [x])]) K
    | .agg xs => outs σ rs (vs ++ [(true, xs)]) K
    | _ => False
  | .cell k agg n :: rs, vs, K => rd σ.h (σ.slot k) n fun cs => (agg = false → cs.length = 1) ∧ outs σ rs (vs ++ [(agg, cs)]) K
def mkTV : List (Bool × List SC) → TV SC
  | [(false, [x])] => .c x
  | [(true, xs)] => .agg xs
  | vs => .tup vs
/-- the same to whoever looks: an empty slice is one of any type -/
inductive Sim : SC → SC → Prop
  | refl (x : SC) : Sim x x
  | nil {e e' : Nat} (h : 0 < e') : Sim (.sl e []) (.sl e' [])
  | sl {e : Nat} {a b : List (List SC)} (hl : a.map List.length = b.map List.length) (hf : a.flatten.length = b.flatten.length) (hr : ∀ i (h : i < a.flatten.length) (h' : i < b.flatten.length), Sim a.flatten[i] b.flatten[i]) : Sim (.sl e a) (.sl e b)
theorem Sim.eq {x y : SC} (h : x = y) : Sim x y := h ▸ .refl x
theorem Sim.rep {w : World} {O : Nat → Prop} {x y : SC} (h : Sim x y) : ∀ {v : Value}, RepS w O x v → RepS w O y v := by
  induction h with
  | refl x => exact fun h => h
  | nil h0 =>
    intro v hv
    cases hv with
    | sl0 _ hm => exact .sl0 h0 hm
    | sl _ _ hm => exact .sl0 h0 hm
  | @sl e a b hl hf hr ih =>
    intro v hv
    have hln : a.length = b.length := by have := congrArg List.length hl; simpa using this
    cases hv with
    | sl0 h0 hm =>
      have : b = [] := List.length_eq_zero_iff.1 (by simpa using hln.symm)
      subst this
      exact .sl0 h0 hm
    | sl h0 hcap hm hb hO he hl2 hr2 hc =>
      rw [hln]
      refine .sl h0 (by omega) hm hb hO (fun x hx => ?_) (by omega) (fun i h h' => ih i (by omega) h (hr2 i (by omega) h')) hc
      have : x.length ∈ b.map List.length := List.mem_map_of_mem hx
      rw [← hl] at this
      obtain ⟨y, hy, hyl⟩ := List.mem_map.1 this
      rw [← hyl]
      exact he y hy
@[simp] theorem sim_self {x : SC} : Sim x x = True := eq_true (.refl x)
@[simp] theorem sim_nil {e e' : Nat} (h : 0 < e') : Sim (.sl e []) (.sl e' []) = True := eq_true (.nil h)
@[simp] theorem sim_pv {a b : Value} : Sim (.pv a) (.pv b) = (a = b) := by
  refine propext ⟨fun h => ?_, fun h => by rw [h]; exact .refl _⟩
  cases h with
  | refl => rfl
def simL : List SC → List SC → Prop
  | [], [] => True
  | x :: xs, y :: ys => Sim x y ∧ simL xs ys
  | _, _ => False
def simT : List (Bool × List SC) → List (Bool × List SC) → Prop
  | [], [] => True
  | (a, xs) :: vs, (b, ys) :: us => a = b ∧ simL xs ys ∧ simT vs us
  | _, _ => False
def tsim : TV SC → TV SC → Prop
  | .no, .no => True
  | .c x, .c y => Sim x y
  | .agg xs, .agg ys => simL xs ys
  | .tup vs, .tup us => simT vs us
  | _, _ => False
theorem simL_refl : ∀ xs, simL xs xs
  | [] => trivial
  | x :: xs => ⟨.refl x, simL_refl xs⟩
theorem simT_refl : ∀ xs, simT xs xs
  | [] => trivial
  | (b, x) :: xs => ⟨rfl, simL_refl x, simT_refl xs⟩
theorem tsim_refl : ∀ x, tsim x x
  | .no => trivial
  | .c x => .refl x
  | .agg xs => simL_refl xs
  | .tup vs => simT_refl vs
theorem tsim.eq {x y : TV SC} (h : x = y) : tsim x y := h ▸ tsim_refl x
theorem simL_len : ∀ {xs ys : List SC}, simL xs ys → xs.length = ys.length
  | [], [], _ => rfl
  | x :: xs, y :: ys, h => by simp [simL_len h.2]
theorem simL.rep {w : World} {O : Nat → Prop} : ∀ {xs ys : List SC} {us : List Value}, simL xs ys → RL (RepS w O) xs us → RL (RepS w O) ys us
  | [], [], us, _, hr => hr
  | x :: xs, y :: ys, us, h, hr => by
    obtain ⟨u, us', rfl, h1, h2⟩ := hr.cons_inv
    exact .cons (h.1.rep h1) (simL.rep h.2 h2)
theorem simT.rep {w : World} {O : Nat → Prop} : ∀ {vs us : List (Bool × List SC)}, simT vs us → vs.length = us.length ∧ ∀ i (h : i < vs.length) (h' : i < us.length), vs[i].1 = us[i].1 ∧ simL vs[i].2 us[i].2
  | [], [], _ => ⟨rfl, fun i h => by simp at h⟩
  | (a, xs) :: vs, (b, ys) :: us, h => by
    obtain ⟨h1, h2, h3⟩ := h
    obtain ⟨h4, h5⟩ := simT.rep (w := w) (O := O) h3
    refine ⟨by simp [h4], fun i h h' => ?_⟩
    cases i with
    | zero => exact ⟨h1, h2⟩
    | succ i => exact h5 i (by simpa using h) (by simpa using h')
theorem tsim.rep {w : World} {O : Nat → Prop} {x y : TV SC} {v : Value} (h : tsim x y) (hr : RepT (RepS w O) x v) : RepT (RepS w O) y v := by
  match x, y, h with
  | .no, .no, _ => trivial
  | .c x, .c y, h => exact Sim.rep h hr
  | .agg xs, .agg ys, h =>
    obtain ⟨us, h1, h2⟩ := hr
    exact ⟨us, h1, simL.rep h h2⟩
  | .tup vs, .tup us, h =>
    obtain ⟨ws, h1, h2, h3⟩ := hr
    obtain ⟨h4, h5⟩ := simT.rep (w := w) (O := O) h
    refine ⟨ws, h1, by omega, fun i a b => ?_⟩
    obtain ⟨h6, h7⟩ := h5 i (by omega) a
    obtain ⟨h8, h9⟩ := h3 i (by omega) b
    refine ⟨fun e => ?_, fun e => ?_⟩
    · obtain ⟨zs, h10, h11⟩ := h8 (h6.trans e)
      exact ⟨zs, h10, simL.rep h7 h11⟩
    · obtain ⟨z, h10, h11⟩ := h9 (h6.trans e)
      rw [h10] at h7
      match hy : us[i].2, h7 with
      | [y], h7 => exact ⟨y, rfl, h7.1.rep h11⟩
      | y :: z :: ys, h7 => exact h7.2.elim
def asim : List (TV SC) → List (TV SC) → Prop
  | [], [] => True
  | x :: xs, y :: ys => tsim x y ∧ asim xs ys
  | _, _ => False
theorem asim.rep {w : World} {O : Nat → Prop} : ∀ {xs ys : List (TV SC)} {us : List Value}, asim xs ys → RL (RepT (RepS w O)) xs us → RL (RepT (RepS w O)) ys us
  | [], [], us, _, hr => hr
  | x :: xs, y :: ys, us, h, hr => by
    obtain ⟨u, us', rfl, h1, h2⟩ := hr.cons_inv
    exact .cons (h.1.rep h1) (asim.rep h.2 h2)
theorem Spec.sim {P : Program} {f : Nat} {as as' : List (TV SC)} {r : Res} (hs : Spec P f as' r) (h : asim as as') : Spec P f as r :=
  fun w O us hO hus => hs w O us hO (h.rep hus)
/-- all that a call tells, as others see it -/
def fin (rs : List RA) (r : TV SC) (σ : St) : Prop :=
  outs σ rs [] fun vs => match all? (fun p : Bool × List AC => (all? (shA σ.h) p.2).map fun ys => (p.1, ys)) vs with
    | some ys => tsim (mkTV ys) r
    | none => False
/-- it tells a row of its own -/
def finRow (rs : List RA) (ty e : Nat) (els : List (List SC)) (σ : St) : Prop :=
  outs σ rs [] fun vs => match vs with
    | [(false, [.own l g])] => g = σ.h.gen l ∧ σ.h.blk l = .row ty e els
    | [(false, [.zc])] => els = [] ∧ 0 < e
    | _ => False
def St.init (args : List (TV SC)) : St := ⟨fun i => match args[i]? with
  | some x => x.lift
  | none => .no, ⟨fun _ => 0, fun _ => .dead⟩⟩
def Post (F : St → Prop) : Ex → St → Prop
  | .normal, σ | .ret, σ => F σ
  | .exit _, _ => False
section
variable {P : Program} {O : Nat → Prop} {w0 : Base} {n : Nat} {β : Env} {a : Act} {w : World} {σ : St}
def resVar (tmps : Array Value) : ResultVar → Sem Value
  | .tmp t => Pure.pure (tmps.getD t undef)
  | .cell k t => do loadVar t (← asAddr (tmps.getD k undef))
def tupleOf : List Value → Value
  | [u] => u
  | us => .tuple us.toArray
/-- a part of a tuple -/
def Comp (R : AC → Value → Prop) (p : Bool × List AC) (u : Value) : Prop := (p.1 = true → ∃ ws : List Value, u = .agg ws.toArray ∧ RL R p.2 ws) ∧ (p.1 = false → ∃ x, p.2 = [x] ∧ R x u)
theorem outs_ok (r : Rel O w0 n σ β a w) {K : List (Bool × List AC) → Prop} : ∀ (rvs : List ResultVar) (rs : List RA) (vs : List (Bool × List AC)) (us : List Value), all? (compR P) rvs = some rs → outs σ rs vs K → RL (Comp (RepA σ.h β w (Mine O σ.h β))) vs us →
    ∃ vs' us', K vs' ∧ RL (Comp (RepA σ.h β w (Mine O σ.h β))) vs' us' ∧ ∃ us2, us' = us ++ us2 ∧ (rvs.mapM (resVar a.tmps)).run P w = .ok us2 w := by
  intro rvs
  induction rvs with
  | nil =>
    intro rs vs us h1 h2 h3
    rw [all?_nil h1] at h2
    exact ⟨vs, us, h2, h3, [], by simp, by simp⟩
  | cons rv rvs ih =>
    intro rs vs us h1 h2 h3
    obtain ⟨ra, rs', h4, h5, rfl⟩ := all?_cons h1
    cases rv with
    | tmp t =>
      simp only [compR, Option.some.injEq] at h4
      subst h4
      simp only [outs] at h2
      have hs := r.slots t
      split at h2
      · rename_i x hx
        rw [hx] at hs
        obtain ⟨vs', us', h6, h7, us2, h8, h9⟩ := ih rs' _ (us ++ [a.tmps.getD t undef]) h5 h2 (h3.append (.one ⟨fun h => by simp at h, fun _ => ⟨x, rfl, hs⟩⟩))
        exact ⟨vs', us', h6, h7, a.tmps.getD t undef :: us2, by rw [h8]; simp, by simp only [List.mapM_cons, Sem.run_bind, h9, resVar, Sem.run_pure, Result.andThen_ok]⟩
      · rename_i xs hx
        rw [hx] at hs
        obtain ⟨vs', us', h6, h7, us2, h8, h9⟩ := ih rs' _ (us ++ [a.tmps.getD t undef]) h5 h2 (h3.append (.one ⟨fun _ => hs, fun h => by simp at h⟩))
        exact ⟨vs', us', h6, h7, a.tmps.getD t undef :: us2, by rw [h8]; simp, by simp only [List.mapM_cons, Sem.run_bind, h9, resVar, Sem.run_pure, Result.andThen_ok]⟩
      · exact h2.elim
    | cell k ty =>
      simp only [compR, Option.map_eq_some_iff] at h4
      obtain ⟨ti, hti, rfl⟩ := h4
      simp only [outs] at h2
      obtain ⟨cs, b, off, ws, ⟨h6, h7⟩, h8, h9, h10, h11⟩ := rd_ok r.toRelH (r.slots k) h2
      obtain ⟨u, h12, h13, h14⟩ := run_loadV (tinf_ok hti) (us := ws) (by rw [← h10.1]; exact h9) h11
      have hcomp : Comp (RepA σ.h β w (Mine O σ.h β)) (ti.agg, cs) u := by
        refine ⟨fun h => ⟨ws, h13 h, h10⟩, fun h => ?_⟩
        have := h14 h
        subst this
        obtain ⟨x, hx⟩ := List.length_eq_one_iff.1 (h6 h)
        subst hx
        exact ⟨x, rfl, h10.head⟩
      obtain ⟨vs', us', h15, h16, us2, h17, h18⟩ := ih rs' _ (us ++ [u]) h5 h7 (h3.append (.one hcomp))
      refine ⟨vs', us', h15, h16, u :: us2, by rw [h17]; simp, ?_⟩
      simp only [List.mapM_cons, Sem.run_bind, h18, resVar, Sem.run_pure, Result.andThen_ok, h8, asAddr, h12]
theorem init_rel {args : List (TV SC)} {us : List Value} (hO : ∀ b, O b → b < w.heap.size) (h : RL (RepT (RepS w O)) args us) (hn : us.length ≤ n) :
    Rel O (Base.of w) n (St.init args) (fun _ => (none, undef)) { tmps := us.toArray ++ Array.replicate (n - us.toArray.size) undef, defers := [] } w := by
  have hmine : ∀ b, Mine O (St.init args).h (fun _ => (none, undef)) b → O b := by
    rintro b (h1 | ⟨l, h1, h2⟩)
    · exact h1
    · simp at h2
  refine ⟨⟨fun l => trivial, fun l l' b h1 => ?_, fun l b h1 => ?_, (Base.of w).keeps_refl, hO, fun _ _ h1 => h1.elim⟩, rfl, by simp; omega, fun t => ?_⟩
  · exact absurd h1 (by simp [St.init, Hp.view, LB.view, VB.live])
  · exact absurd h1 (by simp [St.init, Hp.view, LB.view, VB.live])
  · show RepT _ (match args[t]? with | some x => x.lift | none => TV.no) _
    cases hx : args[t]? with
    | none => trivial
    | some x =>
      obtain ⟨u, h1, h2⟩ := h.get hx
      have h3 : (us.toArray ++ Array.replicate (n - us.toArray.size) undef).getD t undef = u := by
        obtain ⟨h4, h5⟩ := List.getElem?_eq_some_iff.1 h1
        rw [Array.getD_eq_getD_getElem?, Array.getElem?_append_left (by simpa using h4)]
        simp [h1]
      rw [h3]
      exact lift_ok (h2.mono (fun x u hx => RepS.less hx hmine))
theorem run_results {fn : Func} {us2 : List Value} (h : (fn.results.toList.mapM (resVar a.tmps)).run P w = .ok us2 w) : (results fn a.tmps).run P w = .ok (tupleOf us2) w := by
  have h2 : (fn.results.mapM (resVar a.tmps)).run P w = .ok us2.toArray w := by
    rw [Array.mapM_eq_mapM_toList]
    simp only [Sem.run_map]
    rw [h]
    rfl
  have h3 : results fn a.tmps = (do
    let vs ← fn.results.mapM (resVar a.tmps)
    Pure.pure (if h : vs.size = 1 then vs[0] else .tuple vs)) := by
    unfold results
    congr 1
  rw [h3]
  simp only [Sem.run_bind, h2, Result.andThen_ok, Sem.run_pure]
  congr 1
  match us2 with
  | [] => rfl
  | [u] => rfl
  | u :: v :: us => simp [tupleOf]
theorem mkTV_rep {R : SC → Value → Prop} {vs : List (Bool × List SC)} {us : List Value} (hl : vs.length = us.length) (h : ∀ i (a : i < vs.length) (b : i < us.length), (vs[i].1 = true → ∃ ws : List Value, us[i] = .agg ws.toArray ∧ RL R vs[i].2 ws) ∧ (vs[i].1 = false → ∃ x, vs[i].2 = [x] ∧ R x us[i])) :
    RepT R (mkTV vs) (tupleOf us) := by
  unfold mkTV
  split
  · rename_i x
    obtain ⟨u, rfl⟩ := List.length_eq_one_iff.1 (by simpa using hl.symm)
    obtain ⟨y, h1, h2⟩ := (h 0 (by simp) (by simp)).2 rfl
    simp only [List.getElem_cons_zero, List.cons.injEq, and_true] at h1
    subst h1
    exact h2
  · rename_i xs
    obtain ⟨u, rfl⟩ := List.length_eq_one_iff.1 (by simpa using hl.symm)
    exact (h 0 (by simp) (by simp)).1 rfl
  · rename_i h1 h2
    match us, hl with
    | [], hl => exact ⟨[], rfl, hl, h⟩
    | [u], hl =>
      obtain ⟨p, rfl⟩ := List.length_eq_one_iff.1 (by simpa using hl)
      obtain ⟨ag, xs⟩ := p
      cases ag with
      | true => exact (h2 xs rfl).elim
      | false =>
        obtain ⟨x, h3, h4⟩ := (h 0 (by simp) (by simp)).2 rfl
        simp only [List.getElem_cons_zero] at h3
        subst h3
        exact (h1 x rfl).elim
    | u :: v :: us, hl => exact ⟨u :: v :: us, rfl, hl, h⟩
structure FnIs (P : Program) (f : Nat) (ac : ACode) (rs : List RA) (n : Nat) : Prop where
  mk ::
  ok : ∃ fn, P.funcs[f]? = some fn ∧ fn.ntmps = n ∧ fn.body.bind (compC P fn.ntmps) = some ac ∧ all? (compR P) fn.results.toList = some rs
theorem spec_val (hm : P.follows .mixedOrders = true) {f : Nat} {ac : ACode} {rs : List RA} (hf : FnIs P f ac rs n) {args : List (TV SC)} {r : TV SC} (hn : args.length ≤ n) (h : wpA P ac (Post (fin rs r)) (St.init args)) : Spec P f args (.val r) := by
  obtain ⟨fn, h1, h3, h24, h5⟩ := hf.ok
  obtain ⟨c, h2, h4⟩ := Option.bind_eq_some_iff.1 h24
  intro w O us hO hus
  subst h3
  refine calls_of_wp h1 h2 (wpA_ok (O := O) (w0 := Base.of w) hm h4 (fun e σ β a w' hq hr => ?_) (init_rel hO hus (by rw [← hus.1]; exact hn)) h)
  have key : fin rs r σ → bodyPost P fn (fun e w' => ∃ v, e = .returned v ∧ Told w w' O (.val r) v ∧ Below w.heap.size w w') .ret a w' := by
    intro hfin
    obtain ⟨vs', us', k1, k2, us2, k3, k4⟩ := outs_ok hr fn.results.toList rs [] [] h5 hfin .nil
    rw [List.nil_append] at k3
    subst k3
    split at k1
    · rename_i ys hys
      refine ⟨hr.hd, _, run_results k4, _, rfl, ?_, hr.below.below⟩
      have k5 : RL (fun (p : Bool × List SC) u => (p.1 = true → ∃ ws : List Value, u = .agg ws.toArray ∧ RL (RepS w' O) p.2 ws) ∧ (p.1 = false → ∃ x, p.2 = [x] ∧ RepS w' O x u)) ys us' := k2.all hys (fun x y u _ hy hu => by
        simp only [Option.map_eq_some_iff] at hy
        obtain ⟨zs, k6, rfl⟩ := hy
        refine ⟨fun e => ?_, fun e => ?_⟩
        · obtain ⟨ws, k7, k8⟩ := hu.1 e
          exact ⟨ws, k7, k8.all k6 (fun x y u _ hy hu => shA_ok hr.toRelH hy hu)⟩
        · obtain ⟨x', k7, k8⟩ := hu.2 e
          rw [k7] at k6
          obtain ⟨y, ys', k9, k10, rfl⟩ := all?_cons k6
          rw [all?_nil k10]
          exact ⟨y, rfl, shA_ok hr.toRelH k9 k8⟩)
      exact k1.rep (mkTV_rep k5.1 k5.2)
    · exact k1.elim
  cases e with
  | normal => exact key hq
  | ret => exact key hq
  | exit id => exact hq.elim
theorem spec_row (hm : P.follows .mixedOrders = true) {f : Nat} {ac : ACode} {rs : List RA} (hf : FnIs P f ac rs n) {args : List (TV SC)} {ty e : Nat} {els : List (List SC)} (hn : args.length ≤ n) (h : wpA P ac (Post (finRow rs ty e els)) (St.init args)) : Spec P f args (.row ty e els) := by
  obtain ⟨fn, h1, h3, h24, h5⟩ := hf.ok
  obtain ⟨c, h2, h4⟩ := Option.bind_eq_some_iff.1 h24
  intro w O us hO hus
  subst h3
  refine calls_of_wp h1 h2 (wpA_ok (O := O) (w0 := Base.of w) hm h4 (fun ex σ β a w' hq hr => ?_) (init_rel hO hus (by rw [← hus.1]; exact hn)) h)
  have key : finRow rs ty e els σ → bodyPost P fn (fun e' w' => ∃ v, e' = .returned v ∧ Told w w' O (.row ty e els) v ∧ Below w.heap.size w w') .ret a w' := by
    intro hfin
    obtain ⟨vs', us', hvs, k2, us2, k3, k4⟩ := outs_ok hr fn.results.toList rs [] [] h5 hfin .nil
    rw [List.nil_append] at k3
    subst k3
    have hz : vs' = [(false, [.zc])] → els = [] ∧ 0 < e → bodyPost P fn (fun e' w' => ∃ v, e' = .returned v ∧ Told w w' O (.row ty e els) v ∧ Below w.heap.size w w') .ret a w' := by
      rintro rfl ⟨rfl, h0⟩
      obtain ⟨u, us'', rfl, k5, k6⟩ := k2.cons_inv
      rw [k6.nil_inv] at k4
      obtain ⟨x, k7, k8⟩ := k5.2 rfl
      simp only [List.cons.injEq, and_true] at k7
      subst k7
      obtain ⟨A, rfl⟩ := k8
      exact ⟨hr.hd, _, run_results k4, _, rfl, ⟨h0, by simp, .inl ⟨rfl, A, rfl⟩⟩, hr.below.below⟩
    split at hvs
    case h_2 => exact hz rfl hvs
    case h_3 => exact hvs.elim
    rename_i l g0
    obtain ⟨rfl, hk⟩ := hvs
    obtain ⟨u, us'', rfl, k5, k6⟩ := k2.cons_inv
    rw [k6.nil_inv] at k4
    refine ⟨hr.hd, _, run_results k4, _, rfl, ?_, hr.below.below⟩
    obtain ⟨x, k7, k8⟩ := k5.2 rfl
    simp only [List.cons.injEq, and_true] at k7
    subst k7
    have hv : σ.h.view l = .mem true ty e (els.map (List.map AC.s)) := by unfold Hp.view; rw [hk]; rfl
    have k9 := k8.2.2 rfl
    rw [hv] at k9
    have k10 := k9 rfl
    have k11 := hr.blks l
    unfold RepB at k11
    rw [hv] at k11
    simp only at k11
    obtain ⟨h0, he, hB⟩ := k11
    refine ⟨h0, fun x hx => by simpa using he (x.map AC.s) (List.mem_map_of_mem hx), ?_⟩
    rcases hB with ⟨_, h6, _, A, h7⟩ | ⟨b, cap, cur, h6, h7, h8, h9⟩
    · exact .inl ⟨by simpa using h6, A, k10.trans h7⟩
    · obtain ⟨m1, m2, m3, m4⟩ := h9 trivial
      have hln : (els.map (List.map AC.s)).length = els.length := by simp
      have hfl : (els.map (List.map AC.s)).flatten = els.flatten.map AC.s := by rw [← List.map_flatten]
      rw [hln] at m1 m2
      rw [hfl, List.length_map] at h8
      refine .inr ⟨b, cap, cur, k10.trans m1, Nat.le_of_not_lt (hr.base l b (by rw [hv]; rfl) h6), h7, m2, m3, m4, by have := h8.1; rw [List.length_map] at this; exact this, fun i a' b' => ?_⟩
      have h10 := h8.2 i (by rw [List.length_map]; exact a') b'
      rw [List.getElem_map] at h10
      refine RepS.less h10 (fun k hk => ?_)
      rcases hk with hk | rfl
      · exact .inl hk
      · exact .inr ⟨l, by rw [hv]; rfl, h6⟩
  cases ex with
  | normal => exact key hq
  | ret => exact key hq
  | exit id => exact hq.elim
/-- a slice that came in is nil, or it is not -/
theorem Spec.tag {f : Nat} {e : Nat} {els : List (List SC)} {rest : List (TV SC)} {r : Res} (h1 : els = [] → Spec P f (.c (.tag true (.sl e els)) :: rest) r) (h2 : Spec P f (.c (.tag false (.sl e els)) :: rest) r) : Spec P f (.c (.sl e els) :: rest) r := by
  intro w O us hO hus
  obtain ⟨u, us', rfl, h3, h4⟩ := hus.cons_inv
  cases hb : nilV u with
  | true =>
    have he : els = [] := by
      cases h3 with
      | sl0 => rfl
      | sl => simp [nilV] at hb
    exact h1 he w O _ hO (.cons (RepS.tag h3 hb) h4)
  | false => exact h2 w O _ hO (.cons (RepS.tag h3 hb) h4)
end
end Go.Proofs.Ytbpipdgkkdifgaa
