import Derived.Test.YtcbfhpnmhhnjpaaGreatZ7
set_option linter.unusedVariables false
set_option linter.unusedSimpArgs false
namespace Go.Proofs.YtcbfhpnmhhnjpaaGreat
open Go.RowKit
inductive ACode where
  | skip
  | reg (ops : List ROp)
  | draw (ops : List ROp)
  | seq (a b : ACode)
  | cond (c : Opd) (a b : ACode)
  | block (id : Nat) (b : ACode)
  | loop (b : ACode)
  | exit (id : Nat)
  | ret
deriving Inhabited
def compC (P : Program) (n : Nat) : Code → Option ACode
  | .skip => some .skip
  | .region _ ops d => (compOps P n ops).map fun qs => if d then .draw qs else .reg qs
  | .seq a b => match compC P n a, compC P n b with
    | some a, some b => some (.seq a b)
    | _, _ => none
  | .cond c a b => match copd c, compC P n a, compC P n b with
    | some c, some a, some b => some (.cond c a b)
    | _, _, _ => none
  | .block id b => (compC P n b).map (ACode.block id)
  | .loop b => (compC P n b).map ACode.loop
  | .exit id => some (.exit id)
  | .ret => some .ret
  | .scope b => compC P n b
  | .label _ => some .skip
  | _ => none
inductive Ex where
  | normal
  | exit (id : Nat)
  | ret
def Ex.real : Ex → Exit
  | .normal => .normal
  | .exit id => .exit id
  | .ret => .ret
def Ex.then (next : St → Prop) (Q : Ex → St → Prop) : Ex → St → Prop
  | .normal, σ => next σ
  | e, σ => Q e σ
def Ex.inBlock (id : Nat) (Q : Ex → St → Prop) : Ex → St → Prop
  | .exit id', σ => if id' = id then Q .normal σ else Q (.exit id') σ
  | e, σ => Q e σ
def Sub (σ σ' : St) : Prop := ∀ (O : Nat → Prop) (w0 : Base) (n : Nat) (β : Env) (a : Act) (w : World), Rel O w0 n σ β a w → ∃ β', Rel O w0 n σ' β' a w
theorem Sub.refl (σ : St) : Sub σ σ := fun _ _ _ β _ _ r => ⟨β, r⟩
theorem Sub.trans {σ σ' σ'' : St} (h : Sub σ σ') (h' : Sub σ' σ'') : Sub σ σ'' := fun O w0 n β a w r => by
  obtain ⟨β', r'⟩ := h O w0 n β a w r
  exact h' O w0 n β' a w r'
theorem sub_slot {σ : St} {s : Nat} (l ty e : Nat) (hs : σ.slot s = .c .zc) (h0 : 0 < e) : Sub σ ⟨upd σ.slot s (.c (.own l (σ.h.gen l + 1))), σ.h.set l (σ.h.gen l + 1) (.row ty e [])⟩ := by
  intro O w0 n β a w r
  have hz := r.slots s
  rw [hs] at hz
  obtain ⟨A, hA⟩ := hz
  have r1 := r.fresh0 (d := l) (ty := ty) h0 A
  refine ⟨_, r1.toRelH, r1.hd, r1.hn, fun t => ?_⟩
  show RepT _ (upd σ.slot s _ t) _
  by_cases et : t = s
  · rw [et, upd_at, hA]
    exact own_mk rfl
  · rw [upd_ne _ _ et]
    exact r1.slots t
def LoopA (body : (Ex → St → Prop) → St → Prop) (Q : Ex → St → Prop) (σ : St) : Prop :=
  ∃ (I : Nat → St → Prop) (m : Nat), (∃ σ1, Sub σ σ1 ∧ I m σ1) ∧ ∀ m σ, I m σ → body (Ex.then (fun σ' => ∃ m', m' < m ∧ I m' σ') Q) σ
def wpA (P : Program) : ACode → (Ex → St → Prop) → St → Prop
  | .skip, Q, σ => Q .normal σ
  | .reg ops, Q, σ => wseq P ops σ (Q .normal)
  | .draw ops, Q, σ => wdraw P ops σ [] (fun σ' fps => chk (ops.map ROp.deps) fps = true ∧ Q .normal σ')
  | .seq a b, Q, σ => wpA P a (Ex.then (wpA P b Q) Q) σ
  | .cond c a b, Q, σ => match σ.ev c with
    | .c (.s (.pv (.bool t))) => (t = true → wpA P a Q σ) ∧ (t = false → wpA P b Q σ)
    | _ => False
  | .block id b, Q, σ => wpA P b (Ex.inBlock id Q) σ
  | .loop b, Q, σ => LoopA (wpA P b) Q σ
  | .exit id, Q, σ => Q (.exit id) σ
  | .ret, Q, σ => Q .ret σ
section
variable {P : Program} {O : Nat → Prop} {w0 : Base} {n : Nat} {β : Env} {a : Act} {w : World}
theorem wp_loop_ix {c : Code} {Q : Exit → Act → World → Prop} (I : Nat → Act → World → Prop) (m : Nat) (h0 : I m a w)
    (round : ∀ m a w, I m a w → c.wp P (Exit.then (fun a' w' => ∃ m', m' < m ∧ I m' a' w') Q) a w) : (Code.loop c).wp P Q a w := by
  intro b k cs
  have key : ∀ n a w, I n a w → ∃ e a' w', Q e a' w' ∧ Arrives P (lone (b.at a (.code c :: .inLoop c :: k)) cs w) b k cs e a' w' := by
    intro n
    induction n using Nat.strongRecOn with
    | _ n ih =>
      intro a w hI
      obtain ⟨e, a₁, w₁, hq, harr⟩ := round n a w hI b (.inLoop c :: k) cs
      cases e with
      | normal =>
        obtain ⟨n', hlt, hI₁⟩ := hq
        obtain ⟨e₂, a₂, w₂, hq₂, harr₂⟩ := ih n' hlt a₁ w₁ hI₁
        exact ⟨e₂, a₂, w₂, hq₂, .of_steps (Steps.trans harr (.one step_inLoop)) harr₂⟩
      | exit id => exact ⟨_, a₁, w₁, hq, .pass (x := .inLoop c) rfl (fun _ _ => .inl (by simp)) harr⟩
      | goto l => exact ⟨_, a₁, w₁, hq, .pass (x := .inLoop c) rfl (fun _ _ => .inl (by simp)) harr⟩
      | ret => exact ⟨_, a₁, w₁, hq, .pass (x := .inLoop c) rfl (fun _ _ => .inl (by simp)) harr⟩
      | panic ch => exact ⟨_, a₁, w₁, hq, .pass (x := .inLoop c) rfl (fun _ _ => .inl (by simp)) harr⟩
      | outgrown => exact ⟨_, a₁, w₁, hq, .pass (x := .inLoop c) rfl (fun _ _ => .inl (by simp)) harr⟩
  obtain ⟨e, a', w', hq, harr⟩ := key m a w h0
  exact ⟨e, a', w', hq, .of_steps (.one step_loop) harr⟩
theorem wpA_ok (hm : P.follows .mixedOrders = true) : ∀ {c : Code} {ac : ACode}, compC P n c = some ac → ∀ {Q : Ex → St → Prop} {R : Exit → Act → World → Prop},
    (∀ e σ β a w, Q e σ → Rel O w0 n σ β a w → R e.real a w) → ∀ {σ : St} {β : Env} {a : Act} {w : World}, Rel O w0 n σ β a w → wpA P ac Q σ → c.wp P R a w := by
  intro c
  induction c with
  | skip =>
    intro ac hc Q R hQ σ β a w r h
    simp only [compC, Option.some.injEq] at hc
    subst hc
    exact wp_skip (hQ .normal σ β a w h r)
  | region id ops d =>
    intro ac hc Q R hQ σ β a w r h
    simp only [compC, Option.map_eq_some_iff] at hc
    obtain ⟨qs, h1, rfl⟩ := hc
    cases d with
    | true =>
      simp only [if_true] at h
      exact draw_ok h1 hm (fun σ β a w h r => hQ .normal σ β a w h r) r h
    | false =>
      simp only [Bool.false_eq_true, if_false] at h
      exact seq_ok h1 (fun σ β a w h r => hQ .normal σ β a w h r) r h
  | seq x y ihx ihy =>
    intro ac hc Q R hQ σ β a w r h
    simp only [compC] at hc
    split at hc
    · rename_i ax ay h1 h2
      simp only [Option.some.injEq] at hc
      subst hc
      refine wp_seq (ihx h1 (Q := Ex.then (wpA P ay Q) Q) (fun e σ β a w hq hr => ?_) r h)
      cases e with
      | normal => exact ihy h2 hQ hr hq
      | exit id => exact hQ _ _ _ _ _ hq hr
      | ret => exact hQ _ _ _ _ _ hq hr
    · simp at hc
  | cond c x y ihx ihy =>
    intro ac hc Q R hQ σ β a w r h
    simp only [compC] at hc
    split at hc
    · rename_i c' ax ay h1 h2 h3
      simp only [Option.some.injEq] at hc
      subst hc
      simp only [wpA] at h
      split at h
      · rename_i t h4
        have h5 := r.ev h1
        rw [h4] at h5
        exact wp_cond_split h5.pvInv (fun ht => ihx h2 hQ r (h.1 ht)) (fun hf => ihy h3 hQ r (h.2 hf))
      · exact h.elim
    · simp at hc
  | block id b ih =>
    intro ac hc Q R hQ σ β a w r h
    simp only [compC, Option.map_eq_some_iff] at hc
    obtain ⟨ab, h1, rfl⟩ := hc
    refine wp_block (ih h1 (Q := Ex.inBlock id Q) (fun e σ β a w hq hr => ?_) r h)
    cases e with
    | normal => exact hQ .normal _ _ _ _ hq hr
    | ret => exact hQ .ret _ _ _ _ hq hr
    | exit id' =>
      simp only [Ex.inBlock] at hq
      simp only [Ex.real, Exit.inBlock]
      split
      · rename_i he
        rw [if_pos he] at hq
        exact hQ .normal _ _ _ _ hq hr
      · rename_i he
        rw [if_neg he] at hq
        exact hQ (.exit id') _ _ _ _ hq hr
  | loop b ih =>
    intro ac hc Q R hQ σ β a w r h
    simp only [compC, Option.map_eq_some_iff] at hc
    obtain ⟨ab, h1, rfl⟩ := hc
    obtain ⟨I, m, ⟨σ1, hsub, h2⟩, h3⟩ := h
    obtain ⟨β, r⟩ := hsub _ _ _ _ _ _ r
    refine wp_loop_ix (fun m a w => ∃ σ β, I m σ ∧ Rel O w0 n σ β a w) m ⟨σ1, β, h2, r⟩ (fun m a w hI => ?_)
    obtain ⟨σ1, β1, h4, r1⟩ := hI
    refine ih h1 (Q := Ex.then (fun σ' => ∃ m', m' < m ∧ I m' σ') Q) (fun e σ β a w hq hr => ?_) r1 (h3 m σ1 h4)
    cases e with
    | normal => obtain ⟨m', h5, h6⟩ := hq; exact ⟨m', h5, σ, β, h6, hr⟩
    | exit id => exact hQ _ _ _ _ _ hq hr
    | ret => exact hQ _ _ _ _ _ hq hr
  | exit id =>
    intro ac hc Q R hQ σ β a w r h
    simp only [compC, Option.some.injEq] at hc
    subst hc
    exact wp_exit (hQ (.exit id) σ β a w h r)
  | ret =>
    intro ac hc Q R hQ σ β a w r h
    simp only [compC, Option.some.injEq] at hc
    subst hc
    exact wp_ret (hQ .ret σ β a w h r)
  | scope b ih =>
    intro ac hc Q R hQ σ β a w r h
    simp only [compC] at hc
    refine wp_scope_straight (ih hc (Q := Q) (fun e σ β a w hq hr => ?_) r h)
    cases e with
    | normal => exact hQ .normal _ _ _ _ hq hr
    | ret => exact hQ .ret _ _ _ _ hq hr
    | exit id => exact hQ (.exit id) _ _ _ _ hq hr
  | label l =>
    intro ac hc Q R hQ σ β a w r h
    simp only [compC, Option.some.injEq] at hc
    subst hc
    exact wp_label (hQ .normal σ β a w h r)
  | _ => intro ac hc; simp [compC] at hc
inductive RA where
  | t (k : Nat)
  | cell (k : Nat) (agg : Bool) (n : Nat)
deriving Inhabited
end
def compR (P : Program) : ResultVar → Option RA
  | .tmp t => some (.t t)
  | .cell k ty => (tinf P ty).map fun ti => .cell k ti.agg ti.n
def outs (σ : St) : List RA → List (Bool × List AC) → (List (Bool × List AC) → Prop) → Prop
  | [], vs, K => K vs
  | .t k :: rs, vs, K => match σ.slot k with
    | .c x => outs σ rs (vs ++ [(false, [x])]) K
    | .agg xs => outs σ rs (vs ++ [(true, xs)]) K
    | _ => False
  | .cell k agg n :: rs, vs, K => rd σ.h (σ.slot k) n fun cs => (agg = false → cs.length = 1) ∧ outs σ rs (vs ++ [(agg, cs)]) K
def mkTV : List (Bool × List SC) → TV SC
  | [(false, [x])] => .c x
  | [(true, xs)] => .agg xs
  | vs => .tup vs
inductive Sim : SC → SC → Prop
  | refl (x : SC) : Sim x x
  | nil {e e' : Nat} (h : 0 < e') : Sim (.sl e []) (.sl e' [])
  | sl {e : Nat} {a b : List (List SC)} (hl : a.map List.length = b.map List.length) (hf : a.flatten.length = b.flatten.length) (hr : ∀ i (h : i < a.flatten.length) (h' : i < b.flatten.length), Sim a.flatten[i] b.flatten[i]) : Sim (.sl e a) (.sl e b)
theorem Sim.eq {x y : SC} (h : x = y) : Sim x y := h ▸ .refl x
theorem Sim.rep {w : World} {O : Nat → Prop} {x y : SC} (h : Sim x y) : ∀ {v : Value}, RepS w O x v → RepS w O y v := by
  induction h with
  | refl x => exact fun h => h
  | nil h0 =>
    intro v hv
    cases hv with
    | sl0 _ hm => exact .sl0 h0 hm
    | sl _ _ hm => exact .sl0 h0 hm
  | @sl e a b hl hf hr ih =>
    intro v hv
    have hln : a.length = b.length := by have := congrArg List.length hl; simpa using this
    cases hv with
    | sl0 h0 hm =>
      have : b = [] := List.length_eq_zero_iff.1 (by simpa using hln.symm)
      subst this
      exact .sl0 h0 hm
    | sl h0 hcap hm hb hO he hl2 hr2 hc =>
      rw [hln]
      refine .sl h0 (by omega) hm hb hO (fun x hx => ?_) (by omega) (fun i h h' => ih i (by omega) h (hr2 i (by omega) h')) hc
      have : x.length ∈ b.map List.length := List.mem_map_of_mem hx
      rw [← hl] at this
      obtain ⟨y, hy, hyl⟩ := List.mem_map.1 this
      rw [← hyl]
      exact he y hy
@[simp] theorem sim_self {x : SC} : Sim x x = True := eq_true (.refl x)
@[simp] theorem sim_nil {e e' : Nat} (h : 0 < e') : Sim (.sl e []) (.sl e' []) = True := eq_true (.nil h)
@[simp] theorem sim_pv {a b : Value} : Sim (.pv a) (.pv b) = (a = b) := by
  refine propext ⟨fun h => ?_, fun h => by rw [h]; exact .refl _⟩
  cases h with
  | refl => rfl
def simL : List SC → List SC → Prop
  | [], [] => True
  | x :: xs, y :: ys => Sim x y ∧ simL xs ys
  | _, _ => False
def simT : List (Bool × List SC) → List (Bool × List SC) → Prop
  | [], [] => True
  | (a, xs) :: vs, (b, ys) :: us => a = b ∧ simL xs ys ∧ simT vs us
  | _, _ => False
def tsim : TV SC → TV SC → Prop
  | .no, .no => True
  | .c x, .c y => Sim x y
  | .agg xs, .agg ys => simL xs ys
  | .tup vs, .tup us => simT vs us
  | _, _ => False
theorem simL_refl : ∀ xs, simL xs xs
  | [] => trivial
  | x :: xs => ⟨.refl x, simL_refl xs⟩
theorem simT_refl : ∀ xs, simT xs xs
  | [] => trivial
  | (b, x) :: xs => ⟨rfl, simL_refl x, simT_refl xs⟩
theorem tsim_refl : ∀ x, tsim x x
  | .no => trivial
  | .c x => .refl x
  | .agg xs => simL_refl xs
  | .tup vs => simT_refl vs
theorem tsim.eq {x y : TV SC} (h : x = y) : tsim x y := h ▸ tsim_refl x
theorem simL.rep {w : World} {O : Nat → Prop} : ∀ {xs ys : List SC} {us : List Value}, simL xs ys → RL (RepS w O) xs us → RL (RepS w O) ys us
  | [], [], us, _, hr => hr
  | x :: xs, y :: ys, us, h, hr => by
    obtain ⟨u, us', rfl, h1, h2⟩ := hr.cons_inv
    exact .cons (h.1.rep h1) (simL.rep h.2 h2)
theorem simT.rep {w : World} {O : Nat → Prop} : ∀ {vs us : List (Bool × List SC)}, simT vs us → vs.length = us.length ∧ ∀ i (h : i < vs.length) (h' : i < us.length), vs[i].1 = us[i].1 ∧ simL vs[i].2 us[i].2
  | [], [], _ => ⟨rfl, fun i h => by simp at h⟩
  | (a, xs) :: vs, (b, ys) :: us, h => by
    obtain ⟨h1, h2, h3⟩ := h
    obtain ⟨h4, h5⟩ := simT.rep (w := w) (O := O) h3
    refine ⟨by simp [h4], fun i h h' => ?_⟩
    cases i with
    | zero => exact ⟨h1, h2⟩
    | succ i => exact h5 i (by simpa using h) (by simpa using h')
theorem tsim.rep {w : World} {O : Nat → Prop} {x y : TV SC} {v : Value} (h : tsim x y) (hr : RepT (RepS w O) x v) : RepT (RepS w O) y v := by
  match x, y, h with
  | .no, .no, _ => trivial
  | .c x, .c y, h => exact Sim.rep h hr
  | .agg xs, .agg ys, h =>
    obtain ⟨us, h1, h2⟩ := hr
    exact ⟨us, h1, simL.rep h h2⟩
  | .tup vs, .tup us, h =>
    obtain ⟨ws, h1, h2, h3⟩ := hr
    obtain ⟨h4, h5⟩ := simT.rep (w := w) (O := O) h
    refine ⟨ws, h1, by omega, fun i a b => ?_⟩
    obtain ⟨h6, h7⟩ := h5 i (by omega) a
    obtain ⟨h8, h9⟩ := h3 i (by omega) b
    refine ⟨fun e => ?_, fun e => ?_⟩
    · obtain ⟨zs, h10, h11⟩ := h8 (h6.trans e)
      exact ⟨zs, h10, simL.rep h7 h11⟩
    · obtain ⟨z, h10, h11⟩ := h9 (h6.trans e)
      rw [h10] at h7
      match hy : us[i].2, h7 with
      | [y], h7 => exact ⟨y, rfl, h7.1.rep h11⟩
      | y :: z :: ys, h7 => exact h7.2.elim
def asim : List (TV SC) → List (TV SC) → Prop
  | [], [] => True
  | x :: xs, y :: ys => tsim x y ∧ asim xs ys
  | _, _ => False
theorem asim.rep {w : World} {O : Nat → Prop} : ∀ {xs ys : List (TV SC)} {us : List Value}, asim xs ys → RL (RepT (RepS w O)) xs us → RL (RepT (RepS w O)) ys us
  | [], [], us, _, hr => hr
  | x :: xs, y :: ys, us, h, hr => by
    obtain ⟨u, us', rfl, h1, h2⟩ := hr.cons_inv
    exact .cons (h.1.rep h1) (asim.rep h.2 h2)
def fin (rs : List RA) (r : TV SC) (σ : St) : Prop :=
  outs σ rs [] fun vs => match all? (fun p : Bool × List AC => (all? (shA σ.h) p.2).map fun ys => (p.1, ys)) vs with
    | some ys => tsim (mkTV ys) r
    | none => False
def finRow (rs : List RA) (ty e : Nat) (els : List (List SC)) (σ : St) : Prop :=
  outs σ rs [] fun vs => match vs with
    | [(false, [.own l g])] => g = σ.h.gen l ∧ σ.h.blk l = .row ty e els
    | [(false, [.zc])] => els = [] ∧ 0 < e
    | _ => False
def St.init (args : List (TV SC)) : St := ⟨fun i => match args[i]? with
  | some x => x.lift
  | none => .no, ⟨fun _ => 0, fun _ => .dead⟩⟩
def Post (F : St → Prop) : Ex → St → Prop
  | .normal, σ | .ret, σ => F σ
  | .exit _, _ => False
section
variable {P : Program} {O : Nat → Prop} {w0 : Base} {n : Nat} {β : Env} {a : Act} {w : World} {σ : St}
def resVar (tmps : Array Value) : ResultVar → Sem Value
  | .tmp t => Pure.pure (tmps.getD t undef)
  | .cell k t => do loadVar t (← asAddr (tmps.getD k undef))
def tupleOf : List Value → Value
  | [u] => u
  | us => .tuple us.toArray
def Comp (R : AC → Value → Prop) (p : Bool × List AC) (u : Value) : Prop := (p.1 = true → ∃ ws : List Value, u = .agg ws.toArray ∧ RL R p.2 ws) ∧ (p.1 = false → ∃ x, p.2 = [x] ∧ R x u)
theorem outs_ok (r : Rel O w0 n σ β a w) {K : List (Bool × List AC) → Prop} : ∀ (rvs : List ResultVar) (rs : List RA) (vs : List (Bool × List AC)) (us : List Value), all? (compR P) rvs = some rs → outs σ rs vs K → RL (Comp (RepA σ.h β w (Mine O σ.h β))) vs us →
    ∃ vs' us', K vs' ∧ RL (Comp (RepA σ.h β w (Mine O σ.h β))) vs' us' ∧ ∃ us2, us' = us ++ us2 ∧ (rvs.mapM (resVar a.tmps)).run P w = .ok us2 w := by
  intro rvs
  induction rvs with
  | nil =>
    intro rs vs us h1 h2 h3
    rw [all?_nil h1] at h2
    exact ⟨vs, us, h2, h3, [], by simp, by simp⟩
  | cons rv rvs ih =>
    intro rs vs us h1 h2 h3
    obtain ⟨ra, rs', h4, h5, rfl⟩ := all?_cons h1
    cases rv with
    | tmp t =>
      simp only [compR, Option.some.injEq] at h4
      subst h4
      simp only [outs] at h2
      have hs := r.slots t
      split at h2
      · rename_i x hx
        rw [hx] at hs
        obtain ⟨vs', us', h6, h7, us2, h8, h9⟩ := ih rs' _ (us ++ [a.tmps.getD t undef]) h5 h2 (h3.append (.one ⟨fun h => by simp at h, fun _ => ⟨x, rfl, hs⟩⟩))
        exact ⟨vs', us', h6, h7, a.tmps.getD t undef :: us2, by rw [h8]; simp, by simp only [List.mapM_cons, Sem.run_bind, h9, resVar, Sem.run_pure, Result.andThen_ok]⟩
      · rename_i xs hx
        rw [hx] at hs
        obtain ⟨vs', us', h6, h7, us2, h8, h9⟩ := ih rs' _ (us ++ [a.tmps.getD t undef]) h5 h2 (h3.append (.one ⟨fun _ => hs, fun h => by simp at h⟩))
        exact ⟨vs', us', h6, h7, a.tmps.getD t undef :: us2, by rw [h8]; simp, by simp only [List.mapM_cons, Sem.run_bind, h9, resVar, Sem.run_pure, Result.andThen_ok]⟩
      · exact h2.elim
    | cell k ty =>
      simp only [compR, Option.map_eq_some_iff] at h4
      obtain ⟨ti, hti, rfl⟩ := h4
      simp only [outs] at h2
      obtain ⟨cs, b, off, ws, ⟨h6, h7⟩, h8, h9, h10, h11⟩ := rd_ok r.toRelH (r.slots k) h2
      obtain ⟨u, h12, h13, h14⟩ := run_loadV (tinf_ok hti) (us := ws) (by rw [← h10.1]; exact h9) h11
      have hcomp : Comp (RepA σ.h β w (Mine O σ.h β)) (ti.agg, cs) u := by
        refine ⟨fun h => ⟨ws, h13 h, h10⟩, fun h => ?_⟩
        have := h14 h
        subst this
        obtain ⟨x, hx⟩ := List.length_eq_one_iff.1 (h6 h)
        subst hx
        exact ⟨x, rfl, h10.head⟩
      obtain ⟨vs', us', h15, h16, us2, h17, h18⟩ := ih rs' _ (us ++ [u]) h5 h7 (h3.append (.one hcomp))
      refine ⟨vs', us', h15, h16, u :: us2, by rw [h17]; simp, ?_⟩
      simp only [List.mapM_cons, Sem.run_bind, h18, resVar, Sem.run_pure, Result.andThen_ok, h8, asAddr, h12]
theorem init_rel {args : List (TV SC)} {us : List Value} (hO : ∀ b, O b → b < w.heap.size) (h : RL (RepT (RepS w O)) args us) (hn : us.length ≤ n) :
    Rel O (Base.of w) n (St.init args) (fun _ => (none, undef)) { tmps := us.toArray ++ Array.replicate (n - us.toArray.size) undef, defers := [] } w := by
  have hmine : ∀ b, Mine O (St.init args).h (fun _ => (none, undef)) b → O b := by
    rintro b (h1 | ⟨l, h1, h2⟩)
    · exact h1
    · simp at h2
  refine ⟨⟨fun l => trivial, fun l l' b h1 => ?_, fun l b h1 => ?_, (Base.of w).keeps_refl, hO, fun _ _ h1 => h1.elim⟩, rfl, by simp; omega, fun t => ?_⟩
  · exact absurd h1 (by simp [St.init, Hp.view, LB.view, VB.live])
  · exact absurd h1 (by simp [St.init, Hp.view, LB.view, VB.live])
  · show RepT _ (match args[t]? with | some x => x.lift | none => TV.no) _
    cases hx : args[t]? with
    | none => trivial
    | some x =>
      obtain ⟨u, h1, h2⟩ := h.get hx
      have h3 : (us.toArray ++ Array.replicate (n - us.toArray.size) undef).getD t undef = u := by
        obtain ⟨h4, h5⟩ := List.getElem?_eq_some_iff.1 h1
        rw [Array.getD_eq_getD_getElem?, Array.getElem?_append_left (by simpa using h4)]
        simp [h1]
      rw [h3]
      exact lift_ok (h2.mono (fun x u hx => RepS.less hx hmine))
theorem run_results {fn : Func} {us2 : List Value} (h : (fn.results.toList.mapM (resVar a.tmps)).run P w = .ok us2 w) : (results fn a.tmps).run P w = .ok (tupleOf us2) w := by
  have h2 : (fn.results.mapM (resVar a.tmps)).run P w = .ok us2.toArray w := by
    rw [Array.mapM_eq_mapM_toList]
    simp only [Sem.run_map]
    rw [h]
    rfl
  have h3 : results fn a.tmps = (do
    let vs ← fn.results.mapM (resVar a.tmps)
    Pure.pure (if h : vs.size = 1 then vs[0] else .tuple vs)) := by
    unfold results
    congr 1
  rw [h3]
  simp only [Sem.run_bind, h2, Result.andThen_ok, Sem.run_pure]
  congr 1
  match us2 with
  | [] => rfl
  | [u] => rfl
  | u :: v :: us => simp [tupleOf]
theorem mkTV_rep {R : SC → Value → Prop} {vs : List (Bool × List SC)} {us : List Value} (hl : vs.length = us.length) (h : ∀ i (a : i < vs.length) (b : i < us.length), (vs[i].1 = true → ∃ ws : List Value, us[i] = .agg ws.toArray ∧ RL R vs[i].2 ws) ∧ (vs[i].1 = false → ∃ x, vs[i].2 = [x] ∧ R x us[i])) :
    RepT R (mkTV vs) (tupleOf us) := by
  unfold mkTV
  split
  · rename_i x
    obtain ⟨u, rfl⟩ := List.length_eq_one_iff.1 (by simpa using hl.symm)
    obtain ⟨y, h1, h2⟩ := (h 0 (by simp) (by simp)).2 rfl
    simp only [List.getElem_cons_zero, List.cons.injEq, and_true] at h1
    subst h1
    exact h2
  · rename_i xs
    obtain ⟨u, rfl⟩ := List.length_eq_one_iff.1 (by simpa using hl.symm)
    exact (h 0 (by simp) (by simp)).1 rfl
  · rename_i h1 h2
    match us, hl with
    | [], hl => exact ⟨[], rfl, hl, h⟩
    | [u], hl =>
      obtain ⟨p, rfl⟩ := List.length_eq_one_iff.1 (by simpa using hl)
      obtain ⟨ag, xs⟩ := p
      cases ag with
      | true => exact (h2 xs rfl).elim
      | false =>
        obtain ⟨x, h3, h4⟩ := (h 0 (by simp) (by simp)).2 rfl
        simp only [List.getElem_cons_zero] at h3
        subst h3
        exact (h1 x rfl).elim
    | u :: v :: us, hl => exact ⟨u :: v :: us, rfl, hl, h⟩
structure FnIs (P : Program) (f : Nat) (ac : ACode) (rs : List RA) (n : Nat) : Prop where
  mk ::
  ok : ∃ fn, P.funcs[f]? = some fn ∧ fn.ntmps = n ∧ fn.body.bind (compC P fn.ntmps) = some ac ∧ all? (compR P) fn.results.toList = some rs
theorem spec_val (hm : P.follows .mixedOrders = true) {f : Nat} {ac : ACode} {rs : List RA} (hf : FnIs P f ac rs n) {args : List (TV SC)} {r : TV SC} (hn : args.length ≤ n) (h : wpA P ac (Post (fin rs r)) (St.init args)) : Spec P f args (.val r) := by
  obtain ⟨fn, h1, h3, h24, h5⟩ := hf.ok
  obtain ⟨c, h2, h4⟩ := Option.bind_eq_some_iff.1 h24
  intro w O us hO hus
  subst h3
  refine calls_of_wp h1 h2 (wpA_ok (O := O) (w0 := Base.of w) hm h4 (fun e σ β a w' hq hr => ?_) (init_rel hO hus (by rw [← hus.1]; exact hn)) h)
  have key : fin rs r σ → bodyPost P fn (fun e w' => ∃ v, e = .returned v ∧ Told w w' O (.val r) v ∧ Below w.heap.size w w') .ret a w' := by
    intro hfin
    obtain ⟨vs', us', k1, k2, us2, k3, k4⟩ := outs_ok hr fn.results.toList rs [] [] h5 hfin .nil
    rw [List.nil_append] at k3
    subst k3
    split at k1
    · rename_i ys hys
      refine ⟨hr.hd, _, run_results k4, _, rfl, ?_, hr.below.below⟩
      have k5 : RL (fun (p : Bool × List SC) u => (p.1 = true → ∃ ws : List Value, u = .agg ws.toArray ∧ RL (RepS w' O) p.2 ws) ∧ (p.1 = false → ∃ x, p.2 = [x] ∧ RepS w' O x u)) ys us' := k2.all hys (fun x y u _ hy hu => by
        simp only [Option.map_eq_some_iff] at hy
        obtain ⟨zs, k6, rfl⟩ := hy
        refine ⟨fun e => ?_, fun e => ?_⟩
        · obtain ⟨ws, k7, k8⟩ := hu.1 e
          exact ⟨ws, k7, k8.all k6 (fun x y u _ hy hu => shA_ok hr.toRelH hy hu)⟩
        · obtain ⟨x', k7, k8⟩ := hu.2 e
          rw [k7] at k6
          obtain ⟨y, ys', k9, k10, rfl⟩ := all?_cons k6
          rw [all?_nil k10]
          exact ⟨y, rfl, shA_ok hr.toRelH k9 k8⟩)
      exact k1.rep (mkTV_rep k5.1 k5.2)
    · exact k1.elim
  cases e with
  | normal => exact key hq
  | ret => exact key hq
  | exit id => exact hq.elim
theorem spec_row (hm : P.follows .mixedOrders = true) {f : Nat} {ac : ACode} {rs : List RA} (hf : FnIs P f ac rs n) {args : List (TV SC)} {ty e : Nat} {els : List (List SC)} (hn : args.length ≤ n) (h : wpA P ac (Post (finRow rs ty e els)) (St.init args)) : Spec P f args (.row ty e els) := by
  obtain ⟨fn, h1, h3, h24, h5⟩ := hf.ok
  obtain ⟨c, h2, h4⟩ := Option.bind_eq_some_iff.1 h24
  intro w O us hO hus
  subst h3
  refine calls_of_wp h1 h2 (wpA_ok (O := O) (w0 := Base.of w) hm h4 (fun ex σ β a w' hq hr => ?_) (init_rel hO hus (by rw [← hus.1]; exact hn)) h)
  have key : finRow rs ty e els σ → bodyPost P fn (fun e' w' => ∃ v, e' = .returned v ∧ Told w w' O (.row ty e els) v ∧ Below w.heap.size w w') .ret a w' := by
    intro hfin
    obtain ⟨vs', us', hvs, k2, us2, k3, k4⟩ := outs_ok hr fn.results.toList rs [] [] h5 hfin .nil
    rw [List.nil_append] at k3
    subst k3
    have hz : vs' = [(false, [.zc])] → els = [] ∧ 0 < e → bodyPost P fn (fun e' w' => ∃ v, e' = .returned v ∧ Told w w' O (.row ty e els) v ∧ Below w.heap.size w w') .ret a w' := by
      rintro rfl ⟨rfl, h0⟩
      obtain ⟨u, us'', rfl, k5, k6⟩ := k2.cons_inv
      rw [k6.nil_inv] at k4
      obtain ⟨x, k7, k8⟩ := k5.2 rfl
      simp only [List.cons.injEq, and_true] at k7
      subst k7
      obtain ⟨A, rfl⟩ := k8
      exact ⟨hr.hd, _, run_results k4, _, rfl, ⟨h0, by simp, .inl ⟨rfl, A, rfl⟩⟩, hr.below.below⟩
    split at hvs
    case h_2 => exact hz rfl hvs
    case h_3 => exact hvs.elim
    rename_i l g0
    obtain ⟨rfl, hk⟩ := hvs
    obtain ⟨u, us'', rfl, k5, k6⟩ := k2.cons_inv
    rw [k6.nil_inv] at k4
    refine ⟨hr.hd, _, run_results k4, _, rfl, ?_, hr.below.below⟩
    obtain ⟨x, k7, k8⟩ := k5.2 rfl
    simp only [List.cons.injEq, and_true] at k7
    subst k7
    have hv : σ.h.view l = .mem true ty e (els.map (List.map AC.s)) := by unfold Hp.view; rw [hk]; rfl
    have k9 := k8.2.2 rfl
    rw [hv] at k9
    have k10 := k9 rfl
    have k11 := hr.blks l
    unfold RepB at k11
    rw [hv] at k11
    simp only at k11
    obtain ⟨h0, he, hB⟩ := k11
    refine ⟨h0, fun x hx => by simpa using he (x.map AC.s) (List.mem_map_of_mem hx), ?_⟩
    rcases hB with ⟨_, h6, _, A, h7⟩ | ⟨b, cap, cur, h6, h7, h8, h9⟩
    · exact .inl ⟨by simpa using h6, A, k10.trans h7⟩
    · obtain ⟨m1, m2, m3, m4⟩ := h9 trivial
      have hln : (els.map (List.map AC.s)).length = els.length := by simp
      have hfl : (els.map (List.map AC.s)).flatten = els.flatten.map AC.s := by rw [← List.map_flatten]
      rw [hln] at m1 m2
      rw [hfl, List.length_map] at h8
      refine .inr ⟨b, cap, cur, k10.trans m1, Nat.le_of_not_lt (hr.base l b (by rw [hv]; rfl) h6), h7, m2, m3, m4, by have := h8.1; rw [List.length_map] at this; exact this, fun i a' b' => ?_⟩
      have h10 := h8.2 i (by rw [List.length_map]; exact a') b'
      rw [List.getElem_map] at h10
      refine RepS.less h10 (fun k hk => ?_)
      rcases hk with hk | rfl
      · exact .inl hk
      · exact .inr ⟨l, by rw [hv]; rfl, h6⟩
  cases ex with
  | normal => exact key hq
  | ret => exact key hq
  | exit id => exact hq.elim
theorem Spec.tag {f : Nat} {e : Nat} {els : List (List SC)} {rest : List (TV SC)} {r : Res} (h1 : els = [] → Spec P f (.c (.tag true (.sl e els)) :: rest) r) (h2 : Spec P f (.c (.tag false (.sl e els)) :: rest) r) : Spec P f (.c (.sl e els) :: rest) r := by
  intro w O us hO hus
  obtain ⟨u, us', rfl, h3, h4⟩ := hus.cons_inv
  cases hb : nilV u with
  | true =>
    have he : els = [] := by
      cases h3 with
      | sl0 => rfl
      | sl => simp [nilV] at hb
    exact h1 he w O _ hO (.cons (RepS.tag h3 hb) h4)
  | false => exact h2 w O _ hO (.cons (RepS.tag h3 hb) h4)
end
end Go.Proofs.YtcbfhpnmhhnjpaaGreat

namespace Go.Proofs.YtcbfhpnmhhnjpaaGreat
open Go.RowKit
section
variable {P : Program}
abbrev KT := TV AC → List (Nat × Nat × LB) → Prop
def Kont (P : Program) (q : ROp) (qs : List ROp) (σ : St) (K : St → Prop) : KT := fun v ws => wseq P qs (σ.eff q.dst v ws) K
def KontD (P : Program) (q : ROp) (qs : List ROp) (σ : St) (fps : List Fp) (F : St → List Fp → Prop) : KT := fun v ws => wdraw P qs (σ.eff q.dst v ws) (fps ++ [(rds q (q.locs σ), wrs q.dst ws)]) F
def EndD (qs : List ROp) (Q : Ex → St → Prop) : St → List Fp → Prop := fun σ' fps => chk (qs.map ROp.deps) fps = true ∧ Q .normal σ'
theorem r_skip {Q : Ex → St → Prop} {σ : St} : wpA P .skip Q σ = Q .normal σ := rfl
theorem r_reg {ops : List ROp} {Q : Ex → St → Prop} {σ : St} : wpA P (.reg ops) Q σ = wseq P ops σ (Q .normal) := rfl
theorem r_draw {ops : List ROp} {Q : Ex → St → Prop} {σ : St} : wpA P (.draw ops) Q σ = wdraw P ops σ [] (EndD ops Q) := rfl
theorem r_seq {a b : ACode} {Q : Ex → St → Prop} {σ : St} : wpA P (.seq a b) Q σ = wpA P a (Ex.then (wpA P b Q) Q) σ := rfl
def Fork (t : Bool) (A B : St → Prop) (σ : St) : Prop := (t = true → A σ) ∧ (t = false → B σ)
theorem f_true {A B : St → Prop} {σ : St} : Fork true A B σ = A σ := by unfold Fork; simp
theorem f_false {A B : St → Prop} {σ : St} : Fork false A B σ = B σ := by unfold Fork; simp
theorem fork {t : Bool} {A B : St → Prop} {σ : St} (h : t = true → A σ) (h' : t = false → B σ) : Fork t A B σ := ⟨h, h'⟩
theorem r_cond {c : Opd} {a b : ACode} {Q : Ex → St → Prop} {σ : St} : wpA P (.cond c a b) Q σ = match σ.ev c with
    | .c (.s (.pv (.bool t))) => Fork t (wpA P a Q) (wpA P b Q) σ
    | _ => False := rfl
theorem r_block {i : Nat} {b : ACode} {Q : Ex → St → Prop} {σ : St} : wpA P (.block i b) Q σ = wpA P b (Ex.inBlock i Q) σ := rfl
theorem r_loop {b : ACode} {Q : Ex → St → Prop} {σ : St} : wpA P (.loop b) Q σ = LoopA (wpA P b) Q σ := rfl
theorem r_exit {i : Nat} {Q : Ex → St → Prop} {σ : St} : wpA P (.exit i) Q σ = Q (.exit i) σ := rfl
theorem r_ret {Q : Ex → St → Prop} {σ : St} : wpA P .ret Q σ = Q .ret σ := rfl
theorem t_normal {N : St → Prop} {Q : Ex → St → Prop} {σ : St} : Ex.then N Q .normal σ = N σ := rfl
theorem t_exit {N : St → Prop} {Q : Ex → St → Prop} {σ : St} {i : Nat} : Ex.then N Q (.exit i) σ = Q (.exit i) σ := rfl
theorem t_ret {N : St → Prop} {Q : Ex → St → Prop} {σ : St} : Ex.then N Q .ret σ = Q .ret σ := rfl
theorem b_normal {Q : Ex → St → Prop} {σ : St} {i : Nat} : Ex.inBlock i Q .normal σ = Q .normal σ := rfl
theorem b_exit {Q : Ex → St → Prop} {σ : St} {i j : Nat} : Ex.inBlock i Q (.exit j) σ = if j = i then Q .normal σ else Q (.exit j) σ := rfl
theorem b_ret {Q : Ex → St → Prop} {σ : St} {i : Nat} : Ex.inBlock i Q .ret σ = Q .ret σ := rfl
theorem p_normal {F : St → Prop} {σ : St} : Post F .normal σ = F σ := rfl
theorem p_ret {F : St → Prop} {σ : St} : Post F .ret σ = F σ := rfl
theorem p_exit {F : St → Prop} {σ : St} {i : Nat} : Post F (.exit i) σ = False := rfl
theorem s_nil {σ : St} {K : St → Prop} : wseq P [] σ K = K σ := rfl
def GX (P : Program) (b want : Bool) (q : ROp) (qs : List ROp) (σ : St) (K : St → Prop) : Prop := (b = want → aeff P q.op q.loc σ.ev σ.h (Kont P q qs σ K)) ∧ (b = (!want) → wseq P qs (σ.eff q.dst (.tup []) []) K)
def G0 (P : Program) (v : TV AC) (want : Bool) (q : ROp) (qs : List ROp) (σ : St) (K : St → Prop) : Prop := match v with
  | .c (.s (.pv (.bool b))) => GX P b want q qs σ K
  | .tup [] => wseq P qs (σ.eff q.dst (.tup []) []) K
  | _ => False
theorem g0_ap {b want : Bool} {q : ROp} {qs : List ROp} {σ : St} {K : St → Prop} : G0 P (.c (.s (.pv (.bool b)))) want q qs σ K = GX P b want q qs σ K := rfl
theorem g0_sk {want : Bool} {q : ROp} {qs : List ROp} {σ : St} {K : St → Prop} : G0 P (.tup []) want q qs σ K = wseq P qs (σ.eff q.dst (.tup []) []) K := rfl
theorem gx_tt {q : ROp} {qs : List ROp} {σ : St} {K : St → Prop} : GX P true true q qs σ K = aeff P q.op q.loc σ.ev σ.h (Kont P q qs σ K) := by unfold GX; simp
theorem gx_ff {q : ROp} {qs : List ROp} {σ : St} {K : St → Prop} : GX P false false q qs σ K = aeff P q.op q.loc σ.ev σ.h (Kont P q qs σ K) := by unfold GX; simp
theorem gx_tf {q : ROp} {qs : List ROp} {σ : St} {K : St → Prop} : GX P true false q qs σ K = wseq P qs (σ.eff q.dst (.tup []) []) K := by unfold GX; simp
theorem gx_ft {q : ROp} {qs : List ROp} {σ : St} {K : St → Prop} : GX P false true q qs σ K = wseq P qs (σ.eff q.dst (.tup []) []) K := by unfold GX; simp
theorem gcase {b want : Bool} {q : ROp} {qs : List ROp} {σ : St} {K : St → Prop} (h : b = true → GX P true want q qs σ K) (h' : b = false → GX P false want q qs σ K) : GX P b want q qs σ K := by
  cases b
  · exact h' rfl
  · exact h rfl
theorem s_plain {dst : Option Nat} {loc : Nat} {op : AOp} {deps : List Nat} {qs : List ROp} {σ : St} {K : St → Prop} : wseq P (⟨dst, loc, op, none, deps⟩ :: qs) σ K = aeff P op loc σ.ev σ.h (Kont P ⟨dst, loc, op, none, deps⟩ qs σ K) := rfl
theorem s_guard {dst : Option Nat} {loc t : Nat} {op : AOp} {want : Bool} {deps : List Nat} {qs : List ROp} {σ : St} {K : St → Prop} : wseq P (⟨dst, loc, op, some (t, want), deps⟩ :: qs) σ K = G0 P (σ.slot t) want ⟨dst, loc, op, some (t, want), deps⟩ qs σ K := rfl
theorem d_nil {σ : St} {fps : List Fp} {F : St → List Fp → Prop} : wdraw P [] σ fps F = F σ fps := rfl
def GXD (P : Program) (b want : Bool) (q : ROp) (qs : List ROp) (σ : St) (fps : List Fp) (F : St → List Fp → Prop) : Prop := (b = want → aeff P q.op q.loc σ.ev (σ.h.only (q.locs σ)) (KontD P q qs σ fps F)) ∧ (b = (!want) → wdraw P qs (σ.eff q.dst (.tup []) []) (fps ++ [(rds q [], wrs q.dst [])]) F)
def G0D (P : Program) (v : TV AC) (want : Bool) (q : ROp) (qs : List ROp) (σ : St) (fps : List Fp) (F : St → List Fp → Prop) : Prop := match v with
  | .c (.s (.pv (.bool b))) => GXD P b want q qs σ fps F
  | .tup [] => wdraw P qs (σ.eff q.dst (.tup []) []) (fps ++ [(rds q [], wrs q.dst [])]) F
  | _ => False
theorem g0d_ap {b want : Bool} {q : ROp} {qs : List ROp} {σ : St} {fps : List Fp} {F : St → List Fp → Prop} : G0D P (.c (.s (.pv (.bool b)))) want q qs σ fps F = GXD P b want q qs σ fps F := rfl
theorem g0d_sk {want : Bool} {q : ROp} {qs : List ROp} {σ : St} {fps : List Fp} {F : St → List Fp → Prop} : G0D P (.tup []) want q qs σ fps F = wdraw P qs (σ.eff q.dst (.tup []) []) (fps ++ [(rds q [], wrs q.dst [])]) F := rfl
theorem gxd_tt {q : ROp} {qs : List ROp} {σ : St} {fps : List Fp} {F : St → List Fp → Prop} : GXD P true true q qs σ fps F = aeff P q.op q.loc σ.ev (σ.h.only (q.locs σ)) (KontD P q qs σ fps F) := by unfold GXD; simp
theorem gxd_ff {q : ROp} {qs : List ROp} {σ : St} {fps : List Fp} {F : St → List Fp → Prop} : GXD P false false q qs σ fps F = aeff P q.op q.loc σ.ev (σ.h.only (q.locs σ)) (KontD P q qs σ fps F) := by unfold GXD; simp
theorem gxd_tf {q : ROp} {qs : List ROp} {σ : St} {fps : List Fp} {F : St → List Fp → Prop} : GXD P true false q qs σ fps F = wdraw P qs (σ.eff q.dst (.tup []) []) (fps ++ [(rds q [], wrs q.dst [])]) F := by unfold GXD; simp
theorem gxd_ft {q : ROp} {qs : List ROp} {σ : St} {fps : List Fp} {F : St → List Fp → Prop} : GXD P false true q qs σ fps F = wdraw P qs (σ.eff q.dst (.tup []) []) (fps ++ [(rds q [], wrs q.dst [])]) F := by unfold GXD; simp
theorem gcaseD {b want : Bool} {q : ROp} {qs : List ROp} {σ : St} {fps : List Fp} {F : St → List Fp → Prop} (h : b = true → GXD P true want q qs σ fps F) (h' : b = false → GXD P false want q qs σ fps F) : GXD P b want q qs σ fps F := by
  cases b
  · exact h' rfl
  · exact h rfl
theorem d_plain {dst : Option Nat} {loc : Nat} {op : AOp} {deps : List Nat} {qs : List ROp} {σ : St} {fps : List Fp} {F : St → List Fp → Prop} : wdraw P (⟨dst, loc, op, none, deps⟩ :: qs) σ fps F = aeff P op loc σ.ev (σ.h.only ((⟨dst, loc, op, none, deps⟩ : ROp).locs σ)) (KontD P ⟨dst, loc, op, none, deps⟩ qs σ fps F) := rfl
theorem d_guard {dst : Option Nat} {loc t : Nat} {op : AOp} {want : Bool} {deps : List Nat} {qs : List ROp} {σ : St} {fps : List Fp} {F : St → List Fp → Prop} : wdraw P (⟨dst, loc, op, some (t, want), deps⟩ :: qs) σ fps F = G0D P (σ.slot t) want ⟨dst, loc, op, some (t, want), deps⟩ qs σ fps F := rfl
theorem k_ap {q : ROp} {qs : List ROp} {σ : St} {K : St → Prop} {v : TV AC} {ws : List (Nat × Nat × LB)} : Kont P q qs σ K v ws = wseq P qs (σ.eff q.dst v ws) K := rfl
theorem kd_ap {q : ROp} {qs : List ROp} {σ : St} {fps : List Fp} {F : St → List Fp → Prop} {v : TV AC} {ws : List (Nat × Nat × LB)} : KontD P q qs σ fps F v ws = wdraw P qs (σ.eff q.dst v ws) (fps ++ [(rds q (q.locs σ), wrs q.dst ws)]) F := rfl
theorem e_ap {qs : List ROp} {Q : Ex → St → Prop} {σ : St} {fps : List Fp} : EndD qs Q σ fps = (chk (qs.map ROp.deps) fps = true ∧ Q .normal σ) := rfl
theorem wrap_zero : IntKind.i64.wrap 0 = 0 := rfl
theorem sz_empty : ByteArray.size ⟨#[]⟩ = 0 := rfl
def vI (n : Int) : TV AC := .c (.s (.pv (.int .i64 n)))
def vB (b : Bool) : TV AC := .c (.s (.pv (.bool b)))
def vS (b : ByteArray) : TV AC := .c (.s (.pv (.string b)))
def vL (e : Nat) (els : List (List SC)) : TV AC := .c (.s (.sl e els))
def rI (n : Int) : TV SC := .c (.pv (.int .i64 n))
def rB (b : Bool) : TV SC := .c (.pv (.bool b))
def rS (b : ByteArray) : TV SC := .c (.pv (.string b))
def rL (e : Nat) (els : List (List SC)) : TV SC := .c (.sl e els)
theorem take_snoc {α : Type} {l : List α} {i : Nat} (h : i < l.length) : l.take (i + 1) = l.take i ++ [l[i]] := by rw [List.take_add_one, List.getElem?_eq_getElem h]; rfl
def AskIdx {α : Type} (i : Nat) (els : List α) (K : α → Prop) : Prop := ∃ h : i < els.length, K els[i]
theorem askIdx_zero {α : Type} {x : α} {xs : List α} {K : α → Prop} : AskIdx 0 (x :: xs) K = K x := by
  unfold AskIdx; simp
theorem askIdx_succ {α : Type} {i : Nat} {x : α} {xs : List α} {K : α → Prop} : AskIdx (i + 1) (x :: xs) K = AskIdx i xs K := by
  unfold AskIdx; simp
theorem askIdx_map {α γ : Type} {i : Nat} {l : List γ} {f : γ → α} {K : α → Prop} (h : i < l.length) : AskIdx i (l.map f) K = K (f l[i]) := by
  unfold AskIdx; simp [h]
def loadK (agg : Bool) (K : KT) : List AC → Prop := fun cs => if agg then K (.agg cs) [] else match cs with
    | [c] => K (.c c) []
    | _ => False
theorem l_agg {K : KT} {cs : List AC} : loadK true K cs = K (.agg cs) [] := rfl
theorem l_one {K : KT} {c : AC} : loadK false K [c] = K (.c c) [] := rfl
def cutK (e off n : Nat) (K : List AC → Prop) (x : List AC) : Prop := off + n ≤ e ∧ K ((x.drop off).take n)
def cutS (e off n : Nat) (K : List AC → Prop) (x : List SC) : Prop := off + n ≤ e ∧ K (((x.drop off).take n).map AC.s)
def rdB (b : LB) (i off n : Nat) (K : List AC → Prop) : Prop := match b with
  | .box ty e els => AskIdx i els (cutK e off n K)
  | .row ty e els => AskIdx i els (cutS e off n K)
  | _ => False
theorem c_ap {e off n : Nat} {K : List AC → Prop} {x : List AC} : cutK e off n K x = (off + n ≤ e ∧ K ((x.drop off).take n)) := rfl
theorem cs_ap {e off n : Nat} {K : List AC → Prop} {x : List SC} : cutS e off n K x = (off + n ≤ e ∧ K (((x.drop off).take n).map AC.s)) := rfl
theorem rd_ptr {h : Hp} {l g i off n : Nat} {K : List AC → Prop} : rd h (.c (.ptr l g i off)) n K = (g = h.gen l ∧ rdB (h.blk l) i off n K) := by
  unfold rd rdB
  simp only
  cases h.blk l <;> rfl
theorem rd_sptr {h : Hp} {cs : List SC} {n : Nat} {K : List AC → Prop} : rd h (.c (.s (.sptr cs))) n K = (n ≤ cs.length ∧ K ((cs.take n).map AC.s)) := rfl
theorem rdB_box {ty e : Nat} {els : List (List AC)} {i off n : Nat} {K : List AC → Prop} : rdB (.box ty e els) i off n K = AskIdx i els (cutK e off n K) := rfl
theorem rdB_row {ty e : Nat} {els : List (List SC)} {i off n : Nat} {K : List AC → Prop} : rdB (.row ty e els) i off n K = AskIdx i els (cutS e off n K) := rfl
variable {d : Nat} {ev : Opd → TV AC} {h : Hp} {K : KT}
def pk (t : Bool) (a b : TV AC) : TV AC := bif t then a else b
theorem pk_true {a b : TV AC} : pk true a b = a := rfl
theorem pk_false {a b : TV AC} : pk false a b = b := rfl
theorem pk_bool {t p q : Bool} : pk t (.c (.s (.pv (.bool p)))) (.c (.s (.pv (.bool q)))) = .c (.s (.pv (.bool (bif t then p else q)))) := by cases t <;> rfl
theorem a_mv {x : Opd} : aeff P (.mv x) d ev h K = K (ev x) [] := rfl
theorem a_pick {c a b : Opd} : aeff P (.pick c a b) d ev h K = match ev c with
    | .c (.s (.pv (.bool t))) => K (pk t (ev a) (ev b)) []
    | _ => False := rfl
theorem a_mk {ty e : Nat} {els : List (List AC)} : aeff P (.mk ty e els) d ev h K = K (.c (.ptr d (h.gen d + 1) 0 0)) [(d, h.gen d + 1, .box ty e els)] := rfl
theorem a_box {ty e : Nat} {x : Opd} : aeff P (.box ty e x) d ev h K = match (ev x).cells with
    | some cs => cs.length = e ∧ K (.c (.ptr d (h.gen d + 1) 0 0)) [(d, h.gen d + 1, .box ty e [cs])]
    | none => False := rfl
theorem a_build {z : List AC} {ps : List (Nat × Nat × Opd)} : aeff P (.build z ps) d ev h K = match fillA ev z ps with
    | some cs => K (.agg cs) []
    | none => False := rfl
theorem a_bslice {ty e len : Nat} {z : List AC} {ps : List (Nat × Nat × Opd)} : aeff P (.bslice ty e z len ps) d ev h K = match fillA ev (List.replicate len z).flatten ps with
    | some cs => match all? (shA h) cs with
      | some ss => K (.c (.own d ((h.app (frz h cs)).gen d + 1))) (frz h cs ++ [(d, (h.app (frz h cs)).gen d + 1, .row ty e (chunk e len ss))])
      | none => False
    | none => False := rfl
theorem a_load {agg : Bool} {n : Nat} {x : Opd} : aeff P (.load agg n x) d ev h K = rd h (ev x) n (loadK agg K) := rfl
def stB (l g ty e : Nat) (els : List (List AC)) (i off n : Nat) (cs : List AC) (K : KT) (x : List AC) : Prop := off + n ≤ e ∧ K .no [(l, g, .box ty e (els.set i (patch x off cs)))]
def stR (l g ty e : Nat) (els : List (List SC)) (i off n : Nat) (ws : List (Nat × Nat × LB)) (ss : List SC) (K : KT) (x : List SC) : Prop := off + n ≤ e ∧ (ws.all fun p => !(p.1 == l)) = true ∧ K .no (ws ++ [(l, g, .row ty e (els.set i (patch x off ss)))])
def stX (h : Hp) (l g : Nat) (b : LB) (i off n : Nat) (cs : List AC) (K : KT) : Prop := match b with
  | .box ty e els => AskIdx i els (stB l g ty e els i off n cs K)
  | .row ty e els => match all? (shA h) cs with
    | some ss => AskIdx i els (stR l g ty e els i off n (frz h cs) ss K)
    | none => False
  | _ => False
theorem stB_ap {l g ty e : Nat} {els : List (List AC)} {i off n : Nat} {cs : List AC} {x : List AC} : stB l g ty e els i off n cs K x = (off + n ≤ e ∧ K .no [(l, g, .box ty e (els.set i (patch x off cs)))]) := rfl
theorem stR_ap {l g ty e : Nat} {els : List (List SC)} {i off n : Nat} {ws : List (Nat × Nat × LB)} {ss : List SC} {x : List SC} : stR l g ty e els i off n ws ss K x = (off + n ≤ e ∧ (ws.all fun p => !(p.1 == l)) = true ∧ K .no (ws ++ [(l, g, .row ty e (els.set i (patch x off ss)))])) := rfl
theorem stX_box {l g ty e : Nat} {els : List (List AC)} {i off n : Nat} {cs : List AC} : stX h l g (.box ty e els) i off n cs K = AskIdx i els (stB l g ty e els i off n cs K) := rfl
theorem stX_row {l g ty e : Nat} {els : List (List SC)} {i off n : Nat} {cs : List AC} : stX h l g (.row ty e els) i off n cs K = match all? (shA h) cs with
    | some ss => AskIdx i els (stR l g ty e els i off n (frz h cs) ss K)
    | none => False := rfl
theorem a_store {n : Nat} {p x : Opd} : aeff P (.store n p x) d ev h K = match ev p, (ev x).cells with
    | .c (.ptr l g i off), some cs => cs.length = n ∧ g = h.gen l ∧ stX h l g (h.blk l) i off n cs K
    | _, _ => False := rfl
theorem a_bin {bl : Bool} {op : BinOp} {x y : Opd} : aeff P (.bin bl op x y) d ev h K = match ev x, ev y with
    | .c (.s (.pv u)), .c (.s (.pv v)) => match binv op u v with
      | some (c, r) => isBool u = bl ∧ c ∧ K (.c (.s (.pv r))) []
      | none => False
    | _, _ => False := rfl
def AskEq (P : Program) (neg : Bool) (t : Nat) (us vs : List Value) (K : KT) : Prop := ∃ r, EqRun P t us vs r ∧ K (.c (.s (.pv (.bool (neg ^^ r))))) []
theorem a_eqs {neg : Bool} {t : Nat} {x y : Opd} : aeff P (.eqs neg t x y) d ev h K = match ev x, ev y with
    | .agg xs, .agg ys => match pvs xs, pvs ys with
      | some us, some vs => AskEq P neg t us vs K
      | _, _ => False
    | _, _ => False := rfl
theorem a_not {x : Opd} : aeff P (.not x) d ev h K = match ev x with
    | .c (.s (.pv (.bool t))) => K (.c (.s (.pv (.bool !t)))) []
    | _ => False := rfl
theorem a_conv {k : IntKind} {x : Opd} : aeff P (.conv k x) d ev h K = match ev x with
    | .c (.s (.pv (.int k' n))) => K (.c (.s (.pv (.int k (k.wrap n))))) []
    | _ => False := rfl
theorem a_b2s {x : Opd} : aeff P (.b2s x) d ev h K = match sliceOf 1 h (ev x) with
    | some (els, _) => match numsOf els with
      | some ns => K (.c (.s (.pv (.string (strOfNums ns))))) []
      | none => False
    | none => False := rfl
theorem a_mkSlice {ty e bytes : Nat} {z : List SC} {l c : Opd} : aeff P (.mkSlice ty e bytes z l c) d ev h K = match ev l, ev c with
    | .c (.s (.pv (.int kl n))), .c (.s (.pv (.int kc m))) => 0 ≤ n ∧ n ≤ m ∧ (bytes : Int) * m ≤ 140737488355328 ∧ m ≤ 9223372036854775807 ∧
        K (.c (.own d (h.gen d + 1))) [(d, h.gen d + 1, .row ty e (List.replicate n.toNat z))]
    | _, _ => False := rfl
theorem a_sub {e : Nat} {x : Opd} {lo hi : Option Opd} : aeff P (.sub e x lo hi) d ev h K = match sliceOf e h (ev x), lenOf h (ev x) with
    | some (els, ws), some n => match bnd ev 0 lo, bnd ev n hi with
      | some l, some m => 0 ≤ l ∧ l ≤ m ∧ m ≤ n ∧ K (.c (.s (.sl e ((els.take m.toNat).drop l.toNat)))) ws
      | _, _ => False
    | _, _ => False := rfl
theorem a_z3 {x : Opd} : aeff P (.z3 x) d ev h K = match lenOf h (ev x) with
    | some _ => K (.c .zc) []
    | none => False := rfl
theorem a_ssub {x : Opd} {lo hi : Option Opd} : aeff P (.ssub x lo hi) d ev h K = match ev x with
    | .c (.s (.pv (.string s))) => match bnd ev 0 lo, bnd ev s.size hi with
      | some l, some m => 0 ≤ l ∧ l ≤ m ∧ m ≤ s.size ∧ K (.c (.s (.pv (.string (s.extract l.toNat m.toNat))))) []
      | _, _ => False
    | _ => False := rfl
theorem a_fld {off : Nat} {x : Opd} : aeff P (.fld off x) d ev h K = match ev x with
    | .c (.s (.sptr cs)) => off ≤ cs.length ∧ K (.c (.s (.sptr (cs.drop off)))) []
    | .c (.ptr l g i o) => g = h.gen l ∧ (h.view l).live = true ∧ K (.c (.ptr l g i (o + off))) []
    | _ => False := rfl
def idxK (K : KT) (x : List SC) : Prop := K (.c (.s (.sptr x))) []
theorem idxK_ap {x : List SC} : idxK K x = K (.c (.s (.sptr x))) [] := rfl
theorem a_idx {e : Nat} {x i : Opd} : aeff P (.idx e x i) d ev h K = match ev i with
    | .c (.s (.pv (.int k n))) => match ev x with
      | .c (.s (.sl e' els)) => e' = e ∧ 0 ≤ n ∧ AskIdx n.toNat els (idxK K)
      | .c (.own l g) => g = h.gen l ∧ match h.blk l with
        | .row ty e' els => e' = e ∧ 0 ≤ n ∧ n.toNat < els.length ∧ K (.c (.ptr l g n.toNat 0)) []
        | .ice (.sl e' els) => e' = e ∧ 0 ≤ n ∧ AskIdx n.toNat els (idxK K)
        | _ => False
      | _ => False
    | _ => False := rfl
theorem a_aidx {cnt e : Nat} {x i : Opd} : aeff P (.aidx cnt e x i) d ev h K = match ev i with
    | .c (.s (.pv (.int k n))) => 0 ≤ n ∧ n < cnt ∧ match ev x with
      | .c (.s (.sptr cs)) => n.toNat * e ≤ cs.length ∧ K (.c (.s (.sptr (cs.drop (n.toNat * e))))) []
      | .c (.ptr l g i0 off) => g = h.gen l ∧ match h.view l with
        | .mem _ _ e' _ => if e' = e ∧ off = 0 then K (.c (.ptr l g (i0 + n.toNat) 0)) [] else K (.c (.ptr l g i0 (off + n.toNat * e))) []
        | _ => False
      | _ => False
    | _ => False := rfl
def sidxK (s : ByteArray) (K : KT) (i : Nat) : Prop := ∃ hn : i < s.size, K (.c (.s (.pv (.int .u8 (s[i].toNat : Int))))) []
theorem a_sidx {x i : Opd} : aeff P (.sidx x i) d ev h K = match ev x, ev i with
    | .c (.s (.pv (.string s))), .c (.s (.pv (.int k n))) => 0 ≤ n ∧ sidxK s K n.toNat
    | _, _ => False := rfl
theorem a_field {agg : Bool} {off n : Nat} {x : Opd} : aeff P (.field agg off n x) d ev h K = match ev x with
    | .agg cs => off + n ≤ cs.length ∧ if agg then K (.agg ((cs.drop off).take n)) [] else match cs[off]? with
      | some c => K (.c c) []
      | none => False
    | _ => False := rfl
theorem a_ext {i : Nat} {x : Opd} : aeff P (.ext i x) d ev h K = match ev x with
    | .tup vs => match vs[i]? with
      | some (true, cs) => K (.agg cs) []
      | some (false, [c]) => K (.c c) []
      | _ => False
    | _ => False := rfl
theorem a_len {x : Opd} : aeff P (.len x) d ev h K = match lenOf h (ev x) with
    | some n => K (.c (.s (.pv (.int .i64 n)))) []
    | none => False := rfl
theorem a_slen {x : Opd} : aeff P (.slen x) d ev h K = match ev x with
    | .c (.s (.pv (.string s))) => K (.c (.s (.pv (.int .i64 s.size)))) []
    | _ => False := rfl
theorem a_app {ty e bytes : Nat} {s x : Opd} : aeff P (.app ty e bytes s x) d ev h K = match sliceOf e h (ev x), lenOf h (ev x) with
    | some (news, _), some m => match ev s with
      | .c .zc => (m : Int) * bytes ≤ 140737488355328 ∧ (m : Int) ≤ 9223372036854775807 ∧ K (.c (.own d (h.gen d + 1))) [(d, h.gen d + 1, .row ty e news)]
      | .c (.own l g) => g = h.gen l ∧ match h.blk l with
        | .row ty' e' els => ty' = ty ∧ e' = e ∧ ((els.length + m : Nat) : Int) * bytes ≤ 140737488355328 ∧ ((els.length + m : Nat) : Int) ≤ 9223372036854775807 ∧
            K (.c (.own l (g + 1))) [(l, g + 1, .row ty e (els ++ news))]
        | _ => False
      | _ => False
    | _, _ => False := rfl
def Ask (P : Program) (f : Nat) (as : List (TV SC)) (h : Hp) (d : Nat) (xs : List (TV AC)) (K : KT) : Prop := (∃ r, Spec P f as r ∧ after h d xs r K) ∨ CallX P f h xs K
def AskV (P : Program) (f : Nat) (as : List (TV SC)) (h : Hp) (d : Nat) (xs : List (TV AC)) (K : KT) : Prop := ∃ r, Spec P f as r ∧ after h d xs r K
theorem a_call {f : Nat} {args : List Opd} : aeff P (.call f args) d ev h K = match all? (argB h) (args.map ev) with
    | some as => Ask P f as h d (args.map ev) K
    | none => CallX P f h (args.map ev) K := rfl
theorem a_callv {f : Opd} {args : List Opd} : aeff P (.callv f args) d ev h K = match ev f, all? (argB h) (args.map ev) with
    | .c (.s (.fn g caps)), some as => callable P g = true ∧ AskV P g (as ++ caps.map TV.c) h d (args.map ev) K
    | _, _ => False := rfl
theorem a_clo {f : Nat} {caps : List Opd} : aeff P (.clo f caps) d ev h K = match all? (fun x => whole (ev x)) caps with
    | some [] => K (.c (.s (.fn f []))) []
    | some ls => K (.c (.clo f ls)) []
    | none => False := rfl
theorem a_nilc {x : Opd} : aeff P (.nilc x) d ev h K = match ev x with
    | .c (.s (.sptr cs)) => K (ev x) []
    | .c (.s (.fn f caps)) => K (ev x) []
    | .c (.clo f ls) => K (ev x) []
    | .c (.ptr l g i o) => g = h.gen l ∧ (h.view l).live = true ∧ K (ev x) []
    | _ => False := rfl
theorem a_isnil {x : Opd} : aeff P (.isnil x) d ev h K = match ev x with
    | .c (.s (.tag b (.sl _ _))) => K (.c (.s (.pv (.bool b)))) []
    | _ => False := rfl
theorem a_mm {mx : Bool} {x y : Opd} : aeff P (.mm mx x y) d ev h K = match ev x, ev y with
    | .c (.s (.pv (.int k a))), .c (.s (.pv (.int k' b))) => K (.c (.s (.pv (.int k (if mx then max a b else min a b))))) []
    | _, _ => False := rfl
theorem ask {f : Nat} {as : List (TV SC)} {xs : List (TV AC)} {r : Res} (hs : Spec P f as r) (hk : after h d xs r K) : Ask P f as h d xs K := .inl ⟨r, hs, hk⟩
theorem askV {f : Nat} {as : List (TV SC)} {xs : List (TV AC)} {r : Res} (hs : Spec P f as r) (hk : after h d xs r K) : AskV P f as h d xs K := ⟨r, hs, hk⟩
theorem askX1 {f : Nat} {x0 : TV AC} {xr : List (TV AC)} {as : List (TV SC)} {X : XR} (hs : SpecX P f X as) (ha : all? (argB h) xr = some as) (hk : afterX h x0 xr X K) : CallX P f h (x0 :: xr) K := by
  refine .inl ?_
  unfold CallX0
  simp only [ha]
  exact ⟨X, hs, hk⟩
theorem askW {f l g r gr e : Nat} {xr : List (TV AC)} {as : List (TV SC)} {cs : List AC} {X : WR} (hs : SpecW P f X as) (ha : all? argS xr = some as) (hg : g = h.gen l) (hgr : gr = h.gen r) (hrl : r ≠ l) (hb : h.blk l = .box X.ty e [cs]) (hcs : cs = X.pre.map AC.s ++ .own r gr :: X.post.map AC.s)
    (he : e = X.pre.length + 1 + X.post.length) (hr : h.blk r = .row X.rty X.re X.xs) (hl1 : X.pre'.length = X.pre.length) (hl2 : X.post'.length = X.post.length) (hk : K X.ret.lift [(r, gr + 1, .row X.rty X.re X.xs'), (l, g, .box X.ty e [X.pre'.map AC.s ++ .own r (gr + 1) :: X.post'.map AC.s])]) : CallX P f h (.c (.ptr l g 0 0) :: xr) K := by
  subst he hcs
  refine .inr (.inr ?_)
  unfold CallW
  simp only [ha]
  exact ⟨X, r, gr, _, hs, trivial, trivial, hg, hgr, hrl, hb, .inl ⟨rfl, hr⟩, hl1, hl2, hk⟩
theorem askZ {f l g e : Nat} {xr : List (TV AC)} {as : List (TV SC)} {cs : List AC} {X : WR} (r : Nat) (hs : SpecW P f X as) (ha : all? argS xr = some as) (hg : g = h.gen l) (hrl : r ≠ l) (hb : h.blk l = .box X.ty e [cs]) (hcs : cs = X.pre.map AC.s ++ .zc :: X.post.map AC.s)
    (he : e = X.pre.length + 1 + X.post.length) (hr : h.blk r ≠ .dead) (hx : X.xs = []) (h0 : 0 < X.re) (hl1 : X.pre'.length = X.pre.length) (hl2 : X.post'.length = X.post.length) (hk : K X.ret.lift [(r, h.gen r + 1, .row X.rty X.re X.xs'), (l, g, .box X.ty e [X.pre'.map AC.s ++ .own r (h.gen r + 1) :: X.post'.map AC.s])]) : CallX P f h (.c (.ptr l g 0 0) :: xr) K := by
  subst he hcs
  refine .inr (.inr ?_)
  unfold CallW
  simp only [ha]
  exact ⟨X, r, h.gen r, _, hs, trivial, trivial, hg, rfl, hrl, hb, .inr ⟨rfl, hx, h0, hr⟩, hl1, hl2, hk⟩
theorem askX2 {f : Nat} {x0 : TV AC} {xr : List (TV AC)} {as bs : List (TV SC)} {X : XR} (hs : SpecX P f X as) (ha : all? (argB h) xr = some as) (hk : afterX h x0 xr X K) : Ask P f bs h d (x0 :: xr) K := .inr (askX1 hs ha hk)
theorem askEq {neg : Bool} {t : Nat} {us vs : List Value} {r : Bool} (hs : EqRun P t us vs r) (hk : K (.c (.s (.pv (.bool (neg ^^ r))))) []) : AskEq P neg t us vs K := ⟨r, hs, hk⟩
def AF (b : Bool) (h : Hp) (xs : List (TV AC)) (r : TV SC) (K : KT) : Prop := if b = true then K r.lift [] else match all? TV.cells xs with
    | some css => (all? (shA h) css.flatten).isSome = true ∧ K r.lift (frz h css.flatten)
    | none => False
theorem after_val {xs : List (TV AC)} {r : TV SC} : after h d xs (.val r) K = AF r.flat h xs r K := by
  unfold after AF
  cases hf : r.flat with
  | true => rw [if_pos (show (Res.val r).flat = true from hf), if_pos rfl]
  | false =>
    rw [if_neg (by simp [Res.flat, hf]), if_neg (by simp)]
    cases all? TV.cells xs <;> rfl
theorem af_t {xs : List (TV AC)} {r : TV SC} : AF true h xs r K = K r.lift [] := rfl
theorem af_f {xs : List (TV AC)} {r : TV SC} : AF false h xs r K = match all? TV.cells xs with
    | some css => (all? (shA h) css.flatten).isSome = true ∧ K r.lift (frz h css.flatten)
    | none => False := rfl
theorem after_row {xs : List (TV AC)} {ty e : Nat} {els : List (List SC)} : after h d xs (.row ty e els) K = match all? TV.cells xs with
    | some css => (all? (shA h) css.flatten).isSome = true ∧ K (.c (.own d ((h.app (frz h css.flatten)).gen d + 1))) (frz h css.flatten ++ [(d, (h.app (frz h css.flatten)).gen d + 1, .row ty e els)])
    | none => False := by
  unfold after
  rw [if_neg (by simp [Res.flat])]
  cases all? TV.cells xs <;> rfl
theorem loopA {b : ACode} {Q : Ex → St → Prop} {σ : St} (I : Nat → St → Prop) (m : Nat) (h0 : I m σ) (hr : ∀ m σ, I m σ → wpA P b (Ex.then (fun σ' => ∃ m', m' < m ∧ I m' σ') Q) σ) : LoopA (wpA P b) Q σ := ⟨I, m, ⟨σ, .refl σ, h0⟩, hr⟩
theorem shift {b : (Ex → St → Prop) → St → Prop} {Q : Ex → St → Prop} {σ σ' : St} (hs : Sub σ σ') (h : LoopA b Q σ') : LoopA b Q σ := by
  obtain ⟨I, m, ⟨σ1, h1, h2⟩, h3⟩ := h
  exact ⟨I, m, ⟨σ1, hs.trans h1, h2⟩, h3⟩
end
theorem only_gen {h : Hp} {L : List Nat} {l : Nat} : (h.only L).gen l = if L.contains l then h.gen l else 0 := rfl
theorem only_blk {h : Hp} {L : List Nat} {l : Nat} : (h.only L).blk l = if L.contains l then h.blk l else .dead := rfl
theorem eff_none {σ : St} {v : TV AC} {ws : List (Nat × Nat × LB)} : σ.eff none v ws = ⟨σ.slot, σ.h.app ws⟩ := rfl
theorem eff_some {σ : St} {t : Nat} {v : TV AC} {ws : List (Nat × Nat × LB)} : σ.eff (some t) v ws = ⟨upd σ.slot t v, σ.h.app ws⟩ := rfl
theorem ev_t {σ : St} {k : Nat} : σ.ev (.t k) = σ.slot k := rfl
theorem ev_k {σ : St} {x : TV AC} : σ.ev (.k x) = x := rfl
theorem app_nil {h : Hp} : h.app [] = h := rfl
theorem app_cons {h : Hp} {l g : Nat} {b : LB} {ws : List (Nat × Nat × LB)} : h.app ((l, g, b) :: ws) = (h.set l g b).app ws := rfl
theorem set_gen {h : Hp} {l g k : Nat} {b : LB} : (h.set l g b).gen k = if k = l then g else h.gen k := rfl
theorem set_blk {h : Hp} {l g k : Nat} {b : LB} : (h.set l g b).blk k = if k = l then b else h.blk k := rfl
theorem upd_ap {α : Type} {f : Nat → α} {k i : Nat} {v : α} : upd f k v i = if i = k then v else f i := rfl
theorem view_eq {h : Hp} {l : Nat} : h.view l = (h.blk l).view := rfl
theorem init_slot {args : List (TV SC)} {i : Nat} : (St.init args).slot i = match args[i]? with
  | some x => x.lift
  | none => .no := rfl
theorem init_gen {args : List (TV SC)} {l : Nat} : (St.init args).h.gen l = 0 := rfl
theorem init_blk {args : List (TV SC)} {l : Nat} : (St.init args).h.blk l = .dead := rfl
end Go.Proofs.YtcbfhpnmhhnjpaaGreat

