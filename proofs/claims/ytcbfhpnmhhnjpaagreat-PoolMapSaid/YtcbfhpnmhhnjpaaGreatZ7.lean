import Derived.Test.YtcbfhpnmhhnjpaaGreatZ6
import Derived.Orders
import Derived.Scope
set_option linter.unusedVariables false
set_option linter.unusedSimpArgs false
namespace Go.Proofs.YtcbfhpnmhhnjpaaGreat
open Go.RowKit
def One (T : (TV AC → List (Nat × Nat × LB) → Prop) → Prop) : Prop := ∀ K, T K → ∃ v ws, K v ws ∧ T (fun v' ws' => v' = v ∧ ws' = ws)
theorem One.pure (v : TV AC) (ws : List (Nat × Nat × LB)) : One (fun K => K v ws) := fun K h => ⟨v, ws, h, rfl, rfl⟩
theorem One.and {c : Prop} {T : (TV AC → List (Nat × Nat × LB) → Prop) → Prop} (h : One T) : One (fun K => c ∧ T K) := fun K ⟨h1, h2⟩ => by
  obtain ⟨v, ws, h3, h4⟩ := h K h2
  exact ⟨v, ws, h3, h1, h4⟩
theorem One.ex {ι : Sort _} {T : ι → (TV AC → List (Nat × Nat × LB) → Prop) → Prop} (h : ∀ i, One (T i)) : One (fun K => ∃ i, T i K) := fun K ⟨i, h2⟩ => by
  obtain ⟨v, ws, h3, h4⟩ := h i K h2
  exact ⟨v, ws, h3, i, h4⟩
theorem One.ite {c : Prop} [Decidable c] {T U : (TV AC → List (Nat × Nat × LB) → Prop) → Prop} (h : One T) (h' : One U) : One (fun K => if c then T K else U K) := fun K h2 => by
  by_cases hc : c
  · simp only [if_pos hc] at h2 ⊢; exact h K h2
  · simp only [if_neg hc] at h2 ⊢; exact h' K h2
theorem one_after {h : Hp} {d : Nat} {xs : List (TV AC)} {r : Res} : One (after h d xs r) := by
  intro K hs
  unfold after at hs ⊢
  split at hs
  · rename_i hf
    simp only [if_pos hf]
    cases r with
    | val r => exact ⟨_, _, hs, rfl, rfl⟩
    | row ty e els => exact hs.elim
    | trow ty e els rest more => exact hs.elim
  · rename_i hf
    simp only [if_neg hf]
    cases hc : all? TV.cells xs with
    | none => rw [hc] at hs; exact hs.elim
    | some css =>
      rw [hc] at hs
      obtain ⟨h1, h2⟩ := hs
      cases r with
      | val r => exact ⟨_, _, h2, h1, rfl, rfl⟩
      | row ty e els => exact ⟨_, _, h2, h1, rfl, rfl⟩
      | trow ty e els rest more => exact ⟨_, _, h2, h1, rfl, rfl⟩
theorem one_retX {X : XR} {l g : Nat} {ws : List (Nat × Nat × LB)} : One (retX X l g ws) := by
  intro K hs
  unfold retX at hs ⊢
  cases hr : X.ret with
  | none => rw [hr] at hs; exact ⟨_, _, hs.2, hs.1, rfl, rfl⟩
  | some r => rw [hr] at hs; exact ⟨_, _, hs, rfl, rfl⟩
theorem one_callX0 {P : Program} {f : Nat} {h : Hp} {xs : List (TV AC)} : One (CallX0 P f h xs) := by
  intro K hs
  unfold CallX0 at hs ⊢
  cases xs with
  | nil => exact hs.elim
  | cons x0 xr =>
    simp only at hs ⊢
    cases h1 : all? (argB h) xr with
    | none => rw [h1] at hs; exact hs.elim
    | some as =>
      rw [h1] at hs
      refine (One.ex fun X => One.and ?_) K hs
      intro K hs
      unfold afterX at hs ⊢
      cases hc : all? TV.cells xr with
      | none => rw [hc] at hs; exact hs.elim
      | some css =>
        rw [hc] at hs
        simp only at hs ⊢
        cases x0 with
        | c y =>
          cases y with
          | own l g => exact (one_retX.and.and.and.and.and) K hs
          | ptr l g i off => exact (one_retX.and.and.and.and) K hs
          | _ => exact hs.2.elim
        | _ => exact hs.2.elim
theorem one_callX {P : Program} {f : Nat} {h : Hp} {xs : List (TV AC)} : One (CallX P f h xs) := by
  intro K hs
  rcases hs with hs | ⟨l, g, rv, h1, h2, h3, h4⟩ | hs
  · obtain ⟨v, ws, a, b⟩ := one_callX0 K hs
    exact ⟨v, ws, a, .inl b⟩
  · cases hc : all? TV.cells xs with
    | none => rw [hc] at h4; exact h4.elim
    | some css =>
      rw [hc] at h4
      obtain ⟨a1, a2, a3, a4⟩ := h4
      exact ⟨rv, _, a4, .inr (.inl ⟨l, g, rv, h1, h2, h3, by rw [hc]; exact ⟨a1, a2, a3, rfl, rfl⟩⟩)⟩
  · unfold CallW at hs
    split at hs
    · rename_i l g i off xr
      cases h1 : all? argS xr with
      | none => rw [h1] at hs; exact hs.elim
      | some as =>
        rw [h1] at hs
        obtain ⟨X, r, gr, x, a1, a2, a3, a4, a5, a6, a7, a8, a9, a10, a11⟩ := hs
        refine ⟨_, _, a11, .inr (.inr ?_)⟩
        unfold CallW
        simp only [h1]
        exact ⟨X, r, gr, x, a1, a2, a3, a4, a5, a6, a7, a8, a9, a10, rfl, rfl⟩
    · exact hs.elim
theorem one_rd {h : Hp} {x : TV AC} {m : Nat} {T : List AC → (TV AC → List (Nat × Nat × LB) → Prop) → Prop} (hT : ∀ cs, One (T cs)) : One (fun K => rd h x m (fun cs => T cs K)) := by
  intro K hs
  simp only [rd] at hs ⊢
  split at hs
  · obtain ⟨h1, h2⟩ := hs
    obtain ⟨v, ws, h3, h4⟩ := hT _ K h2
    exact ⟨v, ws, h3, h1, h4⟩
  · rename_i l g i off
    obtain ⟨hg, hs⟩ := hs
    cases hk : h.blk l with
    | dead => rw [hk] at hs; exact hs.elim
    | box ty e els =>
      rw [hk] at hs
      obtain ⟨hi, h1, h2⟩ := hs
      obtain ⟨v, ws, h3, h4⟩ := hT _ K h2
      exact ⟨v, ws, h3, hg, hi, h1, h4⟩
    | row ty e els =>
      rw [hk] at hs
      obtain ⟨hi, h1, h2⟩ := hs
      obtain ⟨v, ws, h3, h4⟩ := hT _ K h2
      exact ⟨v, ws, h3, hg, hi, h1, h4⟩
    | ice z => rw [hk] at hs; exact hs.elim
  · exact hs.elim
theorem One.lift {K : TV AC → List (Nat × Nat × LB) → Prop} {c : Prop} {T : (TV AC → List (Nat × Nat × LB) → Prop) → Prop} (h1 : c) (h : ∃ v ws, K v ws ∧ T (fun v' ws' => v' = v ∧ ws' = ws)) : ∃ v ws, K v ws ∧ (c ∧ T (fun v' ws' => v' = v ∧ ws' = ws)) := by
  obtain ⟨v, ws, a, b⟩ := h
  exact ⟨v, ws, a, h1, b⟩
theorem aeff_one {P : Program} {o : AOp} {d : Nat} {ev : Opd → TV AC} {h : Hp} : One (aeff P o d ev h) := by
  intro K hs
  cases o with
  | mv x => exact One.pure _ _ K hs
  | pick c a b => simp only [aeff] at hs ⊢; split at hs <;> first | exact One.pure _ _ K hs | exact hs.elim
  | mk ty e els => exact One.pure _ _ K hs
  | box ty e x => simp only [aeff] at hs ⊢; split at hs <;> first | exact (One.pure _ _).and K hs | exact hs.elim
  | build z ps => simp only [aeff] at hs ⊢; split at hs <;> first | exact One.pure _ _ K hs | exact hs.elim
  | bslice ty e z l ps =>
    simp only [aeff] at hs ⊢
    split at hs
    · split at hs <;> first | exact One.pure _ _ K hs | exact hs.elim
    · exact hs.elim
  | load ag n x =>
    refine one_rd (T := fun cs K => if ag = true then K (TV.agg cs) [] else match cs with
      | [c] => K (TV.c c) []
      | _ => False) (fun cs => ?_) K hs
    refine One.ite (One.pure _ _) ?_
    intro K hs
    simp only at hs ⊢
    split at hs <;> first | exact One.pure _ _ K hs | exact hs.elim
  | store n p x =>
    simp only [aeff] at hs ⊢
    split at hs
    · obtain ⟨h1, h2, hs⟩ := hs
      split at hs
      · obtain ⟨v, ws, k1, k2⟩ := (One.ex fun _ => (One.pure _ _).and) K hs
        exact ⟨v, ws, k1, h1, h2, k2⟩
      · split at hs
        · obtain ⟨v, ws, k1, k2⟩ := (One.ex fun _ => (One.pure _ _).and.and) K hs
          exact ⟨v, ws, k1, h1, h2, k2⟩
        · exact hs.elim
      · exact hs.elim
    · exact hs.elim
  | bin bl op x y =>
    simp only [aeff] at hs ⊢
    split at hs
    · split at hs <;> first | exact ((One.pure _ _).and).and K hs | exact hs.elim
    · exact hs.elim
  | eqs neg t x y =>
    simp only [aeff] at hs ⊢
    split at hs
    · split at hs
      · exact (One.ex fun _ => (One.pure _ _).and) K hs
      · exact hs.elim
    · exact hs.elim
  | not x => simp only [aeff] at hs ⊢; split at hs <;> first | exact One.pure _ _ K hs | exact hs.elim
  | conv k x => simp only [aeff] at hs ⊢; split at hs <;> first | exact One.pure _ _ K hs | exact hs.elim
  | b2s x =>
    simp only [aeff] at hs ⊢
    split at hs
    · split at hs <;> first | exact One.pure _ _ K hs | exact hs.elim
    · exact hs.elim
  | mkSlice ty e b z l c => simp only [aeff] at hs ⊢; split at hs <;> first | exact (One.pure _ _).and.and.and.and K hs | exact hs.elim
  | sub e x lo hi =>
    simp only [aeff] at hs ⊢
    split at hs
    · split at hs <;> first | exact (One.pure _ _).and.and.and K hs | exact hs.elim
    · exact hs.elim
  | z3 x => simp only [aeff] at hs ⊢; split at hs <;> first | exact One.pure _ _ K hs | exact hs.elim
  | ssub x lo hi =>
    simp only [aeff] at hs ⊢
    split at hs
    · split at hs <;> first | exact (One.pure _ _).and.and.and K hs | exact hs.elim
    · exact hs.elim
  | fld off x =>
    simp only [aeff] at hs ⊢
    split at hs
    · exact (One.pure _ _).and K hs
    · exact (One.pure _ _).and.and K hs
    · exact hs.elim
  | idx e x y =>
    simp only [aeff] at hs ⊢
    split at hs
    · split at hs
      · exact One.and (One.and (One.ex fun _ => One.pure _ _)) K hs
      · obtain ⟨h1, hs⟩ := hs
        split at hs
        · obtain ⟨v, ws, k1, k2⟩ := (One.pure _ _).and.and.and K hs
          exact ⟨v, ws, k1, h1, k2⟩
        · obtain ⟨v, ws, k1, k2⟩ := One.and (One.and (One.ex fun _ => One.pure _ _)) K hs
          exact ⟨v, ws, k1, h1, k2⟩
        · exact hs.elim
      · exact hs.elim
    · exact hs.elim
  | aidx c e x y =>
    simp only [aeff] at hs ⊢
    split at hs
    · obtain ⟨h1, h2, hs⟩ := hs
      split at hs
      · obtain ⟨v, ws, k1, k2⟩ := (One.pure _ _).and K hs
        exact ⟨v, ws, k1, h1, h2, k2⟩
      · obtain ⟨h3, hs⟩ := hs
        split at hs
        · obtain ⟨v, ws, k1, k2⟩ := One.ite (One.pure _ _) (One.pure _ _) K hs
          exact ⟨v, ws, k1, h1, h2, h3, k2⟩
        · exact hs.elim
      · exact hs.elim
    · exact hs.elim
  | sidx x y => simp only [aeff] at hs ⊢; split at hs <;> first | exact One.and (One.ex fun _ => One.pure _ _) K hs | exact hs.elim
  | field ag off n x =>
    simp only [aeff] at hs ⊢
    split at hs
    · obtain ⟨h1, hs⟩ := hs
      cases ag with
      | true =>
        simp only [if_true] at hs ⊢
        obtain ⟨v, ws, k1, k2⟩ := One.pure _ _ K hs
        exact ⟨v, ws, k1, h1, k2⟩
      | false =>
        simp only [Bool.false_eq_true, if_false] at hs ⊢
        split at hs
        · obtain ⟨v, ws, k1, k2⟩ := One.pure _ _ K hs
          exact ⟨v, ws, k1, h1, k2⟩
        · exact hs.elim
    · exact hs.elim
  | ext i x =>
    simp only [aeff] at hs ⊢
    split at hs
    · split at hs <;> first | exact One.pure _ _ K hs | exact hs.elim
    · exact hs.elim
  | len x => simp only [aeff] at hs ⊢; split at hs <;> first | exact One.pure _ _ K hs | exact hs.elim
  | slen x => simp only [aeff] at hs ⊢; split at hs <;> first | exact One.pure _ _ K hs | exact hs.elim
  | app ty e b s x =>
    simp only [aeff] at hs ⊢
    split at hs
    · split at hs
      · exact (One.pure _ _).and.and K hs
      · obtain ⟨h1, hs⟩ := hs
        split at hs
        · obtain ⟨v, ws, k1, k2⟩ := (One.pure _ _).and.and.and.and K hs
          exact ⟨v, ws, k1, h1, k2⟩
        · exact hs.elim
      · exact hs.elim
    · exact hs.elim
  | call f args =>
    simp only [aeff] at hs ⊢
    split at hs
    · rcases hs with hs | hs
      · obtain ⟨v, ws, h1, h2⟩ := (One.ex fun r => one_after.and) K hs
        exact ⟨v, ws, h1, .inl h2⟩
      · obtain ⟨v, ws, h1, h2⟩ := one_callX K hs
        exact ⟨v, ws, h1, .inr h2⟩
    · exact one_callX K hs
  | callv f args =>
    simp only [aeff] at hs ⊢
    split at hs
    · exact One.and (One.ex fun r => one_after.and) K hs
    · exact hs.elim
  | clo f caps => simp only [aeff] at hs ⊢; split at hs <;> first | exact One.pure _ _ K hs | exact hs.elim
  | nilc x =>
    simp only [aeff] at hs ⊢
    split at hs
    · exact One.pure _ _ K hs
    · exact One.pure _ _ K hs
    · exact One.pure _ _ K hs
    · exact (One.pure _ _).and.and K hs
    · exact hs.elim
  | isnil x => simp only [aeff] at hs ⊢; split at hs <;> first | exact One.pure _ _ K hs | exact hs.elim
  | mm mx x y => simp only [aeff] at hs ⊢; split at hs <;> first | exact One.pure _ _ K hs | exact hs.elim
end Go.Proofs.YtcbfhpnmhhnjpaaGreat

namespace Go.Proofs.YtcbfhpnmhhnjpaaGreat
open Go.RowKit
structure ROp where
  dst : Option Nat
  loc : Nat
  op : AOp
  guard : Option (Nat × Bool)
  deps : List Nat
deriving Inhabited
def depsOf (o : Oper) : List Nat := (o.after.toList.filter (Region.binds .any)).map Edge.on
def compOp (P : Program) (n : Nat) (ops : Array Oper) (i : Nat) (o : Oper) : Option ROp :=
  match comp1 P o with
  | none => none
  | some ao => if o.dst.all (fun t => decide (t < n)) = true then match o.guard with
      | none => some ⟨o.dst, o.dst.getD (n + i), ao, none, depsOf o⟩
      | some (j, want) => match (ops[j]?).bind (·.dst) with
        | some t => some ⟨o.dst, o.dst.getD (n + i), ao, some (t, want), depsOf o⟩
        | none => none
    else none
def compOps (P : Program) (n : Nat) (ops : Array Oper) : Option (List ROp) := all? (fun p : Oper × Nat => compOp P n ops p.2 p.1) ops.toList.zipIdx
def St.eff (σ : St) (dst : Option Nat) (v : TV AC) (ws : List (Nat × Nat × LB)) : St :=
  ⟨match dst with
    | some t => upd σ.slot t v
    | none => σ.slot, σ.h.app ws⟩
def grd (g : Option (Nat × Bool)) (σ : St) (yes no : Prop) : Prop :=
  match g with
  | none => yes
  | some (t, want) => match σ.slot t with
    | .c (.s (.pv (.bool b))) => (b = want → yes) ∧ (b = (!want) → no)
    | .tup [] => no
    | _ => False
def wseq (P : Program) : List ROp → St → (St → Prop) → Prop
  | [], σ, K => K σ
  | q :: qs, σ, K => grd q.guard σ (aeff P q.op q.loc σ.ev σ.h fun v ws => wseq P qs (σ.eff q.dst v ws) K) (wseq P qs (σ.eff q.dst (.tup []) []) K)
section
variable {P : Program} {O : Nat → Prop} {w0 : Base} {n : Nat} {σ : St} {β : Env} {a : Act} {w : World}
theorem Rel.put (r : Rel O w0 n σ β a w) {dst : Option Nat} {v : TV AC} {u : Value} (hd : dst.all (fun t => decide (t < n)) = true) (hv : RepT (RepA σ.h β w (Mine O σ.h β)) v u) : Rel O w0 n (σ.eff dst v []) β (a.put dst u) w := by
  cases dst with
  | none => exact r
  | some t =>
    have ht : t < n := by simpa using hd
    refine ⟨r.toRelH, r.hd, by have := r.hn; simpa [Act.put] using this, fun k => ?_⟩
    show RepT _ (upd σ.slot t v k) ((a.tmps.setIfInBounds t u).getD k undef)
    have hn := r.hn
    by_cases e : k = t
    · subst e
      rw [upd_at]
      have : (a.tmps.setIfInBounds k u).getD k undef = u := by simp [Array.getD, hn, ht]
      rw [this]
      exact hv
    · rw [upd_ne _ _ e]
      have : (a.tmps.setIfInBounds t u).getD k undef = a.tmps.getD k undef := by
        have e2 : ¬ t = k := fun h => e h.symm
        simp [Array.getD_eq_getD_getElem?, e2]
      rw [this]
      exact r.slots k
theorem done_put {v : TV AC} {ws : List (Nat × Nat × LB)} {u : Value} {w' : World} {dst : Option Nat} (hd : dst.all (fun t => decide (t < n)) = true) (h : Done O w0 n σ a v ws u w') : ∃ β', Rel O w0 n (σ.eff dst v ws) β' (a.put dst u) w' := by
  obtain ⟨β', r, hv⟩ := h
  exact ⟨β', r.put hd hv⟩
theorem Rel.skip (r : Rel O w0 n σ β a w) {dst : Option Nat} (hd : dst.all (fun t => decide (t < n)) = true) : Rel O w0 n (σ.eff dst (.tup []) []) β (a.put dst undef) w := r.put hd ⟨[], rfl, rfl, fun i h => by simp at h⟩
theorem Rel.guardS (r : Rel O w0 n σ β a w) {ops : Array Oper} {o : Oper} {j t : Nat} {want : Bool} (hg : o.guard = some (j, want)) (hj : (ops[j]?).bind (·.dst) = some t) (hs : σ.slot t = .tup []) : Region.wanted o (yielded ops a.tmps) = false := by
  have h1 := r.slots t
  rw [hs] at h1
  obtain ⟨us, h2, h3, _⟩ := h1
  have hu : us = [] := List.length_eq_zero_iff.1 h3.symm
  subst hu
  have h4 : yielded ops a.tmps j = none := by
    unfold yielded
    rw [hj]
    rw [Array.getD_eq_getD_getElem?] at h2
    cases h : a.tmps[t]? with
    | none => simp [h]
    | some u =>
      rw [h] at h2
      simp only [Option.getD_some] at h2
      subst h2
      simp [h]
  unfold Region.wanted
  rw [hg]
  simp only [h4]
  rfl
theorem Rel.guard (r : Rel O w0 n σ β a w) {ops : Array Oper} {o : Oper} {j t : Nat} {want b : Bool} (hg : o.guard = some (j, want)) (hj : (ops[j]?).bind (·.dst) = some t) (hs : σ.slot t = .c (.s (.pv (.bool b)))) : Region.wanted o (yielded ops a.tmps) = (b == want) := by
  have h1 := r.slots t
  rw [hs] at h1
  have h2 := h1.pvInv
  have h3 : a.tmps[t]? = some (.bool b) := by
    rw [Array.getD_eq_getD_getElem?] at h2
    cases h : a.tmps[t]? with
    | none => rw [h] at h2; simp [undef] at h2
    | some u => rw [h] at h2; simpa using h2
  have h4 : yielded ops a.tmps j = some b := by
    unfold yielded
    rw [hj]
    simp [h3]
  unfold Region.wanted
  rw [hg]
  simp only [h4]
  cases b <;> cases want <;> rfl
theorem compOp_dst {ops : Array Oper} {i : Nat} {o : Oper} {q : ROp} (h : compOp P n ops i o = some q) : q.dst = o.dst ∧ comp1 P o = some q.op ∧ o.dst.all (fun t => decide (t < n)) = true ∧ q.deps = depsOf o ∧
    ((o.guard = none ∧ q.guard = none) ∨ ∃ j t want, o.guard = some (j, want) ∧ (ops[j]?).bind (·.dst) = some t ∧ q.guard = some (t, want)) := by
  unfold compOp at h
  split at h
  · simp at h
  · rename_i ao h1
    split at h
    · rename_i h2
      split at h
      · rename_i h3
        simp only [Option.some.injEq] at h
        subst h
        exact ⟨rfl, h1, h2, rfl, .inl ⟨h3, rfl⟩⟩
      · rename_i j want h3
        split at h
        · rename_i t h4
          simp only [Option.some.injEq] at h
          subst h
          exact ⟨rfl, h1, h2, rfl, .inr ⟨j, t, want, h3, h4, rfl⟩⟩
        · simp at h
    · simp at h
theorem all?_get {α γ : Type} {f : α → Option γ} : ∀ {xs : List α} {ys : List γ}, all? f xs = some ys → ys.length = xs.length ∧ ∀ (i : Nat) (x : α), xs[i]? = some x → ∃ y, ys[i]? = some y ∧ f x = some y := by
  intro xs
  induction xs with
  | nil => intro ys h; rw [all?_nil h]; exact ⟨rfl, fun i x hx => by simp at hx⟩
  | cons x xs ih =>
    intro ys h
    obtain ⟨y, ys', h1, h2, rfl⟩ := all?_cons h
    obtain ⟨h3, h4⟩ := ih h2
    refine ⟨by simp [h3], fun i z hz => ?_⟩
    cases i with
    | zero => simp at hz; subst hz; exact ⟨y, rfl, h1⟩
    | succ i => simpa using h4 i z (by simpa using hz)
theorem compOps_get {ops : Array Oper} {qs : List ROp} (h : compOps P n ops = some qs) : qs.length = ops.size ∧ ∀ i o, ops[i]? = some o → ∃ q, qs[i]? = some q ∧ compOp P n ops i o = some q := by
  obtain ⟨h1, h2⟩ := all?_get h
  refine ⟨by simpa using h1, fun i o ho => ?_⟩
  have : ops.toList.zipIdx[i]? = some (o, i) := by
    rw [List.getElem?_zipIdx]
    simp [ho]
  obtain ⟨q, h3, h4⟩ := h2 i _ this
  exact ⟨q, h3, h4⟩
theorem step_op {ops : Array Oper} {Q : Exit → Act → World → Prop} {K : Act → World → Prop} {i : Nat} {o : Oper} {q : ROp} (ho : ops[i]? = some o) (hq : compOp P n ops i o = some q) (r : Rel O w0 n σ β a w) {v : TV AC} {ws : List (Nat × Nat × LB)}
    (hs : (grd q.guard σ True False ∧ aeff P q.op q.loc σ.ev σ.h (fun v' ws' => v' = v ∧ ws' = ws)) ∨ (grd q.guard σ False True ∧ v = .tup [] ∧ ws = []))
    (hK : ∀ a' w' β', Rel O w0 n (σ.eff q.dst v ws) β' a' w' → K a' w') : wpOp P ops Q i K a w := by
  obtain ⟨h1, h2, h3, _, h5⟩ := compOp_dst hq
  unfold wpOp
  rw [ho]
  simp only
  rcases hs with ⟨hg, he⟩ | ⟨hg, rfl, rfl⟩
  · have hw : Region.wanted o (yielded ops a.tmps) = true := by
      rcases h5 with ⟨h6, _⟩ | ⟨j, t, want, h6, h7, h8⟩
      · unfold Region.wanted; rw [h6]
      · rw [h8] at hg
        unfold grd at hg
        simp only at hg
        split at hg
        · rename_i b h9
          rw [r.guard h6 h7 h9]
          cases b <;> cases want <;> simp at hg ⊢
        · exact hg.elim
        · exact hg.elim
    rw [if_pos hw]
    refine .inl (comp1_ok h2 r he _ _ (fun u w' hd => ?_))
    obtain ⟨β', hr⟩ := done_put h3 hd
    rw [← h1] at hr ⊢
    exact hK _ _ _ hr
  · have hw : Region.wanted o (yielded ops a.tmps) = false := by
      rcases h5 with ⟨_, h6⟩ | ⟨j, t, want, h6, h7, h8⟩
      · rw [h6] at hg; exact hg.elim
      · rw [h8] at hg
        unfold grd at hg
        simp only at hg
        split at hg
        · rename_i b h9
          rw [r.guard h6 h7 h9]
          cases b <;> cases want <;> simp at hg ⊢
        · rename_i h9
          exact r.guardS h6 h7 h9
        · exact hg.elim
    rw [if_neg (by rw [hw]; simp)]
    have := r.skip h3
    rw [← h1] at this ⊢
    exact hK _ _ _ this
theorem grd_cases {g : Option (Nat × Bool)} {yes no : Prop} (h : grd g σ yes no) : (grd g σ True False ∧ yes) ∨ (grd g σ False True ∧ no) := by
  unfold grd at h ⊢
  cases g with
  | none => exact .inl ⟨trivial, h⟩
  | some p =>
    obtain ⟨t, want⟩ := p
    simp only at h ⊢
    split at h
    · rename_i b hb
      cases b <;> cases want <;> simp at h ⊢ <;> first | exact h | exact .inl h | exact .inr h
    · exact .inr ⟨trivial, h⟩
    · exact h.elim
theorem wseq_ok {ops : Array Oper} {qs : List ROp} (hc : compOps P n ops = some qs) {Q : Exit → Act → World → Prop} {K : St → Prop} (hK : ∀ σ β a w, K σ → Rel O w0 n σ β a w → Q .normal a w) :
    ∀ (k i : Nat), i + k = ops.size → ∀ (σ : St) (β : Env) (a : Act) (w : World), Rel O w0 n σ β a w → wseq P (qs.drop i) σ K → wpOps P ops Q (List.range' i k) a w := by
  obtain ⟨hlen, hget⟩ := compOps_get hc
  intro k
  induction k with
  | zero =>
    intro i hi σ β a w r hs
    rw [List.drop_of_length_le (by omega)] at hs
    exact hK σ β a w hs r
  | succ k ih =>
    intro i hi σ β a w r hs
    have hio : i < ops.size := by omega
    obtain ⟨q, h1, h2⟩ := hget i ops[i] (Array.getElem?_eq_getElem hio)
    obtain ⟨h3, h4⟩ := List.getElem?_eq_some_iff.1 h1
    rw [List.drop_eq_getElem_cons h3, h4] at hs
    rw [List.range'_succ, wpOps_cons]
    simp only [wseq] at hs
    rcases grd_cases hs with ⟨hg, hy⟩ | ⟨hg, hno⟩
    · obtain ⟨v, ws, h5, h6⟩ := aeff_one _ hy
      exact step_op (Array.getElem?_eq_getElem hio) h2 r (.inl ⟨hg, h6⟩) (fun a' w' β' hr => ih (i + 1) (by omega) _ β' a' w' hr h5)
    · exact step_op (Array.getElem?_eq_getElem hio) h2 r (.inr ⟨hg, rfl, rfl⟩) (fun a' w' β' hr => ih (i + 1) (by omega) _ β' a' w' hr hno)
theorem seq_ok {id : Nat} {ops : Array Oper} {qs : List ROp} (hc : compOps P n ops = some qs) {Q : Exit → Act → World → Prop} {K : St → Prop} (hK : ∀ σ β a w, K σ → Rel O w0 n σ β a w → Q .normal a w)
    (r : Rel O w0 n σ β a w) (hs : wseq P qs σ K) : (Code.region id ops false).wp P Q a w := by
  refine wp_region ?_
  rw [List.range_eq_range']
  exact wseq_ok hc hK ops.size 0 (by omega) σ β a w r (by simpa using hs)
end
end Go.Proofs.YtcbfhpnmhhnjpaaGreat

namespace Go.Proofs.YtcbfhpnmhhnjpaaGreat
open Go.RowKit
def Hp.only (h : Hp) (L : List Nat) : Hp := ⟨fun l => if L.contains l then h.gen l else 0, fun l => if L.contains l then h.blk l else .dead⟩
theorem Hp.only_le (h : Hp) (L : List Nat) : (h.only L).le h := by
  intro l
  by_cases e : L.contains l = true
  · right; exact ⟨by show h.blk l = if _ then _ else _; rw [if_pos e], by show h.gen l = if _ then _ else _; rw [if_pos e]⟩
  · left; show (if _ then _ else _) = _; rw [if_neg e]
theorem Hp.only_gen (h : Hp) {L : List Nat} {d : Nat} (hd : d ∈ L) : h.gen d = (h.only L).gen d := by
  have : L.contains d = true := by simpa using hd
  show h.gen d = if _ then _ else _
  rw [if_pos this]
theorem Hp.only_congr {h h' : Hp} {L : List Nat} (hl : ∀ l ∈ L, h'.gen l = h.gen l ∧ h'.blk l = h.blk l) : h'.only L = h.only L := by
  unfold Hp.only
  congr 1 <;> funext l
  · by_cases e : L.contains l = true
    · rw [if_pos e, if_pos e]; exact (hl l (by simpa using e)).1
    · rw [if_neg e, if_neg e]
  · by_cases e : L.contains l = true
    · rw [if_pos e, if_pos e]; exact (hl l (by simpa using e)).2
    · rw [if_neg e, if_neg e]
def own1 : AC → List Nat
  | .own l _ => [l]
  | _ => []
def locs0 : AC → List Nat
  | .own l _ | .ptr l _ _ _ => [l]
  | _ => []
def boxLocs (h : Hp) (l : Nat) : List Nat := l :: match h.blk l with
  | .box _ _ els => els.flatten.flatMap own1
  | _ => []
def locs1 (h : Hp) : AC → List Nat
  | .own l _ => [l]
  | .ptr l _ _ _ => boxLocs h l
  | .clo _ ls => ls.flatMap fun p => boxLocs h p.1
  | _ => []
def TV.all (f : AC → List Nat) : TV AC → List Nat
  | .c x => f x
  | .agg xs => xs.flatMap f
  | _ => []
def Opd.slots : Opd → List Nat
  | .t i => [i]
  | _ => []
def ROp.locs (q : ROp) (σ : St) : List Nat :=
  q.loc :: match q.op with
    | .call _ args => args.flatMap fun x => (σ.ev x).all (locs1 σ.h)
    | .callv f args => args.flatMap fun x => (σ.ev x).all (locs1 σ.h)
    | .mv _ => []
    | o => o.opds.flatMap fun x => (σ.ev x).all locs0
def ROp.slots (q : ROp) : List Nat := q.op.opds.flatMap Opd.slots ++ match q.guard with
  | some (t, _) => [t]
  | none => []
def rds (q : ROp) (L : List Nat) : List Nat := q.slots.map (2 * ·) ++ L.map (2 * · + 1)
def wrs (dst : Option Nat) (ws : List (Nat × Nat × LB)) : List Nat := (match dst with
  | some t => [2 * t]
  | none => []) ++ ws.map (fun x => 2 * x.1 + 1)
abbrev Fp := List Nat × List Nat
def meets (a b : List Nat) : Bool := a.any fun x => b.contains x
def conf (e f : Fp) : Bool := meets e.2 f.1 || meets e.2 f.2 || meets e.1 f.2
def maskOf (acc : List Nat) : List Nat → Nat
  | [] => 0
  | d :: ds => maskOf acc ds ||| 2 ^ d ||| acc.getD d 0
def masks : List (List Nat) → List Nat → List Nat
  | [], acc => acc
  | ds :: rest, acc => masks rest (acc ++ [maskOf acc ds])
def chk (deps : List (List Nat)) (fps : List Fp) : Bool :=
  let M := masks deps []
  ((List.range deps.length).all fun j => (deps.getD j []).all fun d => decide (d < j)) &&
  (List.range fps.length).all fun j => (List.range j).all fun i => !conf (fps.getD i ([], [])) (fps.getD j ([], [])) || (M.getD j 0).testBit i
def wdraw (P : Program) : List ROp → St → List Fp → (St → List Fp → Prop) → Prop
  | [], σ, fps, F => F σ fps
  | q :: qs, σ, fps, F => grd q.guard σ
      (aeff P q.op q.loc σ.ev (σ.h.only (q.locs σ)) fun v ws => wdraw P qs (σ.eff q.dst v ws) (fps ++ [(rds q (q.locs σ), wrs q.dst ws)]) F)
      (wdraw P qs (σ.eff q.dst (.tup []) []) (fps ++ [(rds q [], wrs q.dst [])]) F)
structure Ent where
  dst : Option Nat
  v : TV AC
  ws : List (Nat × Nat × LB)
  rd : List Nat
def Ent.fp (e : Ent) : Fp := (e.rd, wrs e.dst e.ws)
def St.ent (σ : St) (e : Ent) : St := σ.eff e.dst e.v e.ws
def runE (es : List Ent) (σ : St) : St := es.foldl St.ent σ
def AStep (P : Program) (q : ROp) (σ : St) (e : Ent) : Prop :=
  e.dst = q.dst ∧ (∀ t ∈ q.slots, 2 * t ∈ e.rd) ∧
    ((grd q.guard σ True False ∧ ∃ L, q.loc ∈ L ∧ (∀ l ∈ L, 2 * l + 1 ∈ e.rd) ∧ aeff P q.op q.loc σ.ev (σ.h.only L) (fun v' ws' => v' = e.v ∧ ws' = e.ws)) ∨ (grd q.guard σ False True ∧ e.v = .tup [] ∧ e.ws = []))
section
variable {P : Program} {O : Nat → Prop} {w0 : Base} {n : Nat} {β : Env} {a : Act} {w : World}
theorem mem_rds_slot {q : ROp} {L : List Nat} {t : Nat} (h : t ∈ q.slots) : 2 * t ∈ rds q L := List.mem_append_left _ (List.mem_map_of_mem (f := (2 * ·)) h)
theorem mem_rds_loc {q : ROp} {L : List Nat} {l : Nat} (h : l ∈ L) : 2 * l + 1 ∈ rds q L := List.mem_append_right _ (List.mem_map_of_mem (f := (2 * · + 1)) h)
theorem wdraw_ex {F : St → List Fp → Prop} : ∀ (qs : List ROp) (σ : St) (fps : List Fp), wdraw P qs σ fps F →
    ∃ es : List Ent, es.length = qs.length ∧ (∀ i (h : i < qs.length) (h' : i < es.length), AStep P qs[i] (runE (es.take i) σ) es[i]) ∧ F (runE es σ) (fps ++ es.map Ent.fp) := by
  intro qs
  induction qs with
  | nil => intro σ fps h; exact ⟨[], rfl, fun i h => by simp at h, by simp only [wdraw] at h; simpa [runE] using h⟩
  | cons q qs ih =>
    intro σ fps h
    simp only [wdraw] at h
    have fin : ∀ (e : Ent), AStep P q σ e → wdraw P qs (σ.ent e) (fps ++ [e.fp]) F → ∃ es : List Ent, es.length = (q :: qs).length ∧ (∀ i (h : i < (q :: qs).length) (h' : i < es.length), AStep P (q :: qs)[i] (runE (es.take i) σ) es[i]) ∧ F (runE es σ) (fps ++ es.map Ent.fp) := by
      intro e h1 h2
      obtain ⟨es, h3, h4, h5⟩ := ih _ _ h2
      refine ⟨e :: es, by simp [h3], fun i a b => ?_, ?_⟩
      · cases i with
        | zero => exact h1
        | succ i => exact h4 i (by simpa using a) (by simpa using b)
      · simpa [runE] using h5
    rcases grd_cases h with ⟨hg, hy⟩ | ⟨hg, hno⟩
    · obtain ⟨v, ws, h1, h2⟩ := aeff_one _ hy
      exact fin ⟨q.dst, v, ws, rds q (q.locs σ)⟩ ⟨rfl, fun t ht => mem_rds_slot ht, .inl ⟨hg, _, List.mem_cons_self, fun l hl => mem_rds_loc hl, h2⟩⟩ h1
    · exact fin ⟨q.dst, .tup [], [], rds q []⟩ ⟨rfl, fun t ht => mem_rds_slot ht, .inr ⟨hg, rfl, rfl⟩⟩ hno
def runSel (sel : Nat → Bool) : List Ent → Nat → St → St
  | [], _, σ => σ
  | e :: es, i, σ => runSel sel es (i + 1) (bif sel i then σ.ent e else σ)
theorem runSel_congr {s s' : Nat → Bool} : ∀ (es : List Ent) (i : Nat) (σ : St), (∀ j, i ≤ j → j < i + es.length → s j = s' j) → runSel s es i σ = runSel s' es i σ := by
  intro es
  induction es with
  | nil => intro i σ _; rfl
  | cons e es ih =>
    intro i σ h
    simp only [runSel]
    rw [h i (Nat.le_refl _) (by simp), ih _ _ (fun j h1 h2 => h j (by omega) (by simp; omega))]
theorem runSel_take : ∀ (es : List Ent) (i k : Nat) (σ : St), runSel (fun j => decide (j < i + k)) es i σ = runE (es.take k) σ := by
  intro es
  induction es with
  | nil => intro i k σ; simp [runSel, runE]
  | cons e es ih =>
    intro i k σ
    cases k with
    | zero =>
      simp only [runSel, List.take_zero]
      have h0 : decide (i < i + 0) = false := by simp
      rw [h0]
      have : ∀ (es : List Ent) (m : Nat) (σ : St), i + 0 ≤ m → runSel (fun j => decide (j < i + 0)) es m σ = σ := by
        intro es
        induction es with
        | nil => intro m σ _; rfl
        | cons e es ih2 =>
          intro m σ hm
          simp only [runSel]
          have : decide (m < i + 0) = false := by simp; omega
          rw [this]
          exact ih2 _ _ (by omega)
      exact this es (i + 1) σ (by omega)
    | succ k =>
      simp only [runSel, List.take_succ_cons]
      have h0 : decide (i < i + (k + 1)) = true := by simp
      rw [h0]
      have := ih (i + 1) k (σ.ent e)
      rw [show i + 1 + k = i + (k + 1) by omega] at this
      simpa [runE] using this
theorem app_other (ws : List (Nat × Nat × LB)) : ∀ (h : Hp) (l : Nat), (∀ x ∈ ws, x.1 ≠ l) → (h.app ws).gen l = h.gen l ∧ (h.app ws).blk l = h.blk l := by
  induction ws with
  | nil => intro h l _; exact ⟨rfl, rfl⟩
  | cons x ws ih =>
    intro h l hl
    rw [Hp.app_cons]
    obtain ⟨h1, h2⟩ := ih (h.set x.1 x.2.1 x.2.2) l (fun y hy => hl y (by simp [hy]))
    have hne : l ≠ x.1 := fun e => hl x (by simp) e.symm
    exact ⟨h1.trans (Hp.gen_ne _ _ _ hne), h2.trans (upd_ne _ _ hne)⟩
theorem app_same (ws : List (Nat × Nat × LB)) : ∀ (h h' : Hp) (l : Nat), h.gen l = h'.gen l → h.blk l = h'.blk l → (h.app ws).gen l = (h'.app ws).gen l ∧ (h.app ws).blk l = (h'.app ws).blk l := by
  induction ws with
  | nil => intro h h' l e1 e2; exact ⟨e1, e2⟩
  | cons x ws ih =>
    intro h h' l e1 e2
    rw [Hp.app_cons, Hp.app_cons]
    refine ih _ _ l ?_ ?_
    · by_cases e : l = x.1
      · subst e; rw [Hp.gen_at, Hp.gen_at]
      · rw [Hp.gen_ne _ _ _ e, Hp.gen_ne _ _ _ e]; exact e1
    · by_cases e : l = x.1
      · subst e; show upd _ _ _ _ = upd _ _ _ _; rw [upd_at, upd_at]
      · show upd _ _ _ _ = upd _ _ _ _; rw [upd_ne _ _ e, upd_ne _ _ e]; exact e2
theorem mem_wrs_or {e : Ent} {x : Nat} (h : x ∈ wrs e.dst e.ws) : (∃ t, x = 2 * t ∧ e.dst = some t) ∨ ∃ l, x = 2 * l + 1 ∧ ∃ y ∈ e.ws, y.1 = l := by
  unfold wrs at h
  rcases List.mem_append.1 h with h | h
  · cases hd : e.dst with
    | none => rw [hd] at h; simp at h
    | some t => rw [hd] at h; simp at h; exact .inl ⟨t, h, rfl⟩
  · obtain ⟨y, hy, rfl⟩ := List.mem_map.1 h
    exact .inr ⟨y.1, rfl, y, hy, rfl⟩
theorem ent_slot_other {σ : St} {e : Ent} {t : Nat} (h : 2 * t ∉ wrs e.dst e.ws) : (σ.ent e).slot t = σ.slot t := by
  unfold St.ent St.eff
  cases hd : e.dst with
  | none => rfl
  | some k =>
    simp only
    refine upd_ne _ _ (fun hk => ?_)
    subst hk
    exact h (by rw [hd]; simp [wrs])
theorem ent_loc_other {σ : St} {e : Ent} {l : Nat} (h : 2 * l + 1 ∉ wrs e.dst e.ws) : (σ.ent e).h.gen l = σ.h.gen l ∧ (σ.ent e).h.blk l = σ.h.blk l := by
  refine app_other e.ws σ.h l (fun x hx hk => h ?_)
  subst hk
  exact List.mem_append_right _ (List.mem_map_of_mem (f := fun x : Nat × Nat × LB => 2 * x.1 + 1) hx)
theorem runSel_slot {s s' : Nat → Bool} {t : Nat} : ∀ (es : List Ent) (i : Nat) (σ σ' : St), σ.slot t = σ'.slot t → (∀ j (h : j < es.length), 2 * t ∈ wrs es[j].dst es[j].ws → s (i + j) = s' (i + j)) → (runSel s es i σ).slot t = (runSel s' es i σ').slot t := by
  intro es
  induction es with
  | nil => intro i σ σ' h _; exact h
  | cons e es ih =>
    intro i σ σ' h hj
    simp only [runSel]
    refine ih (i + 1) _ _ ?_ (fun j a b => by have := hj (j + 1) (by simpa using a) (by simpa using b); rw [show i + 1 + j = i + (j + 1) by omega]; exact this)
    by_cases hw : 2 * t ∈ wrs e.dst e.ws
    · have h0 := hj 0 (by simp) hw
      rw [Nat.add_zero] at h0
      rw [h0]
      cases s' i
      case false => exact h
      case true =>
        show (σ.ent e).slot t = (σ'.ent e).slot t
        unfold St.ent St.eff
        cases hd : e.dst with
        | none => rcases mem_wrs_or hw with ⟨t', h1, h2⟩ | ⟨l, h1, _⟩
                  · rw [hd] at h2; simp at h2
                  · omega
        | some k =>
          have hk : k = t := by
            rcases mem_wrs_or hw with ⟨t', h1, h2⟩ | ⟨l, h1, _⟩
            · rw [hd] at h2; simp at h2; omega
            · omega
          subst hk
          simp only
          rw [upd_at, upd_at]
    · have e1 : ∀ (b : Bool) (τ : St), (bif b then τ.ent e else τ).slot t = τ.slot t := by
        intro b τ
        cases b
        · rfl
        · exact ent_slot_other hw
      rw [e1, e1]; exact h
theorem runSel_loc {s s' : Nat → Bool} {l : Nat} : ∀ (es : List Ent) (i : Nat) (σ σ' : St), σ.h.gen l = σ'.h.gen l ∧ σ.h.blk l = σ'.h.blk l → (∀ j (h : j < es.length), 2 * l + 1 ∈ wrs es[j].dst es[j].ws → s (i + j) = s' (i + j)) →
    (runSel s es i σ).h.gen l = (runSel s' es i σ').h.gen l ∧ (runSel s es i σ).h.blk l = (runSel s' es i σ').h.blk l := by
  intro es
  induction es with
  | nil => intro i σ σ' h _; exact h
  | cons e es ih =>
    intro i σ σ' h hj
    simp only [runSel]
    refine ih (i + 1) _ _ ?_ (fun j a b => by have := hj (j + 1) (by simpa using a) (by simpa using b); rw [show i + 1 + j = i + (j + 1) by omega]; exact this)
    by_cases hw : 2 * l + 1 ∈ wrs e.dst e.ws
    · have h0 := hj 0 (by simp) hw
      rw [Nat.add_zero] at h0
      rw [h0]
      cases s' i
      case false => exact h
      case true => exact app_same e.ws _ _ l h.1 h.2
    · have e1 : ∀ (b : Bool) (τ : St), (bif b then τ.ent e else τ).h.gen l = τ.h.gen l ∧ (bif b then τ.ent e else τ).h.blk l = τ.h.blk l := by
        intro b τ
        cases b
        · exact ⟨rfl, rfl⟩
        · exact ent_loc_other hw
      rw [(e1 _ _).1, (e1 _ _).2, (e1 _ _).1, (e1 _ _).2]; exact h
theorem st_ext {σ σ' : St} (h1 : ∀ t, σ.slot t = σ'.slot t) (h2 : ∀ l, σ.h.gen l = σ'.h.gen l ∧ σ.h.blk l = σ'.h.blk l) : σ = σ' := by
  obtain ⟨s, g, b⟩ := σ
  obtain ⟨s', g', b'⟩ := σ'
  have e1 : s = s' := funext h1
  have e2 : g = g' := funext fun l => (h2 l).1
  have e3 : b = b' := funext fun l => (h2 l).2
  subst e1; subst e2; subst e3
  rfl
theorem ent_comm {σ : St} {e f : Ent} (h : ∀ x ∈ wrs e.dst e.ws, x ∉ wrs f.dst f.ws) : (σ.ent e).ent f = (σ.ent f).ent e := by
  refine st_ext (fun t => ?_) (fun l => ?_)
  · by_cases h1 : 2 * t ∈ wrs e.dst e.ws
    · rw [ent_slot_other (h _ h1)]
      unfold St.ent St.eff
      cases hd : e.dst with
      | none => rcases mem_wrs_or h1 with ⟨t', h2, h3⟩ | ⟨l, h2, _⟩
                · rw [hd] at h3; simp at h3
                · omega
      | some k =>
        have hk : k = t := by
          rcases mem_wrs_or h1 with ⟨t', h2, h3⟩ | ⟨l, h2, _⟩
          · rw [hd] at h3; simp at h3; omega
          · omega
        subst hk
        simp only
        rw [upd_at, upd_at]
    · rw [ent_slot_other (σ := σ.ent f) h1]
      unfold St.ent St.eff
      cases hf : f.dst with
      | none =>
        show (σ.ent e).slot t = _
        rw [ent_slot_other h1]
      | some k =>
        simp only
        by_cases hk : t = k
        · subst hk; rw [upd_at, upd_at]
        · rw [upd_ne _ _ hk, upd_ne _ _ hk]
          exact ent_slot_other h1
  · by_cases h1 : 2 * l + 1 ∈ wrs e.dst e.ws
    · obtain ⟨a1, a2⟩ := ent_loc_other (σ := σ.ent e) (h _ h1)
      obtain ⟨b1, b2⟩ := ent_loc_other (σ := σ) (h _ h1)
      rw [a1, a2]
      exact app_same e.ws _ _ l b1.symm b2.symm
    · obtain ⟨a1, a2⟩ := ent_loc_other (σ := σ.ent f) h1
      obtain ⟨b1, b2⟩ := ent_loc_other (σ := σ) h1
      rw [a1, a2]
      exact app_same f.ws _ _ l b1 b2
theorem ent_push {s : Nat → Bool} {e : Ent} : ∀ (es : List Ent) (i : Nat) (σ : St), (∀ j (h : j < es.length), s (i + j) = true → ∀ x ∈ wrs e.dst e.ws, x ∉ wrs es[j].dst es[j].ws) → runSel s es i (σ.ent e) = (runSel s es i σ).ent e := by
  intro es
  induction es with
  | nil => intro i σ _; rfl
  | cons f es ih =>
    intro i σ h
    simp only [runSel]
    have tl : ∀ j (hh : j < es.length), s (i + 1 + j) = true → ∀ x ∈ wrs e.dst e.ws, x ∉ wrs es[j].dst es[j].ws := fun j a b => by
      have := h (j + 1) (by simpa using a) (by rw [show i + (j + 1) = i + 1 + j by omega]; exact b)
      simpa using this
    cases hs : s i with
    | false => exact ih (i + 1) σ tl
    | true =>
      simp only [cond_true]
      have h0 := h 0 (by simp) (by simpa using hs)
      simp only [List.getElem_cons_zero] at h0
      rw [ent_comm h0]
      exact ih (i + 1) (σ.ent f) tl
theorem runSel_add {s : Nat → Bool} : ∀ (es : List Ent) (i k : Nat) (σ : St) (hk : k < es.length), s (i + k) = false → (∀ j (h : j < es.length), k < j → s (i + j) = true → ∀ x ∈ wrs es[k].dst es[k].ws, x ∉ wrs es[j].dst es[j].ws) →
    runSel (fun j => s j || j == i + k) es i σ = (runSel s es i σ).ent es[k] := by
  intro es
  induction es with
  | nil => intro i k σ hk; simp at hk
  | cons f es ih =>
    intro i k σ hk hs h
    cases k with
    | zero =>
      simp only [runSel, Nat.add_zero] at hs ⊢
      rw [hs]
      simp only [Bool.false_or, beq_self_eq_true, cond_true, cond_false, List.getElem_cons_zero]
      rw [runSel_congr (s' := s) es (i + 1) _ (fun j h1 _ => by
        have : (j == i) = false := by simp; omega
        rw [this, Bool.or_false])]
      exact ent_push es (i + 1) σ (fun j a b => by
        have := h (j + 1) (by simpa using a) (by omega) (by rw [show i + (j + 1) = i + 1 + j by omega]; exact b)
        simpa using this)
    | succ k =>
      simp only [runSel]
      have e1 : (i == i + (k + 1)) = false := by simp
      rw [e1, Bool.or_false]
      have := ih (i + 1) k (bif s i then σ.ent f else σ) (by simpa using hk) (by rw [show i + 1 + k = i + (k + 1) by omega]; exact hs) (fun j a b c => by
        have := h (j + 1) (by simpa using a) (by omega) (by rw [show i + (j + 1) = i + 1 + j by omega]; exact c)
        simpa using this)
      rw [show i + 1 + k = i + (k + 1) by omega] at this
      simpa using this
end
end Go.Proofs.YtcbfhpnmhhnjpaaGreat

namespace Go.Proofs.YtcbfhpnmhhnjpaaGreat
open Go.RowKit
theorem maskOf_bit {acc : List Nat} {i : Nat} : ∀ {ds : List Nat}, (maskOf acc ds).testBit i = true → ∃ d ∈ ds, d = i ∨ (acc.getD d 0).testBit i = true := by
  intro ds
  induction ds with
  | nil => intro h; simp [maskOf] at h
  | cons d ds ih =>
    intro h
    simp only [maskOf, Nat.testBit_or, Bool.or_eq_true, Nat.testBit_two_pow, decide_eq_true_eq] at h
    rcases h with (h | h) | h
    · obtain ⟨e, he, h2⟩ := ih h
      exact ⟨e, by simp [he], h2⟩
    · exact ⟨d, by simp, .inl h⟩
    · exact ⟨d, by simp, .inr h⟩
theorem masks_spec : ∀ (ds : List (List Nat)) (acc : List Nat), (masks ds acc).length = acc.length + ds.length ∧ (∀ j, j < acc.length → (masks ds acc)[j]? = acc[j]?) ∧
    ∀ j (h : j < ds.length), (masks ds acc)[acc.length + j]? = some (maskOf ((masks ds acc).take (acc.length + j)) ds[j]) := by
  intro ds
  induction ds with
  | nil => intro acc; exact ⟨by simp [masks], fun j _ => rfl, fun j h => by simp at h⟩
  | cons d ds ih =>
    intro acc
    obtain ⟨h1, h2, h3⟩ := ih (acc ++ [maskOf acc d])
    simp only [List.length_append, List.length_singleton] at h1 h2 h3
    refine ⟨by simp only [masks, h1, List.length_cons]; omega, fun j hj => ?_, fun j hj => ?_⟩
    · simp only [masks]
      rw [h2 j (by omega), List.getElem?_append_left hj]
    · simp only [masks]
      cases j with
      | zero =>
        rw [Nat.add_zero, h2 acc.length (by omega)]
        simp only [List.getElem_cons_zero]
        rw [List.getElem?_append_right (Nat.le_refl _), Nat.sub_self]
        simp only [List.getElem?_cons_zero]
        congr 2
        apply List.ext_getElem?
        intro k
        rw [List.getElem?_take]
        split
        · rw [h2 k (by omega), List.getElem?_append_left (by omega)]
        · rw [List.getElem?_eq_none (by omega)]
      | succ j =>
        have := h3 j (by simpa using hj)
        rw [show acc.length + 1 + j = acc.length + (j + 1) by omega] at this
        simpa using this
theorem mask_closed {deps : List (List Nat)} {S : Nat → Prop} (hS : ∀ j, S j → ∀ d ∈ deps.getD j [], S d) : ∀ (j i : Nat), (∀ d ∈ deps.getD j [], S d) → ((masks deps []).getD j 0).testBit i = true → S i := by
  intro j
  induction j using Nat.strongRecOn with
  | _ j ih =>
    intro i hd hb
    obtain ⟨h1, _, h3⟩ := masks_spec deps []
    simp only [List.length_nil, Nat.zero_add] at h1 h3
    by_cases hj : j < deps.length
    · have h4 := h3 j hj
      rw [List.getD_eq_getElem?_getD, h4, Option.getD_some] at hb
      obtain ⟨d, hdm, h5⟩ := maskOf_bit hb
      have hdd : d ∈ deps.getD j [] := by rw [List.getD_eq_getElem?_getD, List.getElem?_eq_getElem hj]; exact hdm
      rcases h5 with rfl | h5
      · exact hd _ hdd
      · by_cases hdj : d < j
        · refine ih d hdj i (hS d (hd d hdd)) ?_
          rw [List.getD_eq_getElem?_getD, List.getElem?_take, if_pos hdj] at h5
          rw [List.getD_eq_getElem?_getD]
          exact h5
        · rw [List.getD_eq_getElem?_getD, List.getElem?_take, if_neg hdj] at h5
          simp at h5
    · rw [List.getD_eq_getElem?_getD, List.getElem?_eq_none (by omega)] at hb
      simp at hb
section
variable {P : Program} {O : Nat → Prop} {w0 : Base} {n : Nat} {β : Env} {a : Act} {w : World}
structure Fine (deps : List (List Nat)) (es : List Ent) : Prop where
  len : deps.length = es.length
  up : ∀ j, ∀ d ∈ deps.getD j [], d < j
  ord : ∀ i j (hi : i < es.length) (hj : j < es.length), i < j → conf es[i].fp es[j].fp = true → ((masks deps []).getD j 0).testBit i = true
theorem chk_fine {deps : List (List Nat)} {es : List Ent} (hl : deps.length = es.length) (h : chk deps (es.map Ent.fp) = true) : Fine deps es := by
  unfold chk at h
  simp only [Bool.and_eq_true, List.all_eq_true, List.mem_range, decide_eq_true_eq, List.length_map, Bool.or_eq_true, Bool.not_eq_true'] at h
  obtain ⟨h1, h2⟩ := h
  refine ⟨hl, fun j d hd => ?_, fun i j hi hj hij hc => ?_⟩
  · by_cases hj : j < deps.length
    · exact h1 j hj d hd
    · rw [List.getD_eq_getElem?_getD, List.getElem?_eq_none (by omega)] at hd
      simp at hd
  · have := h2 j hj i hij
    have e1 : (es.map Ent.fp).getD i ([], []) = es[i].fp := by
      rw [List.getD_eq_getElem?_getD, List.getElem?_map, List.getElem?_eq_getElem hi]; rfl
    have e2 : (es.map Ent.fp).getD j ([], []) = es[j].fp := by
      rw [List.getD_eq_getElem?_getD, List.getElem?_map, List.getElem?_eq_getElem hj]; rfl
    rw [e1, e2] at this
    rcases this with h3 | h3
    · rw [hc] at h3; simp at h3
    · exact h3
theorem AStep.same {q : ROp} {σ σ' : St} {e : Ent} (h : AStep P q σ e) (hs : ∀ t, 2 * t ∈ e.rd → σ'.slot t = σ.slot t) (hl : ∀ l, 2 * l + 1 ∈ e.rd → σ'.h.gen l = σ.h.gen l ∧ σ'.h.blk l = σ.h.blk l) : AStep P q σ' e := by
  obtain ⟨h1, h2, h3⟩ := h
  have hslot : ∀ t ∈ q.slots, σ'.slot t = σ.slot t := fun t ht => hs t (h2 t ht)
  have hg : ∀ {yes no : Prop}, grd q.guard σ' yes no = grd q.guard σ yes no := by
    intro yes no
    unfold grd
    cases hq : q.guard with
    | none => rfl
    | some p =>
      obtain ⟨t, want⟩ := p
      have : σ'.slot t = σ.slot t := hslot t (by unfold ROp.slots; rw [hq]; simp)
      simp only [this]
  refine ⟨h1, h2, ?_⟩
  rw [hg, hg]
  rcases h3 with ⟨k1, L, k2, k3, k4⟩ | k
  · refine .inl ⟨k1, L, k2, k3, ?_⟩
    have hh : σ'.h.only L = σ.h.only L := Hp.only_congr (fun l hl2 => hl l (k3 l hl2))
    rw [hh, aeff_ev (ev' := σ.ev) (fun x hx => ?_)]
    · exact k4
    · cases x with
      | k y => rfl
      | t i => exact hslot i (List.mem_append_left _ (List.mem_flatMap.2 ⟨_, hx, by simp [Opd.slots]⟩))
  · exact .inr k
def unl (n : Nat) (listed : Array Bool) : Nat := ((List.range n).filter fun i => !listed.getD i false).length
theorem unl_set {n i : Nat} {listed : Array Bool} (hi : i < n) (hs : listed.size = n) (h : listed.getD i false = false) : unl n (listed.setIfInBounds i true) + 1 ≤ unl n listed := by
  unfold unl
  have e : ∀ j, (!(listed.setIfInBounds i true).getD j false) = ((!listed.getD j false) && (j != i)) := by
    intro j
    by_cases hj : j = i
    · subst hj
      simp [Array.getD_eq_getD_getElem?, hs, hi]
    · have : (j != i) = true := by simpa using hj
      rw [this, Bool.and_true]
      simp [Array.getD_eq_getD_getElem?, show ¬ i = j from fun h => hj h.symm]
  simp only [e]
  have hmem : i ∈ (List.range n).filter fun j => !listed.getD j false := by
    rw [List.mem_filter]; exact ⟨List.mem_range.2 hi, by rw [h]; rfl⟩
  have hnd : ((List.range n).filter fun j => !listed.getD j false).Nodup := List.nodup_range.filter _
  have e2 : ((List.range n).filter fun j => (!listed.getD j false) && (j != i)) = (((List.range n).filter fun j => !listed.getD j false).erase i) := by
    rw [hnd.erase_eq_filter, List.filter_filter]
    congr 1
    funext j
    rw [Bool.and_comm]
  rw [e2, List.length_erase_of_mem hmem]
  have := List.length_pos_of_mem hmem
  omega
theorem draw_any {ops : Array Oper} {qs : List ROp} (hc : compOps P n ops = some qs) {Q : Exit → Act → World → Prop} {es : List Ent} {σ0 : St} (hle : es.length = qs.length) (hF : Fine (qs.map ROp.deps) es)
    (hst : ∀ i (h : i < qs.length) (h' : i < es.length), AStep P qs[i] (runE (es.take i) σ0) es[i]) (hQ : ∀ β a w, Rel O w0 n (runE es σ0) β a w → Q .normal a w) :
    ∀ (fuel : Nat) (listed : Array Bool) (β : Env) (a : Act) (w : World), listed.size = ops.size → unl ops.size listed ≤ fuel → (∀ j, listed.getD j false = true → ∀ d ∈ (qs.map ROp.deps).getD j [], listed.getD d false = true) →
      Rel O w0 n (runSel (fun j => listed.getD j false) es 0 σ0) β a w → wpAny P .any ops Q fuel listed a w := by
  obtain ⟨hlq, hget⟩ := compOps_get hc
  -- where all is listed the end is reached
  have fin : ∀ (listed : Array Bool) (β : Env) (a : Act) (w : World), listed.size = ops.size → (∀ j, j < ops.size → listed.getD j false = true) → Rel O w0 n (runSel (fun j => listed.getD j false) es 0 σ0) β a w → Q .normal a w := by
    intro listed β a w hs hall r
    refine hQ β a w ?_
    have : runSel (fun j => listed.getD j false) es 0 σ0 = runE es σ0 := by
      have h1 := runSel_take es 0 es.length σ0
      rw [List.take_length] at h1
      rw [← h1]
      refine runSel_congr es 0 σ0 (fun j _ hj => ?_)
      rw [hall j (by omega)]
      simp; omega
    rw [← this]; exact r
  -- where nothing is ready all is listed
  have prog : ∀ (listed : Array Bool), listed.size = ops.size → Region.ready .any ops listed = [] → ∀ j, j < ops.size → listed.getD j false = true := by
    intro listed hs hr j
    induction j using Nat.strongRecOn with
    | _ j ih =>
      intro hj
      cases hb : listed.getD j false with
      | true => rfl
      | false =>
        exfalso
        have : j ∈ Region.ready .any ops listed := by
          unfold Region.ready
          rw [List.mem_filter]
          refine ⟨List.mem_range.2 hj, ?_⟩
          have hb2 : listed.getD j true = false := by
            rw [Array.getD_eq_getD_getElem?] at hb ⊢
            rw [Array.getElem?_eq_getElem (by omega)] at hb ⊢
            simpa using hb
          rw [hb2, Array.getElem?_eq_getElem hj]
          simp only [Bool.not_false, Option.map_some, Option.getD_some, Bool.true_and]
          rw [Array.all_eq_true_iff_forall_mem]
          intro ed hed
          cases hbd : Region.binds .any ed with
          | false => rfl
          | true =>
            simp only [Bool.not_true, Bool.false_or]
            obtain ⟨q, h1, h2⟩ := hget j ops[j] (Array.getElem?_eq_getElem hj)
            obtain ⟨_, _, _, h3, _⟩ := compOp_dst h2
            have hd : ed.on ∈ (qs.map ROp.deps).getD j [] := by
              rw [List.getD_eq_getElem?_getD, List.getElem?_map, h1]
              simp only [Option.map_some, Option.getD_some, h3]
              unfold depsOf
              exact List.mem_map_of_mem (List.mem_filter.2 ⟨by simpa using hed, hbd⟩)
            have hlt := hF.up j _ hd
            exact ih _ hlt (by omega)
        rw [hr] at this
        simp at this
  intro fuel
  induction fuel with
  | zero =>
    intro listed β a w hs hu hcl r
    have hall : ∀ j, j < ops.size → listed.getD j false = true := by
      intro j hj
      cases hb : listed.getD j false with
      | true => rfl
      | false =>
        have : j ∈ (List.range ops.size).filter fun i => !listed.getD i false := by
          rw [List.mem_filter]; exact ⟨List.mem_range.2 hj, by rw [hb]; rfl⟩
        have := List.length_pos_of_mem this
        unfold unl at hu
        omega
    refine ⟨?_, fin listed β a w hs hall r⟩
    unfold Region.ready
    rw [List.filter_eq_nil_iff]
    intro j hj
    have hj2 := List.mem_range.1 hj
    have := hall j hj2
    have h3 : listed.getD j true = true := by
      rw [Array.getD_eq_getD_getElem?] at this ⊢
      rw [Array.getElem?_eq_getElem (by omega)] at this ⊢
      simpa using this
    rw [h3]; simp
  | succ fuel ih =>
    intro listed β a w hs hu hcl r
    refine ⟨fun hr => fin listed β a w hs (prog listed hs hr) r, fun i hi => ?_⟩
    unfold Region.ready at hi
    rw [List.mem_filter] at hi
    obtain ⟨hi1, hi2⟩ := hi
    have hio := List.mem_range.1 hi1
    simp only [Bool.and_eq_true, Bool.not_eq_true'] at hi2
    obtain ⟨hnl, hdeps⟩ := hi2
    have hnl2 : listed.getD i false = false := by
      rw [Array.getD_eq_getD_getElem?] at hnl ⊢
      rw [Array.getElem?_eq_getElem (by omega)] at hnl ⊢
      simpa using hnl
    obtain ⟨q, h1, h2⟩ := hget i ops[i] (Array.getElem?_eq_getElem hio)
    obtain ⟨h3, h4⟩ := List.getElem?_eq_some_iff.1 h1
    have hie : i < es.length := by omega
    obtain ⟨_, _, _, hqd, _⟩ := compOp_dst h2
    have hdi : ∀ d ∈ (qs.map ROp.deps).getD i [], listed.getD d false = true := by
      intro d hd
      rw [List.getD_eq_getElem?_getD, List.getElem?_map, h1] at hd
      simp only [Option.map_some, Option.getD_some, hqd] at hd
      unfold depsOf at hd
      obtain ⟨ed, hed, rfl⟩ := List.mem_map.1 hd
      obtain ⟨hed1, hed2⟩ := List.mem_filter.1 hed
      rw [Array.getElem?_eq_getElem hio] at hdeps
      simp only [Option.map_some, Option.getD_some, Array.all_eq_true_iff_forall_mem] at hdeps
      have := hdeps ed (by simpa using hed1)
      rw [hed2] at this
      simpa using this
    -- what is met before it, and behind it
    have before : ∀ j (hj : j < es.length), j < i → conf es[j].fp es[i].fp = true → listed.getD j false = true := by
      intro j hj hji hcf
      exact mask_closed (S := fun j => listed.getD j false = true) hcl i j hdi (hF.ord j i hj hie hji hcf)
    have behind : ∀ j (hj : j < es.length), i < j → conf es[i].fp es[j].fp = true → listed.getD j false = false := by
      intro j hj hij hcf
      cases hb : listed.getD j false with
      | false => rfl
      | true =>
        have h9 : listed.getD i false = true := mask_closed (S := fun j => listed.getD j false = true) hcl j i (hcl j hb) (hF.ord i j hie hj hij hcf)
        rw [hnl2] at h9
        simp at h9
    have sel : ∀ x, x ∈ es[i].rd → ∀ j (hj : j < es.length), x ∈ wrs es[j].dst es[j].ws → listed.getD (0 + j) false = decide (0 + j < 0 + i) := by
      intro x hx j hj hw
      rw [Nat.zero_add, Nat.zero_add]
      rcases Nat.lt_trichotomy j i with h | h | h
      · rw [before j hj h (by
          unfold conf
          have : meets es[j].fp.2 es[i].fp.1 = true := List.any_eq_true.2 ⟨x, hw, by simpa [Ent.fp] using hx⟩
          rw [this]; rfl)]
        simp [h]
      · subst h; rw [hnl2]; simp
      · rw [behind j hj h (by
          unfold conf
          have : meets es[i].fp.1 es[j].fp.2 = true := List.any_eq_true.2 ⟨x, hx, by simpa [Ent.fp] using hw⟩
          rw [this]; simp)]
        simp; omega
    have htext := hst i h3 hie
    rw [h4, ← runSel_take es 0 i σ0] at htext
    have hstep : AStep P q (runSel (fun j => listed.getD j false) es 0 σ0) es[i] := htext.same
      (fun t ht => runSel_slot es 0 σ0 σ0 rfl (fun j hj hw => sel _ ht j hj hw))
      (fun l hl => runSel_loc es 0 σ0 σ0 ⟨rfl, rfl⟩ (fun j hj hw => sel _ hl j hj hw))
    have hnext : runSel (fun j => (listed.setIfInBounds i true).getD j false) es 0 σ0 = (runSel (fun j => listed.getD j false) es 0 σ0).ent es[i] := by
      have h5 := runSel_add (s := fun j => listed.getD j false) es 0 i σ0 hie (by rw [Nat.zero_add]; exact hnl2) (fun j hj hij hsj x hx hxj => by
        rw [Nat.zero_add] at hsj
        have := behind j hj hij (by
          unfold conf
          have : meets es[i].fp.2 es[j].fp.2 = true := List.any_eq_true.2 ⟨x, hx, by simpa [Ent.fp] using hxj⟩
          rw [this]; simp)
        rw [this] at hsj
        simp at hsj)
      rw [← h5]
      refine runSel_congr es 0 σ0 (fun j _ hj => ?_)
      rw [Nat.zero_add] at hj ⊢
      by_cases hji : j = i
      · subst hji; simp [Array.getD_eq_getD_getElem?, hs, hio]
      · have e1 : (j == i) = false := by simpa using hji
        rw [e1, Bool.or_false]
        simp [Array.getD_eq_getD_getElem?, show ¬ i = j from fun h => hji h.symm]
    obtain ⟨s1, s2, s3⟩ := hstep
    refine step_op (Array.getElem?_eq_getElem hio) h2 r (v := es[i].v) (ws := es[i].ws) ?_ (fun a' w' β' hr => ?_)
    · rcases s3 with ⟨k1, L, k2, k3, k4⟩ | k
      · exact .inl ⟨k1, aeff_le (Hp.only_le _ L) (Hp.only_gen _ k2) k4⟩
      · exact .inr k
    · refine ih (listed.setIfInBounds i true) β' a' w' (by simpa using hs) ?_ ?_ ?_
      · have := unl_set hio hs hnl2
        omega
      · intro j hj d hd
        have hor : ∀ k, (listed.setIfInBounds i true).getD k false = (listed.getD k false || k == i) := by
          intro k
          by_cases hki : k = i
          · subst hki; simp [Array.getD_eq_getD_getElem?, hs, hio]
          · have e1 : (k == i) = false := by simpa using hki
            rw [e1, Bool.or_false]
            simp [Array.getD_eq_getD_getElem?, show ¬ i = k from fun h => hki h.symm]
        rw [hor] at hj ⊢
        simp only [Bool.or_eq_true, beq_iff_eq] at hj ⊢
        rcases hj with hj | rfl
        · exact .inl (hcl j hj d hd)
        · exact .inl (hdi d hd)
      · rw [hnext]
        unfold St.ent
        rw [s1]
        exact hr
theorem draw_ok {id : Nat} {ops : Array Oper} {qs : List ROp} {σ : St} (hc : compOps P n ops = some qs) (hm : P.follows .mixedOrders = true) {Q : Exit → Act → World → Prop} {K : St → Prop} (hK : ∀ σ β a w, K σ → Rel O w0 n σ β a w → Q .normal a w)
    (r : Rel O w0 n σ β a w) (hs : wdraw P qs σ [] (fun σ' fps => chk (qs.map ROp.deps) fps = true ∧ K σ')) : (Code.region id ops true).wp P Q a w := by
  obtain ⟨es, h1, h2, h3, h4⟩ := wdraw_ex qs σ [] hs
  obtain ⟨hlq, _⟩ := compOps_get hc
  rw [List.nil_append] at h3
  refine wp_region_any hm ?_
  have hrs : Rel O w0 n σ β a { w with drawn := w.drawn + 1 } := r.world ((Below.refl _ _).drew)
  have h0 : runSel (fun j => (Array.replicate ops.size false).getD j false) es 0 σ = σ := by
    have := runSel_take es 0 0 σ
    rw [List.take_zero] at this
    have e : runE [] σ = σ := rfl
    rw [e] at this
    rw [← this]
    rw [this]
    refine (runSel_congr es 0 σ (fun j _ _ => ?_)).trans this
    simp [Array.getD_eq_getD_getElem?, Array.getElem?_replicate]
    split <;> rfl
  refine draw_any hc h1 (chk_fine (by simp [h1]) h3) h2 (fun β a w hr => hK _ β a w h4 hr) ops.size _ β a _ (by simp) ?_ ?_ (by rw [h0]; exact hrs)
  · unfold unl
    refine Nat.le_trans (List.length_filter_le _ _) (by simp)
  · intro j hj
    simp [Array.getD_eq_getD_getElem?, Array.getElem?_replicate] at hj
    split at hj <;> simp at hj
end
end Go.Proofs.YtcbfhpnmhhnjpaaGreat

