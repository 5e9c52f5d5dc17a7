/- AN ABSTRACT MACHINE over the model, fourteen: regions, in the text's order and in any order that is allowed. No condition. -/
import Derived.Test.YtbpipdgkkdifgaaAm13
import Derived.Orders
namespace Go.Proofs.Ytbpipdgkkdifgaa
open Go.RowKit
set_option linter.unusedVariables false

structure ROp where
  dst : Option Nat
  loc : Nat
  op : AOp
  guard : Option (Nat × Bool)
  deps : List Nat
deriving Inhabited
def depsOf (o : Oper) : List Nat := (o.after.toList.filter (Region.binds .any)).map Edge.on
def compOp (P : Program) (n : Nat) (ops : Array Oper) (i : Nat) (o : Oper) : Option ROp :=
  match comp1 P o with
  | none => none
  | some ao => if o.dst.all (fun t => decide (t < n)) = true then match o.guard with
      | none => some ⟨o.dst, o.dst.getD (n + i), ao, none, depsOf o⟩
      | some (j, want) => match (ops[j]?).bind (·.dst) with
        | some t => some ⟨o.dst, o.dst.getD (n + i), ao, some (t, want), depsOf o⟩
        | none => none
    else none
def compOps (P : Program) (n : Nat) (ops : Array Oper) : Option (List ROp) := all? (fun p : Oper × Nat => compOp P n ops p.2 p.1) ops.toList.zipIdx

def St.eff (σ : St) (dst : Option Nat) (v : TV AC) (ws : List (Nat × Nat × LB)) : St :=
  ⟨match dst with
    | some t => upd σ.slot t v
    | none => σ.slot, σ.h.app ws⟩
def grd (g : Option (Nat × Bool)) (σ : St) (yes no : Prop) : Prop :=
  match g with
  | none => yes
  | some (t, want) => match σ.slot t with
    | .c (.s (.pv (.bool b))) => (b = want → yes) ∧ (b = (!want) → no)
    | .tup [] => no
    | _ => False
/-- operations, one behind the other -/
def wseq (P : Program) : List ROp → St → (St → Prop) → Prop
  | [], σ, K => K σ
  | q :: qs, σ, K => grd q.guard σ (aeff P q.op q.loc σ.ev σ.h fun v ws => wseq P qs (σ.eff q.dst v ws) K) (wseq P qs (σ.eff q.dst (.tup []) []) K)

section
variable {P : Program} {O : Nat → Prop} {w0 : Base} {n : Nat} {σ : St} {β : Env} {a : Act} {w : World}
/-- what has come is laid into its slot -/
theorem Rel.put (r : Rel O w0 n σ β a w) {dst : Option Nat} {v : TV AC} {u : Value} (hd : dst.all (fun t => decide (t < n)) = true) (hv : RepT (RepA σ.h β w (Mine O σ.h β)) v u) : Rel O w0 n (σ.eff dst v []) β (a.put dst u) w := by
  cases dst with
  | none => exact r
  | some t =>
    have ht : t < n := by simpa using hd
    refine ⟨r.toRelH, r.hd, by have := r.hn; simpa [Act.put] using this, fun k => ?_⟩
    show RepT _ (upd σ.slot t v k) ((a.tmps.setIfInBounds t u).getD k undef)
    have hn := r.hn
    by_cases e : k = t
    · subst e
      rw [upd_at]
      have : (a.tmps.setIfInBounds k u).getD k undef = u := by simp [Array.getD, hn, ht]
      rw [this]
      exact hv
    · rw [upd_ne _ _ e]
      have : (a.tmps.setIfInBounds t u).getD k undef = a.tmps.getD k undef := by
        have e2 : ¬ t = k := fun h => e h.symm
        simp [Array.getD_eq_getD_getElem?, e2]
      rw [this]
      exact r.slots k
theorem done_put {v : TV AC} {ws : List (Nat × Nat × LB)} {u : Value} {w' : World} {dst : Option Nat} (hd : dst.all (fun t => decide (t < n)) = true) (h : Done O w0 n σ a v ws u w') : ∃ β', Rel O w0 n (σ.eff dst v ws) β' (a.put dst u) w' := by
  obtain ⟨β', r, hv⟩ := h
  exact ⟨β', r.put hd hv⟩
theorem Rel.skip (r : Rel O w0 n σ β a w) {dst : Option Nat} (hd : dst.all (fun t => decide (t < n)) = true) : Rel O w0 n (σ.eff dst (.tup []) []) β (a.put dst undef) w := r.put hd ⟨[], rfl, rfl, fun i h => by simp at h⟩
/-- how a guard reads that was passed over itself -/
theorem Rel.guardS (r : Rel O w0 n σ β a w) {ops : Array Oper} {o : Oper} {j t : Nat} {want : Bool} (hg : o.guard = some (j, want)) (hj : (ops[j]?).bind (·.dst) = some t) (hs : σ.slot t = .tup []) : Region.wanted o (yielded ops a.tmps) = false := by
  have h1 := r.slots t
  rw [hs] at h1
  obtain ⟨us, h2, h3, _⟩ := h1
  have hu : us = [] := List.length_eq_zero_iff.1 h3.symm
  subst hu
  have h4 : yielded ops a.tmps j = none := by
    unfold yielded
    rw [hj]
    rw [Array.getD_eq_getD_getElem?] at h2
    cases h : a.tmps[t]? with
    | none => simp [h]
    | some u =>
      rw [h] at h2
      simp only [Option.getD_some] at h2
      subst h2
      simp [h]
  unfold Region.wanted
  rw [hg]
  simp only [h4]
  rfl
/-- how a guard reads -/
theorem Rel.guard (r : Rel O w0 n σ β a w) {ops : Array Oper} {o : Oper} {j t : Nat} {want b : Bool} (hg : o.guard = some (j, want)) (hj : (ops[j]?).bind (·.dst) = some t) (hs : σ.slot t = .c (.s (.pv (.bool b)))) : Region.wanted o (yielded ops a.tmps) = (b == want) := by
  have h1 := r.slots t
  rw [hs] at h1
  have h2 := h1.pvInv
  have h3 : a.tmps[t]? = some (.bool b) := by
    rw [Array.getD_eq_getD_getElem?] at h2
    cases h : a.tmps[t]? with
    | none => rw [h] at h2; simp [undef] at h2
    | some u => rw [h] at h2; simpa using h2
  have h4 : yielded ops a.tmps j = some b := by
    unfold yielded
    rw [hj]
    simp [h3]
  unfold Region.wanted
  rw [hg]
  simp only [h4]
  cases b <;> cases want <;> rfl
theorem compOp_dst {ops : Array Oper} {i : Nat} {o : Oper} {q : ROp} (h : compOp P n ops i o = some q) : q.dst = o.dst ∧ comp1 P o = some q.op ∧ o.dst.all (fun t => decide (t < n)) = true ∧ q.deps = depsOf o ∧
    ((o.guard = none ∧ q.guard = none) ∨ ∃ j t want, o.guard = some (j, want) ∧ (ops[j]?).bind (·.dst) = some t ∧ q.guard = some (t, want)) := by
  unfold compOp at h
  split at h
  · simp at h
  · rename_i ao h1
    split at h
    · rename_i h2
      split at h
      · rename_i h3
        simp only [Option.some.injEq] at h
        subst h
        exact ⟨rfl, h1, h2, rfl, .inl ⟨h3, rfl⟩⟩
      · rename_i j want h3
        split at h
        · rename_i t h4
          simp only [Option.some.injEq] at h
          subst h
          exact ⟨rfl, h1, h2, rfl, .inr ⟨j, t, want, h3, h4, rfl⟩⟩
        · simp at h
    · simp at h
theorem all?_get {α γ : Type} {f : α → Option γ} : ∀ {xs : List α} {ys : List γ}, all? f xs = some ys → ys.length = xs.length ∧ ∀ (i : Nat) (x : α), xs[i]? = some x → ∃ y, ys[i]? = some y ∧ f x = some y := by
  intro xs
  induction xs with
  | nil => intro ys h; rw [all?_nil h]; exact ⟨rfl, fun i x hx => by simp at hx⟩
  | cons x xs ih =>
    intro ys h
    obtain ⟨y, ys', h1, h2, rfl⟩ := all?_cons h
    obtain ⟨h3, h4⟩ := ih h2
    refine ⟨by simp [h3], fun i z hz => ?_⟩
    cases i with
    | zero => simp at hz; subst hz; exact ⟨y, rfl, h1⟩
    | succ i => simpa using h4 i z (by simpa using hz)
theorem compOps_get {ops : Array Oper} {qs : List ROp} (h : compOps P n ops = some qs) : qs.length = ops.size ∧ ∀ i o, ops[i]? = some o → ∃ q, qs[i]? = some q ∧ compOp P n ops i o = some q := by
  obtain ⟨h1, h2⟩ := all?_get h
  refine ⟨by simpa using h1, fun i o ho => ?_⟩
  have : ops.toList.zipIdx[i]? = some (o, i) := by
    rw [List.getElem?_zipIdx]
    simp [ho]
  obtain ⟨q, h3, h4⟩ := h2 i _ this
  exact ⟨q, h3, h4⟩
/-- one operation of a region -/
theorem step_op {ops : Array Oper} {Q : Exit → Act → World → Prop} {K : Act → World → Prop} {i : Nat} {o : Oper} {q : ROp} (ho : ops[i]? = some o) (hq : compOp P n ops i o = some q) (r : Rel O w0 n σ β a w) {v : TV AC} {ws : List (Nat × Nat × LB)}
    (hs : (grd q.guard σ True False ∧ aeff P q.op q.loc σ.ev σ.h (fun v' ws' => v' = v ∧ ws' = ws)) ∨ (grd q.guard σ False True ∧ v = .tup [] ∧ ws = []))
    (hK : ∀ a' w' β', Rel O w0 n (σ.eff q.dst v ws) β' a' w' → K a' w') : wpOp P ops Q i K a w := by
  obtain ⟨h1, h2, h3, _, h5⟩ := compOp_dst hq
  unfold wpOp
  rw [ho]
  simp only
  rcases hs with ⟨hg, he⟩ | ⟨hg, rfl, rfl⟩
  · have hw : Region.wanted o (yielded ops a.tmps) = true := by
      rcases h5 with ⟨h6, _⟩ | ⟨j, t, want, h6, h7, h8⟩
      · unfold Region.wanted; rw [h6]
      · rw [h8] at hg
        unfold grd at hg
        simp only at hg
        split at hg
        · rename_i b h9
          rw [r.guard h6 h7 h9]
          cases b <;> cases want <;> simp at hg ⊢
        · exact hg.elim
        · exact hg.elim
    rw [if_pos hw]
    refine .inl (comp1_ok h2 r he _ _ (fun u w' hd => ?_))
    obtain ⟨β', hr⟩ := done_put h3 hd
    rw [← h1] at hr ⊢
    exact hK _ _ _ hr
  · have hw : Region.wanted o (yielded ops a.tmps) = false := by
      rcases h5 with ⟨_, h6⟩ | ⟨j, t, want, h6, h7, h8⟩
      · rw [h6] at hg; exact hg.elim
      · rw [h8] at hg
        unfold grd at hg
        simp only at hg
        split at hg
        · rename_i b h9
          rw [r.guard h6 h7 h9]
          cases b <;> cases want <;> simp at hg ⊢
        · rename_i h9
          exact r.guardS h6 h7 h9
        · exact hg.elim
    rw [if_neg (by rw [hw]; simp)]
    have := r.skip h3
    rw [← h1] at this ⊢
    exact hK _ _ _ this
theorem grd_cases {g : Option (Nat × Bool)} {yes no : Prop} (h : grd g σ yes no) : (grd g σ True False ∧ yes) ∨ (grd g σ False True ∧ no) := by
  unfold grd at h ⊢
  cases g with
  | none => exact .inl ⟨trivial, h⟩
  | some p =>
    obtain ⟨t, want⟩ := p
    simp only at h ⊢
    split at h
    · rename_i b hb
      cases b <;> cases want <;> simp at h ⊢ <;> first | exact h | exact .inl h | exact .inr h
    · exact .inr ⟨trivial, h⟩
    · exact h.elim
theorem wseq_ok {ops : Array Oper} {qs : List ROp} (hc : compOps P n ops = some qs) {Q : Exit → Act → World → Prop} {K : St → Prop} (hK : ∀ σ β a w, K σ → Rel O w0 n σ β a w → Q .normal a w) :
    ∀ (k i : Nat), i + k = ops.size → ∀ (σ : St) (β : Env) (a : Act) (w : World), Rel O w0 n σ β a w → wseq P (qs.drop i) σ K → wpOps P ops Q (List.range' i k) a w := by
  obtain ⟨hlen, hget⟩ := compOps_get hc
  intro k
  induction k with
  | zero =>
    intro i hi σ β a w r hs
    rw [List.drop_of_length_le (by omega)] at hs
    exact hK σ β a w hs r
  | succ k ih =>
    intro i hi σ β a w r hs
    have hio : i < ops.size := by omega
    obtain ⟨q, h1, h2⟩ := hget i ops[i] (Array.getElem?_eq_getElem hio)
    obtain ⟨h3, h4⟩ := List.getElem?_eq_some_iff.1 h1
    rw [List.drop_eq_getElem_cons h3, h4] at hs
    rw [List.range'_succ, wpOps_cons]
    simp only [wseq] at hs
    rcases grd_cases hs with ⟨hg, hy⟩ | ⟨hg, hno⟩
    · obtain ⟨v, ws, h5, h6⟩ := aeff_one _ hy
      exact step_op (Array.getElem?_eq_getElem hio) h2 r (.inl ⟨hg, h6⟩) (fun a' w' β' hr => ih (i + 1) (by omega) _ β' a' w' hr h5)
    · exact step_op (Array.getElem?_eq_getElem hio) h2 r (.inr ⟨hg, rfl, rfl⟩) (fun a' w' β' hr => ih (i + 1) (by omega) _ β' a' w' hr hno)
theorem seq_ok {id : Nat} {ops : Array Oper} {qs : List ROp} (hc : compOps P n ops = some qs) {Q : Exit → Act → World → Prop} {K : St → Prop} (hK : ∀ σ β a w, K σ → Rel O w0 n σ β a w → Q .normal a w)
    (r : Rel O w0 n σ β a w) (hs : wseq P qs σ K) : (Code.region id ops false).wp P Q a w := by
  refine wp_region ?_
  rw [List.range_eq_range']
  exact wseq_ok hc hK ops.size 0 (by omega) σ β a w r (by simpa using hs)
end
end Go.Proofs.Ytbpipdgkkdifgaa
