/- AN ABSTRACT MACHINE over the model, eleven: what an operation looks at. No condition. -/
import Derived.Test.YtbpipdgkkdifgaaAm10
namespace Go.Proofs.Ytbpipdgkkdifgaa
open Go.RowKit
set_option linter.unusedVariables false

def AOp.opds : AOp → List Opd
  | .mv x | .box _ _ x | .load _ _ x | .not x | .conv _ x | .z3 x | .fld _ x | .field _ _ _ x | .ext _ x | .len x | .slen x | .nilc x | .isnil x | .b2s x => [x]
  | .pick c a b => [c, a, b]
  | .mk _ _ _ => []
  | .build _ ps => ps.map fun p => p.2.2
  | .bslice _ _ _ _ ps => ps.map fun p => p.2.2
  | .store _ p x => [p, x]
  | .bin _ _ x y | .eqs _ _ x y | .mkSlice _ _ _ _ x y | .idx _ x y | .aidx _ _ x y | .sidx x y | .app _ _ _ x y | .mm _ x y => [x, y]
  | .sub _ x lo hi | .ssub x lo hi => [x] ++ lo.toList ++ hi.toList
  | .call _ args => args
  | .callv f args => f :: args
  | .clo _ caps => caps
theorem fillA_ev {ev ev' : Opd → TV AC} : ∀ (ps : List (Nat × Nat × Opd)) (z : List AC), (∀ x ∈ ps.map (fun p => p.2.2), ev x = ev' x) → fillA ev z ps = fillA ev' z ps := by
  intro ps
  induction ps with
  | nil => intro z _; rfl
  | cons p ps ih =>
    intro z h
    obtain ⟨off, n, x⟩ := p
    have h1 : ev x = ev' x := h x (by simp)
    simp only [fillA, h1]
    cases (ev' x).cells with
    | none => rfl
    | some cs =>
      simp only
      split
      · exact ih _ (fun y hy => h y (by simp [hy]))
      · rfl
theorem all?_congr {α γ : Type} {f g : α → Option γ} : ∀ (xs : List α), (∀ x ∈ xs, f x = g x) → all? f xs = all? g xs := by
  intro xs
  induction xs with
  | nil => intro _; rfl
  | cons x xs ih =>
    intro h
    simp only [all?, h x (by simp), ih (fun y hy => h y (by simp [hy]))]
theorem bnd_ev {ev ev' : Opd → TV AC} {x : Option Opd} (h : ∀ y ∈ x.toList, ev y = ev' y) (k : Nat) : bnd ev k x = bnd ev' k x := by
  cases x with
  | none => rfl
  | some y => simp only [bnd, h y (by simp)]
theorem aeff_ev {P : Program} {o : AOp} {d : Nat} {ev ev' : Opd → TV AC} {h : Hp} {K : TV AC → List (Nat × Nat × LB) → Prop} (ho : ∀ x ∈ o.opds, ev x = ev' x) : aeff P o d ev h K = aeff P o d ev' h K := by
  cases o with
  | mv x => simp only [aeff, ho x (by simp [AOp.opds])]
  | pick c a b => simp only [aeff, ho c (by simp [AOp.opds]), ho a (by simp [AOp.opds]), ho b (by simp [AOp.opds])]
  | mk ty e els => rfl
  | box ty e x => simp only [aeff, ho x (by simp [AOp.opds])]
  | build z ps => simp only [aeff, fillA_ev ps z ho]
  | bslice ty e z l ps => simp only [aeff, fillA_ev ps _ ho]
  | load ag n x => simp only [aeff, ho x (by simp [AOp.opds])]
  | store n p x => simp only [aeff, ho p (by simp [AOp.opds]), ho x (by simp [AOp.opds])]
  | bin bl op x y => simp only [aeff, ho x (by simp [AOp.opds]), ho y (by simp [AOp.opds])]
  | eqs neg t x y => simp only [aeff, ho x (by simp [AOp.opds]), ho y (by simp [AOp.opds])]
  | not x => simp only [aeff, ho x (by simp [AOp.opds])]
  | conv k x => simp only [aeff, ho x (by simp [AOp.opds])]
  | b2s x => simp only [aeff, ho x (by simp [AOp.opds])]
  | mkSlice ty e b z l c => simp only [aeff, ho l (by simp [AOp.opds]), ho c (by simp [AOp.opds])]
  | sub e x lo hi => simp only [aeff, ho x (by simp [AOp.opds]), bnd_ev (x := lo) (fun y hy => ho y (by simp [AOp.opds] at hy ⊢; simp [hy])), bnd_ev (x := hi) (fun y hy => ho y (by simp [AOp.opds] at hy ⊢; simp [hy]))]
  | z3 x => simp only [aeff, ho x (by simp [AOp.opds])]
  | ssub x lo hi => simp only [aeff, ho x (by simp [AOp.opds]), bnd_ev (x := lo) (fun y hy => ho y (by simp [AOp.opds] at hy ⊢; simp [hy])), bnd_ev (x := hi) (fun y hy => ho y (by simp [AOp.opds] at hy ⊢; simp [hy]))]
  | fld off x => simp only [aeff, ho x (by simp [AOp.opds])]
  | idx e x y => simp only [aeff, ho x (by simp [AOp.opds]), ho y (by simp [AOp.opds])]
  | aidx c e x y => simp only [aeff, ho x (by simp [AOp.opds]), ho y (by simp [AOp.opds])]
  | sidx x y => simp only [aeff, ho x (by simp [AOp.opds]), ho y (by simp [AOp.opds])]
  | field ag off n x => simp only [aeff, ho x (by simp [AOp.opds])]
  | ext i x => simp only [aeff, ho x (by simp [AOp.opds])]
  | len x => simp only [aeff, ho x (by simp [AOp.opds])]
  | slen x => simp only [aeff, ho x (by simp [AOp.opds])]
  | app ty e b s x => simp only [aeff, ho s (by simp [AOp.opds]), ho x (by simp [AOp.opds])]
  | call f args =>
    have : args.map ev = args.map ev' := List.map_congr_left (fun x hx => ho x hx)
    simp only [aeff, this]
  | callv f args =>
    have : args.map ev = args.map ev' := List.map_congr_left (fun x hx => ho x (by simp [AOp.opds, hx]))
    simp only [aeff, this, ho f (by simp [AOp.opds])]
  | clo f caps =>
    simp only [aeff]
    rw [all?_congr (g := fun x => whole (ev' x)) caps (fun x hx => by simp only [ho x hx])]
  | nilc x => simp only [aeff, ho x (by simp [AOp.opds])]
  | isnil x => simp only [aeff, ho x (by simp [AOp.opds])]
  | mm mx x y => simp only [aeff, ho x (by simp [AOp.opds]), ho y (by simp [AOp.opds])]

/-- a heap that knows less -/
def Hp.le (h h' : Hp) : Prop := ∀ l, h.blk l = .dead ∨ (h'.blk l = h.blk l ∧ h'.gen l = h.gen l)
namespace Hp.le
variable {h h' : Hp}
theorem alive (le : h.le h') {l : Nat} {b : LB} (hb : h.blk l = b) (hn : b ≠ .dead) : h'.blk l = b ∧ h'.gen l = h.gen l := by
  rcases le l with h1 | h1
  · exact (hn (hb.symm.trans h1)).elim
  · exact ⟨h1.1.trans hb, h1.2⟩
theorem view (le : h.le h') {l : Nat} (hv : h.view l ≠ .dead) : h'.view l = h.view l ∧ h'.gen l = h.gen l := by
  rcases le l with h1 | h1
  · exact (hv (by unfold Hp.view; rw [h1]; rfl)).elim
  · exact ⟨by unfold Hp.view; rw [h1.1], h1.2⟩
theorem shA (le : h.le h') {x : AC} {y : SC} (hs : shA h x = some y) : Go.Proofs.Ytbpipdgkkdifgaa.shA h' x = some y := by
  cases x with
  | s x => exact hs
  | zc => exact hs
  | own l g =>
    simp only [Go.Proofs.Ytbpipdgkkdifgaa.shA] at hs ⊢
    split at hs
    · rename_i hg
      cases hk : h.blk l with
      | dead => rw [hk] at hs; simp at hs
      | box ty e els => rw [hk] at hs; simp at hs
      | row ty e els => obtain ⟨k1, k2⟩ := le.alive hk (by simp); rw [k1, k2, if_pos hg]; rw [hk] at hs; exact hs
      | ice z => obtain ⟨k1, k2⟩ := le.alive hk (by simp); rw [k1, k2, if_pos hg]; rw [hk] at hs; exact hs
    · simp at hs
  | ptr l g i off => simp [Go.Proofs.Ytbpipdgkkdifgaa.shA] at hs
  | clo f ls => simp [Go.Proofs.Ytbpipdgkkdifgaa.shA] at hs
theorem all {α γ : Type} {f g : α → Option γ} (hfg : ∀ x y, f x = some y → g x = some y) : ∀ {xs : List α} {ys : List γ}, all? f xs = some ys → all? g xs = some ys := by
  intro xs
  induction xs with
  | nil => intro ys h; rw [all?_nil h]; rfl
  | cons x xs ih =>
    intro ys h
    obtain ⟨y, ys', h1, h2, rfl⟩ := all?_cons h
    simp only [all?, hfg x y h1, ih h2]
theorem shB (le : h.le h') {x : AC} {y : SC} (hs : shB h x = some y) : Go.Proofs.Ytbpipdgkkdifgaa.shB h' x = some y := by
  cases x with
  | s x => exact hs
  | zc => exact hs
  | own l g => exact le.shA (x := .own l g) hs
  | ptr l g i off =>
    simp only [Go.Proofs.Ytbpipdgkkdifgaa.shB] at hs ⊢
    split at hs
    · rename_i hg
      cases hk : h.blk l with
      | box ty e els =>
        obtain ⟨k1, k2⟩ := le.alive hk (by simp)
        rw [hk] at hs
        simp only at hs
        rw [k1, k2, if_pos hg]
        cases hi : els[i]? with
        | none => rw [hi] at hs; simp at hs
        | some cs =>
          rw [hi] at hs
          simp only [Option.map_eq_some_iff] at hs ⊢
          rw [hi]
          obtain ⟨z, h1, rfl⟩ := hs
          simp only [all (fun x y => le.shA) h1, Option.map_some]
      | dead => rw [hk] at hs; simp at hs
      | row ty e els => rw [hk] at hs; simp at hs
      | ice z => rw [hk] at hs; simp at hs
    · simp at hs
  | clo f ls =>
    simp only [Go.Proofs.Ytbpipdgkkdifgaa.shB, Option.map_eq_some_iff] at hs ⊢
    obtain ⟨z, h1, rfl⟩ := hs
    refine ⟨z, all (fun p y hp => ?_) h1, rfl⟩
    split at hp
    · rename_i hg
      cases hk : h.blk p.1 with
      | box ty e els =>
        obtain ⟨k1, k2⟩ := le.alive hk (by simp)
        rw [hk] at hp
        simp only at hp
        rw [k1, k2, if_pos hg]
        cases hi : els[0]? with
        | none => rw [hi] at hp; simp at hp
        | some cs =>
          rw [hi] at hp
          simp only [Option.map_eq_some_iff] at hp ⊢
          rw [hi]
          obtain ⟨z, h1, rfl⟩ := hp
          simp only [all (fun x y => le.shA) h1, Option.map_some]
      | dead => rw [hk] at hp; simp at hp
      | row ty e els => rw [hk] at hp; simp at hp
      | ice z => rw [hk] at hp; simp at hp
    · simp at hp
theorem argB (le : h.le h') {x : TV AC} {y : TV SC} (hs : argB h x = some y) : Go.Proofs.Ytbpipdgkkdifgaa.argB h' x = some y := by
  cases x with
  | c x =>
    simp only [Go.Proofs.Ytbpipdgkkdifgaa.argB, Option.map_eq_some_iff] at hs ⊢
    obtain ⟨z, h1, rfl⟩ := hs
    exact ⟨z, le.shB h1, rfl⟩
  | agg xs =>
    simp only [Go.Proofs.Ytbpipdgkkdifgaa.argB, Option.map_eq_some_iff] at hs ⊢
    obtain ⟨z, h1, rfl⟩ := hs
    exact ⟨z, all (fun x y => le.shB) h1, rfl⟩
  | no => simp [Go.Proofs.Ytbpipdgkkdifgaa.argB] at hs
  | tup vs => simp [Go.Proofs.Ytbpipdgkkdifgaa.argB] at hs
theorem set (le : h.le h') (l g : Nat) (b : LB) : (h.set l g b).le (h'.set l g b) := by
  intro k
  by_cases e : k = l
  · subst e; right; exact ⟨by show upd _ _ _ _ = upd _ _ _ _; rw [upd_at, upd_at], by show upd _ _ _ _ = upd _ _ _ _; rw [upd_at, upd_at]⟩
  · rcases le k with h1 | h1
    · left; show upd _ _ _ _ = _; rw [upd_ne _ _ e]; exact h1
    · right; exact ⟨by show upd _ _ _ _ = upd _ _ _ _; rw [upd_ne _ _ e, upd_ne _ _ e]; exact h1.1, by show upd _ _ _ _ = upd _ _ _ _; rw [upd_ne _ _ e, upd_ne _ _ e]; exact h1.2⟩
theorem frz : ∀ {xs : List AC} {h h' : Hp}, h.le h' → (∀ x ∈ xs, (Go.Proofs.Ytbpipdgkkdifgaa.shA h x).isSome = true) → Go.Proofs.Ytbpipdgkkdifgaa.frz h' xs = Go.Proofs.Ytbpipdgkkdifgaa.frz h xs := by
  intro xs
  induction xs with
  | nil => intro h h' _ _; rfl
  | cons x xs ih =>
    intro h h' le hs
    have tl := fun y hy => hs y (List.mem_cons_of_mem x hy)
    cases x with
    | s x => exact ih le tl
    | zc => exact ih le tl
    | ptr l g i off => exact ih le tl
    | clo f ls => exact ih le tl
    | own l g =>
      have h1 := hs (.own l g) (by simp)
      simp only [Go.Proofs.Ytbpipdgkkdifgaa.shA] at h1
      split at h1
      · rename_i hg
        cases hk : h.blk l with
        | dead => rw [hk] at h1; simp at h1
        | box ty e els => rw [hk] at h1; simp at h1
        | row ty e els =>
          obtain ⟨k1, k2⟩ := le.alive hk (by simp)
          simp only [Go.Proofs.Ytbpipdgkkdifgaa.frz, hk, k1, k2, if_pos hg]
          rw [ih (le.set l g _) (fun y hy => by rw [shA_ice hk hg]; exact tl y hy)]
        | ice z =>
          obtain ⟨k1, k2⟩ := le.alive hk (by simp)
          simp only [Go.Proofs.Ytbpipdgkkdifgaa.frz, hk, k1]
          exact ih le tl
      · simp at h1
theorem app_gen (ws : List (Nat × Nat × LB)) : ∀ {h h' : Hp} {d : Nat}, h'.gen d = h.gen d → (h'.app ws).gen d = (h.app ws).gen d := by
  induction ws with
  | nil => intro h h' d e; exact e
  | cons x ws ih =>
    intro h h' d e
    rw [Hp.app_cons, Hp.app_cons]
    refine ih ?_
    by_cases e1 : d = x.1
    · subst e1; rw [Hp.gen_at, Hp.gen_at]
    · rw [Hp.gen_ne _ _ _ e1, Hp.gen_ne _ _ _ e1]; exact e
theorem sliceOf (le : h.le h') {e : Nat} {x : TV AC} {r : List (List SC) × List (Nat × Nat × LB)} (hs : sliceOf e h x = some r) : Go.Proofs.Ytbpipdgkkdifgaa.sliceOf e h' x = some r := by
  obtain ⟨els, ws⟩ := r
  cases sliceOf_ok hs with
  | zc => exact hs
  | s => exact hs
  | tag => exact hs
  | row hk =>
    obtain ⟨k1, k2⟩ := le.alive hk (by simp)
    simp only [Go.Proofs.Ytbpipdgkkdifgaa.sliceOf, k1, k2, if_true]
  | ice hk =>
    obtain ⟨k1, k2⟩ := le.alive hk (by simp)
    simp only [Go.Proofs.Ytbpipdgkkdifgaa.sliceOf, k1, k2, if_true]
theorem lenOf (le : h.le h') {x : TV AC} {m : Nat} (hs : lenOf h x = some m) : Go.Proofs.Ytbpipdgkkdifgaa.lenOf h' x = some m := by
  unfold Go.Proofs.Ytbpipdgkkdifgaa.lenOf at hs ⊢
  split at hs
  · exact hs
  · exact hs
  · exact hs
  · rename_i l g
    split at hs
    · rename_i hg
      cases hk : h.blk l with
      | dead => rw [hk] at hs; simp at hs
      | box ty e els => rw [hk] at hs; simp at hs
      | row ty e els => obtain ⟨k1, k2⟩ := le.alive hk (by simp); simp only [k1, k2, if_pos hg]; rw [hk] at hs; exact hs
      | ice z => obtain ⟨k1, k2⟩ := le.alive hk (by simp); simp only [k1, k2, if_pos hg]; rw [hk] at hs; exact hs
    · simp at hs
  · simp at hs
theorem rd (le : h.le h') {x : TV AC} {m : Nat} {K : List AC → Prop} (hs : rd h x m K) : Go.Proofs.Ytbpipdgkkdifgaa.rd h' x m K := by
  unfold Go.Proofs.Ytbpipdgkkdifgaa.rd at hs ⊢
  split at hs
  · exact hs
  · rename_i l g i off
    obtain ⟨hg, hs⟩ := hs
    cases hk : h.blk l with
    | dead => rw [hk] at hs; exact hs.elim
    | box ty e els => obtain ⟨k1, k2⟩ := le.alive hk (by simp); simp only [k1, k2]; rw [hk] at hs; exact ⟨hg, hs⟩
    | row ty e els => obtain ⟨k1, k2⟩ := le.alive hk (by simp); simp only [k1, k2]; rw [hk] at hs; exact ⟨hg, hs⟩
    | ice z => rw [hk] at hs; exact hs.elim
  · exact hs.elim
theorem after (le : h.le h') {d : Nat} (hd : h'.gen d = h.gen d) {xs : List (TV AC)} {r : Res} {K : TV AC → List (Nat × Nat × LB) → Prop} (hs : after h d xs r K) : Go.Proofs.Ytbpipdgkkdifgaa.after h' d xs r K := by
  unfold Go.Proofs.Ytbpipdgkkdifgaa.after at hs ⊢
  split at hs
  · rename_i hf
    rw [if_pos hf]
    exact hs
  · rename_i hf
    rw [if_neg hf]
    cases hc : all? TV.cells xs with
    | none => rw [hc] at hs; exact hs.elim
    | some css =>
      rw [hc] at hs
      simp only at hs ⊢
      obtain ⟨h1, h2⟩ := hs
      have h3 : (all? (Go.Proofs.Ytbpipdgkkdifgaa.shA h') css.flatten).isSome = true := by
        cases h4 : all? (Go.Proofs.Ytbpipdgkkdifgaa.shA h) css.flatten with
        | none => rw [h4] at h1; simp at h1
        | some ys => rw [all (fun x y => le.shA) h4]; rfl
      have h5 := frz le (all?_some h1)
      refine ⟨h3, ?_⟩
      cases r with
      | val r => simp only at h2 ⊢; rw [h5]; exact h2
      | row ty e els => simp only at h2 ⊢; rw [h5, app_gen _ hd]; exact h2
      | trow ty e els rest more => simp only at h2 ⊢; rw [h5, app_gen _ hd]; exact h2
theorem app_blk (ws : List (Nat × Nat × LB)) : ∀ {h h' : Hp} {l : Nat}, h'.gen l = h.gen l → h'.blk l = h.blk l → (h'.app ws).gen l = (h.app ws).gen l ∧ (h'.app ws).blk l = (h.app ws).blk l := by
  induction ws with
  | nil => intro h h' l h1 h2; exact ⟨h1, h2⟩
  | cons x ws ih =>
    intro h h' l h1 h2
    rw [Hp.app_cons, Hp.app_cons]
    refine ih ?_ ?_
    · by_cases e : l = x.1
      · subst e; rw [Hp.gen_at, Hp.gen_at]
      · rw [Hp.gen_ne _ _ _ e, Hp.gen_ne _ _ _ e, h1]
    · show upd h'.blk x.1 x.2.2 l = upd h.blk x.1 x.2.2 l
      by_cases e : l = x.1
      · rw [e, upd_at, upd_at]
      · rw [upd_ne _ _ e, upd_ne _ _ e, h2]
theorem afterX (le : h.le h') {x0 : TV AC} {xs : List (TV AC)} {X : XR} {K : TV AC → List (Nat × Nat × LB) → Prop} (hs : afterX h x0 xs X K) : Go.Proofs.Ytbpipdgkkdifgaa.afterX h' x0 xs X K := by
  unfold Go.Proofs.Ytbpipdgkkdifgaa.afterX at hs ⊢
  cases hc : all? TV.cells xs with
  | none => rw [hc] at hs; exact hs.elim
  | some css =>
    rw [hc] at hs
    simp only at hs ⊢
    obtain ⟨h1, h2⟩ := hs
    have alive2 : ∀ {l : Nat} {H : Hp}, blkX h H l X → h'.blk l = h.blk l ∧ h'.gen l = h.gen l := by
      intro l H hb
      rcases le l with h3 | h3
      · unfold blkX at hb; rw [h3] at hb; exact hb.elim
      · exact h3
    have hbox : boxX h' x0 = boxX h x0 := by
      cases x0 with
      | c y =>
        cases y with
        | ptr l g i off =>
          obtain ⟨_, _, hb, _⟩ := h2
          obtain ⟨k1, _⟩ := alive2 hb
          simp only [boxX, k1]
        | _ => rfl
      | _ => rfl
    rw [hbox]
    have h3 : (all? (Go.Proofs.Ytbpipdgkkdifgaa.shA h') (css.flatten ++ boxX h x0)).isSome = true := by
      cases h4 : all? (Go.Proofs.Ytbpipdgkkdifgaa.shA h) (css.flatten ++ boxX h x0) with
      | none => rw [h4] at h1; simp at h1
      | some ys => rw [all (fun x y => le.shA) h4]; rfl
    refine ⟨h3, ?_⟩
    rw [frz le (all?_some h1)]
    have blk : ∀ {l : Nat}, blkX h (h.app (Go.Proofs.Ytbpipdgkkdifgaa.frz h (css.flatten ++ boxX h x0))) l X → blkX h' (h'.app (Go.Proofs.Ytbpipdgkkdifgaa.frz h (css.flatten ++ boxX h x0))) l X ∧ (h'.app (Go.Proofs.Ytbpipdgkkdifgaa.frz h (css.flatten ++ boxX h x0))).gen l = (h.app (Go.Proofs.Ytbpipdgkkdifgaa.frz h (css.flatten ++ boxX h x0))).gen l := by
      intro l hb
      obtain ⟨k1, k2⟩ := alive2 hb
      obtain ⟨k3, k4⟩ := app_blk (Go.Proofs.Ytbpipdgkkdifgaa.frz h (css.flatten ++ boxX h x0)) k2 k1
      refine ⟨?_, k3⟩
      unfold blkX at hb ⊢
      rw [k1]
      cases hk : h.blk l with
      | dead => rw [hk] at hb; exact hb.elim
      | ice z => rw [hk] at hb; exact hb.elim
      | row ty e els => rw [hk] at hb; simp only at hb ⊢; rw [k4]; exact hb
      | box ty e els =>
        rw [hk] at hb
        simp only at hb ⊢
        rw [k4]
        obtain ⟨a1, a2, a3, a4, a5⟩ := hb
        exact ⟨a1, a2, a3, all (fun x y hxy => all (fun x y => le.shA) hxy) a4, a5⟩
    cases x0 with
    | c y =>
      cases y with
      | own l g =>
        obtain ⟨a1, a2, a3, a4, a5⟩ := h2
        obtain ⟨b1, b2⟩ := blk a4
        exact ⟨a1, a2, by rw [b2]; exact a3, b1, a5⟩
      | ptr l g i off =>
        obtain ⟨a1, a3, a4, a5⟩ := h2
        obtain ⟨b1, b2⟩ := blk a4
        exact ⟨a1, by rw [b2]; exact a3, b1, a5⟩
      | _ => exact h2.elim
    | _ => exact h2.elim
theorem callX0 {P : Program} {f : Nat} (le : h.le h') {xs : List (TV AC)} {K : TV AC → List (Nat × Nat × LB) → Prop} (hs : CallX0 P f h xs K) : CallX0 P f h' xs K := by
  unfold CallX0 at hs ⊢
  cases xs with
  | nil => exact hs.elim
  | cons x0 xr =>
    simp only at hs ⊢
    cases h1 : all? (Go.Proofs.Ytbpipdgkkdifgaa.argB h) xr with
    | none => rw [h1] at hs; exact hs.elim
    | some as =>
      rw [h1] at hs
      rw [all (fun x y => le.argB) h1]
      obtain ⟨X, h2, h3⟩ := hs
      exact ⟨X, h2, le.afterX h3⟩
theorem rawT {l g : Nat} {v : Value} (le : h.le h') {x : TV AC} {y : TV SC} (hx : Go.Proofs.Ytbpipdgkkdifgaa.rawT h l g v x = some y) : Go.Proofs.Ytbpipdgkkdifgaa.rawT h' l g v x = some y := by
  have cell : ∀ x y, rawC h l g v x = some y → rawC h' l g v x = some y := by
    intro x y hx
    unfold rawC at hx ⊢
    cases hi : isRow l g x with
    | true => rw [hi] at hx; exact hx
    | false => rw [hi] at hx; exact le.shA hx
  unfold Go.Proofs.Ytbpipdgkkdifgaa.rawT at hx ⊢
  cases x with
  | c x =>
    simp only [Option.map_eq_some_iff] at hx ⊢
    obtain ⟨z, h1, rfl⟩ := hx
    exact ⟨z, cell _ _ h1, rfl⟩
  | agg xs =>
    simp only [Option.map_eq_some_iff] at hx ⊢
    obtain ⟨z, h1, rfl⟩ := hx
    exact ⟨z, all cell h1, rfl⟩
  | _ => simp at hx
theorem callR {P : Program} {f : Nat} (le : h.le h') {xs : List (TV AC)} {K : TV AC → List (Nat × Nat × LB) → Prop} (hs : CallR P f h xs K) : CallR P f h' xs K := by
  obtain ⟨l, g, rv, h1, h2, h3, h4⟩ := hs
  have hne : h.blk l ≠ .dead := fun e => by rw [e] at h1; simp [LB.isRow] at h1
  obtain ⟨k1, k2⟩ := le.alive (l := l) rfl hne
  refine ⟨l, g, rv, by rw [k1]; exact h1, by rw [k2]; exact h2, h3, ?_⟩
  cases hc : all? TV.cells xs with
  | none => rw [hc] at h4; exact h4.elim
  | some css =>
    rw [hc] at h4
    simp only at h4 ⊢
    obtain ⟨a1, a2, a3, a4⟩ := h4
    rw [frz le (all?_some a1)]
    refine ⟨?_, a2, fun v hv => ?_, a4⟩
    · cases h5 : all? (Go.Proofs.Ytbpipdgkkdifgaa.shA h) (restR l g css) with
      | none => rw [h5] at a1; simp at a1
      | some ys => rw [all (fun x y => le.shA) h5]; rfl
    · obtain ⟨as, b1, b2⟩ := a3 v hv
      exact ⟨as, all (fun x y => le.rawT) b1, b2⟩
theorem callX {P : Program} {f : Nat} (le : h.le h') {xs : List (TV AC)} {K : TV AC → List (Nat × Nat × LB) → Prop} (hs : CallX P f h xs K) : CallX P f h' xs K :=
  hs.elim (fun h => .inl (le.callX0 h)) (fun h => .inr (le.callR h))
end Hp.le
theorem aeff_le {P : Program} {o : AOp} {d : Nat} {ev : Opd → TV AC} {h h' : Hp} {K : TV AC → List (Nat × Nat × LB) → Prop} (le : h.le h') (hd : h'.gen d = h.gen d) (hs : aeff P o d ev h K) : aeff P o d ev h' K := by
  cases o with
  | mv x => exact hs
  | pick c a b => exact hs
  | mk ty e els => simp only [aeff, hd] at hs ⊢; exact hs
  | box ty e x => simp only [aeff, hd] at hs ⊢; exact hs
  | build z ps => exact hs
  | bslice ty e z l ps =>
    simp only [aeff] at hs ⊢
    cases h1 : fillA ev (List.replicate l z).flatten ps with
    | none => rw [h1] at hs; exact hs.elim
    | some cs =>
      rw [h1] at hs
      simp only at hs ⊢
      cases h2 : all? (shA h) cs with
      | none => rw [h2] at hs; exact hs.elim
      | some ss =>
        rw [h2] at hs
        rw [Hp.le.all (fun x y => le.shA) h2]
        simp only at hs ⊢
        rw [Hp.le.frz le (all?_some (by rw [h2]; rfl)), Hp.le.app_gen _ hd]
        exact hs
  | load ag n x => simp only [aeff] at hs ⊢; exact le.rd hs
  | store n p x =>
    simp only [aeff] at hs ⊢
    split at hs
    · rename_i l g i off cs h1 h2
      obtain ⟨h3, h4, h5⟩ := hs
      try rw [h1, h2]
      try simp only
      refine ⟨h3, ?_⟩
      cases hk : h.blk l with
      | dead => rw [hk] at h5; exact h5.elim
      | box ty e els => obtain ⟨k1, k2⟩ := le.alive hk (by simp); rw [k1, k2]; rw [hk] at h5; exact ⟨h4, h5⟩
      | row ty e els =>
        obtain ⟨k1, k2⟩ := le.alive hk (by simp)
        rw [k1, k2]
        rw [hk] at h5
        refine ⟨h4, ?_⟩
        simp only at h5 ⊢
        cases h6 : all? (shA h) cs with
        | none => rw [h6] at h5; exact h5.elim
        | some ss =>
          rw [h6] at h5
          rw [Hp.le.all (fun x y => le.shA) h6]
          simp only at h5 ⊢
          rw [Hp.le.frz le (all?_some (by rw [h6]; rfl))]
          exact h5
      | ice z => rw [hk] at h5; exact h5.elim
    · exact hs.elim
  | bin bl op x y => exact hs
  | eqs neg t x y => exact hs
  | not x => exact hs
  | conv k x => exact hs
  | b2s x =>
    simp only [aeff] at hs ⊢
    cases h1 : sliceOf 1 h (ev x) with
    | none => rw [h1] at hs; exact hs.elim
    | some q =>
      rw [h1] at hs
      rw [le.sliceOf h1]
      exact hs
  | mkSlice ty e b z l c => simp only [aeff, hd] at hs ⊢; exact hs
  | sub e x lo hi =>
    simp only [aeff] at hs ⊢
    split at hs
    · rename_i els ws m h1 h2
      rw [le.sliceOf h1, le.lenOf h2]
      exact hs
    · exact hs.elim
  | z3 x =>
    simp only [aeff] at hs ⊢
    split at hs
    · rename_i m h2
      rw [le.lenOf h2]
      exact hs
    · exact hs.elim
  | ssub x lo hi => exact hs
  | fld off x =>
    simp only [aeff] at hs ⊢
    split at hs
    · rename_i cs h1; (try rw [h1]); exact hs
    · rename_i l g i q h1
      try rw [h1]
      obtain ⟨h2, h3, h4⟩ := hs
      obtain ⟨k1, k2⟩ := le.view (l := l) (by intro hv; rw [hv] at h3; simp [VB.live] at h3)
      simp only [k1, k2]
      exact ⟨h2, h3, h4⟩
    · exact hs.elim
  | idx e x y =>
    simp only [aeff] at hs ⊢
    split at hs
    · rename_i k m h0
      try rw [h0]
      try simp only
      split at hs
      · rename_i e' els h1; (try rw [h1]); exact hs
      · rename_i l g h1
        try rw [h1]
        try simp only
        obtain ⟨h2, h3⟩ := hs
        cases hk : h.blk l with
        | dead => rw [hk] at h3; exact h3.elim
        | box ty e els => rw [hk] at h3; exact h3.elim
        | row ty e els => obtain ⟨k1, k2⟩ := le.alive hk (by simp); rw [k1, k2]; rw [hk] at h3; exact ⟨h2, h3⟩
        | ice z => obtain ⟨k1, k2⟩ := le.alive hk (by simp); rw [k1, k2]; rw [hk] at h3; exact ⟨h2, h3⟩
      · exact hs.elim
    · exact hs.elim
  | aidx c e x y =>
    simp only [aeff] at hs ⊢
    split at hs
    · rename_i k m h0
      try rw [h0]
      try simp only
      obtain ⟨h1, h2, hs⟩ := hs
      refine ⟨h1, h2, ?_⟩
      split at hs
      · rename_i cs h3; (try rw [h3]); exact hs
      · rename_i l g i off h3
        try rw [h3]
        try simp only
        obtain ⟨h4, h5⟩ := hs
        cases hv : h.view l with
        | dead => rw [hv] at h5; exact h5.elim
        | mem row ty e' els =>
          obtain ⟨k1, k2⟩ := le.view (l := l) (by rw [hv]; simp)
          rw [k1, k2, hv]
          rw [hv] at h5
          exact ⟨h4, h5⟩
        | ice z => rw [hv] at h5; exact h5.elim
      · exact hs.elim
    · exact hs.elim
  | sidx x y => exact hs
  | field ag off n x => exact hs
  | ext i x => exact hs
  | len x =>
    simp only [aeff] at hs ⊢
    split at hs
    · rename_i m h2
      rw [le.lenOf h2]
      exact hs
    · exact hs.elim
  | slen x => exact hs
  | app ty e b s x =>
    simp only [aeff, hd] at hs ⊢
    split at hs
    · rename_i els ws m h1 h2
      rw [le.sliceOf h1, le.lenOf h2]
      simp only
      split at hs
      · rename_i h3; (try rw [h3]); exact hs
      · rename_i l g h3
        try rw [h3]
        try simp only
        obtain ⟨h4, h5⟩ := hs
        cases hk : h.blk l with
        | dead => rw [hk] at h5; exact h5.elim
        | box ty e els => rw [hk] at h5; exact h5.elim
        | row ty e els => obtain ⟨k1, k2⟩ := le.alive hk (by simp); rw [k1, k2]; rw [hk] at h5; exact ⟨h4, h5⟩
        | ice z => rw [hk] at h5; exact h5.elim
      · exact hs.elim
    · exact hs.elim
  | call f args =>
    simp only [aeff] at hs ⊢
    have hX : CallX P f h (args.map ev) K → match all? (argB h') (args.map ev) with
      | some as => (∃ r, Spec P f as r ∧ after h' d (args.map ev) r K) ∨ CallX P f h' (args.map ev) K
      | none => CallX P f h' (args.map ev) K := fun hx => by
      split
      · exact .inr (le.callX hx)
      · exact le.callX hx
    cases h1 : all? (argB h) (args.map ev) with
    | none => rw [h1] at hs; exact hX hs
    | some as =>
      rw [h1] at hs
      rcases hs with ⟨r, h2, h3⟩ | hs
      · rw [Hp.le.all (fun x y => le.argB) h1]
        exact .inl ⟨r, h2, le.after hd h3⟩
      · exact hX hs
  | callv f args =>
    simp only [aeff] at hs ⊢
    split at hs
    · rename_i g caps as h0 h1
      try rw [h0]
      rw [Hp.le.all (fun x y => le.argB) h1]
      obtain ⟨h2, r, h3, h4⟩ := hs
      exact ⟨h2, r, h3, le.after hd h4⟩
    · exact hs.elim
  | clo f caps => exact hs
  | nilc x =>
    simp only [aeff] at hs ⊢
    split at hs
    · rename_i cs h1; try rw [h1] at hs ⊢; exact hs
    · rename_i f cs h1; try rw [h1] at hs ⊢; exact hs
    · rename_i f cs h1; try rw [h1] at hs ⊢; exact hs
    · rename_i l g i q h1
      try rw [h1] at hs ⊢
      obtain ⟨h2, h3, h4⟩ := hs
      obtain ⟨k1, k2⟩ := le.view (l := l) (by intro hv; rw [hv] at h3; simp [VB.live] at h3)
      simp only [k1, k2]
      exact ⟨h2, h3, h4⟩
    · exact hs.elim
  | isnil x => exact hs
  | mm mx x y => exact hs
end Go.Proofs.Ytbpipdgkkdifgaa
