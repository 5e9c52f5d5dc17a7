import Derived.Test.YtcbfhpnmhhnjpaaGreatZ5
set_option linter.unusedVariables false
set_option linter.unusedSimpArgs false
namespace Go.Proofs.YtcbfhpnmhhnjpaaGreat
open Go.RowKit
def AOp.opds : AOp → List Opd
  | .mv x | .box _ _ x | .load _ _ x | .not x | .conv _ x | .z3 x | .fld _ x | .field _ _ _ x | .ext _ x | .len x | .slen x | .nilc x | .isnil x | .b2s x => [x]
  | .pick c a b => [c, a, b]
  | .mk _ _ _ => []
  | .build _ ps => ps.map fun p => p.2.2
  | .bslice _ _ _ _ ps => ps.map fun p => p.2.2
  | .store _ p x => [p, x]
  | .bin _ _ x y | .eqs _ _ x y | .mkSlice _ _ _ _ x y | .idx _ x y | .aidx _ _ x y | .sidx x y | .app _ _ _ x y | .mm _ x y => [x, y]
  | .sub _ x lo hi | .ssub x lo hi => [x] ++ lo.toList ++ hi.toList
  | .call _ args => args
  | .callv f args => f :: args
  | .clo _ caps => caps
theorem fillA_ev {ev ev' : Opd → TV AC} : ∀ (ps : List (Nat × Nat × Opd)) (z : List AC), (∀ x ∈ ps.map (fun p => p.2.2), ev x = ev' x) → fillA ev z ps = fillA ev' z ps := by
  intro ps
  induction ps with
  | nil => intro z _; rfl
  | cons p ps ih =>
    intro z h
    obtain ⟨off, n, x⟩ := p
    have h1 : ev x = ev' x := h x (by simp)
    simp only [fillA, h1]
    cases (ev' x).cells with
    | none => rfl
    | some cs =>
      simp only
      split
      · exact ih _ (fun y hy => h y (by simp [hy]))
      · rfl
theorem all?_congr {α γ : Type} {f g : α → Option γ} : ∀ (xs : List α), (∀ x ∈ xs, f x = g x) → all? f xs = all? g xs := by
  intro xs
  induction xs with
  | nil => intro _; rfl
  | cons x xs ih =>
    intro h
    simp only [all?, h x (by simp), ih (fun y hy => h y (by simp [hy]))]
theorem bnd_ev {ev ev' : Opd → TV AC} {x : Option Opd} (h : ∀ y ∈ x.toList, ev y = ev' y) (k : Nat) : bnd ev k x = bnd ev' k x := by
  cases x with
  | none => rfl
  | some y => simp only [bnd, h y (by simp)]
theorem aeff_ev {P : Program} {o : AOp} {d : Nat} {ev ev' : Opd → TV AC} {h : Hp} {K : TV AC → List (Nat × Nat × LB) → Prop} (ho : ∀ x ∈ o.opds, ev x = ev' x) : aeff P o d ev h K = aeff P o d ev' h K := by
  cases o with
  | mv x => simp only [aeff, ho x (by simp [AOp.opds])]
  | pick c a b => simp only [aeff, ho c (by simp [AOp.opds]), ho a (by simp [AOp.opds]), ho b (by simp [AOp.opds])]
  | mk ty e els => rfl
  | box ty e x => simp only [aeff, ho x (by simp [AOp.opds])]
  | build z ps => simp only [aeff, fillA_ev ps z ho]
  | bslice ty e z l ps => simp only [aeff, fillA_ev ps _ ho]
  | load ag n x => simp only [aeff, ho x (by simp [AOp.opds])]
  | store n p x => simp only [aeff, ho p (by simp [AOp.opds]), ho x (by simp [AOp.opds])]
  | bin bl op x y => simp only [aeff, ho x (by simp [AOp.opds]), ho y (by simp [AOp.opds])]
  | eqs neg t x y => simp only [aeff, ho x (by simp [AOp.opds]), ho y (by simp [AOp.opds])]
  | not x => simp only [aeff, ho x (by simp [AOp.opds])]
  | conv k x => simp only [aeff, ho x (by simp [AOp.opds])]
  | b2s x => simp only [aeff, ho x (by simp [AOp.opds])]
  | mkSlice ty e b z l c => simp only [aeff, ho l (by simp [AOp.opds]), ho c (by simp [AOp.opds])]
  | sub e x lo hi => simp only [aeff, ho x (by simp [AOp.opds]), bnd_ev (x := lo) (fun y hy => ho y (by simp [AOp.opds] at hy ⊢; simp [hy])), bnd_ev (x := hi) (fun y hy => ho y (by simp [AOp.opds] at hy ⊢; simp [hy]))]
  | z3 x => simp only [aeff, ho x (by simp [AOp.opds])]
  | ssub x lo hi => simp only [aeff, ho x (by simp [AOp.opds]), bnd_ev (x := lo) (fun y hy => ho y (by simp [AOp.opds] at hy ⊢; simp [hy])), bnd_ev (x := hi) (fun y hy => ho y (by simp [AOp.opds] at hy ⊢; simp [hy]))]
  | fld off x => simp only [aeff, ho x (by simp [AOp.opds])]
  | idx e x y => simp only [aeff, ho x (by simp [AOp.opds]), ho y (by simp [AOp.opds])]
  | aidx c e x y => simp only [aeff, ho x (by simp [AOp.opds]), ho y (by simp [AOp.opds])]
  | sidx x y => simp only [aeff, ho x (by simp [AOp.opds]), ho y (by simp [AOp.opds])]
  | field ag off n x => simp only [aeff, ho x (by simp [AOp.opds])]
  | ext i x => simp only [aeff, ho x (by simp [AOp.opds])]
  | len x => simp only [aeff, ho x (by simp [AOp.opds])]
  | slen x => simp only [aeff, ho x (by simp [AOp.opds])]
  | app ty e b s x => simp only [aeff, ho s (by simp [AOp.opds]), ho x (by simp [AOp.opds])]
  | call f args =>
    have : args.map ev = args.map ev' := List.map_congr_left (fun x hx => ho x hx)
    simp only [aeff, this]
  | callv f args =>
    have : args.map ev = args.map ev' := List.map_congr_left (fun x hx => ho x (by simp [AOp.opds, hx]))
    simp only [aeff, this, ho f (by simp [AOp.opds])]
  | clo f caps =>
    simp only [aeff]
    rw [all?_congr (g := fun x => whole (ev' x)) caps (fun x hx => by simp only [ho x hx])]
  | nilc x => simp only [aeff, ho x (by simp [AOp.opds])]
  | isnil x => simp only [aeff, ho x (by simp [AOp.opds])]
  | mm mx x y => simp only [aeff, ho x (by simp [AOp.opds]), ho y (by simp [AOp.opds])]
def Hp.le (h h' : Hp) : Prop := ∀ l, h.blk l = .dead ∨ (h'.blk l = h.blk l ∧ h'.gen l = h.gen l)
namespace Hp.le
variable {h h' : Hp}
theorem alive (le : h.le h') {l : Nat} {b : LB} (hb : h.blk l = b) (hn : b ≠ .dead) : h'.blk l = b ∧ h'.gen l = h.gen l := by
  rcases le l with h1 | h1
  · exact (hn (hb.symm.trans h1)).elim
  · exact ⟨h1.1.trans hb, h1.2⟩
theorem view (le : h.le h') {l : Nat} (hv : h.view l ≠ .dead) : h'.view l = h.view l ∧ h'.gen l = h.gen l := by
  rcases le l with h1 | h1
  · exact (hv (by unfold Hp.view; rw [h1]; rfl)).elim
  · exact ⟨by unfold Hp.view; rw [h1.1], h1.2⟩
theorem shA (le : h.le h') {x : AC} {y : SC} (hs : shA h x = some y) : Go.Proofs.YtcbfhpnmhhnjpaaGreat.shA h' x = some y := by
  cases x with
  | s x => exact hs
  | zc => exact hs
  | own l g =>
    simp only [Go.Proofs.YtcbfhpnmhhnjpaaGreat.shA] at hs ⊢
    split at hs
    · rename_i hg
      cases hk : h.blk l with
      | dead => rw [hk] at hs; simp at hs
      | box ty e els => rw [hk] at hs; simp at hs
      | row ty e els => obtain ⟨k1, k2⟩ := le.alive hk (by simp); rw [k1, k2, if_pos hg]; rw [hk] at hs; exact hs
      | ice z => obtain ⟨k1, k2⟩ := le.alive hk (by simp); rw [k1, k2, if_pos hg]; rw [hk] at hs; exact hs
    · simp at hs
  | ptr l g i off => simp [Go.Proofs.YtcbfhpnmhhnjpaaGreat.shA] at hs
  | clo f ls => simp [Go.Proofs.YtcbfhpnmhhnjpaaGreat.shA] at hs
theorem all {α γ : Type} {f g : α → Option γ} (hfg : ∀ x y, f x = some y → g x = some y) : ∀ {xs : List α} {ys : List γ}, all? f xs = some ys → all? g xs = some ys := by
  intro xs
  induction xs with
  | nil => intro ys h; rw [all?_nil h]; rfl
  | cons x xs ih =>
    intro ys h
    obtain ⟨y, ys', h1, h2, rfl⟩ := all?_cons h
    simp only [all?, hfg x y h1, ih h2]
theorem shB (le : h.le h') {x : AC} {y : SC} (hs : shB h x = some y) : Go.Proofs.YtcbfhpnmhhnjpaaGreat.shB h' x = some y := by
  cases x with
  | s x => exact hs
  | zc => exact hs
  | own l g => exact le.shA (x := .own l g) hs
  | ptr l g i off =>
    simp only [Go.Proofs.YtcbfhpnmhhnjpaaGreat.shB] at hs ⊢
    split at hs
    · rename_i hg
      cases hk : h.blk l with
      | box ty e els =>
        obtain ⟨k1, k2⟩ := le.alive hk (by simp)
        rw [hk] at hs
        simp only at hs
        rw [k1, k2, if_pos hg]
        cases hi : els[i]? with
        | none => rw [hi] at hs; simp at hs
        | some cs =>
          rw [hi] at hs
          simp only [Option.map_eq_some_iff] at hs ⊢
          rw [hi]
          obtain ⟨z, h1, rfl⟩ := hs
          simp only [all (fun x y => le.shA) h1, Option.map_some]
      | dead => rw [hk] at hs; simp at hs
      | row ty e els => rw [hk] at hs; simp at hs
      | ice z => rw [hk] at hs; simp at hs
    · simp at hs
  | clo f ls =>
    simp only [Go.Proofs.YtcbfhpnmhhnjpaaGreat.shB, Option.map_eq_some_iff] at hs ⊢
    obtain ⟨z, h1, rfl⟩ := hs
    refine ⟨z, all (fun p y hp => ?_) h1, rfl⟩
    split at hp
    · rename_i hg
      cases hk : h.blk p.1 with
      | box ty e els =>
        obtain ⟨k1, k2⟩ := le.alive hk (by simp)
        rw [hk] at hp
        simp only at hp
        rw [k1, k2, if_pos hg]
        cases hi : els[0]? with
        | none => rw [hi] at hp; simp at hp
        | some cs =>
          rw [hi] at hp
          simp only [Option.map_eq_some_iff] at hp ⊢
          rw [hi]
          obtain ⟨z, h1, rfl⟩ := hp
          simp only [all (fun x y => le.shA) h1, Option.map_some]
      | dead => rw [hk] at hp; simp at hp
      | row ty e els => rw [hk] at hp; simp at hp
      | ice z => rw [hk] at hp; simp at hp
    · simp at hp
theorem argB (le : h.le h') {x : TV AC} {y : TV SC} (hs : argB h x = some y) : Go.Proofs.YtcbfhpnmhhnjpaaGreat.argB h' x = some y := by
  cases x with
  | c x =>
    simp only [Go.Proofs.YtcbfhpnmhhnjpaaGreat.argB, Option.map_eq_some_iff] at hs ⊢
    obtain ⟨z, h1, rfl⟩ := hs
    exact ⟨z, le.shB h1, rfl⟩
  | agg xs =>
    simp only [Go.Proofs.YtcbfhpnmhhnjpaaGreat.argB, Option.map_eq_some_iff] at hs ⊢
    obtain ⟨z, h1, rfl⟩ := hs
    exact ⟨z, all (fun x y => le.shB) h1, rfl⟩
  | no => simp [Go.Proofs.YtcbfhpnmhhnjpaaGreat.argB] at hs
  | tup vs => simp [Go.Proofs.YtcbfhpnmhhnjpaaGreat.argB] at hs
theorem set (le : h.le h') (l g : Nat) (b : LB) : (h.set l g b).le (h'.set l g b) := by
  intro k
  by_cases e : k = l
  · subst e; right; exact ⟨by show upd _ _ _ _ = upd _ _ _ _; rw [upd_at, upd_at], by show upd _ _ _ _ = upd _ _ _ _; rw [upd_at, upd_at]⟩
  · rcases le k with h1 | h1
    · left; show upd _ _ _ _ = _; rw [upd_ne _ _ e]; exact h1
    · right; exact ⟨by show upd _ _ _ _ = upd _ _ _ _; rw [upd_ne _ _ e, upd_ne _ _ e]; exact h1.1, by show upd _ _ _ _ = upd _ _ _ _; rw [upd_ne _ _ e, upd_ne _ _ e]; exact h1.2⟩
theorem frz : ∀ {xs : List AC} {h h' : Hp}, h.le h' → (∀ x ∈ xs, (Go.Proofs.YtcbfhpnmhhnjpaaGreat.shA h x).isSome = true) → Go.Proofs.YtcbfhpnmhhnjpaaGreat.frz h' xs = Go.Proofs.YtcbfhpnmhhnjpaaGreat.frz h xs := by
  intro xs
  induction xs with
  | nil => intro h h' _ _; rfl
  | cons x xs ih =>
    intro h h' le hs
    have tl := fun y hy => hs y (List.mem_cons_of_mem x hy)
    cases x with
    | s x => exact ih le tl
    | zc => exact ih le tl
    | ptr l g i off => exact ih le tl
    | clo f ls => exact ih le tl
    | own l g =>
      have h1 := hs (.own l g) (by simp)
      simp only [Go.Proofs.YtcbfhpnmhhnjpaaGreat.shA] at h1
      split at h1
      · rename_i hg
        cases hk : h.blk l with
        | dead => rw [hk] at h1; simp at h1
        | box ty e els => rw [hk] at h1; simp at h1
        | row ty e els =>
          obtain ⟨k1, k2⟩ := le.alive hk (by simp)
          simp only [Go.Proofs.YtcbfhpnmhhnjpaaGreat.frz, hk, k1, k2, if_pos hg]
          rw [ih (le.set l g _) (fun y hy => by rw [shA_ice hk hg]; exact tl y hy)]
        | ice z =>
          obtain ⟨k1, k2⟩ := le.alive hk (by simp)
          simp only [Go.Proofs.YtcbfhpnmhhnjpaaGreat.frz, hk, k1]
          exact ih le tl
      · simp at h1
theorem app_gen (ws : List (Nat × Nat × LB)) : ∀ {h h' : Hp} {d : Nat}, h'.gen d = h.gen d → (h'.app ws).gen d = (h.app ws).gen d := by
  induction ws with
  | nil => intro h h' d e; exact e
  | cons x ws ih =>
    intro h h' d e
    rw [Hp.app_cons, Hp.app_cons]
    refine ih ?_
    by_cases e1 : d = x.1
    · subst e1; rw [Hp.gen_at, Hp.gen_at]
    · rw [Hp.gen_ne _ _ _ e1, Hp.gen_ne _ _ _ e1]; exact e
theorem sliceOf (le : h.le h') {e : Nat} {x : TV AC} {r : List (List SC) × List (Nat × Nat × LB)} (hs : sliceOf e h x = some r) : Go.Proofs.YtcbfhpnmhhnjpaaGreat.sliceOf e h' x = some r := by
  obtain ⟨els, ws⟩ := r
  cases sliceOf_ok hs with
  | zc => exact hs
  | s => exact hs
  | tag => exact hs
  | row hk =>
    obtain ⟨k1, k2⟩ := le.alive hk (by simp)
    simp only [Go.Proofs.YtcbfhpnmhhnjpaaGreat.sliceOf, k1, k2, if_true]
  | ice hk =>
    obtain ⟨k1, k2⟩ := le.alive hk (by simp)
    simp only [Go.Proofs.YtcbfhpnmhhnjpaaGreat.sliceOf, k1, k2, if_true]
theorem lenOf (le : h.le h') {x : TV AC} {m : Nat} (hs : lenOf h x = some m) : Go.Proofs.YtcbfhpnmhhnjpaaGreat.lenOf h' x = some m := by
  unfold Go.Proofs.YtcbfhpnmhhnjpaaGreat.lenOf at hs ⊢
  split at hs
  · exact hs
  · exact hs
  · exact hs
  · rename_i l g
    split at hs
    · rename_i hg
      cases hk : h.blk l with
      | dead => rw [hk] at hs; simp at hs
      | box ty e els => rw [hk] at hs; simp at hs
      | row ty e els => obtain ⟨k1, k2⟩ := le.alive hk (by simp); simp only [k1, k2, if_pos hg]; rw [hk] at hs; exact hs
      | ice z => obtain ⟨k1, k2⟩ := le.alive hk (by simp); simp only [k1, k2, if_pos hg]; rw [hk] at hs; exact hs
    · simp at hs
  · simp at hs
theorem rd (le : h.le h') {x : TV AC} {m : Nat} {K : List AC → Prop} (hs : rd h x m K) : Go.Proofs.YtcbfhpnmhhnjpaaGreat.rd h' x m K := by
  unfold Go.Proofs.YtcbfhpnmhhnjpaaGreat.rd at hs ⊢
  split at hs
  · exact hs
  · rename_i l g i off
    obtain ⟨hg, hs⟩ := hs
    cases hk : h.blk l with
    | dead => rw [hk] at hs; exact hs.elim
    | box ty e els => obtain ⟨k1, k2⟩ := le.alive hk (by simp); simp only [k1, k2]; rw [hk] at hs; exact ⟨hg, hs⟩
    | row ty e els => obtain ⟨k1, k2⟩ := le.alive hk (by simp); simp only [k1, k2]; rw [hk] at hs; exact ⟨hg, hs⟩
    | ice z => rw [hk] at hs; exact hs.elim
  · exact hs.elim
theorem after (le : h.le h') {d : Nat} (hd : h'.gen d = h.gen d) {xs : List (TV AC)} {r : Res} {K : TV AC → List (Nat × Nat × LB) → Prop} (hs : after h d xs r K) : Go.Proofs.YtcbfhpnmhhnjpaaGreat.after h' d xs r K := by
  unfold Go.Proofs.YtcbfhpnmhhnjpaaGreat.after at hs ⊢
  split at hs
  · rename_i hf
    rw [if_pos hf]
    exact hs
  · rename_i hf
    rw [if_neg hf]
    cases hc : all? TV.cells xs with
    | none => rw [hc] at hs; exact hs.elim
    | some css =>
      rw [hc] at hs
      simp only at hs ⊢
      obtain ⟨h1, h2⟩ := hs
      have h3 : (all? (Go.Proofs.YtcbfhpnmhhnjpaaGreat.shA h') css.flatten).isSome = true := by
        cases h4 : all? (Go.Proofs.YtcbfhpnmhhnjpaaGreat.shA h) css.flatten with
        | none => rw [h4] at h1; simp at h1
        | some ys => rw [all (fun x y => le.shA) h4]; rfl
      have h5 := frz le (all?_some h1)
      refine ⟨h3, ?_⟩
      cases r with
      | val r => simp only at h2 ⊢; rw [h5]; exact h2
      | row ty e els => simp only at h2 ⊢; rw [h5, app_gen _ hd]; exact h2
      | trow ty e els rest more => simp only at h2 ⊢; rw [h5, app_gen _ hd]; exact h2
theorem app_blk (ws : List (Nat × Nat × LB)) : ∀ {h h' : Hp} {l : Nat}, h'.gen l = h.gen l → h'.blk l = h.blk l → (h'.app ws).gen l = (h.app ws).gen l ∧ (h'.app ws).blk l = (h.app ws).blk l := by
  induction ws with
  | nil => intro h h' l h1 h2; exact ⟨h1, h2⟩
  | cons x ws ih =>
    intro h h' l h1 h2
    rw [Hp.app_cons, Hp.app_cons]
    refine ih ?_ ?_
    · by_cases e : l = x.1
      · subst e; rw [Hp.gen_at, Hp.gen_at]
      · rw [Hp.gen_ne _ _ _ e, Hp.gen_ne _ _ _ e, h1]
    · show upd h'.blk x.1 x.2.2 l = upd h.blk x.1 x.2.2 l
      by_cases e : l = x.1
      · rw [e, upd_at, upd_at]
      · rw [upd_ne _ _ e, upd_ne _ _ e, h2]
theorem afterX (le : h.le h') {x0 : TV AC} {xs : List (TV AC)} {X : XR} {K : TV AC → List (Nat × Nat × LB) → Prop} (hs : afterX h x0 xs X K) : Go.Proofs.YtcbfhpnmhhnjpaaGreat.afterX h' x0 xs X K := by
  unfold Go.Proofs.YtcbfhpnmhhnjpaaGreat.afterX at hs ⊢
  cases hc : all? TV.cells xs with
  | none => rw [hc] at hs; exact hs.elim
  | some css =>
    rw [hc] at hs
    simp only at hs ⊢
    obtain ⟨h1, h2⟩ := hs
    have alive2 : ∀ {l : Nat} {H : Hp}, blkX h H l X → h'.blk l = h.blk l ∧ h'.gen l = h.gen l := by
      intro l H hb
      rcases le l with h3 | h3
      · unfold blkX at hb; rw [h3] at hb; exact hb.elim
      · exact h3
    have hbox : boxX h' x0 = boxX h x0 := by
      cases x0 with
      | c y =>
        cases y with
        | ptr l g i off =>
          obtain ⟨_, _, hb, _⟩ := h2
          obtain ⟨k1, _⟩ := alive2 hb
          simp only [boxX, k1]
        | _ => rfl
      | _ => rfl
    rw [hbox]
    have h3 : (all? (Go.Proofs.YtcbfhpnmhhnjpaaGreat.shA h') (css.flatten ++ boxX h x0)).isSome = true := by
      cases h4 : all? (Go.Proofs.YtcbfhpnmhhnjpaaGreat.shA h) (css.flatten ++ boxX h x0) with
      | none => rw [h4] at h1; simp at h1
      | some ys => rw [all (fun x y => le.shA) h4]; rfl
    refine ⟨h3, ?_⟩
    rw [frz le (all?_some h1)]
    have blk : ∀ {l : Nat}, blkX h (h.app (Go.Proofs.YtcbfhpnmhhnjpaaGreat.frz h (css.flatten ++ boxX h x0))) l X → blkX h' (h'.app (Go.Proofs.YtcbfhpnmhhnjpaaGreat.frz h (css.flatten ++ boxX h x0))) l X ∧ (h'.app (Go.Proofs.YtcbfhpnmhhnjpaaGreat.frz h (css.flatten ++ boxX h x0))).gen l = (h.app (Go.Proofs.YtcbfhpnmhhnjpaaGreat.frz h (css.flatten ++ boxX h x0))).gen l := by
      intro l hb
      obtain ⟨k1, k2⟩ := alive2 hb
      obtain ⟨k3, k4⟩ := app_blk (Go.Proofs.YtcbfhpnmhhnjpaaGreat.frz h (css.flatten ++ boxX h x0)) k2 k1
      refine ⟨?_, k3⟩
      unfold blkX at hb ⊢
      rw [k1]
      cases hk : h.blk l with
      | dead => rw [hk] at hb; exact hb.elim
      | ice z => rw [hk] at hb; exact hb.elim
      | row ty e els => rw [hk] at hb; simp only at hb ⊢; rw [k4]; exact hb
      | box ty e els =>
        rw [hk] at hb
        simp only at hb ⊢
        rw [k4]
        obtain ⟨a1, a2, a3, a4, a5⟩ := hb
        exact ⟨a1, a2, a3, all (fun x y hxy => all (fun x y => le.shA) hxy) a4, a5⟩
    cases x0 with
    | c y =>
      cases y with
      | own l g =>
        obtain ⟨a1, a2, a3, a4, a5⟩ := h2
        obtain ⟨b1, b2⟩ := blk a4
        exact ⟨a1, a2, by rw [b2]; exact a3, b1, a5⟩
      | ptr l g i off =>
        obtain ⟨a1, a3, a4, a5⟩ := h2
        obtain ⟨b1, b2⟩ := blk a4
        exact ⟨a1, by rw [b2]; exact a3, b1, a5⟩
      | _ => exact h2.elim
    | _ => exact h2.elim
theorem callX0 {P : Program} {f : Nat} (le : h.le h') {xs : List (TV AC)} {K : TV AC → List (Nat × Nat × LB) → Prop} (hs : CallX0 P f h xs K) : CallX0 P f h' xs K := by
  unfold CallX0 at hs ⊢
  cases xs with
  | nil => exact hs.elim
  | cons x0 xr =>
    simp only at hs ⊢
    cases h1 : all? (Go.Proofs.YtcbfhpnmhhnjpaaGreat.argB h) xr with
    | none => rw [h1] at hs; exact hs.elim
    | some as =>
      rw [h1] at hs
      rw [all (fun x y => le.argB) h1]
      obtain ⟨X, h2, h3⟩ := hs
      exact ⟨X, h2, le.afterX h3⟩
theorem rawT {l g : Nat} {v : Value} (le : h.le h') {x : TV AC} {y : TV SC} (hx : Go.Proofs.YtcbfhpnmhhnjpaaGreat.rawT h l g v x = some y) : Go.Proofs.YtcbfhpnmhhnjpaaGreat.rawT h' l g v x = some y := by
  have cell : ∀ x y, rawC h l g v x = some y → rawC h' l g v x = some y := by
    intro x y hx
    unfold rawC at hx ⊢
    cases hi : isRow l g x with
    | true => rw [hi] at hx; exact hx
    | false => rw [hi] at hx; exact le.shA hx
  unfold Go.Proofs.YtcbfhpnmhhnjpaaGreat.rawT at hx ⊢
  cases x with
  | c x =>
    simp only [Option.map_eq_some_iff] at hx ⊢
    obtain ⟨z, h1, rfl⟩ := hx
    exact ⟨z, cell _ _ h1, rfl⟩
  | agg xs =>
    simp only [Option.map_eq_some_iff] at hx ⊢
    obtain ⟨z, h1, rfl⟩ := hx
    exact ⟨z, all cell h1, rfl⟩
  | _ => simp at hx
theorem callR {P : Program} {f : Nat} (le : h.le h') {xs : List (TV AC)} {K : TV AC → List (Nat × Nat × LB) → Prop} (hs : CallR P f h xs K) : CallR P f h' xs K := by
  obtain ⟨l, g, rv, h1, h2, h3, h4⟩ := hs
  have hne : h.blk l ≠ .dead := fun e => by rw [e] at h1; simp [LB.isRow] at h1
  obtain ⟨k1, k2⟩ := le.alive (l := l) rfl hne
  refine ⟨l, g, rv, by rw [k1]; exact h1, by rw [k2]; exact h2, h3, ?_⟩
  cases hc : all? TV.cells xs with
  | none => rw [hc] at h4; exact h4.elim
  | some css =>
    rw [hc] at h4
    simp only at h4 ⊢
    obtain ⟨a1, a2, a3, a4⟩ := h4
    rw [frz le (all?_some a1)]
    refine ⟨?_, a2, fun v hv => ?_, a4⟩
    · cases h5 : all? (Go.Proofs.YtcbfhpnmhhnjpaaGreat.shA h) (restR l g css) with
      | none => rw [h5] at a1; simp at a1
      | some ys => rw [all (fun x y => le.shA) h5]; rfl
    · obtain ⟨as, b1, b2⟩ := a3 v hv
      exact ⟨as, all (fun x y => le.rawT) b1, b2⟩
theorem callW {P : Program} {f : Nat} (le : h.le h') {xs : List (TV AC)} {K : TV AC → List (Nat × Nat × LB) → Prop} (hs : CallW P f h xs K) : CallW P f h' xs K := by
  unfold CallW at hs ⊢
  split at hs
  · rename_i l g i off xr
    cases h1 : all? argS xr with
    | none => rw [h1] at hs; exact hs.elim
    | some as =>
      rw [h1] at hs
      obtain ⟨X, r, gr, x, a1, a2, a3, a4, a5, a6, a7, a8, a9⟩ := hs
      obtain ⟨k1, k2⟩ := le.alive (l := l) rfl (fun e => by rw [a7] at e; simp at e)
      obtain ⟨k3, k4⟩ := le.alive (l := r) rfl (fun e => by
        rcases a8 with ⟨_, a8⟩ | ⟨_, _, _, a8⟩
        · rw [a8] at e; simp at e
        · exact a8 e)
      exact ⟨X, r, gr, x, a1, a2, a3, by rw [k2]; exact a4, by rw [k4]; exact a5, a6, by rw [k1]; exact a7, by rw [k3]; exact a8, a9⟩
  · exact hs.elim
theorem callX {P : Program} {f : Nat} (le : h.le h') {xs : List (TV AC)} {K : TV AC → List (Nat × Nat × LB) → Prop} (hs : CallX P f h xs K) : CallX P f h' xs K :=
  hs.elim (fun h => .inl (le.callX0 h)) (fun h => .inr (h.elim (fun h => .inl (le.callR h)) (fun h => .inr (le.callW h))))
end Hp.le
theorem aeff_le {P : Program} {o : AOp} {d : Nat} {ev : Opd → TV AC} {h h' : Hp} {K : TV AC → List (Nat × Nat × LB) → Prop} (le : h.le h') (hd : h'.gen d = h.gen d) (hs : aeff P o d ev h K) : aeff P o d ev h' K := by
  cases o with
  | mv x => exact hs
  | pick c a b => exact hs
  | mk ty e els => simp only [aeff, hd] at hs ⊢; exact hs
  | box ty e x => simp only [aeff, hd] at hs ⊢; exact hs
  | build z ps => exact hs
  | bslice ty e z l ps =>
    simp only [aeff] at hs ⊢
    cases h1 : fillA ev (List.replicate l z).flatten ps with
    | none => rw [h1] at hs; exact hs.elim
    | some cs =>
      rw [h1] at hs
      simp only at hs ⊢
      cases h2 : all? (shA h) cs with
      | none => rw [h2] at hs; exact hs.elim
      | some ss =>
        rw [h2] at hs
        rw [Hp.le.all (fun x y => le.shA) h2]
        simp only at hs ⊢
        rw [Hp.le.frz le (all?_some (by rw [h2]; rfl)), Hp.le.app_gen _ hd]
        exact hs
  | load ag n x => simp only [aeff] at hs ⊢; exact le.rd hs
  | store n p x =>
    simp only [aeff] at hs ⊢
    split at hs
    · rename_i l g i off cs h1 h2
      obtain ⟨h3, h4, h5⟩ := hs
      try rw [h1, h2]
      try simp only
      refine ⟨h3, ?_⟩
      cases hk : h.blk l with
      | dead => rw [hk] at h5; exact h5.elim
      | box ty e els => obtain ⟨k1, k2⟩ := le.alive hk (by simp); rw [k1, k2]; rw [hk] at h5; exact ⟨h4, h5⟩
      | row ty e els =>
        obtain ⟨k1, k2⟩ := le.alive hk (by simp)
        rw [k1, k2]
        rw [hk] at h5
        refine ⟨h4, ?_⟩
        simp only at h5 ⊢
        cases h6 : all? (shA h) cs with
        | none => rw [h6] at h5; exact h5.elim
        | some ss =>
          rw [h6] at h5
          rw [Hp.le.all (fun x y => le.shA) h6]
          simp only at h5 ⊢
          rw [Hp.le.frz le (all?_some (by rw [h6]; rfl))]
          exact h5
      | ice z => rw [hk] at h5; exact h5.elim
    · exact hs.elim
  | bin bl op x y => exact hs
  | eqs neg t x y => exact hs
  | not x => exact hs
  | conv k x => exact hs
  | b2s x =>
    simp only [aeff] at hs ⊢
    cases h1 : sliceOf 1 h (ev x) with
    | none => rw [h1] at hs; exact hs.elim
    | some q =>
      rw [h1] at hs
      rw [le.sliceOf h1]
      exact hs
  | mkSlice ty e b z l c => simp only [aeff, hd] at hs ⊢; exact hs
  | sub e x lo hi =>
    simp only [aeff] at hs ⊢
    split at hs
    · rename_i els ws m h1 h2
      rw [le.sliceOf h1, le.lenOf h2]
      exact hs
    · exact hs.elim
  | z3 x =>
    simp only [aeff] at hs ⊢
    split at hs
    · rename_i m h2
      rw [le.lenOf h2]
      exact hs
    · exact hs.elim
  | ssub x lo hi => exact hs
  | fld off x =>
    simp only [aeff] at hs ⊢
    split at hs
    · rename_i cs h1; (try rw [h1]); exact hs
    · rename_i l g i q h1
      try rw [h1]
      obtain ⟨h2, h3, h4⟩ := hs
      obtain ⟨k1, k2⟩ := le.view (l := l) (by intro hv; rw [hv] at h3; simp [VB.live] at h3)
      simp only [k1, k2]
      exact ⟨h2, h3, h4⟩
    · exact hs.elim
  | idx e x y =>
    simp only [aeff] at hs ⊢
    split at hs
    · rename_i k m h0
      try rw [h0]
      try simp only
      split at hs
      · rename_i e' els h1; (try rw [h1]); exact hs
      · rename_i l g h1
        try rw [h1]
        try simp only
        obtain ⟨h2, h3⟩ := hs
        cases hk : h.blk l with
        | dead => rw [hk] at h3; exact h3.elim
        | box ty e els => rw [hk] at h3; exact h3.elim
        | row ty e els => obtain ⟨k1, k2⟩ := le.alive hk (by simp); rw [k1, k2]; rw [hk] at h3; exact ⟨h2, h3⟩
        | ice z => obtain ⟨k1, k2⟩ := le.alive hk (by simp); rw [k1, k2]; rw [hk] at h3; exact ⟨h2, h3⟩
      · exact hs.elim
    · exact hs.elim
  | aidx c e x y =>
    simp only [aeff] at hs ⊢
    split at hs
    · rename_i k m h0
      try rw [h0]
      try simp only
      obtain ⟨h1, h2, hs⟩ := hs
      refine ⟨h1, h2, ?_⟩
      split at hs
      · rename_i cs h3; (try rw [h3]); exact hs
      · rename_i l g i off h3
        try rw [h3]
        try simp only
        obtain ⟨h4, h5⟩ := hs
        cases hv : h.view l with
        | dead => rw [hv] at h5; exact h5.elim
        | mem row ty e' els =>
          obtain ⟨k1, k2⟩ := le.view (l := l) (by rw [hv]; simp)
          rw [k1, k2, hv]
          rw [hv] at h5
          exact ⟨h4, h5⟩
        | ice z => rw [hv] at h5; exact h5.elim
      · exact hs.elim
    · exact hs.elim
  | sidx x y => exact hs
  | field ag off n x => exact hs
  | ext i x => exact hs
  | len x =>
    simp only [aeff] at hs ⊢
    split at hs
    · rename_i m h2
      rw [le.lenOf h2]
      exact hs
    · exact hs.elim
  | slen x => exact hs
  | app ty e b s x =>
    simp only [aeff, hd] at hs ⊢
    split at hs
    · rename_i els ws m h1 h2
      rw [le.sliceOf h1, le.lenOf h2]
      simp only
      split at hs
      · rename_i h3; (try rw [h3]); exact hs
      · rename_i l g h3
        try rw [h3]
        try simp only
        obtain ⟨h4, h5⟩ := hs
        cases hk : h.blk l with
        | dead => rw [hk] at h5; exact h5.elim
        | box ty e els => rw [hk] at h5; exact h5.elim
        | row ty e els => obtain ⟨k1, k2⟩ := le.alive hk (by simp); rw [k1, k2]; rw [hk] at h5; exact ⟨h4, h5⟩
        | ice z => rw [hk] at h5; exact h5.elim
      · exact hs.elim
    · exact hs.elim
  | call f args =>
    simp only [aeff] at hs ⊢
    have hX : CallX P f h (args.map ev) K → match all? (argB h') (args.map ev) with
      | some as => (∃ r, Spec P f as r ∧ after h' d (args.map ev) r K) ∨ CallX P f h' (args.map ev) K
      | none => CallX P f h' (args.map ev) K := fun hx => by
      split
      · exact .inr (le.callX hx)
      · exact le.callX hx
    cases h1 : all? (argB h) (args.map ev) with
    | none => rw [h1] at hs; exact hX hs
    | some as =>
      rw [h1] at hs
      rcases hs with ⟨r, h2, h3⟩ | hs
      · rw [Hp.le.all (fun x y => le.argB) h1]
        exact .inl ⟨r, h2, le.after hd h3⟩
      · exact hX hs
  | callv f args =>
    simp only [aeff] at hs ⊢
    split at hs
    · rename_i g caps as h0 h1
      try rw [h0]
      rw [Hp.le.all (fun x y => le.argB) h1]
      obtain ⟨h2, r, h3, h4⟩ := hs
      exact ⟨h2, r, h3, le.after hd h4⟩
    · exact hs.elim
  | clo f caps => exact hs
  | nilc x =>
    simp only [aeff] at hs ⊢
    split at hs
    · rename_i cs h1; try rw [h1] at hs ⊢; exact hs
    · rename_i f cs h1; try rw [h1] at hs ⊢; exact hs
    · rename_i f cs h1; try rw [h1] at hs ⊢; exact hs
    · rename_i l g i q h1
      try rw [h1] at hs ⊢
      obtain ⟨h2, h3, h4⟩ := hs
      obtain ⟨k1, k2⟩ := le.view (l := l) (by intro hv; rw [hv] at h3; simp [VB.live] at h3)
      simp only [k1, k2]
      exact ⟨h2, h3, h4⟩
    · exact hs.elim
  | isnil x => exact hs
  | mm mx x y => exact hs
end Go.Proofs.YtcbfhpnmhhnjpaaGreat

namespace Go.Proofs.YtcbfhpnmhhnjpaaGreat
open Go.RowKit
def scalarT : TypeDesc → Bool
  | .bool | .int _ | .string => true
  | _ => false
def isNilK : Operand → Bool
  | .const (.slice none 0 0) => true
  | _ => false
theorem isNilK_ok {x : Operand} (h : isNilK x = true) : x = .const (.slice none 0 0) := by
  unfold isNilK at h
  split at h
  · rfl
  · simp at h
def boolT : TypeDesc → Bool
  | .bool => true
  | _ => false
def isZero : Operand → Bool
  | .const (.int _ 0) => true
  | _ => false
theorem isZero_ok {x : Operand} (h : isZero x = true) : ∃ k, x = .const (.int k 0) := by
  unfold isZero at h
  split at h
  · exact ⟨_, rfl⟩
  · simp at h
def compSlice (P : Program) (t : Nat) (x : Operand) (lo hi mx : Option Operand) : Option AOp :=
  match mx with
  | none => match P.underlying t, copd x, coptd lo, coptd hi with
    | some (.slice e), some x, some lo, some hi => match tinf P e with
      | some te => some (.sub te.n x lo hi)
      | none => none
    | some .string, some x, some lo, some hi => some (.ssub x lo hi)
    | _, _, _, _ => none
  | some m => match P.underlying t, copd x, hi with
    | some (.slice e), some x, some h => match tinf P e with
      | some _ => if isZero h = true ∧ isZero m = true ∧ lo.all isZero = true then some (.z3 x) else none
      | none => none
    | _, _, _ => none
def comp1 (P : Program) (o : Oper) : Option AOp :=
  match o.op with
  | .move x => (copd x).map AOp.mv
  | .assign x => (copd x).map AOp.mv
  | .pick c x y => match copd c, copd x, copd y with
    | some c, some x, some y => some (.pick c x y)
    | _, _, _ => none
  | .alloc t => match tinf P t with
    | some ti => match P.underlying t with
      | some (.array m e) => match tinf P e with
        | some te => if m * te.n = ti.n then some (.mk t te.n (chunk te.n m ti.zero)) else none
        | none => none
      | _ => some (.mk t ti.n [ti.zero])
    | none => none
  | .box t x => match tinf P t, copd x with
    | some ti, some x => some (.box t ti.n x)
    | _, _ => none
  | .build t parts => match tinf P t, placeOf P t with
    | some ti, some pl => match partsOf pl parts.toList with
      | some ps => some (.build ti.zero ps)
      | none => none
    | _, _ => none
  | .buildSlice t len parts => match P.underlying t with
    | some (.slice e) => match tinf P e with
      | some te => match partsOf (fun i => some (i * te.n, te.n)) parts.toList with
        | some ps => if len * te.n ≤ 16777216 then some (.bslice e te.n te.zero len ps) else none
        | none => none
      | none => none
    | _ => none
  | .load t x => match tinf P t, copd x with
    | some ti, some x => some (.load ti.agg ti.n x)
    | _, _ => none
  | .store t x y => match tinf P t, copd x, copd y with
    | some ti, some x, some y => some (.store ti.n x y)
    | _, _, _ => none
  | .nilCheck x => (copd x).map AOp.nilc
  | .binOp op t x y0 _ => match P.underlying t, copd x, copd y0 with
    | some d, some x, some y =>
      if scalarT d then some (.bin (boolT d) op x y)
      else match d, op with
        | .struct _, .eql => if P.eqGuardType P.depth t = false then some (.eqs false t x y) else none
        | .struct _, .neq => if P.eqGuardType P.depth t = false then some (.eqs true t x y) else none
        | .slice _, .eql => if isNilK y0 then some (.isnil x) else none
        | _, _ => none
    | _, _, _ => none
  | .unOp .not _ x => (copd x).map AOp.not
  | .convert src dst x => match P.underlying src, P.underlying dst, copd x with
    | some (.int _), some (.int k), some x => some (.conv k x)
    | some (.slice e), some .string, some x => match P.underlying e with
      | some (.int .u8) => some (.b2s x)
      | _ => none
    | _, _, _ => none
  | .makeSlice t l c => match P.underlying t, copd l, copd c with
    | some (.slice e), some l, some c => match tinf P e with
      | some te => match all? sh0 te.zero with
        | some zs => some (.mkSlice e te.n te.bytes zs l c)
        | none => none
      | none => none
    | _, _, _ => none
  | .slice t x lo hi mx => compSlice P t x lo hi mx
  | .fieldAddr t x k => match P.underlying t, copd x with
    | some (.struct fs), some x => match fs[k]? with
      | some f => match tinf P f.type with
        | some _ => some (.fld f.offset x)
        | none => none
      | none => none
    | _, _ => none
  | .indexAddr t x y => match P.underlying t, copd x, copd y with
    | some (.slice e), some x, some y => match tinf P e with
      | some te => some (.idx te.n x y)
      | none => none
    | some (.array m e), some x, some y => match tinf P e with
      | some te => some (.aidx m te.n x y)
      | none => none
    | _, _, _ => none
  | .index t x y => match P.underlying t, copd x, copd y with
    | some .string, some x, some y => some (.sidx x y)
    | _, _, _ => none
  | .field t x k => match P.underlying t, copd x with
    | some (.struct fs), some x => match fs[k]? with
      | some f => match tinf P f.type with
        | some ti => some (.field ti.agg f.offset ti.n x)
        | none => none
      | none => none
    | _, _ => none
  | .extract x k => (copd x).map (AOp.ext k)
  | .makeFunc (.func f) first caps => if first.toList.isEmpty then (all? copd caps.toList).map (AOp.clo f) else none
  | .call c => match c.callee, c.args.toList, c.argTypes.toList with
    | .builtin .len, [x], [t] => match P.underlying t, copd x with
      | some .string, some x => some (.slen x)
      | some (.slice _), some x => some (.len x)
      | _, _ => none
    | .builtin .append, [x, y], [t, t'] => if t = t' then match P.underlying t, copd x, copd y with
        | some (.slice e), some x, some y => match tinf P e with
          | some te => some (.app e te.n te.bytes x y)
          | none => none
        | _, _, _ => none
      else none
    | .builtin .max, [x, y], _ => match copd x, copd y with
      | some x, some y => some (.mm true x y)
      | _, _ => none
    | .builtin .min, [x, y], _ => match copd x, copd y with
      | some x, some y => some (.mm false x y)
      | _, _ => none
    | .value (.func f), args, _ => if callable P f = true then (all? copd args).map (AOp.call f) else none
    | .value (.tmp t), args, _ => (all? copd args).map (AOp.callv (.t t))
    | _, _, _ => none
  | _ => none
section
variable {P : Program} {O : Nat → Prop} {w0 : Base} {n : Nat} {σ : St} {β : Env} {a : Act} {w : World}
theorem comp1_ok {o : Oper} {ao : AOp} (hc : comp1 P o = some ao) {d : Nat} (r : Rel O w0 n σ β a w) {v : TV AC} {ws : List (Nat × Nat × LB)} (he : aeff P ao d σ.ev σ.h (fun v' ws' => v' = v ∧ ws' = ws)) :
    Ok1 P o a w (Done O w0 n σ a v ws) := by
  obtain ⟨dst, op, ty, pos, aft, gd⟩ := o
  unfold comp1 at hc
  cases op with
  | move x =>
    simp only [Option.map_eq_some_iff] at hc
    obtain ⟨x', h1, rfl⟩ := hc
    obtain ⟨rfl, rfl⟩ := he
    exact op_mv r (.inl rfl) h1
  | assign x =>
    simp only [Option.map_eq_some_iff] at hc
    obtain ⟨x', h1, rfl⟩ := hc
    obtain ⟨rfl, rfl⟩ := he
    exact op_mv r (.inr rfl) h1
  | pick c x y =>
    simp only at hc
    split at hc
    · rename_i c' x' y' h1 h2 h3
      simp only [Option.some.injEq] at hc
      subst hc
      simp only [aeff] at he
      split at he
      · rename_i t h4
        obtain ⟨rfl, rfl⟩ := he
        exact op_pick r rfl h1 h2 h3 h4
      · exact he.elim
    · simp at hc
  | alloc t =>
    simp only at hc
    split at hc
    · rename_i ti h1
      have hti := tinf_ok h1
      split at hc
      · rename_i m e h2
        split at hc
        · rename_i te h3
          have hte := tinf_ok h3
          split at hc
          · rename_i h4
            simp only [Option.some.injEq] at hc
            subst hc
            obtain ⟨rfl, rfl⟩ := he
            obtain ⟨h5, h6, h7⟩ := chunk_flat te.n m ti.zero (by rw [hti.len]; exact h4.symm)
            exact op_mk r rfl hti h5 hte.pos h6
          · simp at hc
        · simp at hc
      · simp only [Option.some.injEq] at hc
        subst hc
        obtain ⟨rfl, rfl⟩ := he
        exact op_mk r rfl hti (by simp) hti.pos (by simp [hti.len])
    · simp at hc
  | box t x =>
    simp only at hc
    split at hc
    · rename_i ti x' h1 h2
      simp only [Option.some.injEq] at hc
      subst hc
      simp only [aeff] at he
      split at he
      · rename_i cs h3
        obtain ⟨h4, rfl, rfl⟩ := he
        exact op_box r rfl h2 (tinf_ok h1) h3 h4
      · exact he.elim
    · simp at hc
  | build t parts =>
    simp only at hc
    split at hc
    · rename_i ti pl h1 h2
      split at hc
      · rename_i ps h3
        simp only [Option.some.injEq] at hc
        subst hc
        simp only [aeff] at he
        split at he
        · rename_i cs h4
          obtain ⟨rfl, rfl⟩ := he
          exact op_build r rfl (tinf_ok h1) h2 h3 h4
        · exact he.elim
      · simp at hc
    · simp at hc
  | buildSlice t len parts =>
    simp only at hc
    split at hc
    · rename_i e h1
      split at hc
      · rename_i te h2
        split at hc
        · rename_i ps h3
          split at hc
          · rename_i h4
            simp only [Option.some.injEq] at hc
            subst hc
            simp only [aeff] at he
            split at he
            · rename_i cs h5
              split at he
              · rename_i ss h6
                obtain ⟨rfl, rfl⟩ := he
                exact op_bslice r rfl h1 (tinf_ok h2) h3 h5 h6 h4
              · exact he.elim
            · exact he.elim
          · simp at hc
        · simp at hc
      · simp at hc
    · simp at hc
  | load t x =>
    simp only at hc
    split at hc
    · rename_i ti x' h1 h2
      simp only [Option.some.injEq] at hc
      subst hc
      simp only [aeff] at he
      have key : (∀ cs, (if ti.agg = true then TV.agg cs = v ∧ ([] : List (Nat × Nat × LB)) = ws else match cs with
          | [c] => TV.c c = v ∧ ([] : List (Nat × Nat × LB)) = ws
          | _ => False) → (if ti.agg then v = .agg cs else ∃ c, cs = [c] ∧ v = .c c) ∧ ws = []) := by
        intro cs hcs
        cases hag : ti.agg with
        | true => rw [hag] at hcs; simp only [if_true] at hcs ⊢; exact ⟨hcs.1.symm, hcs.2.symm⟩
        | false =>
          rw [hag] at hcs
          simp only [Bool.false_eq_true, if_false] at hcs ⊢
          split at hcs
          · rename_i c; exact ⟨⟨c, rfl, hcs.1.symm⟩, hcs.2.symm⟩
          · exact hcs.elim
      have hws : ws = [] := by
        obtain ⟨cs, _, _, _, hk, _⟩ := rd_ok r.toRelH (r.ev h2) he
        exact (key cs hk).2
      subst hws
      refine op_load r rfl h2 (tinf_ok h1) ?_
      have mono : ∀ {x : TV AC} {m : Nat} {K K' : List AC → Prop}, (∀ cs, K cs → K' cs) → rd σ.h x m K → rd σ.h x m K' := by
        intro x m K K' hKK hr
        unfold rd at hr ⊢
        split at hr
        · exact ⟨hr.1, hKK _ hr.2⟩
        · rename_i l g i off
          refine ⟨hr.1, ?_⟩
          have hr2 := hr.2
          cases hk : σ.h.blk l with
          | dead => rw [hk] at hr2; exact hr2.elim
          | box ty e els => rw [hk] at hr2; obtain ⟨a, b, c⟩ := hr2; exact ⟨a, b, hKK _ c⟩
          | row ty e els => rw [hk] at hr2; obtain ⟨a, b, c⟩ := hr2; exact ⟨a, b, hKK _ c⟩
          | ice z => rw [hk] at hr2; exact hr2.elim
        · exact hr.elim
      exact mono (fun cs h => (key cs h).1) he
    · simp at hc
  | store t x y =>
    simp only at hc
    split at hc
    · rename_i ti x' y' h1 h2 h3
      simp only [Option.some.injEq] at hc
      subst hc
      simp only [aeff] at he
      split at he
      · rename_i l g i off cs h4 h5
        obtain ⟨h6, h7, h8⟩ := he
        cases hk : σ.h.blk l with
        | dead => rw [hk] at h8; exact h8.elim
        | ice z => rw [hk] at h8; exact h8.elim
        | box ty' e els =>
          rw [hk] at h8
          obtain ⟨hi, hoff, rfl, rfl⟩ := h8
          have hv : σ.h.view l = .mem false ty' e els := by unfold Hp.view; rw [hk]; rfl
          exact op_store r rfl h2 h3 (tinf_ok h1) h4 h5 h6 h7 hv hi hoff ⟨cs, rfl, rfl, fun us _ h => h⟩
        | row ty' e els =>
          rw [hk] at h8
          simp only at h8
          split at h8
          · rename_i ss h9
            obtain ⟨hi, hoff, hws, rfl, rfl⟩ := h8
            have hk' : (σ.h.app (frz σ.h cs)).blk l = .row ty' e els := (Hp.app_blk_ne _ _ _ hws).trans hk
            have hv : (σ.h.app (frz σ.h cs)).view l = .mem true ty' e (els.map (List.map AC.s)) := by unfold Hp.view; rw [hk']; rfl
            obtain ⟨r1, r2, r3⟩ := frz_ok cs σ.h r.toRelH
            have r' : Rel O w0 n ⟨σ.slot, σ.h.app (frz σ.h cs)⟩ β a w := ⟨r1, r.hd, r.hn, fun k => (r.slots k).mono (fun x u hx => r2 x u hx)⟩
            have hev : ∀ z, St.ev ⟨σ.slot, σ.h.app (frz σ.h cs)⟩ z = σ.ev z := fun z => by cases z <;> rfl
            have hsl : ss.length = cs.length := by
              have : ∀ (cs : List AC) (ss : List SC), all? (shA σ.h) cs = some ss → ss.length = cs.length := by
                intro cs
                induction cs with
                | nil => intro ss h; rw [all?_nil h]; rfl
                | cons c cs ih =>
                  intro ss h
                  obtain ⟨y, ys, _, h2, rfl⟩ := all?_cons h
                  simp [ih ys h2]
              exact this cs ss h9
            have hold : RL (RepA σ.h β w (Mine O σ.h β)) cs (a.eval y).cells.toList := ((r.ev h3).cellsInv h5).1
            have he : Done O w0 n σ a .no (frz σ.h cs ++ [(l, g, .row ty' e (els.set i (patch els[i] off ss)))]) = Done O w0 n ⟨σ.slot, σ.h.app (frz σ.h cs)⟩ a .no [(l, g, .row ty' e (els.set i (patch els[i] off ss)))] := by
              unfold Done
              simp only [Hp.app_append]
            rw [he]
            refine op_store r' rfl h2 h3 (tinf_ok h1) (by rw [hev]; exact h4) (by rw [hev]; exact h5) h6 (by rw [frz_gen]; exact h7) hv (by simpa using hi) hoff ⟨ss.map AC.s, ?_, by simp [hsl], fun us hu _ => ?_⟩
            · simp only [LB.view, List.map_set, List.getElem_map]
              congr 2
              unfold patch
              simp
            · subst hu
              exact (hold.all h9 (fun x y u hx hy hu => r3 x hx y hy u hu)).map AC.s (fun x u hx => hx)
          · exact h8.elim
      · exact he.elim
    · simp at hc
  | nilCheck x =>
    simp only [Option.map_eq_some_iff] at hc
    obtain ⟨x', h1, rfl⟩ := hc
    simp only [aeff] at he
    split at he
    · rename_i cs h2; obtain ⟨rfl, rfl⟩ := he; exact op_nilc r rfl h1 (.inl ⟨cs, h2⟩)
    · rename_i f cs h2; obtain ⟨rfl, rfl⟩ := he; exact op_nilc r rfl h1 (.inr (.inl ⟨f, cs, h2⟩))
    · rename_i f cs h2; obtain ⟨rfl, rfl⟩ := he; exact op_nilc r rfl h1 (.inr (.inr (.inl ⟨f, cs, h2⟩)))
    · rename_i l g i q h2; obtain ⟨h3, h4, rfl, rfl⟩ := he; exact op_nilc r rfl h1 (.inr (.inr (.inr ⟨l, g, i, q, h2, h3, h4⟩)))
    · exact he.elim
  | binOp op t x y yt =>
    simp only at hc
    split at hc
    · rename_i dd x' y' h1 h2 h3
      split at hc
      · rename_i hsc
        simp only [Option.some.injEq] at hc
        subst hc
        simp only [aeff] at he
        split at he
        · rename_i u u2 h4 h5
          split at he
          · rename_i c z h6
            obtain ⟨hb, h7, rfl, rfl⟩ := he
            refine op_bin r rfl h2 h3 h1 ?_ h4 h5 h6 h7 (fun p _ hp _ => ?_)
            · cases dd <;> first | rfl | simp [scalarT] at hsc
            · subst hp
              cases dd <;> first | rfl | simp [isBool, boolT] at hb
          · exact he.elim
        · exact he.elim
      · split at hc
        · split at hc
          · rename_i h6
            simp only [Option.some.injEq] at hc
            subst hc
            simp only [aeff] at he
            split at he
            · rename_i xs ys h7 h8
              split at he
              · rename_i us vs h9 h10
                obtain ⟨b, h11, rfl, rfl⟩ := he
                exact op_eqs (neg := false) r rfl h2 h3 h6 h7 h8 h9 h10 h11
              · exact he.elim
            · exact he.elim
          · simp at hc
        · split at hc
          · rename_i h6
            simp only [Option.some.injEq] at hc
            subst hc
            simp only [aeff] at he
            split at he
            · rename_i xs ys h7 h8
              split at he
              · rename_i us vs h9 h10
                obtain ⟨b, h11, rfl, rfl⟩ := he
                exact op_eqs (neg := true) r rfl h2 h3 h6 h7 h8 h9 h10 h11
              · exact he.elim
            · exact he.elim
          · simp at hc
        · split at hc
          · rename_i e0 _ hk
            simp only [Option.some.injEq] at hc
            subst hc
            simp only [aeff] at he
            split at he
            · rename_i b e1 els1 h7
              obtain ⟨rfl, rfl⟩ := he
              have h8 := r.ev h2
              rw [h7] at h8
              obtain rfl := isNilK_ok hk
              have h9 : ∃ A k c, a.eval x = .slice A k c := by
                generalize a.eval x = u at h8
                cases h8 with
                | tag h _ => obtain ⟨A, cap, h10, _⟩ := h.slForm; exact ⟨A, _, cap, h10⟩
              exact op_isnil r rfl h2 h1 h7 h9
            · exact he.elim
          · simp at hc
        · simp at hc
    · simp at hc
  | unOp op t x =>
    cases op with
    | not =>
      simp only [Option.map_eq_some_iff] at hc
      obtain ⟨x', h1, rfl⟩ := hc
      simp only [aeff] at he
      split at he
      · rename_i t h2
        obtain ⟨rfl, rfl⟩ := he
        exact op_not r rfl h1 h2
      · exact he.elim
    | _ => simp at hc
  | convert src dt x =>
    simp only at hc
    split at hc
    · rename_i k1 k x' h1 h2 h3
      simp only [Option.some.injEq] at hc
      subst hc
      simp only [aeff] at he
      split at he
      · rename_i k' m h4
        obtain ⟨rfl, rfl⟩ := he
        exact op_conv r rfl h3 h1 h2 h4
      · exact he.elim
    · rename_i e x' h1 h2 h3
      split at hc
      · rename_i h4
        simp only [Option.some.injEq] at hc
        subst hc
        simp only [aeff] at he
        split at he
        · rename_i els ws' h5
          split at he
          · rename_i ns h6
            obtain ⟨rfl, rfl⟩ := he
            exact op_b2s r rfl h3 h1 h4 h2 h5 h6
          · exact he.elim
        · exact he.elim
      · simp at hc
    · simp at hc
  | makeSlice t l c =>
    simp only at hc
    split at hc
    · rename_i e l' c' h1 h2 h3
      split at hc
      · rename_i te h4
        split at hc
        · rename_i zs h5
          simp only [Option.some.injEq] at hc
          subst hc
          simp only [aeff] at he
          split at he
          · rename_i kl p kc q h6 h7
            obtain ⟨h8, h9, h10, h11, rfl, rfl⟩ := he
            exact op_mkSlice r rfl h2 h3 h1 (tinf_ok h4) h6 h7 h8 h9 h10 h11 h5
          · exact he.elim
        · simp at hc
      · simp at hc
    · simp at hc
  | fieldAddr t x k =>
    simp only at hc
    split at hc
    · rename_i fs x' h1 h2
      split at hc
      · rename_i f h3
        split at hc
        · rename_i ti h4
          simp only [Option.some.injEq] at hc
          subst hc
          simp only [aeff] at he
          split at he
          · rename_i cs h5
            obtain ⟨h6, rfl, rfl⟩ := he
            exact op_fld r rfl h2 h1 h3 (tinf_ok h4) (.inl ⟨cs, h5, h6, rfl⟩)
          · rename_i l g i q h5
            obtain ⟨h6, h7, rfl, rfl⟩ := he
            exact op_fld r rfl h2 h1 h3 (tinf_ok h4) (.inr ⟨l, g, i, q, h5, h6, h7, rfl⟩)
          · exact he.elim
        · simp at hc
      · simp at hc
    · simp at hc
  | extract x k =>
    simp only [Option.map_eq_some_iff] at hc
    obtain ⟨x', h1, rfl⟩ := hc
    simp only [aeff] at he
    split at he
    · rename_i vs h2
      split at he
      · rename_i cs h3; obtain ⟨rfl, rfl⟩ := he; exact op_ext r rfl h1 h2 (.inl ⟨cs, h3, rfl⟩)
      · rename_i c h3; obtain ⟨rfl, rfl⟩ := he; exact op_ext r rfl h1 h2 (.inr ⟨c, h3, rfl⟩)
      · exact he.elim
    · exact he.elim
  | field t x k =>
    simp only at hc
    split at hc
    · rename_i fs x' h1 h2
      split at hc
      · rename_i f h3
        split at hc
        · rename_i ti h4
          simp only [Option.some.injEq] at hc
          subst hc
          simp only [aeff] at he
          split at he
          · rename_i cs h5
            obtain ⟨h6, he⟩ := he
            cases hag : ti.agg with
            | true =>
              rw [hag] at he
              simp only [if_true] at he
              obtain ⟨rfl, rfl⟩ := he
              exact op_field r rfl h2 h1 h3 (tinf_ok h4) h5 h6 (by rw [hag]; rfl)
            | false =>
              rw [hag] at he
              simp only [Bool.false_eq_true, if_false] at he
              split at he
              · rename_i c h7
                obtain ⟨rfl, rfl⟩ := he
                exact op_field r rfl h2 h1 h3 (tinf_ok h4) h5 h6 (by rw [hag]; exact ⟨c, h7, rfl⟩)
              · exact he.elim
          · exact he.elim
        · simp at hc
      · simp at hc
    · simp at hc
  | index t x y =>
    simp only at hc
    split at hc
    · rename_i x' y' h1 h2 h3
      simp only [Option.some.injEq] at hc
      subst hc
      simp only [aeff] at he
      split at he
      · rename_i s k m h4 h5
        obtain ⟨h6, h7, rfl, rfl⟩ := he
        exact op_sidx r rfl h2 h3 h1 h4 h5 h6 h7
      · exact he.elim
    · simp at hc
  | indexAddr t x y =>
    simp only at hc
    split at hc
    · rename_i e x' y' h1 h2 h3
      split at hc
      · rename_i te h4
        simp only [Option.some.injEq] at hc
        subst hc
        have hte := tinf_ok h4
        simp only [aeff] at he
        split at he
        · rename_i k m h5
          split at he
          · rename_i e' els h6
            obtain ⟨rfl, h7, h8, rfl, rfl⟩ := he
            refine op_idxS r rfl h3 h1 hte h5 h7 h8 ?_
            have := r.ev h2
            rw [h6] at this
            exact this
          · rename_i l g h6
            obtain ⟨hg, he⟩ := he
            cases hk : σ.h.blk l with
            | dead => rw [hk] at he; exact he.elim
            | box ty' e' els => rw [hk] at he; exact he.elim
            | row ty' e' els =>
              rw [hk] at he
              obtain ⟨rfl, h7, h8, rfl, rfl⟩ := he
              exact op_idxO r rfl h2 h3 h1 hte h5 h6 hg hk h7 h8
            | ice z =>
              rw [hk] at he
              cases z with
              | sl e' els =>
                obtain ⟨rfl, h7, h8, rfl, rfl⟩ := he
                refine op_idxS r rfl h3 h1 hte h5 h7 h8 ?_
                have := r.ev h2
                rw [h6] at this
                have h9 := this.2.2 hg
                have hv : σ.h.view l = .ice (.sl te.n els) := by unfold Hp.view; rw [hk]; rfl
                rw [hv] at h9
                exact h9
              | _ => exact he.elim
          · exact he.elim
        · exact he.elim
      · simp at hc
    · rename_i m0 e x' y' h1 h2 h3
      split at hc
      · rename_i te h4
        simp only [Option.some.injEq] at hc
        subst hc
        have hte := tinf_ok h4
        simp only [aeff] at he
        split at he
        · rename_i k m h5
          obtain ⟨h6, h7, he⟩ := he
          split at he
          · rename_i cs h8
            obtain ⟨h9, rfl, rfl⟩ := he
            exact op_aidx r rfl h2 h3 h1 hte h5 h6 h7 (.inl ⟨cs, h8, h9, rfl⟩)
          · rename_i l g i0 off h8
            obtain ⟨hg, he⟩ := he
            cases hv : σ.h.view l with
            | dead => rw [hv] at he; exact he.elim
            | ice z => rw [hv] at he; exact he.elim
            | mem row ty' e' els =>
              rw [hv] at he
              simp only at he
              split at he
              · rename_i h9
                obtain ⟨rfl, rfl⟩ := he
                exact op_aidx r rfl h2 h3 h1 hte h5 h6 h7 (.inr ⟨l, g, i0, off, row, ty', e', els, h8, hg, hv, .inl ⟨h9.1, h9.2, rfl⟩⟩)
              · obtain ⟨rfl, rfl⟩ := he
                exact op_aidx r rfl h2 h3 h1 hte h5 h6 h7 (.inr ⟨l, g, i0, off, row, ty', e', els, h8, hg, hv, .inr rfl⟩)
          · exact he.elim
        · exact he.elim
      · simp at hc
    · simp at hc
  | slice t x lo hi mx =>
    cases mx with
    | none =>
      simp only [compSlice] at hc
      split at hc
      · rename_i e x' lo' hi' h1 h2 h3 h4
        split at hc
        · rename_i te h5
          simp only [Option.some.injEq] at hc
          subst hc
          simp only [aeff] at he
          split at he
          · rename_i els ws' m h6 h7
            split at he
            · rename_i p q h8 h9
              obtain ⟨h10, h11, h12, rfl, rfl⟩ := he
              exact op_sub r rfl h2 h3 h4 h1 (tinf_ok h5) h6 h7 h8 h9 h10 h11 h12
            · exact he.elim
          · exact he.elim
        · simp at hc
      · rename_i x' lo' hi' h1 h2 h3 h4
        simp only [Option.some.injEq] at hc
        subst hc
        simp only [aeff] at he
        split at he
        · rename_i s h6
          split at he
          · rename_i p q h8 h9
            obtain ⟨h10, h11, h12, rfl, rfl⟩ := he
            exact op_ssub r rfl h2 h3 h4 h1 h6 h8 h9 h10 h11 h12
          · exact he.elim
        · exact he.elim
      · simp at hc
    | some mx =>
      simp only [compSlice] at hc
      split at hc
      · rename_i e x' h' h1 h2
        split at hc
        · rename_i te h4
          split at hc
          · rename_i h5
            simp only [Option.some.injEq] at hc
            subst hc
            obtain ⟨z1, z2, z3⟩ := h5
            obtain ⟨k2, rfl⟩ := isZero_ok z1
            obtain ⟨k3, rfl⟩ := isZero_ok z2
            have z4 : ∃ k1, lo = none ∨ lo = some (.const (.int k1 0)) := by
              cases lo with
              | none => exact ⟨.i64, .inl rfl⟩
              | some l => obtain ⟨k, rfl⟩ := isZero_ok (x := l) (by simpa using z3); exact ⟨k, .inr rfl⟩
            obtain ⟨k1, z4⟩ := z4
            simp only [aeff] at he
            split at he
            · rename_i m h6
              obtain ⟨rfl, rfl⟩ := he
              exact op_z3 (k1 := k1) r rfl z4 h2 h1 (tinf_ok h4) h6
            · exact he.elim
          · simp at hc
        · simp at hc
      · simp at hc
  | makeFunc fn first caps =>
    cases fn with
    | func f =>
      simp only at hc
      split at hc
      · rename_i hf
        simp only [Option.map_eq_some_iff] at hc
        obtain ⟨caps', h1, rfl⟩ := hc
        have hfe : first = #[] := by
          have : first.toList = [] := by simpa using hf
          exact Array.toList_eq_nil_iff.1 this
        subst hfe
        simp only [aeff] at he
        split at he
        · rename_i h2
          obtain ⟨rfl, rfl⟩ := he
          have hce : caps' = [] := by
            cases caps' with
            | nil => rfl
            | cons x xs => obtain ⟨_, _, _, _, h⟩ := all?_cons h2; simp at h
          subst hce
          have hcc : caps = #[] := by
            have : caps.toList = [] := by
              cases hl : caps.toList with
              | nil => rfl
              | cons x xs => rw [hl] at h1; obtain ⟨_, _, _, _, h⟩ := all?_cons h1; simp at h
            exact Array.toList_eq_nil_iff.1 this
          subst hcc
          exact op_fn r rfl
        · rename_i ls h2 h3
          obtain ⟨rfl, rfl⟩ := he
          exact op_clo r rfl h1 h3
        · exact he.elim
      · simp at hc
    | _ => simp at hc
  | call c =>
    obtain ⟨cal, args, ats⟩ := c
    simp only at hc
    have mk : ∀ {args : Array Operand} {l : List Operand}, args.toList = l → args = l.toArray := fun h => by rw [← h]
    have mk2 : ∀ {args : Array TypeId} {l : List TypeId}, args.toList = l → args = l.toArray := fun h => by rw [← h]
    split at hc
    · rename_i x t ha ht
      rw [mk ha, mk2 ht]
      split at hc
      · rename_i x' h1 h2
        simp only [Option.some.injEq] at hc
        subst hc
        simp only [aeff] at he
        split at he
        · rename_i s h3
          obtain ⟨rfl, rfl⟩ := he
          exact op_slen r rfl h2 h1 h3
        · exact he.elim
      · rename_i e x' h1 h2
        simp only [Option.some.injEq] at hc
        subst hc
        simp only [aeff] at he
        split at he
        · rename_i m h3
          obtain ⟨rfl, rfl⟩ := he
          exact op_len r rfl h2 h1 h3
        · exact he.elim
      · simp at hc
    · rename_i x y t t' ha ht
      rw [mk ha, mk2 ht]
      split at hc
      · rename_i htt
        subst htt
        split at hc
        · rename_i e x' y' h1 h2 h3
          split at hc
          · rename_i te h4
            simp only [Option.some.injEq] at hc
            subst hc
            simp only [aeff] at he
            split at he
            · rename_i news ws' m h5 h6
              have hm := (sliceOf_ok h5).len h6
              subst hm
              split at he
              · rename_i h7
                obtain ⟨h8, h9, rfl, rfl⟩ := he
                exact op_app0 r rfl h2 h3 h1 (tinf_ok h4) h7 h5 h8 h9
              · rename_i l g h7
                obtain ⟨hg, he⟩ := he
                cases hk : σ.h.blk l with
                | row ty' e' els =>
                  rw [hk] at he
                  obtain ⟨rfl, rfl, h8, h9, rfl, rfl⟩ := he
                  exact op_app1 r rfl h2 h3 h1 (tinf_ok h4) h7 hg hk h5 h8 h9
                | dead => rw [hk] at he; exact he.elim
                | box ty' e' els => rw [hk] at he; exact he.elim
                | ice z => rw [hk] at he; exact he.elim
              · exact he.elim
            · exact he.elim
          · simp at hc
        · simp at hc
      · simp at hc
    · rename_i x y ha
      rw [mk ha]
      split at hc
      · rename_i x' y' h1 h2
        simp only [Option.some.injEq] at hc
        subst hc
        simp only [aeff] at he
        split at he
        · rename_i k p k' q h3 h4
          obtain ⟨rfl, rfl⟩ := he
          exact op_mm (mx := true) r rfl h1 h2 h3 h4
        · exact he.elim
      · simp at hc
    · rename_i x y ha
      rw [mk ha]
      split at hc
      · rename_i x' y' h1 h2
        simp only [Option.some.injEq] at hc
        subst hc
        simp only [aeff] at he
        split at he
        · rename_i k p k' q h3 h4
          obtain ⟨rfl, rfl⟩ := he
          exact op_mm (mx := false) r rfl h1 h2 h3 h4
        · exact he.elim
      · simp at hc
    · rename_i f
      split at hc
      · rename_i hcl
        simp only [Option.map_eq_some_iff] at hc
        obtain ⟨args', h1, rfl⟩ := hc
        simp only [aeff] at he
        split at he
        · rename_i as h2
          rcases he with ⟨res, h3, h4⟩ | he
          · exact op_call (caps := []) (capsS := []) r rfl rfl .nil hcl h1 h2 (by simpa using h3) h4
          · exact op_callX r rfl rfl hcl h1 he
        · exact op_callX r rfl rfl hcl h1 he
      · simp at hc
    · rename_i t
      simp only [Option.map_eq_some_iff] at hc
      obtain ⟨args', h1, rfl⟩ := hc
      simp only [aeff] at he
      split at he
      · rename_i g caps as h2 h3
        obtain ⟨hcl, res, h4, h5⟩ := he
        have h6 := r.ev (x := .tmp t) rfl
        rw [h2] at h6
        generalize hu : a.eval (.tmp t) = u at h6
        cases h6 with
        | fn hl hr =>
          rename_i us
          exact op_call r rfl hu ⟨hl, hr⟩ hcl h1 h3 h4 h5
      · exact he.elim
    · simp at hc
  | _ => simp at hc
end
end Go.Proofs.YtcbfhpnmhhnjpaaGreat

