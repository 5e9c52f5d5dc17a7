/- AN ABSTRACT MACHINE over the model, thirteen: of an operation one thing comes. No condition. -/
import Derived.Test.YtbpipdgkkdifgaaAm12
namespace Go.Proofs.Ytbpipdgkkdifgaa
open Go.RowKit
set_option linter.unusedVariables false

/-- one thing comes of it -/
def One (T : (TV AC → List (Nat × Nat × LB) → Prop) → Prop) : Prop := ∀ K, T K → ∃ v ws, K v ws ∧ T (fun v' ws' => v' = v ∧ ws' = ws)
theorem One.pure (v : TV AC) (ws : List (Nat × Nat × LB)) : One (fun K => K v ws) := fun K h => ⟨v, ws, h, rfl, rfl⟩
theorem One.fls : One (fun _ => False) := fun _ h => h.elim
theorem One.and {c : Prop} {T : (TV AC → List (Nat × Nat × LB) → Prop) → Prop} (h : One T) : One (fun K => c ∧ T K) := fun K ⟨h1, h2⟩ => by
  obtain ⟨v, ws, h3, h4⟩ := h K h2
  exact ⟨v, ws, h3, h1, h4⟩
theorem One.ex {ι : Sort _} {T : ι → (TV AC → List (Nat × Nat × LB) → Prop) → Prop} (h : ∀ i, One (T i)) : One (fun K => ∃ i, T i K) := fun K ⟨i, h2⟩ => by
  obtain ⟨v, ws, h3, h4⟩ := h i K h2
  exact ⟨v, ws, h3, i, h4⟩
theorem One.ite {c : Prop} [Decidable c] {T U : (TV AC → List (Nat × Nat × LB) → Prop) → Prop} (h : One T) (h' : One U) : One (fun K => if c then T K else U K) := fun K h2 => by
  by_cases hc : c
  · simp only [if_pos hc] at h2 ⊢; exact h K h2
  · simp only [if_neg hc] at h2 ⊢; exact h' K h2
theorem one_after {h : Hp} {d : Nat} {xs : List (TV AC)} {r : Res} : One (after h d xs r) := by
  intro K hs
  unfold after at hs ⊢
  split at hs
  · rename_i hf
    simp only [if_pos hf]
    cases r with
    | val r => exact ⟨_, _, hs, rfl, rfl⟩
    | row ty e els => exact hs.elim
    | trow ty e els rest more => exact hs.elim
  · rename_i hf
    simp only [if_neg hf]
    cases hc : all? TV.cells xs with
    | none => rw [hc] at hs; exact hs.elim
    | some css =>
      rw [hc] at hs
      obtain ⟨h1, h2⟩ := hs
      cases r with
      | val r => exact ⟨_, _, h2, h1, rfl, rfl⟩
      | row ty e els => exact ⟨_, _, h2, h1, rfl, rfl⟩
      | trow ty e els rest more => exact ⟨_, _, h2, h1, rfl, rfl⟩
theorem one_retX {X : XR} {l g : Nat} {ws : List (Nat × Nat × LB)} : One (retX X l g ws) := by
  intro K hs
  unfold retX at hs ⊢
  cases hr : X.ret with
  | none => rw [hr] at hs; exact ⟨_, _, hs.2, hs.1, rfl, rfl⟩
  | some r => rw [hr] at hs; exact ⟨_, _, hs, rfl, rfl⟩
theorem one_callX0 {P : Program} {f : Nat} {h : Hp} {xs : List (TV AC)} : One (CallX0 P f h xs) := by
  intro K hs
  unfold CallX0 at hs ⊢
  cases xs with
  | nil => exact hs.elim
  | cons x0 xr =>
    simp only at hs ⊢
    cases h1 : all? (argB h) xr with
    | none => rw [h1] at hs; exact hs.elim
    | some as =>
      rw [h1] at hs
      refine (One.ex fun X => One.and ?_) K hs
      intro K hs
      unfold afterX at hs ⊢
      cases hc : all? TV.cells xr with
      | none => rw [hc] at hs; exact hs.elim
      | some css =>
        rw [hc] at hs
        simp only at hs ⊢
        cases x0 with
        | c y =>
          cases y with
          | own l g => exact (one_retX.and.and.and.and.and) K hs
          | ptr l g i off => exact (one_retX.and.and.and.and) K hs
          | _ => exact hs.2.elim
        | _ => exact hs.2.elim
theorem one_callX {P : Program} {f : Nat} {h : Hp} {xs : List (TV AC)} : One (CallX P f h xs) := by
  intro K hs
  rcases hs with hs | ⟨l, g, rv, h1, h2, h3, h4⟩
  · obtain ⟨v, ws, a, b⟩ := one_callX0 K hs
    exact ⟨v, ws, a, .inl b⟩
  · cases hc : all? TV.cells xs with
    | none => rw [hc] at h4; exact h4.elim
    | some css =>
      rw [hc] at h4
      obtain ⟨a1, a2, a3, a4⟩ := h4
      exact ⟨rv, _, a4, .inr ⟨l, g, rv, h1, h2, h3, by rw [hc]; exact ⟨a1, a2, a3, rfl, rfl⟩⟩⟩
theorem one_rd {h : Hp} {x : TV AC} {m : Nat} {T : List AC → (TV AC → List (Nat × Nat × LB) → Prop) → Prop} (hT : ∀ cs, One (T cs)) : One (fun K => rd h x m (fun cs => T cs K)) := by
  intro K hs
  simp only [rd] at hs ⊢
  split at hs
  · obtain ⟨h1, h2⟩ := hs
    obtain ⟨v, ws, h3, h4⟩ := hT _ K h2
    exact ⟨v, ws, h3, h1, h4⟩
  · rename_i l g i off
    obtain ⟨hg, hs⟩ := hs
    cases hk : h.blk l with
    | dead => rw [hk] at hs; exact hs.elim
    | box ty e els =>
      rw [hk] at hs
      obtain ⟨hi, h1, h2⟩ := hs
      obtain ⟨v, ws, h3, h4⟩ := hT _ K h2
      exact ⟨v, ws, h3, hg, hi, h1, h4⟩
    | row ty e els =>
      rw [hk] at hs
      obtain ⟨hi, h1, h2⟩ := hs
      obtain ⟨v, ws, h3, h4⟩ := hT _ K h2
      exact ⟨v, ws, h3, hg, hi, h1, h4⟩
    | ice z => rw [hk] at hs; exact hs.elim
  · exact hs.elim
theorem One.lift {K : TV AC → List (Nat × Nat × LB) → Prop} {c : Prop} {T : (TV AC → List (Nat × Nat × LB) → Prop) → Prop} (h1 : c) (h : ∃ v ws, K v ws ∧ T (fun v' ws' => v' = v ∧ ws' = ws)) : ∃ v ws, K v ws ∧ (c ∧ T (fun v' ws' => v' = v ∧ ws' = ws)) := by
  obtain ⟨v, ws, a, b⟩ := h
  exact ⟨v, ws, a, h1, b⟩
theorem aeff_one {P : Program} {o : AOp} {d : Nat} {ev : Opd → TV AC} {h : Hp} : One (aeff P o d ev h) := by
  intro K hs
  cases o with
  | mv x => exact One.pure _ _ K hs
  | pick c a b => simp only [aeff] at hs ⊢; split at hs <;> first | exact One.pure _ _ K hs | exact hs.elim
  | mk ty e els => exact One.pure _ _ K hs
  | box ty e x => simp only [aeff] at hs ⊢; split at hs <;> first | exact (One.pure _ _).and K hs | exact hs.elim
  | build z ps => simp only [aeff] at hs ⊢; split at hs <;> first | exact One.pure _ _ K hs | exact hs.elim
  | bslice ty e z l ps =>
    simp only [aeff] at hs ⊢
    split at hs
    · split at hs <;> first | exact One.pure _ _ K hs | exact hs.elim
    · exact hs.elim
  | load ag n x =>
    refine one_rd (T := fun cs K => if ag = true then K (TV.agg cs) [] else match cs with
      | [c] => K (TV.c c) []
      | _ => False) (fun cs => ?_) K hs
    refine One.ite (One.pure _ _) ?_
    intro K hs
    simp only at hs ⊢
    split at hs <;> first | exact One.pure _ _ K hs | exact hs.elim
  | store n p x =>
    simp only [aeff] at hs ⊢
    split at hs
    · obtain ⟨h1, h2, hs⟩ := hs
      split at hs
      · obtain ⟨v, ws, k1, k2⟩ := (One.ex fun _ => (One.pure _ _).and) K hs
        exact ⟨v, ws, k1, h1, h2, k2⟩
      · split at hs
        · obtain ⟨v, ws, k1, k2⟩ := (One.ex fun _ => (One.pure _ _).and.and) K hs
          exact ⟨v, ws, k1, h1, h2, k2⟩
        · exact hs.elim
      · exact hs.elim
    · exact hs.elim
  | bin bl op x y =>
    simp only [aeff] at hs ⊢
    split at hs
    · split at hs <;> first | exact ((One.pure _ _).and).and K hs | exact hs.elim
    · exact hs.elim
  | eqs neg t x y =>
    simp only [aeff] at hs ⊢
    split at hs
    · split at hs
      · exact (One.ex fun _ => (One.pure _ _).and) K hs
      · exact hs.elim
    · exact hs.elim
  | not x => simp only [aeff] at hs ⊢; split at hs <;> first | exact One.pure _ _ K hs | exact hs.elim
  | conv k x => simp only [aeff] at hs ⊢; split at hs <;> first | exact One.pure _ _ K hs | exact hs.elim
  | b2s x =>
    simp only [aeff] at hs ⊢
    split at hs
    · split at hs <;> first | exact One.pure _ _ K hs | exact hs.elim
    · exact hs.elim
  | mkSlice ty e b z l c => simp only [aeff] at hs ⊢; split at hs <;> first | exact (One.pure _ _).and.and.and.and K hs | exact hs.elim
  | sub e x lo hi =>
    simp only [aeff] at hs ⊢
    split at hs
    · split at hs <;> first | exact (One.pure _ _).and.and.and K hs | exact hs.elim
    · exact hs.elim
  | z3 x => simp only [aeff] at hs ⊢; split at hs <;> first | exact One.pure _ _ K hs | exact hs.elim
  | ssub x lo hi =>
    simp only [aeff] at hs ⊢
    split at hs
    · split at hs <;> first | exact (One.pure _ _).and.and.and K hs | exact hs.elim
    · exact hs.elim
  | fld off x =>
    simp only [aeff] at hs ⊢
    split at hs
    · exact (One.pure _ _).and K hs
    · exact (One.pure _ _).and.and K hs
    · exact hs.elim
  | idx e x y =>
    simp only [aeff] at hs ⊢
    split at hs
    · split at hs
      · exact One.and (One.and (One.ex fun _ => One.pure _ _)) K hs
      · obtain ⟨h1, hs⟩ := hs
        split at hs
        · obtain ⟨v, ws, k1, k2⟩ := (One.pure _ _).and.and.and K hs
          exact ⟨v, ws, k1, h1, k2⟩
        · obtain ⟨v, ws, k1, k2⟩ := One.and (One.and (One.ex fun _ => One.pure _ _)) K hs
          exact ⟨v, ws, k1, h1, k2⟩
        · exact hs.elim
      · exact hs.elim
    · exact hs.elim
  | aidx c e x y =>
    simp only [aeff] at hs ⊢
    split at hs
    · obtain ⟨h1, h2, hs⟩ := hs
      split at hs
      · obtain ⟨v, ws, k1, k2⟩ := (One.pure _ _).and K hs
        exact ⟨v, ws, k1, h1, h2, k2⟩
      · obtain ⟨h3, hs⟩ := hs
        split at hs
        · obtain ⟨v, ws, k1, k2⟩ := One.ite (One.pure _ _) (One.pure _ _) K hs
          exact ⟨v, ws, k1, h1, h2, h3, k2⟩
        · exact hs.elim
      · exact hs.elim
    · exact hs.elim
  | sidx x y => simp only [aeff] at hs ⊢; split at hs <;> first | exact One.and (One.ex fun _ => One.pure _ _) K hs | exact hs.elim
  | field ag off n x =>
    simp only [aeff] at hs ⊢
    split at hs
    · obtain ⟨h1, hs⟩ := hs
      cases ag with
      | true =>
        simp only [if_true] at hs ⊢
        obtain ⟨v, ws, k1, k2⟩ := One.pure _ _ K hs
        exact ⟨v, ws, k1, h1, k2⟩
      | false =>
        simp only [Bool.false_eq_true, if_false] at hs ⊢
        split at hs
        · obtain ⟨v, ws, k1, k2⟩ := One.pure _ _ K hs
          exact ⟨v, ws, k1, h1, k2⟩
        · exact hs.elim
    · exact hs.elim
  | ext i x =>
    simp only [aeff] at hs ⊢
    split at hs
    · split at hs <;> first | exact One.pure _ _ K hs | exact hs.elim
    · exact hs.elim
  | len x => simp only [aeff] at hs ⊢; split at hs <;> first | exact One.pure _ _ K hs | exact hs.elim
  | slen x => simp only [aeff] at hs ⊢; split at hs <;> first | exact One.pure _ _ K hs | exact hs.elim
  | app ty e b s x =>
    simp only [aeff] at hs ⊢
    split at hs
    · split at hs
      · exact (One.pure _ _).and.and K hs
      · obtain ⟨h1, hs⟩ := hs
        split at hs
        · obtain ⟨v, ws, k1, k2⟩ := (One.pure _ _).and.and.and.and K hs
          exact ⟨v, ws, k1, h1, k2⟩
        · exact hs.elim
      · exact hs.elim
    · exact hs.elim
  | call f args =>
    simp only [aeff] at hs ⊢
    split at hs
    · rcases hs with hs | hs
      · obtain ⟨v, ws, h1, h2⟩ := (One.ex fun r => one_after.and) K hs
        exact ⟨v, ws, h1, .inl h2⟩
      · obtain ⟨v, ws, h1, h2⟩ := one_callX K hs
        exact ⟨v, ws, h1, .inr h2⟩
    · exact one_callX K hs
  | callv f args =>
    simp only [aeff] at hs ⊢
    split at hs
    · exact One.and (One.ex fun r => one_after.and) K hs
    · exact hs.elim
  | clo f caps => simp only [aeff] at hs ⊢; split at hs <;> first | exact One.pure _ _ K hs | exact hs.elim
  | nilc x =>
    simp only [aeff] at hs ⊢
    split at hs
    · exact One.pure _ _ K hs
    · exact One.pure _ _ K hs
    · exact One.pure _ _ K hs
    · exact (One.pure _ _).and.and K hs
    · exact hs.elim
  | isnil x => simp only [aeff] at hs ⊢; split at hs <;> first | exact One.pure _ _ K hs | exact hs.elim
  | mm mx x y => simp only [aeff] at hs ⊢; split at hs <;> first | exact One.pure _ _ K hs | exact hs.elim
end Go.Proofs.Ytbpipdgkkdifgaa
