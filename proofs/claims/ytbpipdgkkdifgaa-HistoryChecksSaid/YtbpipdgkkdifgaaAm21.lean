/- THE ABSTRACT MACHINE: loops over rows, and other helps. No condition. -/
import Derived.Test.YtbpipdgkkdifgaaAm20
namespace Go.Proofs.Ytbpipdgkkdifgaa
open Go.RowKit
set_option linter.unusedVariables false
section
variable {P : Program}
def RInv (n : Nat) (I : Nat → St → Prop) (m : Nat) (σ : St) : Prop := ∃ i, i + m = n ∧ I i σ
/-- a loop over so many places -/
theorem rangeA {b : ACode} {Q : Ex → St → Prop} {σ : St} (n : Nat) (I : Nat → St → Prop) (h0 : I 0 σ) (hr : ∀ i m σ, i + m = n → I i σ → wpA P b (Ex.then (fun σ' => ∃ m', m' < m ∧ RInv n I m' σ') Q) σ) : LoopA (wpA P b) Q σ :=
  ⟨RInv n I, n, ⟨σ, .refl σ, 0, by omega, h0⟩, fun m σ ⟨i, him, hi⟩ => hr i m σ him hi⟩
theorem nextR {m i n : Nat} {I : Nat → St → Prop} {σ' : St} (hi : i < n) (him : i + m = n) (h : I (i + 1) σ') : ∃ m', m' < m ∧ RInv n I m' σ' := ⟨m - 1, by omega, i + 1, by omega, h⟩
/-- the same, its rounds and its end apart -/
theorem rangeB {b : ACode} {Q : Ex → St → Prop} {σ : St} (n : Nat) (I : Nat → St → Prop) (h0 : I 0 σ)
    (hr : ∀ i m σ, i + m = n → i < n → decide ((i : Int) < (n : Int)) = true → I i σ → wpA P b (Ex.then (fun σ' => ∃ m', m' < m ∧ RInv n I m' σ') Q) σ)
    (he : ∀ m σ, decide ((n : Int) < (n : Int)) = false → I n σ → wpA P b (Ex.then (fun σ' => ∃ m', m' < m ∧ RInv n I m' σ') Q) σ) : LoopA (wpA P b) Q σ :=
  ⟨RInv n I, n, ⟨σ, .refl σ, 0, by omega, h0⟩, fun m σ ⟨i, him, hi⟩ => by
    by_cases h : i < n
    · exact hr i m σ him h (by simpa using h) hi
    · obtain rfl : i = n := by omega
      exact he m σ (by simp) hi⟩
theorem askM {α γ : Type} {i : Nat} {l : List γ} {f : γ → α} {K : α → Prop} (h : i < l.length) (k : K (f l[i])) : AskIdx i (l.map f) K := by
  rw [askIdx_map h]; exact k
theorem askE {α : Type} {i : Nat} {l : List α} {K : α → Prop} (h : i < l.length) (k : K l[i]) : AskIdx i l K := ⟨h, k⟩
theorem wrapI {x : Int} (h : -9223372036854775808 ≤ x ∧ x ≤ 9223372036854775807) : IntKind.i64.wrap x = x := IntWalk.i64_in _ (by omega)
theorem wrapS {i : Nat} (h : i < 4611686018427387904) : IntKind.i64.wrap ((i : Int) + 1) = ((i + 1 : Nat) : Int) := by rw [wrapI (by omega)]; omega
end
/-- a contract that tells one plain value, as a call -/
theorem Spec.plain {P : Program} {f : Nat} {args : List (TV SC)} {x : Value} (h : Spec P f args (.val (.c (.pv x)))) {w : World} {us : List Value} (hus : RL (RepT (RepS w fun _ => False)) args us) :
    Calls P f us.toArray w fun e w' => e = .returned x ∧ Below w.heap.size w w' :=
  (h w (fun _ => False) us (fun b hb => hb.elim) hus).mono fun e w' ⟨v, he, ht, hb⟩ => by
    have : v = x := RepS.flat ht
    exact ⟨by rw [he, this], hb⟩
/-! a test, as it is said -/
theorem t_dt {p : Prop} [Decidable p] (h : decide p = true) : p := of_decide_eq_true h
theorem t_df {p : Prop} [Decidable p] (h : decide p = false) : ¬ p := of_decide_eq_false h
theorem t_et {a b : Int} (h : (a == b) = true) : a = b := by simpa using h
theorem t_ef {a b : Int} (h : (a == b) = false) : a ≠ b := by simpa using h
theorem t_nt {a b : Int} (h : (a != b) = true) : a ≠ b := by simpa using h
theorem t_nf {a b : Int} (h : (a != b) = false) : a = b := by simpa using h
theorem aB : type_of% (And.intro @decide_eq_true_eq (And.intro @decide_eq_false_iff_not (And.intro @beq_iff_eq.{0} (And.intro @beq_eq_false_iff_ne.{0} (And.intro @bne_iff_ne.{0} (And.intro @bne_eq_false_iff_eq.{0} (And.intro @Int.not_lt (And.intro @Int.not_le (And.intro @Bool.not_eq_true' (@Bool.not_eq_false')))))))))) := And.intro @decide_eq_true_eq (And.intro @decide_eq_false_iff_not (And.intro @beq_iff_eq.{0} (And.intro @beq_eq_false_iff_ne.{0} (And.intro @bne_iff_ne.{0} (And.intro @bne_eq_false_iff_eq.{0} (And.intro @Int.not_lt (And.intro @Int.not_le (And.intro @Bool.not_eq_true' (@Bool.not_eq_false')))))))))
end Go.Proofs.Ytbpipdgkkdifgaa
