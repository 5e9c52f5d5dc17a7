/- layer 5: the values; the contracts: isWeight, isCost, waits, take, Right. -/
import Derived.Test.YtfmbfgoofiojcaaQA
import Derived.Test.YtfmbfgoofiojcaaAm22
import Derived.Test.YtfmbfgoofiojcaaDelKit
import Derived.Lib.Hide
import Derived.Shelf.RegionOpenPlain
import Derived.WalkKit
import Derived.ProofKit
namespace Go.Proofs.Ytfmbfgoofiojcaa
open Go.RowKit
set_option linter.unusedVariables false
set_option linter.unusedSimpArgs false
theorem askIdx_set {α : Type} {i : Nat} {l : List α} {x : α} {K : α → Prop} (h : i < l.length) : AskIdx i (l.set i x) K = K x := by
  apply propext
  constructor
  · rintro ⟨h1, h2⟩
    simpa using h2
  · intro h1
    exact ⟨by simpa using h, by simpa using h1⟩
structure Ln where
  w : Int
  d : Int
  cs : List Int
deriving DecidableEq, Inhabited
structure Ls where
  l : List Ln
  at' : Int
  g : Bool
deriving DecidableEq, Inhabited
def encLn (x : Ln) : List SC := [.pv (.int .i64 x.w), .pv (.int .i64 x.d), .sl 1 (x.cs.map encI)]
def encLs (x : Ls) : List SC := [.sl 3 (x.l.map encLn), .pv (.int .i64 x.at'), .pv (.bool x.g)]
namespace Lk
def okW (n : Int) : Bool := decide (1 ≤ n ∧ n ≤ 8)
def okC (n : Int) : Bool := decide (1 ≤ n ∧ n ≤ 8)
def okL (most : Int) (x : Ln) : Bool := okW x.w && decide (0 ≤ x.d ∧ x.d ≤ most) && decide (x.cs.length ≤ 200) && x.cs.all okC
def most (x : Ls) (i : Int) : Int := if x.g = true ∧ i = x.at' then 39 else 7
def okAt (x : Ls) (i : Nat) : Bool := match x.l[i]? with
  | some y => okL (most x i) y
  | none => true
def right (x : Ls) : Bool := decide (x.l.length ≤ 6 ∧ 0 ≤ x.at' ∧ x.at' < x.l.length) && (List.range x.l.length).all (okAt x)
/-- short enough to be gone through -/
def Small (x : Ls) : Prop := x.l.length < 4611686018427387904 ∧ ∀ y ∈ x.l, y.cs.length < 4611686018427387904
theorem right_bad {x : Ls} {i : Nat} (hi : i < x.l.length) (h : okAt x i = false) : right x = false := by
  unfold right
  rw [Bool.and_eq_false_iff]
  right
  rw [List.all_eq_false]
  exact ⟨i, by simpa using hi, by simp [h]⟩
theorem right_all {x : Ls} (h : x.l.length ≤ 6 ∧ 0 ≤ x.at' ∧ x.at' < x.l.length) (ha : ∀ k < x.l.length, okAt x k = true) : right x = true := by
  unfold right
  rw [Bool.and_eq_true, decide_eq_true_eq, List.all_eq_true]
  exact ⟨h, fun k hk => ha k (by simpa using hk)⟩
theorem right_out {x : Ls} (h : ¬ (x.l.length ≤ 6 ∧ 0 ≤ x.at' ∧ x.at' < x.l.length)) : right x = false := by
  unfold right
  rw [Bool.and_eq_false_iff]
  left
  simpa using h
theorem okAt_get {x : Ls} {i : Nat} (h : i < x.l.length) : okAt x i = okL (most x i) x.l[i] := by
  unfold okAt; rw [List.getElem?_eq_getElem h]
def waits (x : Ls) : Bool := x.l.any fun y => decide (0 < y.cs.length)
end Lk
open Lk
theorem cloneLn (l : List (List SC)) (hl : l.length * 40 ≤ 2 ^ 47) : Spec Try.prog 42 [.c (.sl 3 l)] (.row 56 3 l) := by
  refine Spec.tag ?_ ?_
  · intro h
    subst h
    refine spec_row mixed fn42 (by simp) ?_
    unfold ac42
    simp -implicitDefEqProofs only [↓aP, aQ, ↓reduceIte, Nat.reduceEqDiff, Nat.reduceAdd, Nat.reduceSub, Nat.reduceMul, Nat.reduceLT, Nat.reduceLeDiff, reduceCtorEq, Nat.reduceBEq, forall_const, implies_true, exists_const, ne_eq, Int.reduceAdd, Int.reduceSub, Int.reduceMul, Int.reduceBEq, Int.reduceEq, Int.reduceLT, Int.reduceLE, Int.reduceToNat, Int.reduceNeg, Int.reduceBNe]
  · refine spec_row mixed fn42 (by simp) ?_
    unfold ac42
    simp -implicitDefEqProofs only [↓aP, aQ, ↓reduceIte, Nat.reduceEqDiff, Nat.reduceAdd, Nat.reduceSub, Nat.reduceMul, Nat.reduceLT, Nat.reduceLeDiff, reduceCtorEq, Nat.reduceBEq, forall_const, implies_true, exists_const, ne_eq, Int.reduceAdd, Int.reduceSub, Int.reduceMul, Int.reduceBEq, Int.reduceEq, Int.reduceLT, Int.reduceLE, Int.reduceToNat, Int.reduceNeg, Int.reduceBNe]
    refine ⟨?_, ?_⟩ <;> omega

theorem cloneIn (l : List (List SC)) (hl : l.length * 8 ≤ 2 ^ 47) : Spec Try.prog 43 [.c (.sl 1 l)] (.row 3 1 l) := by
  refine Spec.tag ?_ ?_
  · intro h
    subst h
    refine spec_row mixed fn43 (by simp) ?_
    unfold ac43
    simp -implicitDefEqProofs only [↓aP, aQ, ↓reduceIte, Nat.reduceEqDiff, Nat.reduceAdd, Nat.reduceSub, Nat.reduceMul, Nat.reduceLT, Nat.reduceLeDiff, reduceCtorEq, Nat.reduceBEq, forall_const, implies_true, exists_const, ne_eq, Int.reduceAdd, Int.reduceSub, Int.reduceMul, Int.reduceBEq, Int.reduceEq, Int.reduceLT, Int.reduceLE, Int.reduceToNat, Int.reduceNeg, Int.reduceBNe]
  · refine spec_row mixed fn43 (by simp) ?_
    unfold ac43
    simp -implicitDefEqProofs only [↓aP, aQ, ↓reduceIte, Nat.reduceEqDiff, Nat.reduceAdd, Nat.reduceSub, Nat.reduceMul, Nat.reduceLT, Nat.reduceLeDiff, reduceCtorEq, Nat.reduceBEq, forall_const, implies_true, exists_const, ne_eq, Int.reduceAdd, Int.reduceSub, Int.reduceMul, Int.reduceBEq, Int.reduceEq, Int.reduceLT, Int.reduceLE, Int.reduceToNat, Int.reduceNeg, Int.reduceBNe]
    refine ⟨?_, ?_⟩ <;> omega

theorem isWeight_spec (n : Int) : Spec Try.prog 40 [rI n] (.val (rB (okW n))) := by
  refine spec_val mixed fn40 (by simp) ?_
  unfold ac40
  simp -implicitDefEqProofs only [↓aP, aQ, ↓reduceIte, Nat.reduceEqDiff, Nat.reduceAdd, Nat.reduceSub, Nat.reduceMul, Nat.reduceLT, Nat.reduceLeDiff, reduceCtorEq, Nat.reduceBEq, forall_const, implies_true, exists_const, ne_eq, Int.reduceAdd, Int.reduceSub, Int.reduceMul, Int.reduceBEq, Int.reduceEq, Int.reduceLT, Int.reduceLE, Int.reduceToNat, Int.reduceNeg, Int.reduceBNe]
  repeat' ((first | ((first | with_reducible refine fork ?_ ?_ | with_reducible refine gcase ?_ ?_ | with_reducible refine gcaseD ?_ ?_) <;> intro hc <;> (have hp := hc) <;> (try simp only [aB] at hp)) | (have hc := True.intro; first | with_reducible refine askM (by omega) ?_ | with_reducible refine And.intro (by first | omega | decide +kernel) ?_ | fail)) <;> (try simp -implicitDefEqProofs only [↓aP, aQ, ↓reduceIte, Nat.reduceEqDiff, Nat.reduceAdd, Nat.reduceSub, Nat.reduceMul, Nat.reduceLT, Nat.reduceLeDiff, reduceCtorEq, Nat.reduceBEq, forall_const, implies_true, exists_const, ne_eq, Int.reduceAdd, Int.reduceSub, Int.reduceMul, Int.reduceBEq, Int.reduceEq, Int.reduceLT, Int.reduceLE, Int.reduceToNat, Int.reduceNeg, Int.reduceBNe, hc]))
  all_goals (unfold okW; first | (rw [eq_comm, decide_eq_decide]; omega) | (symm; simp only [decide_eq_true_eq, decide_eq_false_iff_not]; omega))
theorem isCost_spec (n : Int) : Spec Try.prog 41 [rI n] (.val (rB (okC n))) := by
  refine spec_val mixed fn41 (by simp) ?_
  unfold ac41
  simp -implicitDefEqProofs only [↓aP, aQ, ↓reduceIte, Nat.reduceEqDiff, Nat.reduceAdd, Nat.reduceSub, Nat.reduceMul, Nat.reduceLT, Nat.reduceLeDiff, reduceCtorEq, Nat.reduceBEq, forall_const, implies_true, exists_const, ne_eq, Int.reduceAdd, Int.reduceSub, Int.reduceMul, Int.reduceBEq, Int.reduceEq, Int.reduceLT, Int.reduceLE, Int.reduceToNat, Int.reduceNeg, Int.reduceBNe]
  repeat' ((first | ((first | with_reducible refine fork ?_ ?_ | with_reducible refine gcase ?_ ?_ | with_reducible refine gcaseD ?_ ?_) <;> intro hc <;> (have hp := hc) <;> (try simp only [aB] at hp)) | (have hc := True.intro; first | with_reducible refine askM (by omega) ?_ | with_reducible refine And.intro (by first | omega | decide +kernel) ?_ | fail)) <;> (try simp -implicitDefEqProofs only [↓aP, aQ, ↓reduceIte, Nat.reduceEqDiff, Nat.reduceAdd, Nat.reduceSub, Nat.reduceMul, Nat.reduceLT, Nat.reduceLeDiff, reduceCtorEq, Nat.reduceBEq, forall_const, implies_true, exists_const, ne_eq, Int.reduceAdd, Int.reduceSub, Int.reduceMul, Int.reduceBEq, Int.reduceEq, Int.reduceLT, Int.reduceLE, Int.reduceToNat, Int.reduceNeg, Int.reduceBNe, hc]))
  all_goals (unfold okC; first | (rw [eq_comm, decide_eq_decide]; omega) | (symm; simp only [decide_eq_true_eq, decide_eq_false_iff_not]; omega))
/-- the first one of which it is so; -1: there is none -/
def fst? {α : Type} (p : α → Bool) (l : List α) : Int := match l.findIdx? p with
  | some i => i
  | none => -1
theorem fst_none {α : Type} {p : α → Bool} {l : List α} (h : ∀ x ∈ l, p x = false) : fst? p l = -1 := by
  unfold fst?
  rw [List.findIdx?_eq_none_iff.2 (fun x hx => by simpa using h x hx)]
theorem fst_at {α : Type} {p : α → Bool} {l : List α} {k : Nat} (hk : k < l.length) (h : p l[k] = true) (hno : ∀ x ∈ l.take k, p x = false) : fst? p l = k := by
  unfold fst?
  rw [show l.findIdx? p = some k by
    rw [List.findIdx?_eq_some_iff_getElem]
    exact ⟨hk, h, fun j hj => by simpa using hno _ (List.mem_take_iff_getElem.2 ⟨j, by omega, rfl⟩)⟩]
theorem idxLn_spec (l : List Ln) (p : Ln → Bool) (g : Nat) (caps : List SC) (hg : callable Try.prog g = true) (hp : ∀ x, Spec Try.prog g (.agg (encLn x) :: caps.map TV.c) (.val (rB (p x)))) (hl : l.length < 4611686018427387904) :
    Spec Try.prog 94 [rL 3 (l.map encLn), .c (.fn g caps)] (.val (rI (fst? p l))) := by
  refine spec_val mixed fn94 (by simp) ?_
  unfold ac94
  simp -implicitDefEqProofs only [↓aP, aQ, ↓reduceIte, Nat.reduceEqDiff, Nat.reduceAdd, Nat.reduceSub, Nat.reduceMul, Nat.reduceLT, Nat.reduceLeDiff, reduceCtorEq, Nat.reduceBEq, forall_const, implies_true, exists_const, ne_eq, Int.reduceAdd, Int.reduceSub, Int.reduceMul, Int.reduceBEq, Int.reduceEq, Int.reduceLT, Int.reduceLE, Int.reduceToNat, Int.reduceNeg, Int.reduceBNe]
  refine rangeB l.length (fun i σ => (∀ x ∈ l.take i, p x = false) ∧ σ.slot 0 = vL 3 (l.map encLn) ∧ σ.slot 1 = .c (.s (.fn g caps)) ∧ σ.slot 7 = vI l.length ∧ σ.slot 8 = vI i) ?_ ?_ ?_
  · simp -implicitDefEqProofs only [↓aP, aQ, ↓reduceIte, Nat.reduceEqDiff, Nat.reduceAdd, Nat.reduceSub, Nat.reduceMul, Nat.reduceLT, Nat.reduceLeDiff, reduceCtorEq, Nat.reduceBEq, forall_const, implies_true, exists_const, ne_eq, Int.reduceAdd, Int.reduceSub, Int.reduceMul, Int.reduceBEq, Int.reduceEq, Int.reduceLT, Int.reduceLE, Int.reduceToNat, Int.reduceNeg, Int.reduceBNe]
    simp
  · rintro i m σ him hi hlt ⟨hno, s0, s1, s7, s8⟩
    simp -implicitDefEqProofs only [↓aP, aQ, ↓reduceIte, Nat.reduceEqDiff, Nat.reduceAdd, Nat.reduceSub, Nat.reduceMul, Nat.reduceLT, Nat.reduceLeDiff, reduceCtorEq, Nat.reduceBEq, forall_const, implies_true, exists_const, ne_eq, Int.reduceAdd, Int.reduceSub, Int.reduceMul, Int.reduceBEq, Int.reduceEq, Int.reduceLT, Int.reduceLE, Int.reduceToNat, Int.reduceNeg, Int.reduceBNe, hlt, s0, s1, s7, s8, askIdx_map, hi, hg, encLn]
    refine askV (hp l[i]) ?_
    simp -implicitDefEqProofs only [↓aP, aQ, ↓reduceIte, Nat.reduceEqDiff, Nat.reduceAdd, Nat.reduceSub, Nat.reduceMul, Nat.reduceLT, Nat.reduceLeDiff, reduceCtorEq, Nat.reduceBEq, forall_const, implies_true, exists_const, ne_eq, Int.reduceAdd, Int.reduceSub, Int.reduceMul, Int.reduceBEq, Int.reduceEq, Int.reduceLT, Int.reduceLE, Int.reduceToNat, Int.reduceNeg, Int.reduceBNe]
    refine fork ?_ ?_ <;> intro hc
    · simp -implicitDefEqProofs only [↓aP, aQ, ↓reduceIte, Nat.reduceEqDiff, Nat.reduceAdd, Nat.reduceSub, Nat.reduceMul, Nat.reduceLT, Nat.reduceLeDiff, reduceCtorEq, Nat.reduceBEq, forall_const, implies_true, exists_const, ne_eq, Int.reduceAdd, Int.reduceSub, Int.reduceMul, Int.reduceBEq, Int.reduceEq, Int.reduceLT, Int.reduceLE, Int.reduceToNat, Int.reduceNeg, Int.reduceBNe, fst_at hi hc hno]
    · simp -implicitDefEqProofs only [↓aP, aQ, ↓reduceIte, Nat.reduceEqDiff, Nat.reduceAdd, Nat.reduceSub, Nat.reduceMul, Nat.reduceLT, Nat.reduceLeDiff, reduceCtorEq, Nat.reduceBEq, forall_const, implies_true, exists_const, ne_eq, Int.reduceAdd, Int.reduceSub, Int.reduceMul, Int.reduceBEq, Int.reduceEq, Int.reduceLT, Int.reduceLE, Int.reduceToNat, Int.reduceNeg, Int.reduceBNe, s0, s1, s7, s8, wrapS (show i < 4611686018427387904 by omega)]
      refine nextR hi him ?_
      simp -implicitDefEqProofs only [↓aP, aQ, ↓reduceIte, Nat.reduceEqDiff, Nat.reduceAdd, Nat.reduceSub, Nat.reduceMul, Nat.reduceLT, Nat.reduceLeDiff, reduceCtorEq, Nat.reduceBEq, forall_const, implies_true, exists_const, ne_eq, Int.reduceAdd, Int.reduceSub, Int.reduceMul, Int.reduceBEq, Int.reduceEq, Int.reduceLT, Int.reduceLE, Int.reduceToNat, Int.reduceNeg, Int.reduceBNe, s0, s1, s7, s8]
      rw [take_snoc hi]
      intro x hx
      rcases List.mem_append.1 hx with h | h
      · exact hno x h
      · rw [List.mem_singleton.1 h]; exact hc
  · rintro m σ hlt ⟨hno, s0, s1, s7, s8⟩
    rw [List.take_length] at hno
    simp -implicitDefEqProofs only [↓aP, aQ, ↓reduceIte, Nat.reduceEqDiff, Nat.reduceAdd, Nat.reduceSub, Nat.reduceMul, Nat.reduceLT, Nat.reduceLeDiff, reduceCtorEq, Nat.reduceBEq, forall_const, implies_true, exists_const, ne_eq, Int.reduceAdd, Int.reduceSub, Int.reduceMul, Int.reduceBEq, Int.reduceEq, Int.reduceLT, Int.reduceLE, Int.reduceToNat, Int.reduceNeg, Int.reduceBNe, hlt, s0, s1, s7, s8, fst_none hno]

theorem waits1_spec (x : Ln) : Spec Try.prog 75 [.agg (encLn x)] (.val (rB (decide (0 < x.cs.length)))) := by
  refine spec_val mixed fn75 (by simp) ?_
  unfold ac75
  simp -implicitDefEqProofs only [↓aP, aQ, ↓reduceIte, Nat.reduceEqDiff, Nat.reduceAdd, Nat.reduceSub, Nat.reduceMul, Nat.reduceLT, Nat.reduceLeDiff, reduceCtorEq, Nat.reduceBEq, forall_const, implies_true, exists_const, ne_eq, Int.reduceAdd, Int.reduceSub, Int.reduceMul, Int.reduceBEq, Int.reduceEq, Int.reduceLT, Int.reduceLE, Int.reduceToNat, Int.reduceNeg, Int.reduceBNe, encLn]
  simp
theorem any_fst {l : List Ln} {p : Ln → Bool} : decide (0 ≤ fst? p l) = l.any p := by
  cases h : l.findIdx? p with
  | none =>
    have h1 := List.findIdx?_eq_none_iff.1 h
    have h2 : fst? p l = -1 := by unfold fst?; rw [h]
    rw [h2]
    symm
    simpa using h1
  | some k =>
    obtain ⟨hk, h1, _⟩ := List.findIdx?_eq_some_iff_getElem.1 h
    have h2 : fst? p l = k := by unfold fst?; rw [h]
    rw [h2]
    symm
    rw [show l.any p = true from List.any_eq_true.2 ⟨_, List.getElem_mem hk, h1⟩]
    simp
theorem cont_spec (l : List Ln) (hl : l.length < 4611686018427387904) : Spec Try.prog 74 [rL 3 (l.map encLn), .c (.fn 75 [])] (.val (rB (l.any fun y => decide (0 < y.cs.length)))) := by
  refine spec_val mixed fn74 (by simp) ?_
  unfold ac74
  simp -implicitDefEqProofs only [↓aP, aQ, ↓reduceIte, Nat.reduceEqDiff, Nat.reduceAdd, Nat.reduceSub, Nat.reduceMul, Nat.reduceLT, Nat.reduceLeDiff, reduceCtorEq, Nat.reduceBEq, forall_const, implies_true, exists_const, ne_eq, Int.reduceAdd, Int.reduceSub, Int.reduceMul, Int.reduceBEq, Int.reduceEq, Int.reduceLT, Int.reduceLE, Int.reduceToNat, Int.reduceNeg, Int.reduceBNe]
  refine ask (idxLn_spec l (fun x => decide (0 < x.cs.length)) 75 [] (by kernel_rfl) (fun x => waits1_spec x) hl) ?_
  simp -implicitDefEqProofs only [↓aP, aQ, ↓reduceIte, Nat.reduceEqDiff, Nat.reduceAdd, Nat.reduceSub, Nat.reduceMul, Nat.reduceLT, Nat.reduceLeDiff, reduceCtorEq, Nat.reduceBEq, forall_const, implies_true, exists_const, ne_eq, Int.reduceAdd, Int.reduceSub, Int.reduceMul, Int.reduceBEq, Int.reduceEq, Int.reduceLT, Int.reduceLE, Int.reduceToNat, Int.reduceNeg, Int.reduceBNe]
  exact any_fst
theorem waits_spec (x : Ls) (hl : x.l.length < 4611686018427387904) : Spec Try.prog 44 [.agg (encLs x)] (.val (rB (waits x))) := by
  refine spec_val mixed fn44 (by simp) ?_
  unfold ac44
  simp -implicitDefEqProofs only [↓aP, aQ, ↓reduceIte, Nat.reduceEqDiff, Nat.reduceAdd, Nat.reduceSub, Nat.reduceMul, Nat.reduceLT, Nat.reduceLeDiff, reduceCtorEq, Nat.reduceBEq, forall_const, implies_true, exists_const, ne_eq, Int.reduceAdd, Int.reduceSub, Int.reduceMul, Int.reduceBEq, Int.reduceEq, Int.reduceLT, Int.reduceLE, Int.reduceToNat, Int.reduceNeg, Int.reduceBNe, encLs]
  refine ask (cont_spec x.l hl) ?_
  simp -implicitDefEqProofs only [↓aP, aQ, ↓reduceIte, Nat.reduceEqDiff, Nat.reduceAdd, Nat.reduceSub, Nat.reduceMul, Nat.reduceLT, Nat.reduceLeDiff, reduceCtorEq, Nat.reduceBEq, forall_const, implies_true, exists_const, ne_eq, Int.reduceAdd, Int.reduceSub, Int.reduceMul, Int.reduceBEq, Int.reduceEq, Int.reduceLT, Int.reduceLE, Int.reduceToNat, Int.reduceNeg, Int.reduceBNe]
  rfl
/-- the first cost is taken off -/
def takeL (x : Ln) : Ln := ⟨x.w, if x.cs.length = 1 then 0 else x.d - x.cs.headD 0, x.cs.tail⟩
theorem take_spec (l : List Ln) (k : Nat) (hk : k < l.length) (h0 : 0 < l[k].cs.length) (hs : l[k].cs.length ≤ 200) (hd : -1000 ≤ l[k].d ∧ l[k].d ≤ 1000) (hcc : okC (l[k].cs.headD 0) = true) :
    SpecX Try.prog 45 ⟨true, 56, 3, l.map encLn, some (k, 0), (l.set k (takeL l[k])).map encLn, some (rI (l[k].cs.headD 0))⟩ [] := by
  obtain ⟨c, cs, hcs⟩ : ∃ c cs, l[k].cs = c :: cs := by
    cases h : l[k].cs with
    | nil => rw [h] at h0; simp at h0
    | cons c cs => exact ⟨c, cs, rfl⟩
  have hmap : ∀ y, (l.set k y).map encLn = (l.map encLn).set k (encLn y) := fun y => List.map_set
  refine spec_x mixed fn45 999 (p := (k, 0)) (r := rI (l[k].cs.headD 0)) rfl (by simp) rfl (by simp) (by simp) ?_
  unfold ac45
  have hlen : cs.length ≤ 199 := by rw [hcs] at hs; simpa using hs
  have hc2 : 1 ≤ c ∧ c ≤ 8 := by simpa [hcs, okC] using hcc
  have e1 : IntKind.i64.wrap (l[k].d - c) = l[k].d - c := wrapI (by omega)
  rw [hmap]
  have ht : takeL l[k] = ⟨l[k].w, if cs = [] then 0 else l[k].d - c, cs⟩ := by
    unfold takeL
    rw [hcs]
    simp
  rw [ht]
  simp -implicitDefEqProofs only [↓aP, aQ, ↓reduceIte, Nat.reduceEqDiff, Nat.reduceAdd, Nat.reduceSub, Nat.reduceMul, Nat.reduceLT, Nat.reduceLeDiff, reduceCtorEq, Nat.reduceBEq, forall_const, implies_true, exists_const, ne_eq, Int.reduceAdd, Int.reduceSub, Int.reduceMul, Int.reduceBEq, Int.reduceEq, Int.reduceLT, Int.reduceLE, Int.reduceToNat, Int.reduceNeg, Int.reduceBNe, initX_slot, initX_gen, initX_blk, XR.lb0, XR.at0, finX, boxC, lbX, askIdx_map, hk, encLn, encI, hcs, e1]
  rw [show List.take cs.length (cs.map encI) = cs.map encI from List.take_of_length_le (by simp)]
  refine ⟨by omega, ?_⟩
  refine ask (cloneIn _ (by simp; omega)) ?_
  simp -implicitDefEqProofs only [↓aP, aQ, ↓reduceIte, Nat.reduceEqDiff, Nat.reduceAdd, Nat.reduceSub, Nat.reduceMul, Nat.reduceLT, Nat.reduceLeDiff, reduceCtorEq, Nat.reduceBEq, forall_const, implies_true, exists_const, ne_eq, Int.reduceAdd, Int.reduceSub, Int.reduceMul, Int.reduceBEq, Int.reduceEq, Int.reduceLT, Int.reduceLE, Int.reduceToNat, Int.reduceNeg, Int.reduceBNe, initX_slot, initX_gen, initX_blk, XR.lb0, XR.at0, finX, boxC, lbX, askIdx_map, askIdx_set, List.set_set, hk, encLn, encI, hcs, e1]
  cases cs with
  | nil =>
    simp -implicitDefEqProofs only [↓aP, aQ, ↓reduceIte, Nat.reduceEqDiff, Nat.reduceAdd, Nat.reduceSub, Nat.reduceMul, Nat.reduceLT, Nat.reduceLeDiff, reduceCtorEq, Nat.reduceBEq, forall_const, implies_true, exists_const, ne_eq, Int.reduceAdd, Int.reduceSub, Int.reduceMul, Int.reduceBEq, Int.reduceEq, Int.reduceLT, Int.reduceLE, Int.reduceToNat, Int.reduceNeg, Int.reduceBNe, initX_slot, initX_gen, initX_blk, XR.lb0, XR.at0, finX, boxC, lbX, askIdx_map, askIdx_set, List.set_set, hk, encLn, encI, hcs, e1]
    simp -implicitDefEqProofs only [↓aP, aQ, ↓reduceIte, Nat.reduceEqDiff, Nat.reduceAdd, Nat.reduceSub, Nat.reduceMul, Nat.reduceLT, Nat.reduceLeDiff, reduceCtorEq, Nat.reduceBEq, forall_const, implies_true, exists_const, ne_eq, Int.reduceAdd, Int.reduceSub, Int.reduceMul, Int.reduceBEq, Int.reduceEq, Int.reduceLT, Int.reduceLE, Int.reduceToNat, Int.reduceNeg, Int.reduceBNe, initX_slot, initX_gen, initX_blk, XR.lb0, XR.at0, finX, boxC, lbX, askIdx_map, askIdx_set, List.set_set, hk, encLn, encI, hcs, e1, List.headD_cons]
  | cons b cs =>
    simp -implicitDefEqProofs only [↓aP, aQ, ↓reduceIte, Nat.reduceEqDiff, Nat.reduceAdd, Nat.reduceSub, Nat.reduceMul, Nat.reduceLT, Nat.reduceLeDiff, reduceCtorEq, Nat.reduceBEq, forall_const, implies_true, exists_const, ne_eq, Int.reduceAdd, Int.reduceSub, Int.reduceMul, Int.reduceBEq, Int.reduceEq, Int.reduceLT, Int.reduceLE, Int.reduceToNat, Int.reduceNeg, Int.reduceBNe, initX_slot, initX_gen, initX_blk, XR.lb0, XR.at0, finX, boxC, lbX, askIdx_map, askIdx_set, List.set_set, hk, encLn, encI, hcs, e1]
    refine fork ?_ ?_ <;> intro hz
    · exact absurd hz (by simp; omega)
    · simp -implicitDefEqProofs only [↓aP, aQ, ↓reduceIte, Nat.reduceEqDiff, Nat.reduceAdd, Nat.reduceSub, Nat.reduceMul, Nat.reduceLT, Nat.reduceLeDiff, reduceCtorEq, Nat.reduceBEq, forall_const, implies_true, exists_const, ne_eq, Int.reduceAdd, Int.reduceSub, Int.reduceMul, Int.reduceBEq, Int.reduceEq, Int.reduceLT, Int.reduceLE, Int.reduceToNat, Int.reduceNeg, Int.reduceBNe, initX_slot, initX_gen, initX_blk, XR.lb0, XR.at0, finX, boxC, lbX, askIdx_map, askIdx_set, List.set_set, hk, encLn, encI, hcs, e1, List.headD_cons]
end Go.Proofs.Ytfmbfgoofiojcaa
namespace Go.Proofs.Ytfmbfgoofiojcaa
open Go.RowKit Lk
set_option linter.unusedVariables false
set_option linter.unusedSimpArgs false
theorem okL_iff {m : Int} {y : Ln} : okL m y = true ↔ okW y.w = true ∧ (0 ≤ y.d ∧ y.d ≤ m) ∧ y.cs.length ≤ 200 ∧ y.cs.all okC = true := by
  unfold okL; simp [and_assoc]
theorem okL_no {m : Int} {y : Ln} (h : ¬ (okW y.w = true ∧ (0 ≤ y.d ∧ y.d ≤ m) ∧ y.cs.length ≤ 200 ∧ y.cs.all okC = true)) : okL m y = false := by
  cases hb : okL m y
  · rfl
  · exact absurd (okL_iff.1 hb) h


theorem lRight_spec (x : Ls) (hx : Small x) : Spec Try.prog 21 [.agg (encLs x)] (.val (rB (right x))) := by
  refine spec_val mixed fn21 (by simp) ?_
  unfold ac21
  have hl := hx.1
  simp -implicitDefEqProofs only [↓aP, aQ, ↓reduceIte, Nat.reduceEqDiff, Nat.reduceAdd, Nat.reduceSub, Nat.reduceMul, Nat.reduceLT, Nat.reduceLeDiff, reduceCtorEq, Nat.reduceBEq, forall_const, implies_true, exists_const, ne_eq, Int.reduceAdd, Int.reduceSub, Int.reduceMul, Int.reduceBEq, Int.reduceEq, Int.reduceLT, Int.reduceLE, Int.reduceToNat, Int.reduceNeg, Int.reduceBNe, encLs]
  by_cases hin : x.l.length ≤ 6 ∧ 0 ≤ x.at' ∧ x.at' < x.l.length
  case neg =>
    have hr := right_out hin
    repeat' ((first | ((first | with_reducible refine fork ?_ ?_ | with_reducible refine gcase ?_ ?_ | with_reducible refine gcaseD ?_ ?_) <;> intro hc <;> (have hp := hc) <;> (try simp only [aB] at hp)) | (have hc := True.intro; first | with_reducible refine askM (by omega) ?_ | with_reducible refine And.intro (by first | omega | decide +kernel) ?_ | fail)) <;> (try simp -implicitDefEqProofs only [↓aP, aQ, ↓reduceIte, Nat.reduceEqDiff, Nat.reduceAdd, Nat.reduceSub, Nat.reduceMul, Nat.reduceLT, Nat.reduceLeDiff, reduceCtorEq, Nat.reduceBEq, forall_const, implies_true, exists_const, ne_eq, Int.reduceAdd, Int.reduceSub, Int.reduceMul, Int.reduceBEq, Int.reduceEq, Int.reduceLT, Int.reduceLE, Int.reduceToNat, Int.reduceNeg, Int.reduceBNe, hc, hr, encLs]))
    all_goals (exfalso; simp only [decide_eq_false_iff_not, decide_eq_true_eq] at *; omega)
  have d1 : decide ((6 : Int) < (x.l.length : Int)) = false := by simp; omega
  have d2 : decide (x.at' < 0) = false := by simp; omega
  have d3 : decide ((x.l.length : Int) ≤ x.at') = false := by simp; omega
  simp -implicitDefEqProofs only [↓aP, aQ, ↓reduceIte, Nat.reduceEqDiff, Nat.reduceAdd, Nat.reduceSub, Nat.reduceMul, Nat.reduceLT, Nat.reduceLeDiff, reduceCtorEq, Nat.reduceBEq, forall_const, implies_true, exists_const, ne_eq, Int.reduceAdd, Int.reduceSub, Int.reduceMul, Int.reduceBEq, Int.reduceEq, Int.reduceLT, Int.reduceLE, Int.reduceToNat, Int.reduceNeg, Int.reduceBNe, d1, d2, d3]
  refine rangeB x.l.length (fun i σ => (∀ j < i, okAt x j = true) ∧ σ.slot 1 = .c (.ptr 1 1 0 0) ∧ σ.h.gen 1 = 1 ∧ σ.h.blk 1 = .box 25 3 [(encLs x).map AC.s] ∧ σ.slot 3 = vI i ∧ σ.slot 27 = vL 3 (x.l.map encLn) ∧ σ.slot 28 = vI x.l.length ∧ σ.slot 29 = vI i) ?_ ?_ ?_
  · simp -implicitDefEqProofs only [↓aP, aQ, ↓reduceIte, Nat.reduceEqDiff, Nat.reduceAdd, Nat.reduceSub, Nat.reduceMul, Nat.reduceLT, Nat.reduceLeDiff, reduceCtorEq, Nat.reduceBEq, forall_const, implies_true, exists_const, ne_eq, Int.reduceAdd, Int.reduceSub, Int.reduceMul, Int.reduceBEq, Int.reduceEq, Int.reduceLT, Int.reduceLE, Int.reduceToNat, Int.reduceNeg, Int.reduceBNe, encLs]
    intro j hj
    omega
  · rintro i m σ him hi hlt ⟨ha, s1, g1, b1, s3, s27, s28, s29⟩
    have hg := okAt_get hi
    have hbad : okAt x i = false → right x = false := right_bad hi
    simp -implicitDefEqProofs only [↓aP, aQ, ↓reduceIte, Nat.reduceEqDiff, Nat.reduceAdd, Nat.reduceSub, Nat.reduceMul, Nat.reduceLT, Nat.reduceLeDiff, reduceCtorEq, Nat.reduceBEq, forall_const, implies_true, exists_const, ne_eq, Int.reduceAdd, Int.reduceSub, Int.reduceMul, Int.reduceBEq, Int.reduceEq, Int.reduceLT, Int.reduceLE, Int.reduceToNat, Int.reduceNeg, Int.reduceBNe, hlt, s1, g1, b1, s3, s27, s28, s29, askIdx_map, hi, encLn, encLs]
    have hne : ((i : Int) == (x.l.length : Int)) = false := by simp; omega
    have hm1 : x.g = true → ((i : Int) == x.at') = true → most x i = 39 := fun h1 h2 => if_pos ⟨h1, by simpa using h2⟩
    have hm2 : x.g = true → ((i : Int) == x.at') = false → most x i = 7 := fun h1 h2 => if_neg (fun h => by simp [h.2] at h2)
    have hm3 : x.g = false → most x i = 7 := fun h1 => if_neg (fun h => by simp [h1] at h)
    repeat' ((first | ((first | with_reducible refine fork ?_ ?_ | with_reducible refine gcase ?_ ?_ | with_reducible refine gcaseD ?_ ?_) <;> intro hc <;> (have hp := hc) <;> (try simp only [aB] at hp)) | (have hc := True.intro; first | with_reducible refine askM (by omega) ?_ | with_reducible refine And.intro (by first | omega | decide +kernel) ?_ | refine ask (isWeight_spec x.l[i].w) ?_ | fail)) <;> (try simp -implicitDefEqProofs only [↓aP, aQ, ↓reduceIte, Nat.reduceEqDiff, Nat.reduceAdd, Nat.reduceSub, Nat.reduceMul, Nat.reduceLT, Nat.reduceLeDiff, reduceCtorEq, Nat.reduceBEq, forall_const, implies_true, exists_const, ne_eq, Int.reduceAdd, Int.reduceSub, Int.reduceMul, Int.reduceBEq, Int.reduceEq, Int.reduceLT, Int.reduceLE, Int.reduceToNat, Int.reduceNeg, Int.reduceBNe, hc, s1, g1, b1, s3, s27, s28, s29, encLs, encLn, hne]))
    all_goals have hM : most x i = 39 ∧ x.g = true ∨ most x i = 7 := by first
      | exact .inl ⟨hm1 (by assumption) (by assumption), by assumption⟩
      | exact .inr (hm2 (by assumption) (by assumption))
      | exact .inr (hm3 (by assumption))
    all_goals first
      | (refine (hbad ?_).symm
         rw [hg]
         first
           | rw [hm1 (by assumption) (by assumption)]
           | rw [hm2 (by assumption) (by assumption)]
           | rw [hm3 (by assumption)]
         exact okL_no (fun ⟨a, b, c, d⟩ => by first | omega | simp_all))
      | skip
    all_goals
      have hD : okW x.l[i].w = true ∧ (0 ≤ x.l[i].d ∧ x.l[i].d ≤ most x i) ∧ x.l[i].cs.length ≤ 200 := by
        refine ⟨by assumption, ?_, by omega⟩
        first
          | rw [hm1 (by assumption) (by assumption)]; constructor <;> assumption
          | rw [hm2 (by assumption) (by assumption)]; constructor <;> assumption
          | rw [hm3 (by assumption)]; constructor <;> assumption
    all_goals
      clear hm1 hm2 hm3
      refine rangeB x.l[i].cs.length (fun k σ => (∀ c ∈ x.l[i].cs.take k, okC c = true) ∧ σ.slot 1 = .c (.ptr 1 1 0 0) ∧ σ.h.gen 1 = 1 ∧ σ.h.blk 1 = .box 25 3 [(encLs x).map AC.s] ∧ σ.slot 3 = vI i ∧ σ.slot 27 = vL 3 (x.l.map encLn) ∧ σ.slot 28 = vI x.l.length ∧ σ.slot 29 = vI i ∧ σ.slot 64 = vL 1 (x.l[i].cs.map encI) ∧ σ.slot 65 = vI x.l[i].cs.length ∧ σ.slot 66 = vI k) ?_ ?_ ?_
      · simp -implicitDefEqProofs only [↓aP, aQ, ↓reduceIte, Nat.reduceEqDiff, Nat.reduceAdd, Nat.reduceSub, Nat.reduceMul, Nat.reduceLT, Nat.reduceLeDiff, reduceCtorEq, Nat.reduceBEq, forall_const, implies_true, exists_const, ne_eq, Int.reduceAdd, Int.reduceSub, Int.reduceMul, Int.reduceBEq, Int.reduceEq, Int.reduceLT, Int.reduceLE, Int.reduceToNat, Int.reduceNeg, Int.reduceBNe, s1, g1, b1, s3, s27, s28, s29, encLs, encLn]
        simp
      · rintro k m2 σ2 hkm hk hklt ⟨hcs, s1, g1, b1, s3, s27, s28, s29, s64, s65, s66⟩
        simp -implicitDefEqProofs only [↓aP, aQ, ↓reduceIte, Nat.reduceEqDiff, Nat.reduceAdd, Nat.reduceSub, Nat.reduceMul, Nat.reduceLT, Nat.reduceLeDiff, reduceCtorEq, Nat.reduceBEq, forall_const, implies_true, exists_const, ne_eq, Int.reduceAdd, Int.reduceSub, Int.reduceMul, Int.reduceBEq, Int.reduceEq, Int.reduceLT, Int.reduceLE, Int.reduceToNat, Int.reduceNeg, Int.reduceBNe, hklt, s1, g1, b1, s3, s27, s28, s29, s64, s65, s66, askIdx_map, hk, encI]
        refine ask (isCost_spec x.l[i].cs[k]) ?_
        cases hcc : okC x.l[i].cs[k]
        · simp -implicitDefEqProofs only [↓aP, aQ, ↓reduceIte, Nat.reduceEqDiff, Nat.reduceAdd, Nat.reduceSub, Nat.reduceMul, Nat.reduceLT, Nat.reduceLeDiff, reduceCtorEq, Nat.reduceBEq, forall_const, implies_true, exists_const, ne_eq, Int.reduceAdd, Int.reduceSub, Int.reduceMul, Int.reduceBEq, Int.reduceEq, Int.reduceLT, Int.reduceLE, Int.reduceToNat, Int.reduceNeg, Int.reduceBNe, s1, g1, b1, s3, s27, s28, s29, s64, s65, s66, encLs, hne]
          refine (hbad ?_).symm
          rw [hg]
          refine okL_no (fun ⟨a, b, c, d⟩ => ?_)
          rw [List.all_eq_true] at d
          have := d _ (List.getElem_mem hk)
          simp [hcc] at this
        · simp -implicitDefEqProofs only [↓aP, aQ, ↓reduceIte, Nat.reduceEqDiff, Nat.reduceAdd, Nat.reduceSub, Nat.reduceMul, Nat.reduceLT, Nat.reduceLeDiff, reduceCtorEq, Nat.reduceBEq, forall_const, implies_true, exists_const, ne_eq, Int.reduceAdd, Int.reduceSub, Int.reduceMul, Int.reduceBEq, Int.reduceEq, Int.reduceLT, Int.reduceLE, Int.reduceToNat, Int.reduceNeg, Int.reduceBNe, s1, g1, b1, s3, s27, s28, s29, s64, s65, s66, wrapS (show k < 4611686018427387904 by omega)]
          refine nextR hk hkm ?_
          simp -implicitDefEqProofs only [↓aP, aQ, ↓reduceIte, Nat.reduceEqDiff, Nat.reduceAdd, Nat.reduceSub, Nat.reduceMul, Nat.reduceLT, Nat.reduceLeDiff, reduceCtorEq, Nat.reduceBEq, forall_const, implies_true, exists_const, ne_eq, Int.reduceAdd, Int.reduceSub, Int.reduceMul, Int.reduceBEq, Int.reduceEq, Int.reduceLT, Int.reduceLE, Int.reduceToNat, Int.reduceNeg, Int.reduceBNe, s1, g1, b1, s3, s27, s28, s29, s64, s65, s66]
          rw [take_snoc hk]
          intro c hcm
          rcases List.mem_append.1 hcm with h | h
          · exact hcs c h
          · rw [List.mem_singleton.1 h]; exact hcc
      · rintro m2 σ2 hklt ⟨hcs, s1, g1, b1, s3, s27, s28, s29, s64, s65, s66⟩
        rw [List.take_length] at hcs
        have hok : okAt x i = true := by rw [hg]; exact okL_iff.2 ⟨hD.1, hD.2.1, hD.2.2, List.all_eq_true.2 hcs⟩
        simp -implicitDefEqProofs only [↓aP, aQ, ↓reduceIte, Nat.reduceEqDiff, Nat.reduceAdd, Nat.reduceSub, Nat.reduceMul, Nat.reduceLT, Nat.reduceLeDiff, reduceCtorEq, Nat.reduceBEq, forall_const, implies_true, exists_const, ne_eq, Int.reduceAdd, Int.reduceSub, Int.reduceMul, Int.reduceBEq, Int.reduceEq, Int.reduceLT, Int.reduceLE, Int.reduceToNat, Int.reduceNeg, Int.reduceBNe, hklt, s1, g1, b1, s3, s27, s28, s29, s64, s65, s66, wrapS (show i < 4611686018427387904 by omega)]
        refine nextR hi him ?_
        simp -implicitDefEqProofs only [↓aP, aQ, ↓reduceIte, Nat.reduceEqDiff, Nat.reduceAdd, Nat.reduceSub, Nat.reduceMul, Nat.reduceLT, Nat.reduceLeDiff, reduceCtorEq, Nat.reduceBEq, forall_const, implies_true, exists_const, ne_eq, Int.reduceAdd, Int.reduceSub, Int.reduceMul, Int.reduceBEq, Int.reduceEq, Int.reduceLT, Int.reduceLE, Int.reduceToNat, Int.reduceNeg, Int.reduceBNe, s1, g1, b1, s3, s27, s28, s29, s64, s65, s66, encLs]
        first
          | refine ⟨?_, by rw [show x.g = true by assumption]⟩
          | refine ⟨?_, by rw [show x.g = false by assumption]⟩
        intro j hj
        rcases Nat.lt_or_eq_of_le (Nat.le_of_lt_succ hj) with h | h
        · exact ha j h
        · rw [h]; exact hok
  · rintro m σ hlt ⟨ha, s1, g1, b1, s3, s27, s28, s29⟩
    have hr := right_all hin ha
    simp -implicitDefEqProofs only [↓aP, aQ, ↓reduceIte, Nat.reduceEqDiff, Nat.reduceAdd, Nat.reduceSub, Nat.reduceMul, Nat.reduceLT, Nat.reduceLeDiff, reduceCtorEq, Nat.reduceBEq, forall_const, implies_true, exists_const, ne_eq, Int.reduceAdd, Int.reduceSub, Int.reduceMul, Int.reduceBEq, Int.reduceEq, Int.reduceLT, Int.reduceLE, Int.reduceToNat, Int.reduceNeg, Int.reduceBNe, hlt, s1, g1, b1, s3, s27, s28, s29, encLs, hr]
end Go.Proofs.Ytfmbfgoofiojcaa
namespace Go.Proofs.Ytfmbfgoofiojcaa
open Go.RowKit Lk
set_option linter.unusedVariables false
set_option linter.unusedSimpArgs false
def fresh (w : Int) : Ln := ⟨w, 0, []⟩
def okNew (ws : List Int) : Bool := decide (1 ≤ ws.length ∧ ws.length ≤ 6) && ws.all okW
def newI (ws : List Int) : Ls × Int := if okNew ws = true then (⟨ws.map fresh, 0, false⟩, 0) else (⟨[], 0, false⟩, 1)
def encR (x : Ls × Int) : TV SC := .tup [(true, encLs x.1), (false, [.pv (.int .i64 x.2)])]
theorem okNew_no {ws : List Int} (h : ¬ (1 ≤ ws.length ∧ ws.length ≤ 6 ∧ ∀ w ∈ ws, okW w = true)) : newI ws = (⟨[], 0, false⟩, 1) := by
  unfold newI
  rw [if_neg]
  intro h2
  unfold okNew at h2
  simp only [Bool.and_eq_true, decide_eq_true_eq, List.all_eq_true] at h2
  exact h ⟨h2.1.1, h2.1.2, h2.2⟩
theorem okNew_yes {ws : List Int} (h : 1 ≤ ws.length ∧ ws.length ≤ 6 ∧ ∀ w ∈ ws, okW w = true) : newI ws = (⟨ws.map fresh, 0, false⟩, 0) := by
  unfold newI
  rw [if_pos]
  unfold okNew
  simp only [Bool.and_eq_true, decide_eq_true_eq, List.all_eq_true]
  exact ⟨⟨h.1, h.2.1⟩, h.2.2⟩

theorem lNew_spec (ws : List Int) (hl : ws.length < 4611686018427387904) : Spec Try.prog 17 [rL 1 (ws.map encI)] (.val (encR (newI ws))) := by
  refine spec_val mixed fn17 (by simp) ?_
  unfold ac17
  simp -implicitDefEqProofs only [↓aP, aQ, ↓reduceIte, Nat.reduceEqDiff, Nat.reduceAdd, Nat.reduceSub, Nat.reduceMul, Nat.reduceLT, Nat.reduceLeDiff, reduceCtorEq, Nat.reduceBEq, forall_const, implies_true, exists_const, ne_eq, Int.reduceAdd, Int.reduceSub, Int.reduceMul, Int.reduceBEq, Int.reduceEq, Int.reduceLT, Int.reduceLE, Int.reduceToNat, Int.reduceNeg, Int.reduceBNe, encR]
  refine rangeB ws.length (fun i σ => (∀ w ∈ ws.take i, okW w = true) ∧ i ≤ 6 ∧ (∃ g, σ.slot 4 = .c (.own 7 g) ∧ σ.h.gen 7 = g ∧ σ.h.blk 7 = .row 56 3 (((ws.take i).map fresh).map encLn)) ∧ σ.slot 2 = .c (.ptr 2 1 0 0) ∧ σ.h.gen 2 = 1 ∧ σ.h.blk 2 = .box 25 3 [[.zc, .s (.pv (.int .i64 0)), .s (.pv (.bool false))]] ∧ σ.slot 8 = vL 1 (ws.map encI) ∧ σ.slot 9 = vI ws.length ∧ σ.slot 10 = vI i) ?_ ?_ ?_
  · simp -implicitDefEqProofs only [↓aP, aQ, ↓reduceIte, Nat.reduceEqDiff, Nat.reduceAdd, Nat.reduceSub, Nat.reduceMul, Nat.reduceLT, Nat.reduceLeDiff, reduceCtorEq, Nat.reduceBEq, forall_const, implies_true, exists_const, ne_eq, Int.reduceAdd, Int.reduceSub, Int.reduceMul, Int.reduceBEq, Int.reduceEq, Int.reduceLT, Int.reduceLE, Int.reduceToNat, Int.reduceNeg, Int.reduceBNe]
    simp
  · rintro i m σ him hi hlt ⟨hw, h6, ⟨g, s4, g7, b7⟩, s2, g2, b2, s8, s9, s10⟩
    have hlen : ((ws.take i).map fresh).length = i := by simp; omega
    have hne : i ≠ 6 → ((i : Int) == 6) = false := fun h => by simp; omega
    have hin : ws[i] ∈ ws := List.getElem_mem hi
    simp -implicitDefEqProofs only [↓aP, aQ, ↓reduceIte, Nat.reduceEqDiff, Nat.reduceAdd, Nat.reduceSub, Nat.reduceMul, Nat.reduceLT, Nat.reduceLeDiff, reduceCtorEq, Nat.reduceBEq, forall_const, implies_true, exists_const, ne_eq, Int.reduceAdd, Int.reduceSub, Int.reduceMul, Int.reduceBEq, Int.reduceEq, Int.reduceLT, Int.reduceLE, Int.reduceToNat, Int.reduceNeg, Int.reduceBNe, hlt, s2, g2, b2, s8, s9, s10, askIdx_map, hi, encI, s4, g7, b7, hlen, List.length_take]
    by_cases h66 : i = 6
    case pos =>
      have e : newI ws = (⟨[], 0, false⟩, 1) := okNew_no (fun h => by omega)
      rw [e]
      have d : ((i : Int) == 6) = true := by simp; omega
      simp -implicitDefEqProofs only [↓aP, aQ, ↓reduceIte, Nat.reduceEqDiff, Nat.reduceAdd, Nat.reduceSub, Nat.reduceMul, Nat.reduceLT, Nat.reduceLeDiff, reduceCtorEq, Nat.reduceBEq, forall_const, implies_true, exists_const, ne_eq, Int.reduceAdd, Int.reduceSub, Int.reduceMul, Int.reduceBEq, Int.reduceEq, Int.reduceLT, Int.reduceLE, Int.reduceToNat, Int.reduceNeg, Int.reduceBNe, d, encLs, s2, g2, b2, s8, s9, s10]
    simp -implicitDefEqProofs only [↓aP, aQ, ↓reduceIte, Nat.reduceEqDiff, Nat.reduceAdd, Nat.reduceSub, Nat.reduceMul, Nat.reduceLT, Nat.reduceLeDiff, reduceCtorEq, Nat.reduceBEq, forall_const, implies_true, exists_const, ne_eq, Int.reduceAdd, Int.reduceSub, Int.reduceMul, Int.reduceBEq, Int.reduceEq, Int.reduceLT, Int.reduceLE, Int.reduceToNat, Int.reduceNeg, Int.reduceBNe, hne h66, s2, g2, b2, s8, s9, s10]
    refine ask (isWeight_spec ws[i]) ?_
    cases hok : okW ws[i]
    · have e : newI ws = (⟨[], 0, false⟩, 1) := okNew_no (fun h => by simp [h.2.2 _ hin] at hok)
      rw [e]
      simp -implicitDefEqProofs only [↓aP, aQ, ↓reduceIte, Nat.reduceEqDiff, Nat.reduceAdd, Nat.reduceSub, Nat.reduceMul, Nat.reduceLT, Nat.reduceLeDiff, reduceCtorEq, Nat.reduceBEq, forall_const, implies_true, exists_const, ne_eq, Int.reduceAdd, Int.reduceSub, Int.reduceMul, Int.reduceBEq, Int.reduceEq, Int.reduceLT, Int.reduceLE, Int.reduceToNat, Int.reduceNeg, Int.reduceBNe, encLs, s2, g2, b2, s8, s9, s10]
    simp -implicitDefEqProofs only [↓aP, aQ, ↓reduceIte, Nat.reduceEqDiff, Nat.reduceAdd, Nat.reduceSub, Nat.reduceMul, Nat.reduceLT, Nat.reduceLeDiff, reduceCtorEq, Nat.reduceBEq, forall_const, implies_true, exists_const, ne_eq, Int.reduceAdd, Int.reduceSub, Int.reduceMul, Int.reduceBEq, Int.reduceEq, Int.reduceLT, Int.reduceLE, Int.reduceToNat, Int.reduceNeg, Int.reduceBNe, s4, g7, b7, s2, g2, b2, s8, s9, s10, hlen, List.length_append, wrapS (show i < 4611686018427387904 by omega)]
    refine ⟨by omega, by omega, ?_⟩
    refine nextR hi him ?_
    rw [take_snoc hi]
    simp -implicitDefEqProofs only [↓aP, aQ, ↓reduceIte, Nat.reduceEqDiff, Nat.reduceAdd, Nat.reduceSub, Nat.reduceMul, Nat.reduceLT, Nat.reduceLeDiff, reduceCtorEq, Nat.reduceBEq, forall_const, implies_true, exists_const, ne_eq, Int.reduceAdd, Int.reduceSub, Int.reduceMul, Int.reduceBEq, Int.reduceEq, Int.reduceLT, Int.reduceLE, Int.reduceToNat, Int.reduceNeg, Int.reduceBNe, s4, g7, b7, s2, g2, b2, s8, s9, s10]
    refine ⟨?_, by omega, g + 1, rfl, rfl, by rw [List.map_append, List.map_append]; rfl⟩
    intro w hw2
    rcases List.mem_append.1 hw2 with h | h
    · exact hw w h
    · rw [List.mem_singleton.1 h]; exact hok
  · rintro m σ hlt ⟨hw, h6, ⟨g, s4, g7, b7⟩, s2, g2, b2, s8, s9, s10⟩
    rw [List.take_length] at hw b7
    simp -implicitDefEqProofs only [↓aP, aQ, ↓reduceIte, Nat.reduceEqDiff, Nat.reduceAdd, Nat.reduceSub, Nat.reduceMul, Nat.reduceLT, Nat.reduceLeDiff, reduceCtorEq, Nat.reduceBEq, forall_const, implies_true, exists_const, ne_eq, Int.reduceAdd, Int.reduceSub, Int.reduceMul, Int.reduceBEq, Int.reduceEq, Int.reduceLT, Int.reduceLE, Int.reduceToNat, Int.reduceNeg, Int.reduceBNe, hlt, s2, g2, b2, s8, s9, s10, s4, g7, b7, List.length_map]
    by_cases h0 : ws.length = 0
    case pos =>
      have e : newI ws = (⟨[], 0, false⟩, 1) := okNew_no (fun h => by omega)
      rw [e]
      have d : ((ws.length : Int) == 0) = true := by rw [h0]; rfl
      simp -implicitDefEqProofs only [↓aP, aQ, ↓reduceIte, Nat.reduceEqDiff, Nat.reduceAdd, Nat.reduceSub, Nat.reduceMul, Nat.reduceLT, Nat.reduceLeDiff, reduceCtorEq, Nat.reduceBEq, forall_const, implies_true, exists_const, ne_eq, Int.reduceAdd, Int.reduceSub, Int.reduceMul, Int.reduceBEq, Int.reduceEq, Int.reduceLT, Int.reduceLE, Int.reduceToNat, Int.reduceNeg, Int.reduceBNe, d, encLs, s2, g2, b2, s8, s9, s10]
    have e : newI ws = (⟨ws.map fresh, 0, false⟩, 0) := okNew_yes ⟨by omega, h6, hw⟩
    have d : ((ws.length : Int) == 0) = false := by rw [beq_eq_false_iff_ne]; omega
    rw [e]
    simp -implicitDefEqProofs only [↓aP, aQ, ↓reduceIte, Nat.reduceEqDiff, Nat.reduceAdd, Nat.reduceSub, Nat.reduceMul, Nat.reduceLT, Nat.reduceLeDiff, reduceCtorEq, Nat.reduceBEq, forall_const, implies_true, exists_const, ne_eq, Int.reduceAdd, Int.reduceSub, Int.reduceMul, Int.reduceBEq, Int.reduceEq, Int.reduceLT, Int.reduceLE, Int.reduceToNat, Int.reduceNeg, Int.reduceBNe, d, encLs, s2, g2, b2, s8, s9, s10, s4, g7, b7]
theorem lright_len {x : Ls} (h : right x = true) : x.l.length ≤ 6 := by
  unfold right at h
  simp only [Bool.and_eq_true, decide_eq_true_eq] at h
  exact h.1.1
theorem right_get {x : Ls} (h : right x = true) {k : Nat} (hk : k < x.l.length) : okL (most x k) x.l[k] = true := by
  unfold right at h
  simp only [Bool.and_eq_true, decide_eq_true_eq, List.all_eq_true] at h
  rw [← okAt_get hk]
  exact h.2 k (by simpa using hk)
def pushI (x : Ls) (lane cost : Int) : Ls × Int :=
  if right x = false ∨ lane < 0 ∨ (x.l.length : Int) ≤ lane ∨ okC cost = false then (x, 1)
  else match x.l[lane.toNat]? with
    | some y => if y.cs.length = 200 then (x, 7) else (⟨x.l.set lane.toNat ⟨y.w, y.d, y.cs ++ [cost]⟩, x.at', x.g⟩, 0)
    | none => (x, 1)
theorem lPush_spec (x : Ls) (lane cost : Int) (hx : Small x) : Spec Try.prog 20 [.agg (encLs x), rI lane, rI cost] (.val (encR (pushI x lane cost))) := by
  refine spec_val mixed fn20 (by simp) ?_
  unfold ac20
  have hl := hx.1
  simp -implicitDefEqProofs only [↓aP, aQ, ↓reduceIte, Nat.reduceEqDiff, Nat.reduceAdd, Nat.reduceSub, Nat.reduceMul, Nat.reduceLT, Nat.reduceLeDiff, reduceCtorEq, Nat.reduceBEq, forall_const, implies_true, exists_const, ne_eq, Int.reduceAdd, Int.reduceSub, Int.reduceMul, Int.reduceBEq, Int.reduceEq, Int.reduceLT, Int.reduceLE, Int.reduceToNat, Int.reduceNeg, Int.reduceBNe, encR, encLs]
  refine ask (lRight_spec x hx) ?_
  simp -implicitDefEqProofs only [↓aP, aQ, ↓reduceIte, Nat.reduceEqDiff, Nat.reduceAdd, Nat.reduceSub, Nat.reduceMul, Nat.reduceLT, Nat.reduceLeDiff, reduceCtorEq, Nat.reduceBEq, forall_const, implies_true, exists_const, ne_eq, Int.reduceAdd, Int.reduceSub, Int.reduceMul, Int.reduceBEq, Int.reduceEq, Int.reduceLT, Int.reduceLE, Int.reduceToNat, Int.reduceNeg, Int.reduceBNe, encLs]
  have m1 : (right x = false ∨ lane < 0 ∨ (x.l.length : Int) ≤ lane ∨ okC cost = false) → pushI x lane cost = (x, 1) := fun h => if_pos h
  by_cases hb : right x = false ∨ lane < 0 ∨ (x.l.length : Int) ≤ lane ∨ okC cost = false
  · rw [m1 hb]
    repeat' ((first | ((first | with_reducible refine fork ?_ ?_ | with_reducible refine gcase ?_ ?_ | with_reducible refine gcaseD ?_ ?_) <;> intro hc <;> (have hp := hc) <;> (try simp only [aB] at hp)) | (have hc := True.intro; first | with_reducible refine askM (by omega) ?_ | with_reducible refine And.intro (by first | omega | decide +kernel) ?_ | refine ask (isCost_spec cost) ?_ | fail)) <;> (try simp -implicitDefEqProofs only [↓aP, aQ, ↓reduceIte, Nat.reduceEqDiff, Nat.reduceAdd, Nat.reduceSub, Nat.reduceMul, Nat.reduceLT, Nat.reduceLeDiff, reduceCtorEq, Nat.reduceBEq, forall_const, implies_true, exists_const, ne_eq, Int.reduceAdd, Int.reduceSub, Int.reduceMul, Int.reduceBEq, Int.reduceEq, Int.reduceLT, Int.reduceLE, Int.reduceToNat, Int.reduceNeg, Int.reduceBNe, hc, encR, encLs, encLn]))
    all_goals (exfalso; rcases hb with h | h | h | h <;> first | omega | (simp_all; done) | (simp_all; omega))
  have hr : right x = true := by
    cases h : right x
    · exact absurd (.inl h) hb
    · rfl
  have hok : okC cost = true := by
    cases h : okC cost
    · exact absurd (.inr (.inr (.inr h))) hb
    · rfl
  obtain ⟨k, rfl⟩ : ∃ k : Nat, lane = k := ⟨lane.toNat, by omega⟩
  have hk : k < x.l.length := by omega
  have d1 : decide ((k : Int) < 0) = false := by simp
  have d2 : decide ((x.l.length : Int) ≤ (k : Int)) = false := by simp; omega
  simp -implicitDefEqProofs only [↓aP, aQ, ↓reduceIte, Nat.reduceEqDiff, Nat.reduceAdd, Nat.reduceSub, Nat.reduceMul, Nat.reduceLT, Nat.reduceLeDiff, reduceCtorEq, Nat.reduceBEq, forall_const, implies_true, exists_const, ne_eq, Int.reduceAdd, Int.reduceSub, Int.reduceMul, Int.reduceBEq, Int.reduceEq, Int.reduceLT, Int.reduceLE, Int.reduceToNat, Int.reduceNeg, Int.reduceBNe, hr, d1, d2, encLs]
  refine ask (isCost_spec cost) ?_
  simp -implicitDefEqProofs only [↓aP, aQ, ↓reduceIte, Nat.reduceEqDiff, Nat.reduceAdd, Nat.reduceSub, Nat.reduceMul, Nat.reduceLT, Nat.reduceLeDiff, reduceCtorEq, Nat.reduceBEq, forall_const, implies_true, exists_const, ne_eq, Int.reduceAdd, Int.reduceSub, Int.reduceMul, Int.reduceBEq, Int.reduceEq, Int.reduceLT, Int.reduceLE, Int.reduceToNat, Int.reduceNeg, Int.reduceBNe, hok, askIdx_map, hk, encLn]
  obtain ⟨y, hy⟩ : ∃ y, x.l[k] = y := ⟨_, rfl⟩
  have hyl : y.cs.length < 4611686018427387904 := by rw [← hy]; exact hx.2 _ (List.getElem_mem hk)
  have hr6 := lright_len hr
  have h200 : y.cs.length ≤ 200 := by have := (okL_iff.1 (right_get hr hk)).2.2.1; rwa [hy] at this
  have m2 : y.cs.length = 200 → pushI x k cost = (x, 7) := fun h => by
    unfold pushI
    rw [if_neg hb]
    simp only [Int.toNat_natCast, List.getElem?_eq_getElem hk, hy]
    rw [if_pos h]
  have m3 : y.cs.length ≠ 200 → pushI x k cost = (⟨x.l.set k ⟨y.w, y.d, y.cs ++ [cost]⟩, x.at', x.g⟩, 0) := fun h => by
    unfold pushI
    rw [if_neg hb]
    simp only [Int.toNat_natCast, List.getElem?_eq_getElem hk, hy]
    rw [if_neg h]
  have hmap : ∀ z, (x.l.set k z).map encLn = (x.l.map encLn).set k (encLn z) := fun z => List.map_set
  rw [hy]
  by_cases h2 : y.cs.length = 200
  case pos =>
    have d : ((y.cs.length : Int) == 200) = true := by rw [h2]; rfl
    simp -implicitDefEqProofs only [↓aP, aQ, ↓reduceIte, Nat.reduceEqDiff, Nat.reduceAdd, Nat.reduceSub, Nat.reduceMul, Nat.reduceLT, Nat.reduceLeDiff, reduceCtorEq, Nat.reduceBEq, forall_const, implies_true, exists_const, ne_eq, Int.reduceAdd, Int.reduceSub, Int.reduceMul, Int.reduceBEq, Int.reduceEq, Int.reduceLT, Int.reduceLE, Int.reduceToNat, Int.reduceNeg, Int.reduceBNe, d, m2 h2]
  have d : ((y.cs.length : Int) == 200) = false := by rw [beq_eq_false_iff_ne]; omega
  simp -implicitDefEqProofs only [↓aP, aQ, ↓reduceIte, Nat.reduceEqDiff, Nat.reduceAdd, Nat.reduceSub, Nat.reduceMul, Nat.reduceLT, Nat.reduceLeDiff, reduceCtorEq, Nat.reduceBEq, forall_const, implies_true, exists_const, ne_eq, Int.reduceAdd, Int.reduceSub, Int.reduceMul, Int.reduceBEq, Int.reduceEq, Int.reduceLT, Int.reduceLE, Int.reduceToNat, Int.reduceNeg, Int.reduceBNe, d, m3 h2, hmap]
  refine ask (cloneLn _ (by simp; omega)) ?_
  simp -implicitDefEqProofs only [↓aP, aQ, ↓reduceIte, Nat.reduceEqDiff, Nat.reduceAdd, Nat.reduceSub, Nat.reduceMul, Nat.reduceLT, Nat.reduceLeDiff, reduceCtorEq, Nat.reduceBEq, forall_const, implies_true, exists_const, ne_eq, Int.reduceAdd, Int.reduceSub, Int.reduceMul, Int.reduceBEq, Int.reduceEq, Int.reduceLT, Int.reduceLE, Int.reduceToNat, Int.reduceNeg, Int.reduceBNe, m3 h2]
  refine ask (cloneIn _ (by simp; omega)) ?_
  simp -implicitDefEqProofs only [↓aP, aQ, ↓reduceIte, Nat.reduceEqDiff, Nat.reduceAdd, Nat.reduceSub, Nat.reduceMul, Nat.reduceLT, Nat.reduceLeDiff, reduceCtorEq, Nat.reduceBEq, forall_const, implies_true, exists_const, ne_eq, Int.reduceAdd, Int.reduceSub, Int.reduceMul, Int.reduceBEq, Int.reduceEq, Int.reduceLT, Int.reduceLE, Int.reduceToNat, Int.reduceNeg, Int.reduceBNe, m3 h2, hk, askIdx_map, askIdx_set]
  refine ⟨by omega, by omega, by decide +kernel, ?_⟩
  rw [hy]
  simp only [encLn, encI, List.map_append, List.map_cons, List.map_nil, List.take_succ_cons, List.take_zero, List.drop_succ_cons, List.drop_zero, List.cons_append, List.nil_append]
  exact .refl _
end Go.Proofs.Ytfmbfgoofiojcaa
