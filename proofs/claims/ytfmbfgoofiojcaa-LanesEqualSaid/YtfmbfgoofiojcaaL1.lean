/- layer 5: the values; the contracts: isWeight, isCost, waits, take, Right. -/
import Derived.Test.YtfmbfgoofiojcaaCodeA
import Derived.Test.YtfmbfgoofiojcaaAm22
import Derived.Test.YtfmbfgoofiojcaaDelKit
import Derived.Lib.Hide
import Derived.Shelf.RegionOpenPlain
import Derived.WalkKit
import Derived.ProofKit
namespace Go.Proofs.Ytfmbfgoofiojcaa
open Go.RowKit
set_option linter.unusedVariables false
set_option linter.unusedSimpArgs false
theorem mixed : Try.prog.follows .mixedOrders = true := by kernel_rfl
theorem askIdx_set {α : Type} {i : Nat} {l : List α} {x : α} {K : α → Prop} (h : i < l.length) : AskIdx i (l.set i x) K = K x := by
  apply propext
  constructor
  · rintro ⟨h1, h2⟩
    simpa using h2
  · intro h1
    exact ⟨by simpa using h, by simpa using h1⟩
structure Ln where
  w : Int
  d : Int
  cs : List Int
deriving DecidableEq, Inhabited
structure Ls where
  l : List Ln
  at' : Int
  g : Bool
deriving DecidableEq, Inhabited
def encI (s : Int) : List SC := [.pv (.int .i64 s)]
def encLn (x : Ln) : List SC := [.pv (.int .i64 x.w), .pv (.int .i64 x.d), .sl 1 (x.cs.map encI)]
def encLs (x : Ls) : List SC := [.sl 3 (x.l.map encLn), .pv (.int .i64 x.at'), .pv (.bool x.g)]
namespace Lk
def okW (n : Int) : Bool := decide (1 ≤ n ∧ n ≤ 8)
def okC (n : Int) : Bool := decide (1 ≤ n ∧ n ≤ 8)
def okL (most : Int) (x : Ln) : Bool := okW x.w && decide (0 ≤ x.d ∧ x.d ≤ most) && decide (x.cs.length ≤ 200) && x.cs.all okC
def most (x : Ls) (i : Int) : Int := if x.g = true ∧ i = x.at' then 39 else 7
def okAt (x : Ls) (i : Nat) : Bool := match x.l[i]? with
  | some y => okL (most x i) y
  | none => true
def right (x : Ls) : Bool := decide (x.l.length ≤ 6 ∧ 0 ≤ x.at' ∧ x.at' < x.l.length) && (List.range x.l.length).all (okAt x)
/-- short enough to be gone through -/
def Small (x : Ls) : Prop := x.l.length < 4611686018427387904 ∧ ∀ y ∈ x.l, y.cs.length < 4611686018427387904
theorem right_bad {x : Ls} {i : Nat} (hi : i < x.l.length) (h : okAt x i = false) : right x = false := by
  unfold right
  rw [Bool.and_eq_false_iff]
  right
  rw [List.all_eq_false]
  exact ⟨i, by simpa using hi, by simp [h]⟩
theorem right_all {x : Ls} (h : x.l.length ≤ 6 ∧ 0 ≤ x.at' ∧ x.at' < x.l.length) (ha : ∀ k < x.l.length, okAt x k = true) : right x = true := by
  unfold right
  rw [Bool.and_eq_true, decide_eq_true_eq, List.all_eq_true]
  exact ⟨h, fun k hk => ha k (by simpa using hk)⟩
theorem right_out {x : Ls} (h : ¬ (x.l.length ≤ 6 ∧ 0 ≤ x.at' ∧ x.at' < x.l.length)) : right x = false := by
  unfold right
  rw [Bool.and_eq_false_iff]
  left
  simpa using h
theorem okAt_get {x : Ls} {i : Nat} (h : i < x.l.length) : okAt x i = okL (most x i) x.l[i] := by
  unfold okAt; rw [List.getElem?_eq_getElem h]
def waits (x : Ls) : Bool := x.l.any fun y => decide (0 < y.cs.length)
end Lk
open Lk
theorem cloneLn (l : List (List SC)) (hl : l.length * 40 ≤ 2 ^ 47) : Spec Try.prog 42 [.c (.sl 3 l)] (.row 56 3 l) := by
  refine Spec.tag ?_ ?_
  · intro h
    subst h
    refine spec_row mixed fn42 (by simp) ?_
    unfold ac42
    simp -implicitDefEqProofs only [↓aP, aQ, ↓reduceIte, Nat.reduceEqDiff, Nat.reduceAdd, Nat.reduceSub, Nat.reduceMul, Nat.reduceLT, Nat.reduceLeDiff, reduceCtorEq, Nat.reduceBEq, forall_const, implies_true, exists_const, ne_eq, Int.reduceAdd, Int.reduceSub, Int.reduceMul, Int.reduceBEq, Int.reduceEq, Int.reduceLT, Int.reduceLE, Int.reduceToNat, Int.reduceNeg, Int.reduceBNe]
  · refine spec_row mixed fn42 (by simp) ?_
    unfold ac42
    simp -implicitDefEqProofs only [↓aP, aQ, ↓reduceIte, Nat.reduceEqDiff, Nat.reduceAdd, Nat.reduceSub, Nat.reduceMul, Nat.reduceLT, Nat.reduceLeDiff, reduceCtorEq, Nat.reduceBEq, forall_const, implies_true, exists_const, ne_eq, Int.reduceAdd, Int.reduceSub, Int.reduceMul, Int.reduceBEq, Int.reduceEq, Int.reduceLT, Int.reduceLE, Int.reduceToNat, Int.reduceNeg, Int.reduceBNe]
    refine ⟨?_, ?_⟩ <;> omega

theorem cloneIn (l : List (List SC)) (hl : l.length * 8 ≤ 2 ^ 47) : Spec Try.prog 43 [.c (.sl 1 l)] (.row 3 1 l) := by
  refine Spec.tag ?_ ?_
  · intro h
    subst h
    refine spec_row mixed fn43 (by simp) ?_
    unfold ac43
    simp -implicitDefEqProofs only [↓aP, aQ, ↓reduceIte, Nat.reduceEqDiff, Nat.reduceAdd, Nat.reduceSub, Nat.reduceMul, Nat.reduceLT, Nat.reduceLeDiff, reduceCtorEq, Nat.reduceBEq, forall_const, implies_true, exists_const, ne_eq, Int.reduceAdd, Int.reduceSub, Int.reduceMul, Int.reduceBEq, Int.reduceEq, Int.reduceLT, Int.reduceLE, Int.reduceToNat, Int.reduceNeg, Int.reduceBNe]
  · refine spec_row mixed fn43 (by simp) ?_
    unfold ac43
    simp -implicitDefEqProofs only [↓aP, aQ, ↓reduceIte, Nat.reduceEqDiff, Nat.reduceAdd, Nat.reduceSub, Nat.reduceMul, Nat.reduceLT, Nat.reduceLeDiff, reduceCtorEq, Nat.reduceBEq, forall_const, implies_true, exists_const, ne_eq, Int.reduceAdd, Int.reduceSub, Int.reduceMul, Int.reduceBEq, Int.reduceEq, Int.reduceLT, Int.reduceLE, Int.reduceToNat, Int.reduceNeg, Int.reduceBNe]
    refine ⟨?_, ?_⟩ <;> omega

theorem isWeight_spec (n : Int) : Spec Try.prog 40 [rI n] (.val (rB (okW n))) := by
  refine spec_val mixed fn40 (by simp) ?_
  unfold ac40
  simp -implicitDefEqProofs only [↓aP, aQ, ↓reduceIte, Nat.reduceEqDiff, Nat.reduceAdd, Nat.reduceSub, Nat.reduceMul, Nat.reduceLT, Nat.reduceLeDiff, reduceCtorEq, Nat.reduceBEq, forall_const, implies_true, exists_const, ne_eq, Int.reduceAdd, Int.reduceSub, Int.reduceMul, Int.reduceBEq, Int.reduceEq, Int.reduceLT, Int.reduceLE, Int.reduceToNat, Int.reduceNeg, Int.reduceBNe]
  repeat' ((first | ((first | with_reducible refine fork ?_ ?_ | with_reducible refine gcase ?_ ?_ | with_reducible refine gcaseD ?_ ?_) <;> intro hc <;> (have hp := hc) <;> (try simp only [aB] at hp)) | (have hc := True.intro; first | with_reducible refine askM (by omega) ?_ | with_reducible refine And.intro (by first | omega | decide +kernel) ?_ | fail)) <;> (try simp -implicitDefEqProofs only [↓aP, aQ, ↓reduceIte, Nat.reduceEqDiff, Nat.reduceAdd, Nat.reduceSub, Nat.reduceMul, Nat.reduceLT, Nat.reduceLeDiff, reduceCtorEq, Nat.reduceBEq, forall_const, implies_true, exists_const, ne_eq, Int.reduceAdd, Int.reduceSub, Int.reduceMul, Int.reduceBEq, Int.reduceEq, Int.reduceLT, Int.reduceLE, Int.reduceToNat, Int.reduceNeg, Int.reduceBNe, hc]))
  all_goals (unfold okW; first | (rw [eq_comm, decide_eq_decide]; omega) | (symm; simp only [decide_eq_true_eq, decide_eq_false_iff_not]; omega))
theorem isCost_spec (n : Int) : Spec Try.prog 41 [rI n] (.val (rB (okC n))) := by
  refine spec_val mixed fn41 (by simp) ?_
  unfold ac41
  simp -implicitDefEqProofs only [↓aP, aQ, ↓reduceIte, Nat.reduceEqDiff, Nat.reduceAdd, Nat.reduceSub, Nat.reduceMul, Nat.reduceLT, Nat.reduceLeDiff, reduceCtorEq, Nat.reduceBEq, forall_const, implies_true, exists_const, ne_eq, Int.reduceAdd, Int.reduceSub, Int.reduceMul, Int.reduceBEq, Int.reduceEq, Int.reduceLT, Int.reduceLE, Int.reduceToNat, Int.reduceNeg, Int.reduceBNe]
  repeat' ((first | ((first | with_reducible refine fork ?_ ?_ | with_reducible refine gcase ?_ ?_ | with_reducible refine gcaseD ?_ ?_) <;> intro hc <;> (have hp := hc) <;> (try simp only [aB] at hp)) | (have hc := True.intro; first | with_reducible refine askM (by omega) ?_ | with_reducible refine And.intro (by first | omega | decide +kernel) ?_ | fail)) <;> (try simp -implicitDefEqProofs only [↓aP, aQ, ↓reduceIte, Nat.reduceEqDiff, Nat.reduceAdd, Nat.reduceSub, Nat.reduceMul, Nat.reduceLT, Nat.reduceLeDiff, reduceCtorEq, Nat.reduceBEq, forall_const, implies_true, exists_const, ne_eq, Int.reduceAdd, Int.reduceSub, Int.reduceMul, Int.reduceBEq, Int.reduceEq, Int.reduceLT, Int.reduceLE, Int.reduceToNat, Int.reduceNeg, Int.reduceBNe, hc]))
  all_goals (unfold okC; first | (rw [eq_comm, decide_eq_decide]; omega) | (symm; simp only [decide_eq_true_eq, decide_eq_false_iff_not]; omega))
/-- the first one of which it is so; -1: there is none -/
def fst? {α : Type} (p : α → Bool) (l : List α) : Int := match l.findIdx? p with
  | some i => i
  | none => -1
theorem fst_none {α : Type} {p : α → Bool} {l : List α} (h : ∀ x ∈ l, p x = false) : fst? p l = -1 := by
  unfold fst?
  rw [List.findIdx?_eq_none_iff.2 (fun x hx => by simpa using h x hx)]
theorem fst_at {α : Type} {p : α → Bool} {l : List α} {k : Nat} (hk : k < l.length) (h : p l[k] = true) (hno : ∀ x ∈ l.take k, p x = false) : fst? p l = k := by
  unfold fst?
  rw [show l.findIdx? p = some k by
    rw [List.findIdx?_eq_some_iff_getElem]
    exact ⟨hk, h, fun j hj => by simpa using hno _ (List.mem_take_iff_getElem.2 ⟨j, by omega, rfl⟩)⟩]
theorem idxLn_spec (l : List Ln) (p : Ln → Bool) (g : Nat) (caps : List SC) (hg : callable Try.prog g = true) (hp : ∀ x, Spec Try.prog g (.agg (encLn x) :: caps.map TV.c) (.val (rB (p x)))) (hl : l.length < 4611686018427387904) :
    Spec Try.prog 94 [rL 3 (l.map encLn), .c (.fn g caps)] (.val (rI (fst? p l))) := by
  refine spec_val mixed fn94 (by simp) ?_
  unfold ac94
  simp -implicitDefEqProofs only [↓aP, aQ, ↓reduceIte, Nat.reduceEqDiff, Nat.reduceAdd, Nat.reduceSub, Nat.reduceMul, Nat.reduceLT, Nat.reduceLeDiff, reduceCtorEq, Nat.reduceBEq, forall_const, implies_true, exists_const, ne_eq, Int.reduceAdd, Int.reduceSub, Int.reduceMul, Int.reduceBEq, Int.reduceEq, Int.reduceLT, Int.reduceLE, Int.reduceToNat, Int.reduceNeg, Int.reduceBNe]
  refine rangeB l.length (fun i σ => (∀ x ∈ l.take i, p x = false) ∧ σ.slot 0 = vL 3 (l.map encLn) ∧ σ.slot 1 = .c (.s (.fn g caps)) ∧ σ.slot 7 = vI l.length ∧ σ.slot 8 = vI i) ?_ ?_ ?_
  · simp -implicitDefEqProofs only [↓aP, aQ, ↓reduceIte, Nat.reduceEqDiff, Nat.reduceAdd, Nat.reduceSub, Nat.reduceMul, Nat.reduceLT, Nat.reduceLeDiff, reduceCtorEq, Nat.reduceBEq, forall_const, implies_true, exists_const, ne_eq, Int.reduceAdd, Int.reduceSub, Int.reduceMul, Int.reduceBEq, Int.reduceEq, Int.reduceLT, Int.reduceLE, Int.reduceToNat, Int.reduceNeg, Int.reduceBNe]
    simp
  · rintro i m σ him hi hlt ⟨hno, s0, s1, s7, s8⟩
    simp -implicitDefEqProofs only [↓aP, aQ, ↓reduceIte, Nat.reduceEqDiff, Nat.reduceAdd, Nat.reduceSub, Nat.reduceMul, Nat.reduceLT, Nat.reduceLeDiff, reduceCtorEq, Nat.reduceBEq, forall_const, implies_true, exists_const, ne_eq, Int.reduceAdd, Int.reduceSub, Int.reduceMul, Int.reduceBEq, Int.reduceEq, Int.reduceLT, Int.reduceLE, Int.reduceToNat, Int.reduceNeg, Int.reduceBNe, hlt, s0, s1, s7, s8, askIdx_map, hi, hg, encLn]
    refine askV (hp l[i]) ?_
    simp -implicitDefEqProofs only [↓aP, aQ, ↓reduceIte, Nat.reduceEqDiff, Nat.reduceAdd, Nat.reduceSub, Nat.reduceMul, Nat.reduceLT, Nat.reduceLeDiff, reduceCtorEq, Nat.reduceBEq, forall_const, implies_true, exists_const, ne_eq, Int.reduceAdd, Int.reduceSub, Int.reduceMul, Int.reduceBEq, Int.reduceEq, Int.reduceLT, Int.reduceLE, Int.reduceToNat, Int.reduceNeg, Int.reduceBNe]
    refine fork ?_ ?_ <;> intro hc
    · simp -implicitDefEqProofs only [↓aP, aQ, ↓reduceIte, Nat.reduceEqDiff, Nat.reduceAdd, Nat.reduceSub, Nat.reduceMul, Nat.reduceLT, Nat.reduceLeDiff, reduceCtorEq, Nat.reduceBEq, forall_const, implies_true, exists_const, ne_eq, Int.reduceAdd, Int.reduceSub, Int.reduceMul, Int.reduceBEq, Int.reduceEq, Int.reduceLT, Int.reduceLE, Int.reduceToNat, Int.reduceNeg, Int.reduceBNe, fst_at hi hc hno]
    · simp -implicitDefEqProofs only [↓aP, aQ, ↓reduceIte, Nat.reduceEqDiff, Nat.reduceAdd, Nat.reduceSub, Nat.reduceMul, Nat.reduceLT, Nat.reduceLeDiff, reduceCtorEq, Nat.reduceBEq, forall_const, implies_true, exists_const, ne_eq, Int.reduceAdd, Int.reduceSub, Int.reduceMul, Int.reduceBEq, Int.reduceEq, Int.reduceLT, Int.reduceLE, Int.reduceToNat, Int.reduceNeg, Int.reduceBNe, s0, s1, s7, s8, wrapS (show i < 4611686018427387904 by omega)]
      refine nextR hi him ?_
      simp -implicitDefEqProofs only [↓aP, aQ, ↓reduceIte, Nat.reduceEqDiff, Nat.reduceAdd, Nat.reduceSub, Nat.reduceMul, Nat.reduceLT, Nat.reduceLeDiff, reduceCtorEq, Nat.reduceBEq, forall_const, implies_true, exists_const, ne_eq, Int.reduceAdd, Int.reduceSub, Int.reduceMul, Int.reduceBEq, Int.reduceEq, Int.reduceLT, Int.reduceLE, Int.reduceToNat, Int.reduceNeg, Int.reduceBNe, s0, s1, s7, s8]
      rw [take_snoc hi]
      intro x hx
      rcases List.mem_append.1 hx with h | h
      · exact hno x h
      · rw [List.mem_singleton.1 h]; exact hc
  · rintro m σ hlt ⟨hno, s0, s1, s7, s8⟩
    rw [List.take_length] at hno
    simp -implicitDefEqProofs only [↓aP, aQ, ↓reduceIte, Nat.reduceEqDiff, Nat.reduceAdd, Nat.reduceSub, Nat.reduceMul, Nat.reduceLT, Nat.reduceLeDiff, reduceCtorEq, Nat.reduceBEq, forall_const, implies_true, exists_const, ne_eq, Int.reduceAdd, Int.reduceSub, Int.reduceMul, Int.reduceBEq, Int.reduceEq, Int.reduceLT, Int.reduceLE, Int.reduceToNat, Int.reduceNeg, Int.reduceBNe, hlt, s0, s1, s7, s8, fst_none hno]

theorem waits1_spec (x : Ln) : Spec Try.prog 75 [.agg (encLn x)] (.val (rB (decide (0 < x.cs.length)))) := by
  refine spec_val mixed fn75 (by simp) ?_
  unfold ac75
  simp -implicitDefEqProofs only [↓aP, aQ, ↓reduceIte, Nat.reduceEqDiff, Nat.reduceAdd, Nat.reduceSub, Nat.reduceMul, Nat.reduceLT, Nat.reduceLeDiff, reduceCtorEq, Nat.reduceBEq, forall_const, implies_true, exists_const, ne_eq, Int.reduceAdd, Int.reduceSub, Int.reduceMul, Int.reduceBEq, Int.reduceEq, Int.reduceLT, Int.reduceLE, Int.reduceToNat, Int.reduceNeg, Int.reduceBNe, encLn]
  simp
theorem any_fst {l : List Ln} {p : Ln → Bool} : decide (0 ≤ fst? p l) = l.any p := by
  cases h : l.findIdx? p with
  | none =>
    have h1 := List.findIdx?_eq_none_iff.1 h
    have h2 : fst? p l = -1 := by unfold fst?; rw [h]
    rw [h2]
    symm
    simpa using h1
  | some k =>
    obtain ⟨hk, h1, _⟩ := List.findIdx?_eq_some_iff_getElem.1 h
    have h2 : fst? p l = k := by unfold fst?; rw [h]
    rw [h2]
    symm
    rw [show l.any p = true from List.any_eq_true.2 ⟨_, List.getElem_mem hk, h1⟩]
    simp
theorem cont_spec (l : List Ln) (hl : l.length < 4611686018427387904) : Spec Try.prog 74 [rL 3 (l.map encLn), .c (.fn 75 [])] (.val (rB (l.any fun y => decide (0 < y.cs.length)))) := by
  refine spec_val mixed fn74 (by simp) ?_
  unfold ac74
  simp -implicitDefEqProofs only [↓aP, aQ, ↓reduceIte, Nat.reduceEqDiff, Nat.reduceAdd, Nat.reduceSub, Nat.reduceMul, Nat.reduceLT, Nat.reduceLeDiff, reduceCtorEq, Nat.reduceBEq, forall_const, implies_true, exists_const, ne_eq, Int.reduceAdd, Int.reduceSub, Int.reduceMul, Int.reduceBEq, Int.reduceEq, Int.reduceLT, Int.reduceLE, Int.reduceToNat, Int.reduceNeg, Int.reduceBNe]
  refine ask (idxLn_spec l (fun x => decide (0 < x.cs.length)) 75 [] (by kernel_rfl) (fun x => waits1_spec x) hl) ?_
  simp -implicitDefEqProofs only [↓aP, aQ, ↓reduceIte, Nat.reduceEqDiff, Nat.reduceAdd, Nat.reduceSub, Nat.reduceMul, Nat.reduceLT, Nat.reduceLeDiff, reduceCtorEq, Nat.reduceBEq, forall_const, implies_true, exists_const, ne_eq, Int.reduceAdd, Int.reduceSub, Int.reduceMul, Int.reduceBEq, Int.reduceEq, Int.reduceLT, Int.reduceLE, Int.reduceToNat, Int.reduceNeg, Int.reduceBNe]
  exact any_fst
theorem waits_spec (x : Ls) (hl : x.l.length < 4611686018427387904) : Spec Try.prog 44 [.agg (encLs x)] (.val (rB (waits x))) := by
  refine spec_val mixed fn44 (by simp) ?_
  unfold ac44
  simp -implicitDefEqProofs only [↓aP, aQ, ↓reduceIte, Nat.reduceEqDiff, Nat.reduceAdd, Nat.reduceSub, Nat.reduceMul, Nat.reduceLT, Nat.reduceLeDiff, reduceCtorEq, Nat.reduceBEq, forall_const, implies_true, exists_const, ne_eq, Int.reduceAdd, Int.reduceSub, Int.reduceMul, Int.reduceBEq, Int.reduceEq, Int.reduceLT, Int.reduceLE, Int.reduceToNat, Int.reduceNeg, Int.reduceBNe, encLs]
  refine ask (cont_spec x.l hl) ?_
  simp -implicitDefEqProofs only [↓aP, aQ, ↓reduceIte, Nat.reduceEqDiff, Nat.reduceAdd, Nat.reduceSub, Nat.reduceMul, Nat.reduceLT, Nat.reduceLeDiff, reduceCtorEq, Nat.reduceBEq, forall_const, implies_true, exists_const, ne_eq, Int.reduceAdd, Int.reduceSub, Int.reduceMul, Int.reduceBEq, Int.reduceEq, Int.reduceLT, Int.reduceLE, Int.reduceToNat, Int.reduceNeg, Int.reduceBNe]
  rfl
/-- the first cost is taken off -/
def takeL (x : Ln) : Ln := ⟨x.w, if x.cs.length = 1 then 0 else x.d - x.cs.headD 0, x.cs.tail⟩
theorem take_spec (l : List Ln) (k : Nat) (hk : k < l.length) (h0 : 0 < l[k].cs.length) (hs : l[k].cs.length ≤ 200) (hd : -1000 ≤ l[k].d ∧ l[k].d ≤ 1000) (hcc : okC (l[k].cs.headD 0) = true) :
    SpecX Try.prog 45 ⟨true, 56, 3, l.map encLn, some (k, 0), (l.set k (takeL l[k])).map encLn, some (rI (l[k].cs.headD 0))⟩ [] := by
  obtain ⟨c, cs, hcs⟩ : ∃ c cs, l[k].cs = c :: cs := by
    cases h : l[k].cs with
    | nil => rw [h] at h0; simp at h0
    | cons c cs => exact ⟨c, cs, rfl⟩
  have hmap : ∀ y, (l.set k y).map encLn = (l.map encLn).set k (encLn y) := fun y => List.map_set
  refine spec_x mixed fn45 999 (p := (k, 0)) (r := rI (l[k].cs.headD 0)) rfl (by simp) rfl (by simp) (by simp) ?_
  unfold ac45
  have hlen : cs.length ≤ 199 := by rw [hcs] at hs; simpa using hs
  have hc2 : 1 ≤ c ∧ c ≤ 8 := by simpa [hcs, okC] using hcc
  have e1 : IntKind.i64.wrap (l[k].d - c) = l[k].d - c := wrapI (by omega)
  rw [hmap]
  have ht : takeL l[k] = ⟨l[k].w, if cs = [] then 0 else l[k].d - c, cs⟩ := by
    unfold takeL
    rw [hcs]
    simp
  rw [ht]
  simp -implicitDefEqProofs only [↓aP, aQ, ↓reduceIte, Nat.reduceEqDiff, Nat.reduceAdd, Nat.reduceSub, Nat.reduceMul, Nat.reduceLT, Nat.reduceLeDiff, reduceCtorEq, Nat.reduceBEq, forall_const, implies_true, exists_const, ne_eq, Int.reduceAdd, Int.reduceSub, Int.reduceMul, Int.reduceBEq, Int.reduceEq, Int.reduceLT, Int.reduceLE, Int.reduceToNat, Int.reduceNeg, Int.reduceBNe, initX_slot, initX_gen, initX_blk, XR.lb0, XR.at0, finX, boxC, lbX, askIdx_map, hk, encLn, encI, hcs, e1]
  rw [show List.take cs.length (cs.map encI) = cs.map encI from List.take_of_length_le (by simp)]
  refine ⟨by omega, ?_⟩
  refine ask (cloneIn _ (by simp; omega)) ?_
  simp -implicitDefEqProofs only [↓aP, aQ, ↓reduceIte, Nat.reduceEqDiff, Nat.reduceAdd, Nat.reduceSub, Nat.reduceMul, Nat.reduceLT, Nat.reduceLeDiff, reduceCtorEq, Nat.reduceBEq, forall_const, implies_true, exists_const, ne_eq, Int.reduceAdd, Int.reduceSub, Int.reduceMul, Int.reduceBEq, Int.reduceEq, Int.reduceLT, Int.reduceLE, Int.reduceToNat, Int.reduceNeg, Int.reduceBNe, initX_slot, initX_gen, initX_blk, XR.lb0, XR.at0, finX, boxC, lbX, askIdx_map, askIdx_set, List.set_set, hk, encLn, encI, hcs, e1]
  cases cs with
  | nil =>
    simp -implicitDefEqProofs only [↓aP, aQ, ↓reduceIte, Nat.reduceEqDiff, Nat.reduceAdd, Nat.reduceSub, Nat.reduceMul, Nat.reduceLT, Nat.reduceLeDiff, reduceCtorEq, Nat.reduceBEq, forall_const, implies_true, exists_const, ne_eq, Int.reduceAdd, Int.reduceSub, Int.reduceMul, Int.reduceBEq, Int.reduceEq, Int.reduceLT, Int.reduceLE, Int.reduceToNat, Int.reduceNeg, Int.reduceBNe, initX_slot, initX_gen, initX_blk, XR.lb0, XR.at0, finX, boxC, lbX, askIdx_map, askIdx_set, List.set_set, hk, encLn, encI, hcs, e1]
    simp -implicitDefEqProofs only [↓aP, aQ, ↓reduceIte, Nat.reduceEqDiff, Nat.reduceAdd, Nat.reduceSub, Nat.reduceMul, Nat.reduceLT, Nat.reduceLeDiff, reduceCtorEq, Nat.reduceBEq, forall_const, implies_true, exists_const, ne_eq, Int.reduceAdd, Int.reduceSub, Int.reduceMul, Int.reduceBEq, Int.reduceEq, Int.reduceLT, Int.reduceLE, Int.reduceToNat, Int.reduceNeg, Int.reduceBNe, initX_slot, initX_gen, initX_blk, XR.lb0, XR.at0, finX, boxC, lbX, askIdx_map, askIdx_set, List.set_set, hk, encLn, encI, hcs, e1, List.headD_cons]
  | cons b cs =>
    simp -implicitDefEqProofs only [↓aP, aQ, ↓reduceIte, Nat.reduceEqDiff, Nat.reduceAdd, Nat.reduceSub, Nat.reduceMul, Nat.reduceLT, Nat.reduceLeDiff, reduceCtorEq, Nat.reduceBEq, forall_const, implies_true, exists_const, ne_eq, Int.reduceAdd, Int.reduceSub, Int.reduceMul, Int.reduceBEq, Int.reduceEq, Int.reduceLT, Int.reduceLE, Int.reduceToNat, Int.reduceNeg, Int.reduceBNe, initX_slot, initX_gen, initX_blk, XR.lb0, XR.at0, finX, boxC, lbX, askIdx_map, askIdx_set, List.set_set, hk, encLn, encI, hcs, e1]
    refine fork ?_ ?_ <;> intro hz
    · exact absurd hz (by simp; omega)
    · simp -implicitDefEqProofs only [↓aP, aQ, ↓reduceIte, Nat.reduceEqDiff, Nat.reduceAdd, Nat.reduceSub, Nat.reduceMul, Nat.reduceLT, Nat.reduceLeDiff, reduceCtorEq, Nat.reduceBEq, forall_const, implies_true, exists_const, ne_eq, Int.reduceAdd, Int.reduceSub, Int.reduceMul, Int.reduceBEq, Int.reduceEq, Int.reduceLT, Int.reduceLE, Int.reduceToNat, Int.reduceNeg, Int.reduceBNe, initX_slot, initX_gen, initX_blk, XR.lb0, XR.at0, finX, boxC, lbX, askIdx_map, askIdx_set, List.set_set, hk, encLn, encI, hcs, e1, List.headD_cons]
end Go.Proofs.Ytfmbfgoofiojcaa
