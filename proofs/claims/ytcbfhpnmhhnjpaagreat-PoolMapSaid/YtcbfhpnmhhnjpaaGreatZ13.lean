import Derived.Test.YtcbfhpnmhhnjpaaGreatZ12
import Derived.Shelf.Strings.Builder1
import Derived.Shelf.Strings.Builder2
import Derived.Shelf.Small.Bits
import Derived.Shelf.Small.Wraps
import Derived.Shelf.Strings.BuilderF
import Derived.Shelf.Strings.BuilderK
import Derived.Shelf.Strings.Builder2Cap
import Derived.Shelf.Strconv.Itoa0
import Derived.Shelf.Sort.Plain
import Derived.Shelf.Strings.Prefix
import Derived.Shelf.Bits.Mul64
import Derived.Shelf.Strings.Repeat
import Derived.Shelf.Strings.BuilderCap
import Derived.Ground.Names2Prog
import Derived.Shelf.Slices.Clone
import Derived.Shelf.Slices.SearchI
import Derived.Shelf.Slices.In.SortNone
import Derived.Ground.SlgnProg
import Derived.Shelf.SlicesE.Clone
import Derived.Laws.Externs
import Derived.Laws.CopyRow
import Derived.Lib.AppendZeros
import Derived.Lib.AppendZerosOnto
import Derived.Deep.AppendSrc
set_option linter.unusedVariables false
set_option linter.unusedSimpArgs false
namespace Go.Proofs.YtcbfhpnmhhnjpaaGreat
open Go.RowKit
def encFr (x : Fr) : List SC := [.pv (.int .i64 x.page), .pv (.int .i64 x.pins), .pv (.bool x.used)]
structure Clk where
  fr : List Fr
  hand : Int
def encClk (c : Clk) : List SC := [.sl 3 (c.fr.map encFr), .pv (.int .i64 c.hand)]
theorem cloneFr (l : List (List SC)) (hl : l.length * 24 ≤ 2 ^ 47) : Spec Tryz.prog 165 [.c (.sl 3 l)] (.row 153 3 l) := by
  refine Spec.tag ?_ ?_
  · intro h
    subst h
    refine spec_row mixed fn165 (by simp) ?_
    unfold ac165
    simp -implicitDefEqProofs only [↓aP, aR, ↓reduceIte, reduceCtorEq, seval]
  · refine spec_row mixed fn165 (by simp) ?_
    unfold ac165
    simp -implicitDefEqProofs only [↓aP, aR, ↓reduceIte, reduceCtorEq, seval]
    refine ⟨?_, ?_⟩ <;> omega
theorem idxFr_spec (l : List Fr) (p : Fr → Bool) (g : Nat) (caps : List SC) (hg : callable Tryz.prog g = true) (hp : ∀ x, Spec Tryz.prog g (.agg (encFr x) :: caps.map TV.c) (.val (rB (p x)))) (hl : l.length < 4611686018427387904) :
    Spec Tryz.prog 189 [rL 3 (l.map encFr), .c (.fn g caps)] (.val (rI (fst? p l))) := by
  refine spec_val mixed fn189 (by simp) ?_
  unfold ac189
  simp -implicitDefEqProofs only [↓aP, aR, ↓reduceIte, reduceCtorEq, seval]
  refine rangeB l.length (fun i σ => (∀ x ∈ l.take i, p x = false) ∧ σ.slot 0 = vL 3 (l.map encFr) ∧ σ.slot 1 = .c (.s (.fn g caps)) ∧ σ.slot 7 = vI l.length ∧ σ.slot 8 = vI i) ?_ ?_ ?_
  · simp -implicitDefEqProofs only [↓aP, aR, ↓reduceIte, reduceCtorEq, seval]
    simp
  · rintro i m σ him hi hlt ⟨hno, s0, s1, s7, s8⟩
    simp -implicitDefEqProofs only [↓aP, aR, ↓reduceIte, reduceCtorEq, seval, hlt, s0, s1, s7, s8, askIdx_map, hi, hg, encFr]
    refine askV (hp l[i]) ?_
    simp -implicitDefEqProofs only [↓aP, aR, ↓reduceIte, reduceCtorEq, seval]
    refine fork ?_ ?_ <;> intro hc
    · simp -implicitDefEqProofs only [↓aP, aR, ↓reduceIte, reduceCtorEq, seval, fst_at hi hc hno]
    · simp -implicitDefEqProofs only [↓aP, aR, ↓reduceIte, reduceCtorEq, seval, s0, s1, s7, s8, wrapS (show i < 4611686018427387904 by omega)]
      refine nextR hi him ?_
      simp -implicitDefEqProofs only [↓aP, aR, ↓reduceIte, reduceCtorEq, seval, s0, s1, s7, s8]
      rw [take_snoc hi]
      intro x hx
      rcases List.mem_append.1 hx with h | h
      · exact hno x h
      · rw [List.mem_singleton.1 h]; exact hc
  · rintro m σ hlt ⟨hno, s0, s1, s7, s8⟩
    rw [List.take_length] at hno
    simp -implicitDefEqProofs only [↓aP, aR, ↓reduceIte, reduceCtorEq, seval, hlt, s0, s1, s7, s8, fst_none hno]
theorem any_fst {α : Type} {p : α → Bool} {l : List α} : decide (0 ≤ fst? p l) = l.any p := by
  cases h : l.findIdx? p with
  | none =>
    have h1 := List.findIdx?_eq_none_iff.1 h
    have h2 : fst? p l = -1 := by unfold fst?; rw [h]
    rw [h2]
    symm
    simpa using h1
  | some k =>
    obtain ⟨hk, h1, _⟩ := List.findIdx?_eq_some_iff_getElem.1 h
    have h2 : fst? p l = k := by unfold fst?; rw [h]
    rw [h2]
    symm
    rw [show l.any p = true from List.any_eq_true.2 ⟨_, List.getElem_mem hk, h1⟩]
    simp
theorem chas_spec (c : Clk) (k : Int) : Spec Tryz.prog 82 [.agg (encClk c), rI k] (.val (rB (decide (0 ≤ k ∧ k < c.fr.length)))) := by
  refine spec_val mixed fn82 (by simp) ?_
  unfold ac82
  simp -implicitDefEqProofs only [↓aP, aR, ↓reduceIte, reduceCtorEq, seval, encClk]
  by_cases h : 0 ≤ k
  · simp -implicitDefEqProofs only [↓aP, aR, ↓reduceIte, reduceCtorEq, seval, decide_eq_true h, List.length_map, h, true_and]
  · simp -implicitDefEqProofs only [↓aP, aR, ↓reduceIte, reduceCtorEq, seval, decide_eq_false h, List.length_map, h, false_and]
theorem cpinned_spec (x : Fr) : Spec Tryz.prog 199 [.agg (encFr x)] (.val (rB (decide (0 < x.pins)))) := by
  refine spec_val mixed fn199 (by simp) ?_
  unfold ac199
  simp -implicitDefEqProofs only [↓aP, aR, ↓reduceIte, reduceCtorEq, seval, encFr]
theorem csweep1_spec (x : Fr) : Spec Tryz.prog 198 [.agg (encFr x)] (.val (rB (!decide (0 < x.pins)))) := by
  refine spec_val mixed fn198 (by simp) ?_
  unfold ac198
  simp -implicitDefEqProofs only [↓aP, aR, ↓reduceIte, reduceCtorEq, seval, encFr]
  refine ask (by have := cpinned_spec x; rw [encFr] at this; exact this) ?_
  simp -implicitDefEqProofs only [↓aP, aR, ↓reduceIte, reduceCtorEq, seval]
theorem cany_spec (l : List Fr) (hl : l.length < 4611686018427387904) : Spec Tryz.prog 197 [rL 3 (l.map encFr), .c (.fn 198 [])] (.val (rB (l.any fun y => !decide (0 < y.pins)))) := by
  refine spec_val mixed fn197 (by simp) ?_
  unfold ac197
  simp -implicitDefEqProofs only [↓aP, aR, ↓reduceIte, reduceCtorEq, seval]
  refine ask (idxFr_spec l (fun x => !decide (0 < x.pins)) 198 [] (by kernel_rfl) (fun x => csweep1_spec x) hl) ?_
  simp -implicitDefEqProofs only [↓aP, aR, ↓reduceIte, reduceCtorEq, seval]
  exact any_fst
theorem cbehind_spec (c : Clk) (k : Nat) (hk : k < c.fr.length) (hl : c.fr.length ≤ 1000000) : Spec Tryz.prog 200 [.agg (encClk c), rI k] (.val (rI ((k + 1) % c.fr.length : Nat))) := by
  refine spec_val mixed fn200 (by simp) ?_
  unfold ac200
  have w1 : IntKind.i64.wrap ((k : Int) + 1) = ((k + 1 : Nat) : Int) := by rw [wrapI (by omega)]; omega
  simp -implicitDefEqProofs only [↓aP, aR, ↓reduceIte, reduceCtorEq, seval, encClk, List.length_map, w1]
  refine ⟨by omega, ?_⟩
  rw [Int.tmod_eq_emod_of_nonneg (by omega)]
  exact (Int.natCast_emod _ _).symm
theorem cRight_spec (c : Clk) (hl : c.fr.length < 4611686018427387904) : Spec Tryz.prog 43 [.agg (encClk c)] (.val (rB (Ck.right c.fr c.hand))) := by
  refine spec_val mixed fn43 (by simp) ?_
  unfold ac43
  simp -implicitDefEqProofs only [↓aP, aR, ↓reduceIte, reduceCtorEq, seval, encClk]
  by_cases h8 : 8 < c.fr.length
  · have e : Ck.right c.fr c.hand = false := by unfold Ck.right; rw [decide_eq_false (by omega), Bool.false_and]
    simp -implicitDefEqProofs only [↓aP, aR, ↓reduceIte, reduceCtorEq, seval, List.length_map, show decide ((8 : Int) < (c.fr.length : Int)) = true by simp; omega, e]
  simp -implicitDefEqProofs only [↓aP, aR, ↓reduceIte, reduceCtorEq, seval, List.length_map, show decide ((8 : Int) < (c.fr.length : Int)) = false by simp; omega]
  refine ask (by have := chas_spec c c.hand; rw [encClk] at this; exact this) ?_
  by_cases hh : 0 ≤ c.hand ∧ c.hand < c.fr.length
  case neg =>
    have e : Ck.right c.fr c.hand = false := by unfold Ck.right; rw [decide_eq_false (by omega), Bool.false_and]
    simp -implicitDefEqProofs only [↓aP, aR, ↓reduceIte, reduceCtorEq, seval, decide_eq_false hh, e]
  have e0 : Ck.right c.fr c.hand = c.fr.all Ck.good := by unfold Ck.right; rw [decide_eq_true (by omega), Bool.true_and]
  simp -implicitDefEqProofs only [↓aP, aR, ↓reduceIte, reduceCtorEq, seval, decide_eq_true hh, encClk, List.length_map]
  refine rangeB c.fr.length (fun i σ => (∀ x ∈ c.fr.take i, Ck.good x = true) ∧ σ.slot 17 = vL 3 (c.fr.map encFr) ∧ σ.slot 18 = vI c.fr.length ∧ σ.slot 19 = vI i) ?_ ?_ ?_
  · simp -implicitDefEqProofs only [↓aP, aR, ↓reduceIte, reduceCtorEq, seval]
    simp
  · rintro i m σ him hi hlt ⟨hg, s17, s18, s19⟩
    have bad : Ck.good c.fr[i] = false → Ck.right c.fr c.hand = false := fun h => by
      rw [e0, List.all_eq_false]; exact ⟨_, List.getElem_mem hi, by simp [h]⟩
    simp -implicitDefEqProofs only [↓aP, aR, ↓reduceIte, reduceCtorEq, seval, hlt, s17, s18, s19, askIdx_map, hi, encFr]
    repeat' ((first | ((first | with_reducible refine fork ?_ ?_ | with_reducible refine gcase ?_ ?_ | with_reducible refine gcaseD ?_ ?_) <;> intro hc <;> (have hp := hc) <;> (try simp only [aB] at hp)) | (have hc := True.intro; first | with_reducible refine askM (by omega) ?_ | with_reducible refine And.intro (by first | omega | decide +kernel) ?_ | fail)) <;> (try simp -implicitDefEqProofs only [↓aP, aR, ↓reduceIte, reduceCtorEq, seval, hc, s17, s18, s19, encFr, wrapS (show i < 4611686018427387904 by omega)]))
    all_goals first
      | (rw [bad (by unfold Ck.good; rw [decide_eq_false_iff_not]; omega)]; done)
      | (have hgi : Ck.good c.fr[i] = true := by unfold Ck.good; rw [decide_eq_true_iff]; omega
         refine nextR hi him ?_
         simp -implicitDefEqProofs only [↓aP, aR, ↓reduceIte, reduceCtorEq, seval, s17, s18, s19]
         rw [take_snoc hi]
         intro x hx
         rcases List.mem_append.1 hx with h | h
         · exact hg x h
         · rw [List.mem_singleton.1 h]; exact hgi)
  · rintro m σ hlt ⟨hg, s17, s18, s19⟩
    rw [List.take_length] at hg
    simp -implicitDefEqProofs only [↓aP, aR, ↓reduceIte, reduceCtorEq, seval, hlt, s17, s18, s19, e0, List.all_eq_true.2 hg]
def sweepC (c : Clk) : Clk × Int × Bool := if Ck.right c.fr c.hand = true then
    match Ck.stop c.fr c.hand.toNat with
    | some N => (⟨Ck.after c.fr c.hand.toNat N, (((c.hand.toNat + N) % c.fr.length + 1) % c.fr.length : Nat)⟩, ((c.hand.toNat + N) % c.fr.length : Nat), true)
    | none => (c, 0, false)
  else (c, 0, false)
theorem right_fr {l : List Fr} {h : Int} (hr : Ck.right l h = true) : l.length ≤ 8 ∧ 0 ≤ h ∧ h < l.length ∧ ∀ f ∈ l, Ck.good f = true := by
  unfold Ck.right at hr
  rw [Bool.and_eq_true, decide_eq_true_iff, List.all_eq_true] at hr
  exact ⟨hr.1.1, hr.1.2.1, hr.1.2.2, hr.2⟩
theorem stop_any {l : List Fr} {h : Int} (hr : Ck.right l h = true) : (l.any fun y => !decide (0 < y.pins)) = false → Ck.stop l h.toNat = none := fun ha => by
  obtain ⟨_, h0, h1, hg⟩ := right_fr hr
  rw [List.any_eq_false] at ha
  have hp : ∀ f ∈ l, f.pins ≠ 0 := fun f hf he => by
    have := ha f hf
    simp [he] at this
  have f1 : Ck.first Ck.fresh l h.toNat = none := (Ck.first_none_all (by omega)).2 fun f hf => by
    unfold Ck.fresh; rw [show (f.pins == 0) = false from beq_eq_false_iff_ne.2 (hp f hf)]; rfl
  have f2 : Ck.first Ck.free l h.toNat = none := (Ck.first_none_all (by omega)).2 fun f hf => by
    unfold Ck.free; exact beq_eq_false_iff_ne.2 (hp f hf)
  unfold Ck.stop
  rw [f1, f2]; rfl
theorem any_free {l : List Fr} {h : Int} (hr : Ck.right l h = true) (ha : (l.any fun y => !decide (0 < y.pins)) = true) : ∃ f ∈ l, f.pins = 0 := by
  obtain ⟨_, h0, h1, hg⟩ := right_fr hr
  rw [List.any_eq_true] at ha
  obtain ⟨f, hf, hp⟩ := ha
  have := hg f hf
  unfold Ck.good at this
  simp at hp this
  exact ⟨f, hf, by omega⟩
theorem modify_set {α : Type} {l : List α} {i : Nat} {f : α → α} (h : i < l.length) : l.modify i f = l.set i (f l[i]) := by
  refine List.ext_getElem (by simp) fun j h1 h2 => ?_
  rw [List.getElem_modify, List.getElem_set]
  by_cases e : i = j
  · subst e; simp
  · simp [e]
set_option maxRecDepth 100000 in
theorem csweep_spec (c : Clk) (hl : c.fr.length < 4611686018427387904) : Spec Tryz.prog 188 [.agg (encClk c)] (.val (.tup [(true, encClk (sweepC c).1), (false, [.pv (.int .i64 (sweepC c).2.1)]), (false, [.pv (.bool (sweepC c).2.2)])])) := by
  refine spec_val mixed fn188 (by simp) ?_
  unfold ac188
  simp -implicitDefEqProofs only [↓aP, aR, ↓reduceIte, reduceCtorEq, seval, encClk]
  refine ask (by have := cRight_spec c hl; rw [encClk] at this; exact this) ?_
  cases hr : Ck.right c.fr c.hand
  · have e : sweepC c = (c, 0, false) := by unfold sweepC; rw [if_neg (by simp [hr])]
    simp -implicitDefEqProofs only [↓aP, aR, ↓reduceIte, reduceCtorEq, seval, e, encClk]
  obtain ⟨h8, h0, h1, hg⟩ := right_fr hr
  simp -implicitDefEqProofs only [↓aP, aR, ↓reduceIte, reduceCtorEq, seval, encClk]
  refine ask (cany_spec c.fr hl) ?_
  cases ha : c.fr.any fun y => !decide (0 < y.pins)
  · have e : sweepC c = (c, 0, false) := by unfold sweepC; rw [if_pos hr, stop_any hr ha]
    simp -implicitDefEqProofs only [↓aP, aR, ↓reduceIte, reduceCtorEq, seval, e, encClk]
  have hf := any_free hr ha
  simp -implicitDefEqProofs only [↓aP, aR, ↓reduceIte, reduceCtorEq, seval, encClk]
  refine ask (cloneFr _ (by simp; omega)) ?_
  simp -implicitDefEqProofs only [↓aP, aR, ↓reduceIte, reduceCtorEq, seval]
  have hh : c.hand.toNat < c.fr.length := by omega
  refine loopA (fun m σ => ∃ N : Nat, N + m = 2 * c.fr.length - 1 ∧ (∀ j, j < N → Ck.ends c.fr c.hand.toNat j = false) ∧ σ.slot 1 = .c (.ptr 1 1 0 0) ∧ σ.h.gen 1 = 1 ∧ σ.h.blk 1 = .box 28 2 [(encClk c).map AC.s] ∧ σ.slot 2 = .c (.ptr 2 1 0 0) ∧ σ.h.gen 2 = 1 ∧ σ.h.blk 2 = .box 28 2 [[.zc, .s (.pv (.int .i64 0))]] ∧ σ.slot 5 = .c (.own 19 1) ∧ σ.h.gen 19 = 1 ∧ σ.h.blk 19 = .row 153 3 ((Ck.after c.fr c.hand.toNat N).map encFr) ∧ σ.slot 6 = vI ((c.hand.toNat + N) % c.fr.length : Nat)) (2 * c.fr.length - 1) ⟨0, by omega, fun j hj => absurd hj (by omega), ?_⟩ ?_
  · simp -implicitDefEqProofs only [↓aP, aR, ↓reduceIte, reduceCtorEq, seval, encClk, Ck.after_zero, Nat.add_zero, Nat.mod_eq_of_lt hh, show ((c.hand.toNat : Nat) : Int) = c.hand by omega]
  rintro m σ ⟨N, hN, hno, s1, g1, b1, s2, g2, b2, s5, g19, b19, s6⟩
  have hat := Ck.after_at (N := N) hh (by omega)
  have hx : (c.hand.toNat + N) % c.fr.length < (Ck.after c.fr c.hand.toNat N).length := by rw [Ck.after_length]; exact Nat.mod_lt _ (by omega)
  obtain ⟨x, ex⟩ : ∃ x, (Ck.after c.fr c.hand.toNat N)[(c.hand.toNat + N) % c.fr.length] = x := ⟨_, rfl⟩
  have hk : (c.hand.toNat + N) % c.fr.length < c.fr.length := Nat.mod_lt _ (by omega)
  rw [ex] at hat
  have hpos : 0 ≤ x.pins := by
    have hgf := hg _ (List.getElem_mem hk)
    unfold Ck.good at hgf
    rw [decide_eq_true_iff] at hgf
    rw [hat]
    dsimp only
    split
    · exact hgf.2.2.1
    · exact hgf.2.2.1
  have he : Ck.ends c.fr c.hand.toNat N = (x.pins == 0 && !x.used) := by
    unfold Ck.ends Ck.free
    rw [Ck.getD_eq hk, hat]
    dsimp only
    cases b1 : (c.fr[(c.hand.toNat + N) % c.fr.length].pins == 0)
    · simp [b1]
    · cases b2 : decide (c.fr.length ≤ N)
      · simp [b1]
      · simp [b1]
  have hsucc := Ck.after_succ (N := N) hh
  rw [modify_set hx, ex] at hsucc
  have hix : ((c.hand.toNat + N) % c.fr.length + 1) % c.fr.length = (c.hand.toNat + (N + 1)) % c.fr.length := Nat.mod_add_mod _ _ _
  have hm : Ck.ends c.fr c.hand.toNat N = false → 0 < m := fun hf2 => by
    refine Nat.pos_of_ne_zero fun hm0 => ?_
    have hN2 : N = 2 * c.fr.length - 1 := by omega
    have := Ck.ends_some hh hf (fun j hj => hno j (by omega))
    rw [← hN2, hf2] at this
    exact Bool.noConfusion this
  have hno2 : Ck.ends c.fr c.hand.toNat N = false → ∀ j, j < N + 1 → Ck.ends c.fr c.hand.toNat j = false := fun hf2 j hj => by
    by_cases e : j = N
    · rw [e]; exact hf2
    · exact hno j (by omega)
  have cp := cpinned_spec x
  rw [encFr] at cp
  have cb := cbehind_spec c _ hk (by omega)
  rw [hix, encClk] at cb
  simp -implicitDefEqProofs only [↓aP, aR, ↓reduceIte, reduceCtorEq, seval, s1, g1, b1, s2, g2, b2, s5, g19, b19, s6, askIdx_map, hx, ex, encFr]
  refine ask cp ?_
  by_cases hp : 0 < x.pins
  · have hef : Ck.ends c.fr c.hand.toNat N = false := by rw [he, show (x.pins == 0) = false from beq_eq_false_iff_ne.2 (by omega)]; rfl
    have hm1 := hm hef
    rw [if_neg (by simp; omega), ← ex, List.set_getElem_self] at hsucc
    simp -implicitDefEqProofs only [↓aP, aR, ↓reduceIte, reduceCtorEq, seval, decide_eq_true hp, s1, g1, b1, s2, g2, b2, s5, g19, b19, s6, askIdx_map, hx, ex, encFr]
    refine ask cp ?_
    simp -implicitDefEqProofs only [↓aP, aR, ↓reduceIte, reduceCtorEq, seval, decide_eq_true hp, s1, g1, b1, s2, g2, b2, s5, g19, b19, s6, encClk]
    refine ask cb ?_
    simp -implicitDefEqProofs only [↓aP, aR, ↓reduceIte, reduceCtorEq, seval]
    refine ⟨m - 1, by omega, N + 1, by omega, hno2 hef, ?_⟩
    simp -implicitDefEqProofs only [↓aP, aR, ↓reduceIte, reduceCtorEq, seval, s1, g1, b1, s2, g2, b2, s5, g19, b19, s6, hsucc, encClk]
  · have hp0 : x.pins = 0 := by omega
    cases hu : x.used
    · have hef : Ck.ends c.fr c.hand.toNat N = true := by rw [he, hu, hp0]; rfl
      have hst := Ck.stop_of_ends hh (by omega) hef hno
      have e : sweepC c = (Clk.mk (Ck.after c.fr c.hand.toNat N) ((((c.hand.toNat + N) % c.fr.length + 1) % c.fr.length : Nat) : Int), (((c.hand.toNat + N) % c.fr.length : Nat) : Int), true) := by unfold sweepC; rw [if_pos hr, hst]
      simp -implicitDefEqProofs only [↓aP, aR, ↓reduceIte, reduceCtorEq, seval, decide_eq_false hp, s1, g1, b1, s2, g2, b2, s5, g19, b19, s6, askIdx_map, hx, ex, encFr, hu, encClk]
      refine ask cb ?_
      simp -implicitDefEqProofs only [↓aP, aR, ↓reduceIte, reduceCtorEq, seval, e, encClk, hix, s1, g1, b1, s2, g2, b2, s5, g19, b19, s6]
    · have hef : Ck.ends c.fr c.hand.toNat N = false := by rw [he, hu, Bool.not_true, Bool.and_false]
      have hm1 := hm hef
      rw [if_pos (by simp [hp0])] at hsucc
      simp -implicitDefEqProofs only [↓aP, aR, ↓reduceIte, reduceCtorEq, seval, decide_eq_false hp, s1, g1, b1, s2, g2, b2, s5, g19, b19, s6, askIdx_map, hx, ex, encFr, hu]
      refine ask (by have := cp; rw [hu] at this; exact this) ?_
      simp -implicitDefEqProofs only [↓aP, aR, ↓reduceIte, reduceCtorEq, seval, decide_eq_false hp, s1, g1, b1, s2, g2, b2, s5, g19, b19, s6, askIdx_map, hx, ex, encFr, hu, encClk]
      refine ask cb ?_
      simp -implicitDefEqProofs only [↓aP, aR, ↓reduceIte, reduceCtorEq, seval]
      have ms : ((Ck.after c.fr c.hand.toNat N).map encFr).set ((c.hand.toNat + N) % c.fr.length) [.pv (.int .i64 x.page), .pv (.int .i64 x.pins), .pv (.bool false)] = ((Ck.after c.fr c.hand.toNat N).set ((c.hand.toNat + N) % c.fr.length) ⟨x.page, x.pins, false⟩).map encFr := by rw [List.map_set]; rfl
      refine ⟨m - 1, by omega, N + 1, by omega, hno2 hef, ?_⟩
      simp -implicitDefEqProofs only [↓aP, aR, ↓reduceIte, reduceCtorEq, seval, s1, g1, b1, s2, g2, b2, s5, g19, b19, s6, hsucc, encClk, ms]
end Go.Proofs.YtcbfhpnmhhnjpaaGreat

namespace Go.Proofs
open Go.Shelf
def Tryz.lays189_ren : Go.Shelf.Ren := ⟨fun | 189 => 90 | 125 => 129 | 257 => 128 | 128 => 160 | 129 => 161 | 294 => 151 | 295 => 152 | 296 => 153 | 297 => 154 | 298 => 155 | 299 => 156 | 216 => 157 | 300 => 158 | 301 => 159 | 328 => 179 | 329 => 180 | 330 => 181 | 331 => 182 | 332 => 183 | 215 => 184 | 343 => 195 | n => n, fun | 28 => 86 | 3 => 3 | 46 => 173 | 0 => 0 | 51 => 207 | 53 => 210 | 4 => 4 | 183 => 227 | 182 => 226 | 131 => 117 | 5 => 5 | 9 => 9 | 218 => 255 | 222 => 259 | 228 => 271 | 229 => 272 | n => n, fun | n => n⟩
theorem Tryz.lays189 : Go.Proofs.Lays.n189 Tryz.prog Tryz.lays189_ren := {
  mixed := by kernel_rfl
  f125 := Tryz.func129.trans (congrArg some (by kernel_rfl))
  f128 := Tryz.func160.trans (congrArg some (by kernel_rfl))
  f129 := Tryz.func161.trans (congrArg some (by kernel_rfl))
  f189 := Tryz.func90.trans (congrArg some (by kernel_rfl))
  f215 := Tryz.func184.trans (congrArg some (by kernel_rfl))
  f216 := Tryz.func157.trans (congrArg some (by kernel_rfl))
  f257 := Tryz.func128.trans (congrArg some (by kernel_rfl))
  f294 := Tryz.func151.trans (congrArg some (by kernel_rfl))
  f295 := Tryz.func152.trans (congrArg some (by kernel_rfl))
  f296 := Tryz.func153.trans (congrArg some (by kernel_rfl))
  f297 := Tryz.func154.trans (congrArg some (by kernel_rfl))
  f298 := Tryz.func155.trans (congrArg some (by kernel_rfl))
  f299 := Tryz.func156.trans (congrArg some (by kernel_rfl))
  f300 := Tryz.func158.trans (congrArg some (by kernel_rfl))
  f301 := Tryz.func159.trans (congrArg some (by kernel_rfl))
  f328 := Tryz.func179.trans (congrArg some (by kernel_rfl))
  f329 := Tryz.func180.trans (congrArg some (by kernel_rfl))
  f330 := Tryz.func181.trans (congrArg some (by kernel_rfl))
  f331 := Tryz.func182.trans (congrArg some (by kernel_rfl))
  f332 := Tryz.func183.trans (congrArg some (by kernel_rfl))
  f343 := Tryz.func195.trans (congrArg some (by kernel_rfl))
  t0 := Tryz.underlying0
  a0 := Tryz.isAgg0
  z0 := Tryz.sizeOf0
  v0 := Tryz.zeroValue0
  t3 := Tryz.underlying3
  a3 := Tryz.isAgg3
  z3 := Tryz.sizeOf3
  v3 := Tryz.zeroValue3
  t4 := Tryz.underlying4
  a4 := Tryz.isAgg4
  z4 := Tryz.sizeOf4
  v4 := Tryz.zeroValue4
  t5 := Tryz.underlying5
  a5 := Tryz.isAgg5
  z5 := Tryz.sizeOf5
  v5 := Tryz.zeroValue5
  t9 := Tryz.underlying9
  a9 := Tryz.isAgg9
  z9 := Tryz.sizeOf9
  v9 := Tryz.zeroValue9
  t28 := Tryz.underlying86
  a28 := Tryz.isAgg86
  z28 := Tryz.sizeOf86
  v28 := Tryz.zeroValue86
  t46 := Tryz.underlying173
  a46 := Tryz.isAgg173
  z46 := Tryz.sizeOf173
  v46 := Tryz.zeroValue173
  t51 := Tryz.underlying207
  a51 := Tryz.isAgg207
  z51 := Tryz.sizeOf207
  v51 := Tryz.zeroValue207
  t53 := Tryz.underlying210
  a53 := Tryz.isAgg210
  z53 := Tryz.sizeOf210
  v53 := Tryz.zeroValue210
  t131 := Tryz.underlying117
  a131 := Tryz.isAgg117
  z131 := Tryz.sizeOf117
  v131 := Tryz.zeroValue117
  t182 := Tryz.underlying226
  a182 := Tryz.isAgg226
  z182 := Tryz.sizeOf226
  v182 := Tryz.zeroValue226
  t183 := Tryz.underlying227
  a183 := Tryz.isAgg227
  z183 := Tryz.sizeOf227
  v183 := Tryz.zeroValue227
  t218 := Tryz.underlying255
  a218 := Tryz.isAgg255
  z218 := Tryz.sizeOf255
  v218 := Tryz.zeroValue255
  t222 := Tryz.underlying259
  a222 := Tryz.isAgg259
  z222 := Tryz.sizeOf259
  v222 := Tryz.zeroValue259
  t228 := Tryz.underlying271
  a228 := Tryz.isAgg271
  z228 := Tryz.sizeOf271
  v228 := Tryz.zeroValue271
  t229 := Tryz.underlying272
  a229 := Tryz.isAgg272
  z229 := Tryz.sizeOf272
  v229 := Tryz.zeroValue272 }
open Go.Sort Go.RowKit in
theorem Tryz.slices_Sort_int (blk off cap : Nat) (zs : List Int) (w : World) (hH : Holds (Value.int .i64) w blk off zs.toArray) (hblk : blk < w.heap.size) (hsz : zs.length < 4611686018427387904) :
    Calls Tryz.prog 90 #[.slice (some ⟨blk, off, none⟩) zs.length cap] w fun e w' =>
      e = .returned (.tuple #[]) ∧ ∃ n os, w' = grow (putRow (Value.int .i64) (Sort.ahead w n) blk off (zs.mergeSort fun x y => decide (x ≤ y)).toArray) os := Any.slices_Sort_int Tryz.lays189 blk off cap zs w hH hblk hsz
def Tryz.lays212_ren : Go.Shelf.Ren := ⟨fun | 212 => 105 | 263 => 134 | 264 => 135 | n => n, fun | 46 => 173 | 51 => 207 | 146 => 208 | 53 => 210 | 148 => 211 | n => n, fun | n => n⟩
theorem Tryz.lays212 : Go.Proofs.Lays.n212 Tryz.prog Tryz.lays212_ren := {
  mixed := by kernel_rfl
  f212 := Tryz.func105.trans (congrArg some (by kernel_rfl))
  f263 := Tryz.func134.trans (congrArg some (by kernel_rfl))
  f264 := Tryz.func135.trans (congrArg some (by kernel_rfl))
  t46 := Tryz.underlying173
  a46 := Tryz.isAgg173
  z46 := Tryz.sizeOf173
  v46 := Tryz.zeroValue173
  t51 := Tryz.underlying207
  a51 := Tryz.isAgg207
  z51 := Tryz.sizeOf207
  v51 := Tryz.zeroValue207
  t53 := Tryz.underlying210
  a53 := Tryz.isAgg210
  z53 := Tryz.sizeOf210
  v53 := Tryz.zeroValue210
  t146 := Tryz.underlying208
  a146 := Tryz.isAgg208
  z146 := Tryz.sizeOf208
  v146 := Tryz.zeroValue208
  t148 := Tryz.underlying211
  a148 := Tryz.isAgg211
  z148 := Tryz.sizeOf211
  v148 := Tryz.zeroValue211 }
open Go.RowKit Go.Lib in
theorem Tryz.bits_Mul (x y : Nat) (hx : x < 18446744073709551616) (hy : y < 18446744073709551616) (w : World) :
    Calls Tryz.prog 105 #[.int .u64 x, .int .u64 y] w fun e w' => e = .returned (.tuple #[.int .u64 ((x * y / 18446744073709551616 : Nat) : Int), .int .u64 ((x * y % 18446744073709551616 : Nat) : Int)]) ∧ w' = w := Any.bits_Mul Tryz.lays212 x y hx hy w
def Tryz.lays105_ren : Go.Shelf.Ren := ⟨fun | 105 => 67 | 212 => 105 | 99 => 106 | 165 => 107 | 166 => 108 | 170 => 109 | 169 => 110 | 263 => 134 | 264 => 135 | 206 => 136 | 240 => 137 | 241 => 138 | 276 => 163 | 277 => 164 | n => n, fun | 9 => 9 | 3 => 3 | 4 => 4 | 20 => 20 | 0 => 0 | 46 => 173 | 109 => 174 | 5 => 5 | 72 => 179 | 76 => 182 | 51 => 207 | 146 => 208 | 53 => 210 | 148 => 211 | 70 => 177 | 37 => 168 | 75 => 181 | 127 => 213 | 164 => 236 | 80 => 142 | n => n, fun | n => n⟩
theorem Tryz.lays105 : Go.Proofs.Lays.n105 Tryz.prog Tryz.lays105_ren := {
  mixed := by kernel_rfl
  f99 := Tryz.func106.trans (congrArg some (by kernel_rfl))
  f105 := Tryz.func67.trans (congrArg some (by kernel_rfl))
  f165 := Tryz.func107.trans (congrArg some (by kernel_rfl))
  f166 := Tryz.func108.trans (congrArg some (by kernel_rfl))
  f169 := Tryz.func110.trans (congrArg some (by kernel_rfl))
  f170 := Tryz.func109.trans (congrArg some (by kernel_rfl))
  f206 := Tryz.func136.trans (congrArg some (by kernel_rfl))
  f212 := Tryz.func105.trans (congrArg some (by kernel_rfl))
  f240 := Tryz.func137.trans (congrArg some (by kernel_rfl))
  f241 := Tryz.func138.trans (congrArg some (by kernel_rfl))
  f263 := Tryz.func134.trans (congrArg some (by kernel_rfl))
  f264 := Tryz.func135.trans (congrArg some (by kernel_rfl))
  f276 := Tryz.func163.trans (congrArg some (by kernel_rfl))
  f277 := Tryz.func164.trans (congrArg some (by kernel_rfl))
  t0 := Tryz.underlying0
  a0 := Tryz.isAgg0
  z0 := Tryz.sizeOf0
  v0 := Tryz.zeroValue0
  t3 := Tryz.underlying3
  a3 := Tryz.isAgg3
  z3 := Tryz.sizeOf3
  v3 := Tryz.zeroValue3
  t4 := Tryz.underlying4
  a4 := Tryz.isAgg4
  z4 := Tryz.sizeOf4
  v4 := Tryz.zeroValue4
  t5 := Tryz.underlying5
  a5 := Tryz.isAgg5
  z5 := Tryz.sizeOf5
  v5 := Tryz.zeroValue5
  t9 := Tryz.underlying9
  a9 := Tryz.isAgg9
  z9 := Tryz.sizeOf9
  v9 := Tryz.zeroValue9
  t20 := Tryz.underlying20
  a20 := Tryz.isAgg20
  z20 := Tryz.sizeOf20
  v20 := Tryz.zeroValue20
  t37 := Tryz.underlying168
  a37 := Tryz.isAgg168
  z37 := Tryz.sizeOf168
  v37 := Tryz.zeroValue168
  t46 := Tryz.underlying173
  a46 := Tryz.isAgg173
  z46 := Tryz.sizeOf173
  v46 := Tryz.zeroValue173
  t51 := Tryz.underlying207
  a51 := Tryz.isAgg207
  z51 := Tryz.sizeOf207
  v51 := Tryz.zeroValue207
  t53 := Tryz.underlying210
  a53 := Tryz.isAgg210
  z53 := Tryz.sizeOf210
  v53 := Tryz.zeroValue210
  t70 := Tryz.underlying177
  a70 := Tryz.isAgg177
  z70 := Tryz.sizeOf177
  v70 := Tryz.zeroValue177
  t72 := Tryz.underlying179
  a72 := Tryz.isAgg179
  z72 := Tryz.sizeOf179
  v72 := Tryz.zeroValue179
  t75 := Tryz.underlying181
  a75 := Tryz.isAgg181
  z75 := Tryz.sizeOf181
  v75 := Tryz.zeroValue181
  t76 := Tryz.underlying182
  a76 := Tryz.isAgg182
  z76 := Tryz.sizeOf182
  v76 := Tryz.zeroValue182
  t109 := Tryz.underlying174
  a109 := Tryz.isAgg174
  z109 := Tryz.sizeOf174
  v109 := Tryz.zeroValue174
  t127 := Tryz.underlying213
  a127 := Tryz.isAgg213
  z127 := Tryz.sizeOf213
  v127 := Tryz.zeroValue213
  t146 := Tryz.underlying208
  a146 := Tryz.isAgg208
  z146 := Tryz.sizeOf208
  v146 := Tryz.zeroValue208
  t148 := Tryz.underlying211
  a148 := Tryz.isAgg211
  z148 := Tryz.sizeOf211
  v148 := Tryz.zeroValue211
  t164 := Tryz.underlying236
  a164 := Tryz.isAgg236
  z164 := Tryz.sizeOf236
  v164 := Tryz.zeroValue236 }
theorem Tryz.Builder_Extra_105 : Builder.Extra Tryz.prog Tryz.lays105_ren := {
  sizeBuilder := by kernel_rfl
  liesBuilder := by kernel_rfl
  t5 := Tryz.underlying5
  a5 := Tryz.isAgg5
  z5 := Tryz.sizeOf5
  v5 := Tryz.zeroValue5
  infoByte := by kernel_rfl
  cellsByte := by kernel_rfl
  sizeByte := by kernel_rfl
  neB5 := by decide }
open Go.RowKit Go.Lib in
theorem Tryz.strings_Repeat (s : ByteArray) (c : Nat) (w : World) (hc : c ≤ 9223372036854775807) (hlen : s.size * c ≤ 140737488355328) :
    Calls Tryz.prog 67 #[.string s, .int .i64 c] w fun e w' => e = .returned (.string ⟨(Lib.repeatL s.data.toList c).toArray⟩) ∧ Below w.heap.size w w' := Any.strings_Repeat Tryz.lays105 Tryz.Builder_Extra_105 s c w hc hlen
open Go.RowKit Go.Sort in
theorem Tryz.slices_Sort_int_none (p : Option Addr) (cap : Nat) (w : World) :
    Calls Tryz.prog 90 #[.slice p 0 cap] w fun e w' => e = .returned (.tuple #[]) ∧ w' = w := Any.slices_Sort_int_none Tryz.lays189 p cap w
end Go.Proofs

namespace Go.Proofs.YtcbfhpnmhhnjpaaGreat
open Go.RowKit
def srt (zs : List Int) : List Int := zs.mergeSort fun x y => decide (x ≤ y)
theorem srt_len {zs : List Int} : (srt zs).length = zs.length := List.length_mergeSort zs
theorem flat_encI (zs : List Int) : (zs.map encI).flatten = zs.map fun z => SC.pv (.int .i64 z) := by
  induction zs with
  | nil => rfl
  | cons z zs ih => simp only [List.map_cons, List.flatten_cons, ih]; rfl
theorem block_grow {w : World} {os : Array Obj} {k : Nat} (h : k < w.heap.size) : (Go.Sort.grow w os).heap[k]? = w.heap[k]? := by
  unfold Go.Sort.grow
  simp only
  rw [Array.getElem?_append_left h]
theorem put_blk {w : World} {g : Nat} {ty : TypeId} {cur : Array Value} (h : Blk w g ty cur) (n : Nat) (d : Array Int) : Blk (Go.Sort.putRow (Value.int .i64) (Go.Sort.ahead w n) g 0 d) g ty (Go.Sort.putCells (Value.int .i64) 0 d cur) := by
  unfold Blk Go.Sort.putRow Go.Sort.mapBlock Go.Sort.ahead at *
  simp only [Array.getElem?_modify, if_pos, h, Option.map_some]
  rfl
theorem put_oth {w : World} {g k n : Nat} {d : Array Int} (h : k ≠ g) : (Go.Sort.putRow (Value.int .i64) (Go.Sort.ahead w n) g 0 d).heap[k]? = w.heap[k]? := by
  unfold Go.Sort.putRow Go.Sort.mapBlock Go.Sort.ahead
  simp only [Array.getElem?_modify]
  rw [if_neg (fun e => h e.symm)]
theorem put_size {w : World} {g n : Nat} {d : Array Int} : (Go.Sort.putRow (Value.int .i64) (Go.Sort.ahead w n) g 0 d).heap.size = w.heap.size := by
  unfold Go.Sort.putRow Go.Sort.mapBlock Go.Sort.ahead
  simp
theorem sort_spec (zs : List Int) (hl : zs.length ≤ 1000000) : SpecX Tryz.prog 90 ⟨true, 3, 1, zs.map encI, none, (srt zs).map encI, some (.tup [])⟩ [] := by
  refine ⟨Nat.succ_pos _, ?_, ?_⟩
  · intro w O b cap us hO hX hus
    obtain rfl := hus.nil_inv
    obtain ⟨he, cur, hB, hr, hc⟩ := hX
    obtain ⟨hc1, hc2, hc3⟩ := hc rfl
    simp only at he hB hr hc1 hc3
    rw [List.length_map] at hc1
    have hcz : cur.size = cap := by omega
    rw [flat_encI, List.length_map] at hr
    have hcell : ∀ j (h : j < zs.length), cur[j]? = some (.int .i64 zs[j]) := by
      intro j h
      have hj : j < cur.size := by omega
      have h2 := hr.2 j (by simpa using h) (by simp only [List.length_take, Array.length_toList]; omega)
      simp only [List.getElem_map, List.getElem_take, Array.getElem_toList] at h2
      have h3 := RepS.flat h2
      rw [Array.getElem?_eq_getElem hj, h3]
    have hH : Go.Sort.Holds (Value.int .i64) w b 0 zs.toArray := by
      intro j hj
      have hj' : j < zs.length := by simpa using hj
      refine ⟨?_, by rw [Nat.zero_add]; exact hB.frozen j⟩
      rw [Nat.zero_add, hB.cell, hcell j hj', getElem!_pos zs.toArray j hj]
      simp
    have h := Tryz.slices_Sort_int b 0 cap zs w hH hB.lt (by omega)
    unfold XR.val
    simp only [List.length_map]
    refine h.mono ?_
    rintro ex w' ⟨rfl, n, os, rfl⟩
    have hpb := put_blk hB n (srt zs).toArray
    have hlt : b < (Go.Sort.putRow (Value.int .i64) (Go.Sort.ahead w n) b 0 (srt zs).toArray).heap.size := hpb.lt
    have hsz : (Go.Sort.putCells (Value.int .i64) 0 (srt zs).toArray cur).size = cap := by unfold Go.Sort.putCells; simp [hcz]
    refine ⟨_, rfl, ⟨[], rfl, rfl, fun i h => by simp at h⟩, ⟨fun x hx => ?_, _, ?_, ?_, fun _ => ⟨by simp only [List.length_map, srt_len]; exact hc1, hc2, by show _ = cap * 1; rw [hsz]; omega⟩⟩, by simp only [List.length_map, srt_len], ?_⟩
    · obtain ⟨z, _, rfl⟩ := List.mem_map.1 hx; rfl
    · exact (block_grow hlt).trans hpb
    · show RL _ ((srt zs).map encI).flatten _
      rw [flat_encI, List.length_map]
      refine ⟨by simp only [List.length_map, List.length_take, Array.length_toList, hsz, srt_len]; omega, fun i h1 h2 => ?_⟩
      simp only [List.length_map] at h1
      simp only [List.getElem_map, List.getElem_take, Array.getElem_toList]
      have hcase : (Go.Sort.putCells (Value.int .i64) 0 (srt zs).toArray cur)[i]'(by rw [hsz]; rw [srt_len] at h1; omega) = .int .i64 (srt zs)[i] := by
        unfold Go.Sort.putCells
        rw [Array.getElem_mapIdx, if_pos ⟨Nat.zero_le _, by simpa using h1⟩]
        rw [getElem!_pos (srt zs).toArray (i - 0) (by simpa using h1)]
        simp
      rw [hcase]
      exact .pv rfl
    · refine ⟨?_, rfl, rfl, rfl, fun k hk hne => ?_⟩
      · rw [Go.Sort.size_grow, put_size]; omega
      · exact (block_grow (by rw [put_size]; exact hk)).trans (put_oth hne)
  · intro hX0 _ w O A us hO hus
    obtain rfl := hus.nil_inv
    have hz : zs = [] := by simpa using hX0
    subst hz
    refine (Tryz.slices_Sort_int_none A 0 w).mono ?_
    rintro ex w' ⟨rfl, rfl⟩
    refine ⟨_, rfl, .refl _ _, ⟨[], rfl, rfl, fun i h => by simp at h⟩, ?_⟩
    simp [srt]
end Go.Proofs.YtcbfhpnmhhnjpaaGreat

namespace Go.Proofs.YtcbfhpnmhhnjpaaGreat
structure Sl where
  p : Int
  f : Int
deriving DecidableEq, Inhabited
namespace Ta
def z : Sl := ⟨0, 0⟩
def free (s : Sl) : Bool := (s.p == 0 && s.f == 0)
def isP (n : Int) : Bool := decide (1 ≤ n ∧ n ≤ 2147483647)
def isF (n : Int) : Bool := decide (0 ≤ n ∧ n ≤ 2147483647)
def at' (t : List Sl) (k : Nat) : Sl := t.getD k z
def hit (t : List Sl) (p : Int) (k : Nat) : Bool := (at' t k).p == p || free (at' t k)
def pl (p : Int) (i : Nat) : Nat := (p.toNat + i) % 16
def seek (t : List Sl) (p : Int) : Int := match (List.range 16).find? (fun i => hit t p (pl p i)) with
  | some i => (pl p i : Nat)
  | none => -1
def okS (t : List Sl) (k : Nat) : Bool := free (at' t k) || (isP (at' t k).p && isF (at' t k).f && decide (seek t (at' t k).p = k))
def right (t : List Sl) : Bool := decide (t.length = 16) && (List.range 16).all (okS t)
def slot (t : List Sl) (p : Int) : Int × Bool := if isP p = true then (seek t p, decide (0 ≤ seek t p ∧ (at' t (seek t p).toNat).p = p)) else (0, false)
def find (t : List Sl) (p : Int) : Int × Bool := if right t = true ∧ (slot t p).2 = true then ((at' t (slot t p).1.toNat).f, true) else (0, false)
def put (t : List Sl) (p f : Int) : List Sl × Int := if right t = false ∨ isP p = false ∨ isF f = false then (t, 1) else if (slot t p).2 = true then (t, 4) else if seek t p < 0 then (t, 7) else (t.set (seek t p).toNat ⟨p, f⟩, 0)
def ahead (p : Int) (a : Nat) : Nat := (a + 16 - p.toNat % 16) % 16
def delL (first : Nat) : Nat → Nat → List Sl → List Sl
  | 0, hole, t => t
  | n + 1, hole, t =>
    if free (at' t ((first + (15 - n)) % 16)) = true then t
    else if ahead (at' t ((first + (15 - n)) % 16)).p hole < ahead (at' t ((first + (15 - n)) % 16)).p ((first + (15 - n)) % 16) then delL first n ((first + (15 - n)) % 16) ((t.set hole (at' t ((first + (15 - n)) % 16))).set ((first + (15 - n)) % 16) z)
    else delL first n hole t
def del (t : List Sl) (p : Int) : List Sl × Int := if right t = false then (t, 1) else if (slot t p).2 = false then (t, 3) else (delL (slot t p).1.toNat 15 (slot t p).1.toNat (t.set (slot t p).1.toNat z), 0)
def pgs (t : List Sl) : List Int := (t.filter fun s => !free s).map Sl.p
def pages (t : List Sl) : List Int := if right t = true then srt (pgs t) else []
theorem at_get {t : List Sl} {k : Nat} (hk : k < t.length) : at' t k = t[k] := by unfold at'; rw [List.getD_eq_getElem?_getD, List.getElem?_eq_getElem hk]; rfl
theorem pl_lt {p : Int} {i : Nat} : pl p i < 16 := Nat.mod_lt _ (by decide)
theorem seek_range {t : List Sl} {p : Int} : seek t p = -1 ∨ ∃ i, i < 16 ∧ seek t p = (pl p i : Nat) ∧ hit t p (pl p i) = true ∧ ∀ j, j < i → hit t p (pl p j) = false := by
  unfold seek
  cases h : (List.range 16).find? (fun i => hit t p (pl p i)) with
  | none => exact .inl rfl
  | some i =>
    refine .inr ⟨i, ?_, rfl, ?_, ?_⟩
    · simpa using List.mem_of_find?_eq_some h
    · simpa using List.find?_some h
    · intro j hj
      rw [List.find?_range_eq_some] at h
      have := h.2.2 j hj
      simpa using this
theorem seek_at {t : List Sl} {p : Int} {i : Nat} (hi : i < 16) (h : hit t p (pl p i) = true) (hno : ∀ j, j < i → hit t p (pl p j) = false) : seek t p = (pl p i : Nat) := by
  unfold seek
  rw [show (List.range 16).find? (fun i => hit t p (pl p i)) = some i from List.find?_range_eq_some.2 ⟨h, by simpa using hi, fun j hj => by rw [hno j hj]; rfl⟩]
theorem seek_none {t : List Sl} {p : Int} (hno : ∀ j, j < 16 → hit t p (pl p j) = false) : seek t p = -1 := by
  unfold seek
  rw [show (List.range 16).find? (fun i => hit t p (pl p i)) = none from by
    rw [List.find?_eq_none]; intro i hi; rw [hno i (by simpa using hi)]; simp]
theorem right_iff {t : List Sl} : right t = true ↔ t.length = 16 ∧ ∀ k, k < 16 → okS t k = true := by
  unfold right
  simp only [Bool.and_eq_true, decide_eq_true_eq, List.all_eq_true, List.mem_range]
end Ta
end Go.Proofs.YtcbfhpnmhhnjpaaGreat

namespace Go.Proofs.YtcbfhpnmhhnjpaaGreat
open Go.RowKit
def encSl (x : Sl) : List SC := [.pv (.int .i64 x.p), .pv (.int .i64 x.f)]
def encTa (t : List Sl) : List SC := [.sl 2 (t.map encSl)]
theorem cloneSl (l : List (List SC)) (hl : l.length * 16 ≤ 2 ^ 47) : Spec Tryz.prog 191 [.c (.sl 2 l)] (.row 155 2 l) := by
  refine Spec.tag ?_ ?_
  · intro h
    subst h
    refine spec_row mixed fn191 (by simp) ?_
    unfold ac191
    simp -implicitDefEqProofs only [↓aP, aR, ↓reduceIte, reduceCtorEq, seval]
  · refine spec_row mixed fn191 (by simp) ?_
    unfold ac191
    simp -implicitDefEqProofs only [↓aP, aR, ↓reduceIte, reduceCtorEq, seval]
    refine ⟨?_, ?_⟩ <;> omega
theorem fields_sl : Tryz.prog.underlying 155 = some (.struct (Tryz.prog.fieldsOf 155)) := by kernel_rfl
theorem held_sl : Tryz.prog.stoodInHeld 155 = false := by kernel_rfl
set_option maxRecDepth 100000 in
theorem eq_sl0 (x : Sl) : EqRun Tryz.prog 155 [.int .i64 x.p, .int .i64 x.f] [.int .i64 0, .int .i64 0] (Ta.free x) := by
  unfold Ta.free
  intro w
  rw [run_eql_struct, run_equalIn_agg w 9999 _ _ _ fields_sl held_sl]
  cases h1 : (x.p == 0) <;> cases h2 : (x.f == 0) <;> simp only [beq_iff_eq, beq_eq_false_iff_ne] at h1 h2
  all_goals go_simp
theorem tfree_spec (x : Sl) : Spec Tryz.prog 83 [.agg (encSl x)] (.val (rB (Ta.free x))) := by
  refine spec_val mixed fn83 (by simp) ?_
  unfold ac83
  simp -implicitDefEqProofs only [↓aP, aR, ↓reduceIte, reduceCtorEq, seval, encSl]
  refine askEq (eq_sl0 x) ?_
  simp -implicitDefEqProofs only [↓aP, aR, ↓reduceIte, reduceCtorEq, seval]
theorem tisP_spec (n : Int) : Spec Tryz.prog 84 [rI n] (.val (rB (Ta.isP n))) := by
  refine spec_val mixed fn84 (by simp) ?_
  unfold ac84
  simp -implicitDefEqProofs only [↓aP, aR, ↓reduceIte, reduceCtorEq, seval]
  repeat' ((first | ((first | with_reducible refine fork ?_ ?_ | with_reducible refine gcase ?_ ?_ | with_reducible refine gcaseD ?_ ?_) <;> intro hc <;> (have hp := hc) <;> (try simp only [aB] at hp)) | (have hc := True.intro; first | with_reducible refine askM (by omega) ?_ | with_reducible refine And.intro (by first | omega | decide +kernel) ?_ | fail)) <;> (try simp -implicitDefEqProofs only [↓aP, aR, ↓reduceIte, reduceCtorEq, seval, hc]))
  all_goals (unfold Ta.isP; first | (rw [eq_comm, decide_eq_decide]; omega) | (symm; simp only [decide_eq_true_eq, decide_eq_false_iff_not]; omega))
theorem tisF_spec (n : Int) : Spec Tryz.prog 85 [rI n] (.val (rB (Ta.isF n))) := by
  refine spec_val mixed fn85 (by simp) ?_
  unfold ac85
  simp -implicitDefEqProofs only [↓aP, aR, ↓reduceIte, reduceCtorEq, seval]
  repeat' ((first | ((first | with_reducible refine fork ?_ ?_ | with_reducible refine gcase ?_ ?_ | with_reducible refine gcaseD ?_ ?_) <;> intro hc <;> (have hp := hc) <;> (try simp only [aB] at hp)) | (have hc := True.intro; first | with_reducible refine askM (by omega) ?_ | with_reducible refine And.intro (by first | omega | decide +kernel) ?_ | fail)) <;> (try simp -implicitDefEqProofs only [↓aP, aR, ↓reduceIte, reduceCtorEq, seval, hc]))
  all_goals (unfold Ta.isF; first | (rw [eq_comm, decide_eq_decide]; omega) | (symm; simp only [decide_eq_true_eq, decide_eq_false_iff_not]; omega))
theorem isP_iff {n : Int} : Ta.isP n = true ↔ 1 ≤ n ∧ n ≤ 2147483647 := by unfold Ta.isP; simp
theorem tahead_spec (p : Int) (a : Nat) (hp : 0 ≤ p ∧ p ≤ 2147483647) (ha : a < 16) : Spec Tryz.prog 193 [rI p, rI (a : Int)] (.val (rI ((Ta.ahead p a : Nat) : Int))) := by
  refine spec_val mixed fn193 (by simp) ?_
  unfold ac193
  have e : (IntKind.i64.wrap (IntKind.i64.wrap ((a : Int) - p.tmod 16) + 16)).tmod 16 = ((Ta.ahead p a : Nat) : Int) := by
    rw [Int.tmod_eq_emod_of_nonneg hp.1, wrapI (x := (a : Int) - p % 16) (by omega), wrapI (x := (a : Int) - p % 16 + 16) (by omega), Int.tmod_eq_emod_of_nonneg (by omega)]
    unfold Ta.ahead
    omega
  simp -implicitDefEqProofs only [↓aP, aR, ↓reduceIte, reduceCtorEq, seval, e]
theorem tseek_spec (t : List Sl) (p : Int) (ht : t.length = 16) (hp : 1 ≤ p ∧ p ≤ 2147483647) : Spec Tryz.prog 86 [.agg (encTa t), rI p] (.val (rI (Ta.seek t p))) := by
  refine spec_val mixed fn86 (by simp) ?_
  unfold ac86
  simp -implicitDefEqProofs only [↓aP, aR, ↓reduceIte, reduceCtorEq, seval, encTa]
  refine rangeB 16 (fun i σ => (∀ j, j < i → Ta.hit t p (Ta.pl p j) = false) ∧ σ.slot 1 = vI p ∧ σ.slot 2 = .c (.ptr 2 1 0 0) ∧ σ.h.gen 2 = 1 ∧ σ.h.blk 2 = .box 31 1 [(encTa t).map AC.s] ∧ σ.slot 8 = vI i) ?_ ?_ ?_
  · simp -implicitDefEqProofs only [↓aP, aR, ↓reduceIte, reduceCtorEq, seval, encTa]
    exact fun j hj => by omega
  · rintro i m σ him hi hlt ⟨hno, s1, s2, g2, b2, s8⟩
    have hi16 : decide ((i : Int) < 16) = true := by simp; omega
    have e : (IntKind.i64.wrap (p + (i : Int))).tmod 16 = ((Ta.pl p i : Nat) : Int) := by
      rw [wrapI (x := p + (i : Int)) (by omega), Int.tmod_eq_emod_of_nonneg (by omega)]
      unfold Ta.pl
      omega
    have hpl := Ta.pl_lt (p := p) (i := i)
    have hk : Ta.pl p i < t.length := by omega
    have ha := Ta.at_get hk
    have hh : Ta.hit t p (Ta.pl p i) = ((t[Ta.pl p i].p == p) || Ta.free t[Ta.pl p i]) := by unfold Ta.hit; rw [ha]
    simp -implicitDefEqProofs only [↓aP, aR, ↓reduceIte, reduceCtorEq, seval, hi16, s1, s2, g2, b2, s8, encTa, e, askIdx_map, hk, encSl]
    cases h1 : (t[Ta.pl p i].p == p)
    · simp -implicitDefEqProofs only [↓aP, aR, ↓reduceIte, reduceCtorEq, seval, h1]
      refine ask (tfree_spec t[Ta.pl p i]) ?_
      rw [h1] at hh
      cases h2 : Ta.free t[Ta.pl p i]
      · rw [h2] at hh
        simp -implicitDefEqProofs only [↓aP, aR, ↓reduceIte, reduceCtorEq, seval, h2, s1, s2, g2, b2, s8, encTa, wrapS (show i < 4611686018427387904 by omega)]
        refine nextR hi him ⟨fun j hj => ?_, ?_⟩
        · by_cases ej : j = i
          · subst ej; rw [hh]; rfl
          · exact hno j (by omega)
        · simp -implicitDefEqProofs only [↓aP, aR, ↓reduceIte, reduceCtorEq, seval, s1, s2, g2, b2, s8, encTa]
      · rw [h2] at hh
        simp -implicitDefEqProofs only [↓aP, aR, ↓reduceIte, reduceCtorEq, seval, h2, s1, s2, g2, b2, s8, Ta.seek_at hi (by rw [hh]; rfl) hno]
    · rw [h1] at hh
      simp -implicitDefEqProofs only [↓aP, aR, ↓reduceIte, reduceCtorEq, seval, h1, s1, s2, g2, b2, s8, Ta.seek_at hi (by rw [hh]; rfl) hno]
  · rintro m σ hlt ⟨hno, s1, s2, g2, b2, s8⟩
    simp -implicitDefEqProofs only [↓aP, aR, ↓reduceIte, reduceCtorEq, seval, hlt, s1, s2, g2, b2, s8, Ta.seek_none hno]
def encSlot (x : Int × Bool) : TV SC := .tup [(false, [.pv (.int .i64 x.1)]), (false, [.pv (.bool x.2)])]
theorem tslot_spec (t : List Sl) (p : Int) (ht : t.length = 16) : Spec Tryz.prog 91 [.agg (encTa t), rI p] (.val (encSlot (Ta.slot t p))) := by
  refine spec_val mixed fn91 (by simp) ?_
  unfold ac91
  simp -implicitDefEqProofs only [↓aP, aR, ↓reduceIte, reduceCtorEq, seval, encTa]
  refine ask (tisP_spec p) ?_
  cases hp : Ta.isP p
  · simp -implicitDefEqProofs only [↓aP, aR, ↓reduceIte, reduceCtorEq, seval, encSlot, Ta.slot, hp, Bool.false_eq_true]
  simp -implicitDefEqProofs only [↓aP, aR, ↓reduceIte, reduceCtorEq, seval, encTa]
  refine ask (tseek_spec t p ht (isP_iff.1 hp)) ?_
  have e : Ta.slot t p = (Ta.seek t p, decide (0 ≤ Ta.seek t p ∧ (Ta.at' t (Ta.seek t p).toNat).p = p)) := by unfold Ta.slot; rw [if_pos hp]
  rcases Ta.seek_range (t := t) (p := p) with h | ⟨i, hi, h, _, _⟩
  · simp -implicitDefEqProofs only [↓aP, aR, ↓reduceIte, reduceCtorEq, seval, e, h, encSlot, encTa]
    decide +kernel
  · have hpl := Ta.pl_lt (p := p) (i := i)
    have hk : Ta.pl p i < t.length := by omega
    have ha := Ta.at_get hk
    have e2 : decide ((0 : Int) ≤ ((Ta.pl p i : Nat) : Int)) = true := by simp
    simp -implicitDefEqProofs only [↓aP, aR, ↓reduceIte, reduceCtorEq, seval, e, h, encSlot, encTa, e2, askIdx_map, hk, encSl, Int.toNat_natCast, ha]
    exact ⟨by decide +kernel, by rw [Bool.eq_iff_iff]; simp⟩
theorem tRight_spec (t : List Sl) : Spec Tryz.prog 44 [.agg (encTa t)] (.val (rB (Ta.right t))) := by
  refine spec_val mixed fn44 (by simp) ?_
  unfold ac44
  by_cases ht : t.length = 16
  case neg =>
    have e : Ta.right t = false := by unfold Ta.right; rw [decide_eq_false ht]; rfl
    simp -implicitDefEqProofs only [↓aP, aR, ↓reduceIte, reduceCtorEq, seval, encTa, List.length_map, show ((t.length : Int) != 16) = true by simp; omega, e]
  simp -implicitDefEqProofs only [↓aP, aR, ↓reduceIte, reduceCtorEq, seval, encTa, List.length_map, ht, bne_self_eq_false]
  refine rangeB 16 (fun i σ => (∀ j, j < i → Ta.okS t j = true) ∧ σ.slot 1 = .c (.ptr 1 1 0 0) ∧ σ.h.gen 1 = 1 ∧ σ.h.blk 1 = .box 31 1 [(encTa t).map AC.s] ∧ σ.slot 10 = vL 2 (t.map encSl) ∧ σ.slot 11 = vI 16 ∧ σ.slot 12 = vI i) ?_ ?_ ?_
  · simp -implicitDefEqProofs only [↓aP, aR, ↓reduceIte, reduceCtorEq, seval, encTa]
    exact fun j hj => by omega
  · rintro i m σ him hi hlt ⟨hall, s1, g1, b1, s10, s11, s12⟩
    have hi16 : decide ((i : Int) < 16) = true := by simp; omega
    have hk : i < t.length := by omega
    have ha := Ta.at_get hk
    have hok : Ta.okS t i = (Ta.free t[i] || (Ta.isP t[i].p && Ta.isF t[i].f && decide (Ta.seek t t[i].p = i))) := by unfold Ta.okS; rw [ha]
    have bad : Ta.okS t i = false → Ta.right t = false := fun h => by
      cases hr : Ta.right t
      · rfl
      · have := (Ta.right_iff.1 hr).2 i hi; rw [h] at this; cases this
    have nxt : Ta.okS t i = true → ∀ j, j < i + 1 → Ta.okS t j = true := fun h j hj => by
      by_cases ej : j = i
      · subst ej; exact h
      · exact hall j (by omega)
    simp -implicitDefEqProofs only [↓aP, aR, ↓reduceIte, reduceCtorEq, seval, hi16, s1, g1, b1, s10, s11, s12, askIdx_map, hk, encSl]
    refine ask (tfree_spec t[i]) ?_
    cases hf : Ta.free t[i]
    · rw [hf, Bool.false_or] at hok
      simp -implicitDefEqProofs only [↓aP, aR, ↓reduceIte, reduceCtorEq, seval, s1, g1, b1, s10, s11, s12, encSl]
      refine ask (tisP_spec t[i].p) ?_
      cases hP : Ta.isP t[i].p
      · have e := bad (by rw [hok, hP]; rfl)
        simp -implicitDefEqProofs only [↓aP, aR, ↓reduceIte, reduceCtorEq, seval, e]
      · simp -implicitDefEqProofs only [↓aP, aR, ↓reduceIte, reduceCtorEq, seval, s1, g1, b1, s10, s11, s12, encSl]
        refine ask (tisF_spec t[i].f) ?_
        cases hF : Ta.isF t[i].f
        · have e := bad (by rw [hok, hF, Bool.and_false]; rfl)
          simp -implicitDefEqProofs only [↓aP, aR, ↓reduceIte, reduceCtorEq, seval, e]
        · simp -implicitDefEqProofs only [↓aP, aR, ↓reduceIte, reduceCtorEq, seval, s1, g1, b1, s10, s11, s12, encSl, encTa]
          refine ask (tseek_spec t t[i].p ht (isP_iff.1 hP)) ?_
          rw [hP, hF, Bool.true_and, Bool.true_and] at hok
          by_cases hs : Ta.seek t t[i].p = i
          · simp -implicitDefEqProofs only [↓aP, aR, ↓reduceIte, reduceCtorEq, seval, hs, bne_self_eq_false, s1, g1, b1, s10, s11, s12, wrapS (show i < 4611686018427387904 by omega)]
            refine nextR hi him ⟨nxt (by rw [hok, decide_eq_true hs]), ?_⟩
            simp -implicitDefEqProofs only [↓aP, aR, ↓reduceIte, reduceCtorEq, seval, s1, g1, b1, s10, s11, s12, encTa]
          · have e := bad (by rw [hok, decide_eq_false hs])
            simp -implicitDefEqProofs only [↓aP, aR, ↓reduceIte, reduceCtorEq, seval, show (Ta.seek t t[i].p != (i : Int)) = true by simpa using hs, e]
    · simp -implicitDefEqProofs only [↓aP, aR, ↓reduceIte, reduceCtorEq, seval, s1, g1, b1, s10, s11, s12, encTa, wrapS (show i < 4611686018427387904 by omega)]
      refine nextR hi him ⟨nxt (by rw [hok, hf]; rfl), ?_⟩
      simp -implicitDefEqProofs only [↓aP, aR, ↓reduceIte, reduceCtorEq, seval, s1, g1, b1, s10, s11, s12, encTa]
  · rintro m σ hlt ⟨hall, s1, g1, b1, s10, s11, s12⟩
    simp -implicitDefEqProofs only [↓aP, aR, ↓reduceIte, reduceCtorEq, seval, hlt, s1, g1, b1, s10, s11, s12, Ta.right_iff.2 ⟨ht, hall⟩]
end Go.Proofs.YtcbfhpnmhhnjpaaGreat

