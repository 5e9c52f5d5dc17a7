/- layer 3's reference: Crash. -/
import Derived.Test.YtmknfchmnangbaaRef2
namespace Go.Proofs.Ytmknfchmnangbaa
open Go.RowKit
set_option linter.unusedVariables false
set_option linter.unusedSimpArgs false
theorem mark_get (m : List Bool) (k : Int) (j : Nat) (hj : j < m.length) : (mark m k)[j]? = some (m[j] || (k == (j : Int))) := by
  unfold mark
  split
  · rename_i h
    by_cases e : k = (j : Int)
    · have : k.toNat = j := by omega
      rw [this, List.getElem?_set_self hj]
      simp [e]
    · have : k.toNat ≠ j := by omega
      rw [List.getElem?_set_ne this, List.getElem?_eq_getElem hj]
      have : (k == (j : Int)) = false := by simpa using e
      rw [this, Bool.or_false]
  · rename_i h
    have : (k == (j : Int)) = false := by
      cases hq : (k == (j : Int)) with
      | false => rfl
      | true =>
        have : k = (j : Int) := by simpa using hq
        omega
    rw [this, Bool.or_false, List.getElem?_eq_getElem hj]
theorem marks_fold (keep : List Int) : ∀ (m : List Bool) (j : Nat) (hj : j < m.length), (keep.foldl mark m)[j]? = some (m[j] || keep.contains (j : Int)) := by
  induction keep with
  | nil => intro m j hj; simp [hj]
  | cons k ks ih =>
    intro m j hj
    have h1 : j < (mark m k).length := by rw [mark_len]; exact hj
    rw [List.foldl_cons, ih _ j h1]
    have h2 := mark_get m k j hj
    rw [List.getElem?_eq_getElem h1] at h2
    simp only [Option.some.injEq] at h2
    rw [h2, List.contains_cons]
    have : (k == (j : Int)) = ((j : Int) == k) := by
      rw [Bool.eq_iff_iff, beq_iff_eq, beq_iff_eq]
      exact ⟨fun h => h.symm, fun h => h.symm⟩
    rw [this, Bool.or_assoc]
theorem marks_get (n : Nat) (keep : List Int) (j : Nat) (hj : j < n) (h2 : j < (marks n keep).length) : (marks n keep)[j] = keep.contains (j : Int) := by
  have := marks_fold keep (List.replicate n false) j (by simpa using hj)
  rw [show List.foldl mark (List.replicate n false) keep = marks n keep from rfl, List.getElem?_eq_getElem h2] at this
  simpa using this
/-- a sector, as far as the writes have been gone through -/
def curS (d : Dk) (keep : List Int) (at_ j : Nat) (o : ByteArray) : ByteArray := match lookB (keptW (d.cache.take j) ((marks d.cache.length keep).take j)) at_ with
  | some w => w.data
  | none => o
theorem curS_succ {d : Dk} {keep : List Int} {at_ j : Nat} {o : ByteArray} (hj : j < d.cache.length) : curS d keep at_ (j + 1) o = if ((d.cache[j].at_ == (at_ : Int)) && keep.contains (j : Int)) = true then d.cache[j].data else curS d keep at_ j o := by
  have hj2 : j < (marks d.cache.length keep).length := by rw [marks_len]; exact hj
  unfold curS
  rw [take_snoc hj, take_snoc hj2, keptW_snoc (by simp [marks_len]), marks_get _ _ _ hj hj2]
  cases hc : keep.contains (j : Int)
  · simp
  · simp only [if_true, Bool.and_true]
    rw [lookB_snoc]
    by_cases e : d.cache[j].at_ = (at_ : Int)
    · simp [e]
    · simp [e]
theorem crash_at {d : Dk} {keep : List Int} (h : rightB d = true) {i : Nat} (hi : i < d.sectors.length) (hc : i < (crashD d keep).sectors.length) : curS d keep i d.cache.length d.sectors[i] = (crashD d keep).sectors[i] := by
  have e : crashD d keep = doneD d (keptW d.cache (marks d.cache.length keep)) := by simp [crashD, h]
  have key : (crashD d keep).sectors[i]? = match lookB (keptW d.cache (marks d.cache.length keep)) i with
    | some w => some w.data
    | none => d.sectors[i]? := by
    rw [e]
    exact doneS_at d.sectors i hi _ _ rfl (fun w hw => ((fits_has (right_fits h w (keptW_sub hw))).1).1)
  rw [List.getElem?_eq_getElem hc, List.getElem?_eq_getElem hi] at key
  unfold curS
  have e2 : (marks d.cache.length keep).take d.cache.length = marks d.cache.length keep := List.take_of_length_le (by rw [marks_len]; omega)
  rw [List.take_length, e2]
  cases hl : lookB (keptW d.cache (marks d.cache.length keep)) i with
  | none => rw [hl] at key; simpa using key.symm
  | some w => rw [hl] at key; simpa using key.symm
theorem crash_len2 {d : Dk} {keep : List Int} (h : rightB d = true) : (crashD d keep).sectors.length = d.sectors.length ∧ (crashD d keep).cache = [] := by
  have e : crashD d keep = doneD d (keptW d.cache (marks d.cache.length keep)) := by simp [crashD, h]
  rw [e]
  exact ⟨doneS_len _ _, rfl⟩

theorem refCrash_spec (d : Dk) (keep : List Int) (hr : rightB d = true) (hk : keep.length < 4611686018427387904) : Spec Try.prog 26 [.agg (encDk d), rL 1 (keep.map encI)] (.val (.agg (encDk (crashD d keep)))) := by
  refine spec_val mixed fn26 (by simp) ?_
  unfold ac26
  have hl := right_len hr
  obtain ⟨hsl, hsc⟩ := crash_len2 (keep := keep) hr
  have hat : ∀ i, (hi : i < d.sectors.length) → ∀ hi2 : i < (crashD d keep).sectors.length, curS d keep i d.cache.length d.sectors[i] = (crashD d keep).sectors[i] := fun i hi hi2 => crash_at hr hi hi2
  obtain ⟨z, hz⟩ : ∃ z, z = crashD d keep := ⟨_, rfl⟩
  rw [← hz] at hsl hsc hat ⊢
  simp -implicitDefEqProofs only [↓aP, aQ, ↓reduceIte, Nat.reduceEqDiff, Nat.reduceAdd, Nat.reduceSub, Nat.reduceMul, Nat.reduceLT, Nat.reduceLeDiff, reduceCtorEq, Nat.reduceBEq, forall_const, implies_true, exists_const, ne_eq, Int.reduceAdd, Int.reduceSub, Int.reduceMul, Int.reduceBEq, Int.reduceEq, Int.reduceLT, Int.reduceLE, Int.reduceToNat, Int.reduceNeg, Int.reduceBNe, encDk, hsc]
  refine loopA (fun m σ => ∃ i, i + m = d.sectors.length ∧ ∃ x, Grown σ x 51 9 1 ((z.sectors.take i).map encS) ∧ σ.slot 6 = vI i ∧ σ.slot 1 = vL 1 (keep.map encI) ∧ σ.slot 2 = .c (.ptr 2 1 0 0) ∧ σ.h.gen 2 = 1 ∧ σ.h.blk 2 = .box 25 2 [[.s (.sl 1 (d.sectors.map encS)), .s (.sl 2 (d.cache.map encWr))]] ∧ σ.slot 4 = .c (.ptr 4 1 0 0) ∧ σ.h.gen 4 = 1 ∧ σ.h.blk 4 = .box 25 2 [[.zc, .zc]] ∧ σ.slot 5 = .c (.ptr 5 1 0 0) ∧ σ.h.gen 5 = 1 ∧ σ.h.blk 5 = .box 25 2 [[x, .zc]]) d.sectors.length ?_ ?_
  · simp -implicitDefEqProofs only [↓aP, aQ, ↓reduceIte, Nat.reduceEqDiff, Nat.reduceAdd, Nat.reduceSub, Nat.reduceMul, Nat.reduceLT, Nat.reduceLeDiff, reduceCtorEq, Nat.reduceBEq, forall_const, implies_true, exists_const, ne_eq, Int.reduceAdd, Int.reduceSub, Int.reduceMul, Int.reduceBEq, Int.reduceEq, Int.reduceLT, Int.reduceLE, Int.reduceToNat, Int.reduceNeg, Int.reduceBNe]
    refine ⟨0, by omega, .zc, .inl ⟨rfl, rfl⟩, ?_⟩
    simp -implicitDefEqProofs only [↓aP, aQ, ↓reduceIte, Nat.reduceEqDiff, Nat.reduceAdd, Nat.reduceSub, Nat.reduceMul, Nat.reduceLT, Nat.reduceLeDiff, reduceCtorEq, Nat.reduceBEq, forall_const, implies_true, exists_const, ne_eq, Int.reduceAdd, Int.reduceSub, Int.reduceMul, Int.reduceBEq, Int.reduceEq, Int.reduceLT, Int.reduceLE, Int.reduceToNat, Int.reduceNeg, Int.reduceBNe]
  · rintro m σ ⟨i, him, x, hx, s6, s1, s2, g2, b2, s4, g4, b4, s5, g5, b5⟩
    simp -implicitDefEqProofs only [↓aP, aQ, ↓reduceIte, Nat.reduceEqDiff, Nat.reduceAdd, Nat.reduceSub, Nat.reduceMul, Nat.reduceLT, Nat.reduceLeDiff, reduceCtorEq, Nat.reduceBEq, forall_const, implies_true, exists_const, ne_eq, Int.reduceAdd, Int.reduceSub, Int.reduceMul, Int.reduceBEq, Int.reduceEq, Int.reduceLT, Int.reduceLE, Int.reduceToNat, Int.reduceNeg, Int.reduceBNe, s6, s1, s2, g2, b2, s4, g4, b4, s5, g5, b5]
    refine fork ?_ ?_ <;> intro hf
    · have hi : i < d.sectors.length := by simpa using hf
      have hi2 : i < z.sectors.length := by omega
      have htl : (z.sectors.take i).length = i := by rw [List.length_take]; omega
      simp -implicitDefEqProofs only [↓aP, aQ, ↓reduceIte, Nat.reduceEqDiff, Nat.reduceAdd, Nat.reduceSub, Nat.reduceMul, Nat.reduceLT, Nat.reduceLeDiff, reduceCtorEq, Nat.reduceBEq, forall_const, implies_true, exists_const, ne_eq, Int.reduceAdd, Int.reduceSub, Int.reduceMul, Int.reduceBEq, Int.reduceEq, Int.reduceLT, Int.reduceLE, Int.reduceToNat, Int.reduceNeg, Int.reduceBNe, s6, s1, s2, g2, b2, s4, g4, b4, s5, g5, b5, askIdx_map, hi, encS]
      refine loopA (fun m σ => ∃ j, j + m = d.cache.length ∧ σ.slot 8 = vI j ∧ σ.slot 7 = vS (curS d keep i j d.sectors[i]) ∧ Grown σ x 51 9 1 ((z.sectors.take i).map encS) ∧ σ.slot 6 = vI i ∧ σ.slot 1 = vL 1 (keep.map encI) ∧ σ.slot 2 = .c (.ptr 2 1 0 0) ∧ σ.h.gen 2 = 1 ∧ σ.h.blk 2 = .box 25 2 [[.s (.sl 1 (d.sectors.map encS)), .s (.sl 2 (d.cache.map encWr))]] ∧ σ.slot 4 = .c (.ptr 4 1 0 0) ∧ σ.h.gen 4 = 1 ∧ σ.h.blk 4 = .box 25 2 [[.zc, .zc]] ∧ σ.slot 5 = .c (.ptr 5 1 0 0) ∧ σ.h.gen 5 = 1 ∧ σ.h.blk 5 = .box 25 2 [[x, .zc]]) d.cache.length ?_ ?_
      · simp -implicitDefEqProofs only [↓aP, aQ, ↓reduceIte, Nat.reduceEqDiff, Nat.reduceAdd, Nat.reduceSub, Nat.reduceMul, Nat.reduceLT, Nat.reduceLeDiff, reduceCtorEq, Nat.reduceBEq, forall_const, implies_true, exists_const, ne_eq, Int.reduceAdd, Int.reduceSub, Int.reduceMul, Int.reduceBEq, Int.reduceEq, Int.reduceLT, Int.reduceLE, Int.reduceToNat, Int.reduceNeg, Int.reduceBNe, s6, s1, s2, g2, b2, s4, g4, b4, s5, g5, b5]
        refine ⟨0, by omega, rfl, ?_⟩
        refine ⟨by simp [curS, lookB, keptW], ?_⟩
        rcases hx with ⟨hx, he⟩ | ⟨g, hx, g51, b51⟩
        · exact .inl ⟨hx, he⟩
        · exact .inr ⟨g, hx, by simp -implicitDefEqProofs only [↓aP, aQ, ↓reduceIte, Nat.reduceEqDiff, Nat.reduceAdd, Nat.reduceSub, Nat.reduceMul, Nat.reduceLT, Nat.reduceLeDiff, reduceCtorEq, Nat.reduceBEq, forall_const, implies_true, exists_const, ne_eq, Int.reduceAdd, Int.reduceSub, Int.reduceMul, Int.reduceBEq, Int.reduceEq, Int.reduceLT, Int.reduceLE, Int.reduceToNat, Int.reduceNeg, Int.reduceBNe, g51], by simp -implicitDefEqProofs only [↓aP, aQ, ↓reduceIte, Nat.reduceEqDiff, Nat.reduceAdd, Nat.reduceSub, Nat.reduceMul, Nat.reduceLT, Nat.reduceLeDiff, reduceCtorEq, Nat.reduceBEq, forall_const, implies_true, exists_const, ne_eq, Int.reduceAdd, Int.reduceSub, Int.reduceMul, Int.reduceBEq, Int.reduceEq, Int.reduceLT, Int.reduceLE, Int.reduceToNat, Int.reduceNeg, Int.reduceBNe, b51]⟩
      · clear hx s6 s1 s2 g2 b2 s4 g4 b4 s5 g5 b5 hf
        rintro m2 σ ⟨j, hjm, s8, s7, hx, s6, s1, s2, g2, b2, s4, g4, b4, s5, g5, b5⟩
        simp -implicitDefEqProofs only [↓aP, aQ, ↓reduceIte, Nat.reduceEqDiff, Nat.reduceAdd, Nat.reduceSub, Nat.reduceMul, Nat.reduceLT, Nat.reduceLeDiff, reduceCtorEq, Nat.reduceBEq, forall_const, implies_true, exists_const, ne_eq, Int.reduceAdd, Int.reduceSub, Int.reduceMul, Int.reduceBEq, Int.reduceEq, Int.reduceLT, Int.reduceLE, Int.reduceToNat, Int.reduceNeg, Int.reduceBNe, s8, s7, s6, s1, s2, g2, b2, s4, g4, b4, s5, g5, b5]
        refine fork ?_ ?_ <;> intro hf
        · have hj : j < d.cache.length := by simpa using hf
          have ec := curS_succ (d := d) (keep := keep) (at_ := i) (o := d.sectors[i]) hj
          have keepG : ∀ σ' : St, σ'.h.gen 51 = σ.h.gen 51 → σ'.h.blk 51 = σ.h.blk 51 → Grown σ' x 51 9 1 ((z.sectors.take i).map encS) := by
            intro σ' e1 e2
            rcases hx with ⟨hx, he⟩ | ⟨g, hx, g51, b51⟩
            · exact .inl ⟨hx, he⟩
            · exact .inr ⟨g, hx, e1.trans g51, e2.trans b51⟩
          simp -implicitDefEqProofs only [↓aP, aQ, ↓reduceIte, Nat.reduceEqDiff, Nat.reduceAdd, Nat.reduceSub, Nat.reduceMul, Nat.reduceLT, Nat.reduceLeDiff, reduceCtorEq, Nat.reduceBEq, forall_const, implies_true, exists_const, ne_eq, Int.reduceAdd, Int.reduceSub, Int.reduceMul, Int.reduceBEq, Int.reduceEq, Int.reduceLT, Int.reduceLE, Int.reduceToNat, Int.reduceNeg, Int.reduceBNe, s8, s7, s6, s1, s2, g2, b2, s4, g4, b4, s5, g5, b5, askIdx_map, hj, encWr]
          cases q : (d.cache[j].at_ == (i : Int))
          · rw [q, Bool.false_and, if_neg (by simp)] at ec
            simp -implicitDefEqProofs only [↓aP, aQ, ↓reduceIte, Nat.reduceEqDiff, Nat.reduceAdd, Nat.reduceSub, Nat.reduceMul, Nat.reduceLT, Nat.reduceLeDiff, reduceCtorEq, Nat.reduceBEq, forall_const, implies_true, exists_const, ne_eq, Int.reduceAdd, Int.reduceSub, Int.reduceMul, Int.reduceBEq, Int.reduceEq, Int.reduceLT, Int.reduceLE, Int.reduceToNat, Int.reduceNeg, Int.reduceBNe, s8, s7, s6, s1, s2, g2, b2, s4, g4, b4, s5, g5, b5, wrapS (show j < 4611686018427387904 by omega)]
            refine ⟨m2 - 1, by omega, j + 1, by omega, rfl, ?_⟩
            simp -implicitDefEqProofs only [↓aP, aQ, ↓reduceIte, Nat.reduceEqDiff, Nat.reduceAdd, Nat.reduceSub, Nat.reduceMul, Nat.reduceLT, Nat.reduceLeDiff, reduceCtorEq, Nat.reduceBEq, forall_const, implies_true, exists_const, ne_eq, Int.reduceAdd, Int.reduceSub, Int.reduceMul, Int.reduceBEq, Int.reduceEq, Int.reduceLT, Int.reduceLE, Int.reduceToNat, Int.reduceNeg, Int.reduceBNe, ec]
            exact keepG _ rfl rfl
          · rw [q, Bool.true_and] at ec
            simp -implicitDefEqProofs only [↓aP, aQ, ↓reduceIte, Nat.reduceEqDiff, Nat.reduceAdd, Nat.reduceSub, Nat.reduceMul, Nat.reduceLT, Nat.reduceLeDiff, reduceCtorEq, Nat.reduceBEq, forall_const, implies_true, exists_const, ne_eq, Int.reduceAdd, Int.reduceSub, Int.reduceMul, Int.reduceBEq, Int.reduceEq, Int.reduceLT, Int.reduceLE, Int.reduceToNat, Int.reduceNeg, Int.reduceBNe, s8, s7, s6, s1, s2, g2, b2, s4, g4, b4, s5, g5, b5]
            refine ask (in_spec keep j hk) ?_
            cases q2 : keep.contains (j : Int)
            · rw [q2, if_neg (by simp)] at ec
              simp -implicitDefEqProofs only [↓aP, aQ, ↓reduceIte, Nat.reduceEqDiff, Nat.reduceAdd, Nat.reduceSub, Nat.reduceMul, Nat.reduceLT, Nat.reduceLeDiff, reduceCtorEq, Nat.reduceBEq, forall_const, implies_true, exists_const, ne_eq, Int.reduceAdd, Int.reduceSub, Int.reduceMul, Int.reduceBEq, Int.reduceEq, Int.reduceLT, Int.reduceLE, Int.reduceToNat, Int.reduceNeg, Int.reduceBNe, s8, s7, s6, s1, s2, g2, b2, s4, g4, b4, s5, g5, b5, wrapS (show j < 4611686018427387904 by omega)]
              refine ⟨m2 - 1, by omega, j + 1, by omega, rfl, ?_⟩
              simp -implicitDefEqProofs only [↓aP, aQ, ↓reduceIte, Nat.reduceEqDiff, Nat.reduceAdd, Nat.reduceSub, Nat.reduceMul, Nat.reduceLT, Nat.reduceLeDiff, reduceCtorEq, Nat.reduceBEq, forall_const, implies_true, exists_const, ne_eq, Int.reduceAdd, Int.reduceSub, Int.reduceMul, Int.reduceBEq, Int.reduceEq, Int.reduceLT, Int.reduceLE, Int.reduceToNat, Int.reduceNeg, Int.reduceBNe, ec]
              exact keepG _ rfl rfl
            · rw [q2, if_pos rfl] at ec
              simp -implicitDefEqProofs only [↓aP, aQ, ↓reduceIte, Nat.reduceEqDiff, Nat.reduceAdd, Nat.reduceSub, Nat.reduceMul, Nat.reduceLT, Nat.reduceLeDiff, reduceCtorEq, Nat.reduceBEq, forall_const, implies_true, exists_const, ne_eq, Int.reduceAdd, Int.reduceSub, Int.reduceMul, Int.reduceBEq, Int.reduceEq, Int.reduceLT, Int.reduceLE, Int.reduceToNat, Int.reduceNeg, Int.reduceBNe, s8, s7, s6, s1, s2, g2, b2, s4, g4, b4, s5, g5, b5, askIdx_map, hj, encWr, wrapS (show j < 4611686018427387904 by omega)]
              refine ⟨m2 - 1, by omega, j + 1, by omega, rfl, ?_⟩
              simp -implicitDefEqProofs only [↓aP, aQ, ↓reduceIte, Nat.reduceEqDiff, Nat.reduceAdd, Nat.reduceSub, Nat.reduceMul, Nat.reduceLT, Nat.reduceLeDiff, reduceCtorEq, Nat.reduceBEq, forall_const, implies_true, exists_const, ne_eq, Int.reduceAdd, Int.reduceSub, Int.reduceMul, Int.reduceBEq, Int.reduceEq, Int.reduceLT, Int.reduceLE, Int.reduceToNat, Int.reduceNeg, Int.reduceBNe, ec]
              exact keepG _ rfl rfl
        · have hj : j = d.cache.length := by simp at hf; omega
          rw [hj, hat i hi hi2] at s7
          rcases hx with ⟨rfl, he⟩ | ⟨g, rfl, g51, b51⟩
          · simp -implicitDefEqProofs only [↓aP, aQ, ↓reduceIte, Nat.reduceEqDiff, Nat.reduceAdd, Nat.reduceSub, Nat.reduceMul, Nat.reduceLT, Nat.reduceLeDiff, reduceCtorEq, Nat.reduceBEq, forall_const, implies_true, exists_const, ne_eq, Int.reduceAdd, Int.reduceSub, Int.reduceMul, Int.reduceBEq, Int.reduceEq, Int.reduceLT, Int.reduceLE, Int.reduceToNat, Int.reduceNeg, Int.reduceBNe, s8, s7, s6, s1, s2, g2, b2, s4, g4, b4, s5, g5, b5, wrapS (show i < 4611686018427387904 by omega)]
            refine ⟨m - 1, by omega, i + 1, by omega, .own 51 (σ.h.gen 51 + 1), .inr ⟨_, rfl, ?_, ?_⟩, ?_⟩
            · simp -implicitDefEqProofs only [↓aP, aQ, ↓reduceIte, Nat.reduceEqDiff, Nat.reduceAdd, Nat.reduceSub, Nat.reduceMul, Nat.reduceLT, Nat.reduceLeDiff, reduceCtorEq, Nat.reduceBEq, forall_const, implies_true, exists_const, ne_eq, Int.reduceAdd, Int.reduceSub, Int.reduceMul, Int.reduceBEq, Int.reduceEq, Int.reduceLT, Int.reduceLE, Int.reduceToNat, Int.reduceNeg, Int.reduceBNe]
            · simp -implicitDefEqProofs only [↓aP, aQ, ↓reduceIte, Nat.reduceEqDiff, Nat.reduceAdd, Nat.reduceSub, Nat.reduceMul, Nat.reduceLT, Nat.reduceLeDiff, reduceCtorEq, Nat.reduceBEq, forall_const, implies_true, exists_const, ne_eq, Int.reduceAdd, Int.reduceSub, Int.reduceMul, Int.reduceBEq, Int.reduceEq, Int.reduceLT, Int.reduceLE, Int.reduceToNat, Int.reduceNeg, Int.reduceBNe]
              rw [take_snoc hi2, List.map_append, he]
              rfl
            · simp -implicitDefEqProofs only [↓aP, aQ, ↓reduceIte, Nat.reduceEqDiff, Nat.reduceAdd, Nat.reduceSub, Nat.reduceMul, Nat.reduceLT, Nat.reduceLeDiff, reduceCtorEq, Nat.reduceBEq, forall_const, implies_true, exists_const, ne_eq, Int.reduceAdd, Int.reduceSub, Int.reduceMul, Int.reduceBEq, Int.reduceEq, Int.reduceLT, Int.reduceLE, Int.reduceToNat, Int.reduceNeg, Int.reduceBNe, s6, s1, s2, g2, b2, s4, g4, b4, s5, g5, b5]
          · simp -implicitDefEqProofs only [↓aP, aQ, ↓reduceIte, Nat.reduceEqDiff, Nat.reduceAdd, Nat.reduceSub, Nat.reduceMul, Nat.reduceLT, Nat.reduceLeDiff, reduceCtorEq, Nat.reduceBEq, forall_const, implies_true, exists_const, ne_eq, Int.reduceAdd, Int.reduceSub, Int.reduceMul, Int.reduceBEq, Int.reduceEq, Int.reduceLT, Int.reduceLE, Int.reduceToNat, Int.reduceNeg, Int.reduceBNe, s8, s7, s6, s1, s2, g2, b2, s4, g4, b4, s5, g5, b5, g51, b51, htl, wrapS (show i < 4611686018427387904 by omega)]
            refine ⟨by omega, by omega, m - 1, by omega, i + 1, by omega, .own 51 (g + 1), .inr ⟨_, rfl, ?_, ?_⟩, ?_⟩
            · simp -implicitDefEqProofs only [↓aP, aQ, ↓reduceIte, Nat.reduceEqDiff, Nat.reduceAdd, Nat.reduceSub, Nat.reduceMul, Nat.reduceLT, Nat.reduceLeDiff, reduceCtorEq, Nat.reduceBEq, forall_const, implies_true, exists_const, ne_eq, Int.reduceAdd, Int.reduceSub, Int.reduceMul, Int.reduceBEq, Int.reduceEq, Int.reduceLT, Int.reduceLE, Int.reduceToNat, Int.reduceNeg, Int.reduceBNe]
            · simp -implicitDefEqProofs only [↓aP, aQ, ↓reduceIte, Nat.reduceEqDiff, Nat.reduceAdd, Nat.reduceSub, Nat.reduceMul, Nat.reduceLT, Nat.reduceLeDiff, reduceCtorEq, Nat.reduceBEq, forall_const, implies_true, exists_const, ne_eq, Int.reduceAdd, Int.reduceSub, Int.reduceMul, Int.reduceBEq, Int.reduceEq, Int.reduceLT, Int.reduceLE, Int.reduceToNat, Int.reduceNeg, Int.reduceBNe]
              rw [take_snoc hi2, List.map_append]
              rfl
            · simp -implicitDefEqProofs only [↓aP, aQ, ↓reduceIte, Nat.reduceEqDiff, Nat.reduceAdd, Nat.reduceSub, Nat.reduceMul, Nat.reduceLT, Nat.reduceLeDiff, reduceCtorEq, Nat.reduceBEq, forall_const, implies_true, exists_const, ne_eq, Int.reduceAdd, Int.reduceSub, Int.reduceMul, Int.reduceBEq, Int.reduceEq, Int.reduceLT, Int.reduceLE, Int.reduceToNat, Int.reduceNeg, Int.reduceBNe, s6, s1, s2, g2, b2, s4, g4, b4, s5, g5, b5]
    · have hi : i = z.sectors.length := by simp at hf; omega
      rw [hi, List.take_length] at hx
      rcases hx with ⟨rfl, he⟩ | ⟨g, rfl, g51, b51⟩
      · simp -implicitDefEqProofs only [↓aP, aQ, ↓reduceIte, Nat.reduceEqDiff, Nat.reduceAdd, Nat.reduceSub, Nat.reduceMul, Nat.reduceLT, Nat.reduceLeDiff, reduceCtorEq, Nat.reduceBEq, forall_const, implies_true, exists_const, ne_eq, Int.reduceAdd, Int.reduceSub, Int.reduceMul, Int.reduceBEq, Int.reduceEq, Int.reduceLT, Int.reduceLE, Int.reduceToNat, Int.reduceNeg, Int.reduceBNe, s6, s1, s2, g2, b2, s4, g4, b4, s5, g5, b5]
        rw [he]
        exact .refl _
      · simp -implicitDefEqProofs only [↓aP, aQ, ↓reduceIte, Nat.reduceEqDiff, Nat.reduceAdd, Nat.reduceSub, Nat.reduceMul, Nat.reduceLT, Nat.reduceLeDiff, reduceCtorEq, Nat.reduceBEq, forall_const, implies_true, exists_const, ne_eq, Int.reduceAdd, Int.reduceSub, Int.reduceMul, Int.reduceBEq, Int.reduceEq, Int.reduceLT, Int.reduceLE, Int.reduceToNat, Int.reduceNeg, Int.reduceBNe, s6, s1, s2, g2, b2, s4, g4, b4, s5, g5, b5, g51, b51]
end Go.Proofs.Ytmknfchmnangbaa
