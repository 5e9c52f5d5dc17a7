/- layer 21: the contracts of the document's history. -/
import Derived.Test.YtbpipdgkkdifgaaH9
import Derived.Test.YtbpipdgkkdifgaaO12
import Derived.Test.YtbpipdgkkdifgaaSub
namespace Go.Proofs.Ytbpipdgkkdifgaa
open Go.RowKit Ok Ss Hi
set_option linter.unusedVariables false
set_option linter.unusedSimpArgs false
/-- an own row in a slot becomes what is shared -/
theorem sub_own {σ : St} {s l g ty e : Nat} {xs : List (List SC)} (hs : σ.slot s = .c (.own l g)) (hg : σ.h.gen l = g) (hb : σ.h.blk l = .row ty e xs) : Sub σ ⟨upd σ.slot s (.c (.s (.sl e xs))), σ.h.set l g (.ice (.sl e xs))⟩ := by
  subst hg
  intro O w0 n β a w r
  obtain ⟨β1, r1⟩ := sub_ice hb O w0 n β a w r
  refine ⟨β1, r1.toRelH, r1.hd, r1.hn, fun t => ?_⟩
  show RepT _ (upd σ.slot s _ t) _
  by_cases et : t = s
  · rw [et, upd_at]
    have hz := r1.slots s
    rw [show (⟨σ.slot, σ.h.set l (σ.h.gen l) (.ice (.sl e xs))⟩ : St).slot s = _ from hs] at hz
    have h2 := hz.2.2 (by show σ.h.gen l = (σ.h.set l (σ.h.gen l) (.ice (.sl e xs))).gen l; rw [Hp.gen_at])
    rw [show (⟨σ.slot, σ.h.set l (σ.h.gen l) (.ice (.sl e xs))⟩ : St).h.view l = VB.ice (.sl e xs) by show (upd σ.h.blk l (.ice (.sl e xs)) l).view = _; rw [upd_at]; rfl] at h2
    exact h2
  · rw [upd_ne _ _ et]; exact r1.slots t
abbrev tRe : Nat := 43

theorem events_spec (l : List Ev) (hl : l.length < 1000000) : Spec Try.prog 12 [rL 11 (l.map encEv)] (.row tRe 11 (l.map encEv)) := by
  refine spec_row mixed fn12 (by simp) ?_
  unfold ac12
  simp -implicitDefEqProofs only [↓aP, aQ, ↓reduceIte, Nat.reduceEqDiff, Nat.reduceAdd, Nat.reduceSub, Nat.reduceMul, Nat.reduceLT, Nat.reduceLeDiff, reduceCtorEq, Nat.reduceBEq, forall_const, implies_true, exists_const, ne_eq, Int.reduceAdd, Int.reduceSub, Int.reduceMul, Int.reduceBEq, Int.reduceEq, Int.reduceLT, Int.reduceLE, Int.reduceToNat, Int.reduceNeg, Int.reduceBNe]
  refine shift (sub_slot (s := 3) 31 tRe 11 rfl (by exact Nat.succ_pos _)) ?_
  refine rangeB l.length (fun i σ => ∃ g, σ.slot 3 = .c (.own 31 g) ∧ σ.h.gen 31 = g ∧ σ.h.blk 31 = .row tRe 11 ((l.take i).map encEv) ∧ σ.slot 6 = vL 11 (l.map encEv) ∧ σ.slot 7 = vI l.length ∧ σ.slot 8 = vI i) ?_ ?_ ?_
  · simp -implicitDefEqProofs only [↓aP, aQ, ↓reduceIte, Nat.reduceEqDiff, Nat.reduceAdd, Nat.reduceSub, Nat.reduceMul, Nat.reduceLT, Nat.reduceLeDiff, reduceCtorEq, Nat.reduceBEq, forall_const, implies_true, exists_const, ne_eq, Int.reduceAdd, Int.reduceSub, Int.reduceMul, Int.reduceBEq, Int.reduceEq, Int.reduceLT, Int.reduceLE, Int.reduceToNat, Int.reduceNeg, Int.reduceBNe, List.length_map, List.take_zero, List.map_nil]
    exact ⟨_, rfl, rfl⟩
  · rintro i m σ him hi hlt ⟨g, s3, g31, b31, s6, s7, s8⟩
    simp -implicitDefEqProofs only [↓aP, aQ, ↓reduceIte, Nat.reduceEqDiff, Nat.reduceAdd, Nat.reduceSub, Nat.reduceMul, Nat.reduceLT, Nat.reduceLeDiff, reduceCtorEq, Nat.reduceBEq, forall_const, implies_true, exists_const, ne_eq, Int.reduceAdd, Int.reduceSub, Int.reduceMul, Int.reduceBEq, Int.reduceEq, Int.reduceLT, Int.reduceLE, Int.reduceToNat, Int.reduceNeg, Int.reduceBNe, hlt, s3, g31, b31, s6, s7, s8, askIdx_map, hi, encEv]
    refine ⟨by simp; omega, by simp; omega, ?_⟩
    refine nextR hi him ⟨g + 1, ?_⟩
    simp -implicitDefEqProofs only [↓aP, aQ, ↓reduceIte, Nat.reduceEqDiff, Nat.reduceAdd, Nat.reduceSub, Nat.reduceMul, Nat.reduceLT, Nat.reduceLeDiff, reduceCtorEq, Nat.reduceBEq, forall_const, implies_true, exists_const, ne_eq, Int.reduceAdd, Int.reduceSub, Int.reduceMul, Int.reduceBEq, Int.reduceEq, Int.reduceLT, Int.reduceLE, Int.reduceToNat, Int.reduceNeg, Int.reduceBNe, s3, g31, b31, s6, s7, s8, wrapS (show i < 4611686018427387904 by omega), take_snoc hi, List.map_append, encEv]
  · rintro m σ hlt ⟨g, s3, g31, b31, s6, s7, s8⟩
    rw [List.take_length] at b31
    simp -implicitDefEqProofs only [↓aP, aQ, ↓reduceIte, Nat.reduceEqDiff, Nat.reduceAdd, Nat.reduceSub, Nat.reduceMul, Nat.reduceLT, Nat.reduceLeDiff, reduceCtorEq, Nat.reduceBEq, forall_const, implies_true, exists_const, ne_eq, Int.reduceAdd, Int.reduceSub, Int.reduceMul, Int.reduceBEq, Int.reduceEq, Int.reduceLT, Int.reduceLE, Int.reduceToNat, Int.reduceNeg, Int.reduceBNe, hlt, s3, g31, b31, s6, s7, s8]


set_option maxHeartbeats 1000000 in
theorem rSort_spec (l : List Ev) (hl : l.length < 1000000) : Spec Try.prog 16 [rL 11 (l.map encEv)] (.row tRe 11 ((sortD l).map encEv)) := by
  refine spec_row mixed fn16 (by simp) ?_
  unfold ac16
  simp -implicitDefEqProofs only [↓aP, aQ, ↓reduceIte, Nat.reduceEqDiff, Nat.reduceAdd, Nat.reduceSub, Nat.reduceMul, Nat.reduceLT, Nat.reduceLeDiff, reduceCtorEq, Nat.reduceBEq, forall_const, implies_true, exists_const, ne_eq, Int.reduceAdd, Int.reduceSub, Int.reduceMul, Int.reduceBEq, Int.reduceEq, Int.reduceLT, Int.reduceLE, Int.reduceToNat, Int.reduceNeg, Int.reduceBNe]
  refine shift (sub_slot (s := 3) 48 tRe 11 rfl (by exact Nat.succ_pos _)) ?_
  refine rangeB l.length (fun i σ => ∃ g, σ.slot 0 = vL 11 (l.map encEv) ∧ σ.slot 3 = .c (.own 48 g) ∧ σ.h.gen 48 = g ∧ σ.h.blk 48 = .row tRe 11 ((stbl ltD (l.take i)).map encEv) ∧ σ.slot 4 = vI i) ?_ ?_ ?_
  · simp -implicitDefEqProofs only [↓aP, aQ, ↓reduceIte, Nat.reduceEqDiff, Nat.reduceAdd, Nat.reduceSub, Nat.reduceMul, Nat.reduceLT, Nat.reduceLeDiff, reduceCtorEq, Nat.reduceBEq, forall_const, implies_true, exists_const, ne_eq, Int.reduceAdd, Int.reduceSub, Int.reduceMul, Int.reduceBEq, Int.reduceEq, Int.reduceLT, Int.reduceLE, Int.reduceToNat, Int.reduceNeg, Int.reduceBNe]
    exact ⟨_, rfl, rfl, rfl⟩
  · rintro i m σ him hi hlt ⟨g, s0, s3, g48, b48, s4⟩
    obtain ⟨out, ho⟩ : ∃ out, out = stbl ltD (l.take i) := ⟨_, rfl⟩
    have hol : out.length = i := by rw [ho, stbl_len]; simp; omega
    have hfin : stbl ltD (l.take (i + 1)) = insr ltD l[i] out := by rw [take_snoc hi, stbl_snoc, ho]
    rw [← ho] at b48
    simp -implicitDefEqProofs only [↓aP, aQ, ↓reduceIte, Nat.reduceEqDiff, Nat.reduceAdd, Nat.reduceSub, Nat.reduceMul, Nat.reduceLT, Nat.reduceLeDiff, reduceCtorEq, Nat.reduceBEq, forall_const, implies_true, exists_const, ne_eq, Int.reduceAdd, Int.reduceSub, Int.reduceMul, Int.reduceBEq, Int.reduceEq, Int.reduceLT, Int.reduceLE, Int.reduceToNat, Int.reduceNeg, Int.reduceBNe, hlt, s0, s3, g48, b48, s4, List.length_map]
    refine shift (sub_own (s := 3) (l := 48) (g := g) (ty := tRe) (e := 11) (xs := out.map encEv) (by simp -implicitDefEqProofs only [↓aP, aQ, ↓reduceIte, Nat.reduceEqDiff, Nat.reduceAdd, Nat.reduceSub, Nat.reduceMul, Nat.reduceLT, Nat.reduceLeDiff, reduceCtorEq, Nat.reduceBEq, forall_const, implies_true, exists_const, ne_eq, Int.reduceAdd, Int.reduceSub, Int.reduceMul, Int.reduceBEq, Int.reduceEq, Int.reduceLT, Int.reduceLE, Int.reduceToNat, Int.reduceNeg, Int.reduceBNe, s0, s3, g48, b48, s4]) (by simp -implicitDefEqProofs only [↓aP, aQ, ↓reduceIte, Nat.reduceEqDiff, Nat.reduceAdd, Nat.reduceSub, Nat.reduceMul, Nat.reduceLT, Nat.reduceLeDiff, reduceCtorEq, Nat.reduceBEq, forall_const, implies_true, exists_const, ne_eq, Int.reduceAdd, Int.reduceSub, Int.reduceMul, Int.reduceBEq, Int.reduceEq, Int.reduceLT, Int.reduceLE, Int.reduceToNat, Int.reduceNeg, Int.reduceBNe, s0, s3, g48, b48, s4]) (by simp -implicitDefEqProofs only [↓aP, aQ, ↓reduceIte, Nat.reduceEqDiff, Nat.reduceAdd, Nat.reduceSub, Nat.reduceMul, Nat.reduceLT, Nat.reduceLeDiff, reduceCtorEq, Nat.reduceBEq, forall_const, implies_true, exists_const, ne_eq, Int.reduceAdd, Int.reduceSub, Int.reduceMul, Int.reduceBEq, Int.reduceEq, Int.reduceLT, Int.reduceLE, Int.reduceToNat, Int.reduceNeg, Int.reduceBNe, s0, s3, g48, b48, s4])) ?_
    refine shift (sub_slot (s := 5) 48 tRe 11 (by simp -implicitDefEqProofs only [↓aP, aQ, ↓reduceIte, Nat.reduceEqDiff, Nat.reduceAdd, Nat.reduceSub, Nat.reduceMul, Nat.reduceLT, Nat.reduceLeDiff, reduceCtorEq, Nat.reduceBEq, forall_const, implies_true, exists_const, ne_eq, Int.reduceAdd, Int.reduceSub, Int.reduceMul, Int.reduceBEq, Int.reduceEq, Int.reduceLT, Int.reduceLE, Int.reduceToNat, Int.reduceNeg, Int.reduceBNe, s0, s3, g48, b48, s4]) (by exact Nat.succ_pos _)) ?_
    refine rangeB out.length (fun k σ => ∃ g next put, next ++ (if put = true then out.drop k else insr ltD l[i] (out.drop k)) = insr ltD l[i] out ∧ (next.length ≤ k + 1 ∧ (put = false → next.length ≤ k)) ∧ σ.slot 0 = vL 11 (l.map encEv) ∧ σ.slot 3 = .c (.s (.sl 11 (out.map encEv))) ∧ σ.slot 4 = vI i ∧ σ.slot 5 = .c (.own 48 g) ∧ σ.h.gen 48 = g ∧ σ.h.blk 48 = .row tRe 11 (next.map encEv) ∧ σ.slot 6 = .c (.s (.pv (.bool put))) ∧ σ.slot 7 = vI k) ?_ ?_ ?_
    · simp -implicitDefEqProofs only [↓aP, aQ, ↓reduceIte, Nat.reduceEqDiff, Nat.reduceAdd, Nat.reduceSub, Nat.reduceMul, Nat.reduceLT, Nat.reduceLeDiff, reduceCtorEq, Nat.reduceBEq, forall_const, implies_true, exists_const, ne_eq, Int.reduceAdd, Int.reduceSub, Int.reduceMul, Int.reduceBEq, Int.reduceEq, Int.reduceLT, Int.reduceLE, Int.reduceToNat, Int.reduceNeg, Int.reduceBNe, s0, s3, g48, b48, s4]
      refine ⟨g + 1, [], false, by simp, by simp, ?_⟩
      simp -implicitDefEqProofs only [↓aP, aQ, ↓reduceIte, Nat.reduceEqDiff, Nat.reduceAdd, Nat.reduceSub, Nat.reduceMul, Nat.reduceLT, Nat.reduceLeDiff, reduceCtorEq, Nat.reduceBEq, forall_const, implies_true, exists_const, ne_eq, Int.reduceAdd, Int.reduceSub, Int.reduceMul, Int.reduceBEq, Int.reduceEq, Int.reduceLT, Int.reduceLE, Int.reduceToNat, Int.reduceNeg, Int.reduceBNe, s0, s3, g48, b48, s4]
    · clear s0 s3 g48 b48 s4 hlt g σ
      rintro k n σ hkn hk hlt ⟨g, next, put, hn, ⟨hnl, hnl2⟩, s0, s3, s4, s5, g48, b48, s6, s7⟩
      rw [drop_cons hk] at hn
      have w1 := wrapS (show k < 4611686018427387904 by omega)
      cases put
      · rw [if_neg (by simp)] at hn
        cases hp : decide (l[i].done < out[k].done)
        · have hn2 : (next ++ [out[k]]) ++ (if false = true then out.drop (k + 1) else insr ltD l[i] (out.drop (k + 1))) = insr ltD l[i] out := by
            rw [← hn, if_neg (by simp), insr, if_neg (by unfold ltD; rw [hp]; simp)]
            simp
          simp -implicitDefEqProofs only [↓aP, aQ, ↓reduceIte, Nat.reduceEqDiff, Nat.reduceAdd, Nat.reduceSub, Nat.reduceMul, Nat.reduceLT, Nat.reduceLeDiff, reduceCtorEq, Nat.reduceBEq, forall_const, implies_true, exists_const, ne_eq, Int.reduceAdd, Int.reduceSub, Int.reduceMul, Int.reduceBEq, Int.reduceEq, Int.reduceLT, Int.reduceLE, Int.reduceToNat, Int.reduceNeg, Int.reduceBNe, hlt, s0, s3, s4, s5, g48, b48, s6, s7, List.length_map, askIdx_map, hk, hi, encEv, hp]
          refine ⟨by decide +kernel, by simp; omega, by simp; omega, ?_⟩
          refine nextR hk hkn ⟨g + 1, next ++ [out[k]], false, hn2, ⟨by simp; omega, fun _ => by simp; exact hnl2 rfl⟩, ?_⟩
          simp -implicitDefEqProofs only [↓aP, aQ, ↓reduceIte, Nat.reduceEqDiff, Nat.reduceAdd, Nat.reduceSub, Nat.reduceMul, Nat.reduceLT, Nat.reduceLeDiff, reduceCtorEq, Nat.reduceBEq, forall_const, implies_true, exists_const, ne_eq, Int.reduceAdd, Int.reduceSub, Int.reduceMul, Int.reduceBEq, Int.reduceEq, Int.reduceLT, Int.reduceLE, Int.reduceToNat, Int.reduceNeg, Int.reduceBNe, s0, s3, s4, s5, g48, b48, s6, s7, w1, List.map_append, encEv]
        · have hn2 : (next ++ [l[i], out[k]]) ++ (if true = true then out.drop (k + 1) else insr ltD l[i] (out.drop (k + 1))) = insr ltD l[i] out := by
            rw [← hn, if_pos rfl, insr, if_pos (by unfold ltD; exact hp)]
            simp
          simp -implicitDefEqProofs only [↓aP, aQ, ↓reduceIte, Nat.reduceEqDiff, Nat.reduceAdd, Nat.reduceSub, Nat.reduceMul, Nat.reduceLT, Nat.reduceLeDiff, reduceCtorEq, Nat.reduceBEq, forall_const, implies_true, exists_const, ne_eq, Int.reduceAdd, Int.reduceSub, Int.reduceMul, Int.reduceBEq, Int.reduceEq, Int.reduceLT, Int.reduceLE, Int.reduceToNat, Int.reduceNeg, Int.reduceBNe, hlt, s0, s3, s4, s5, g48, b48, s6, s7, List.length_map, askIdx_map, hk, hi, encEv, hp]
          refine ⟨by decide +kernel, by simp; omega, by simp; omega, by simp; omega, by simp; omega, ?_⟩
          refine nextR hk hkn ⟨g + 1 + 1, next ++ [l[i], out[k]], true, hn2, ⟨by simp; exact hnl2 rfl, fun h => by cases h⟩, ?_⟩
          simp -implicitDefEqProofs only [↓aP, aQ, ↓reduceIte, Nat.reduceEqDiff, Nat.reduceAdd, Nat.reduceSub, Nat.reduceMul, Nat.reduceLT, Nat.reduceLeDiff, reduceCtorEq, Nat.reduceBEq, forall_const, implies_true, exists_const, ne_eq, Int.reduceAdd, Int.reduceSub, Int.reduceMul, Int.reduceBEq, Int.reduceEq, Int.reduceLT, Int.reduceLE, Int.reduceToNat, Int.reduceNeg, Int.reduceBNe, s0, s3, s4, s5, g48, b48, s6, s7, w1, List.map_append, encEv, List.append_assoc, List.cons_append, List.nil_append]
      · rw [if_pos rfl] at hn
        have hn2 : (next ++ [out[k]]) ++ (if true = true then out.drop (k + 1) else insr ltD l[i] (out.drop (k + 1))) = insr ltD l[i] out := by
          rw [← hn, if_pos rfl]
          simp
        simp -implicitDefEqProofs only [↓aP, aQ, ↓reduceIte, Nat.reduceEqDiff, Nat.reduceAdd, Nat.reduceSub, Nat.reduceMul, Nat.reduceLT, Nat.reduceLeDiff, reduceCtorEq, Nat.reduceBEq, forall_const, implies_true, exists_const, ne_eq, Int.reduceAdd, Int.reduceSub, Int.reduceMul, Int.reduceBEq, Int.reduceEq, Int.reduceLT, Int.reduceLE, Int.reduceToNat, Int.reduceNeg, Int.reduceBNe, hlt, s0, s3, s4, s5, g48, b48, s6, s7, List.length_map, askIdx_map, hk, hi, encEv]
        refine ⟨by decide +kernel, by simp; omega, by simp; omega, ?_⟩
        refine nextR hk hkn ⟨g + 1, next ++ [out[k]], true, hn2, ⟨by simp; omega, fun h => by cases h⟩, ?_⟩
        simp -implicitDefEqProofs only [↓aP, aQ, ↓reduceIte, Nat.reduceEqDiff, Nat.reduceAdd, Nat.reduceSub, Nat.reduceMul, Nat.reduceLT, Nat.reduceLeDiff, reduceCtorEq, Nat.reduceBEq, forall_const, implies_true, exists_const, ne_eq, Int.reduceAdd, Int.reduceSub, Int.reduceMul, Int.reduceBEq, Int.reduceEq, Int.reduceLT, Int.reduceLE, Int.reduceToNat, Int.reduceNeg, Int.reduceBNe, s0, s3, s4, s5, g48, b48, s6, s7, w1, List.map_append, encEv]
    · clear s0 s3 g48 b48 s4 hlt g σ
      rintro n σ hlt ⟨g, next, put, hn, ⟨hnl, hnl2⟩, s0, s3, s4, s5, g48, b48, s6, s7⟩
      rw [List.drop_length] at hn
      have w1 := wrapS (show i < 4611686018427387904 by omega)
      cases put
      · have hn2 : next ++ [l[i]] = stbl ltD (l.take (i + 1)) := by rw [hfin, ← hn, if_neg (by simp)]; rfl
        simp -implicitDefEqProofs only [↓aP, aQ, ↓reduceIte, Nat.reduceEqDiff, Nat.reduceAdd, Nat.reduceSub, Nat.reduceMul, Nat.reduceLT, Nat.reduceLeDiff, reduceCtorEq, Nat.reduceBEq, forall_const, implies_true, exists_const, ne_eq, Int.reduceAdd, Int.reduceSub, Int.reduceMul, Int.reduceBEq, Int.reduceEq, Int.reduceLT, Int.reduceLE, Int.reduceToNat, Int.reduceNeg, Int.reduceBNe, hlt, s0, s3, s4, s5, g48, b48, s6, s7, List.length_map, askIdx_map, hi, encEv]
        refine ⟨by simp; omega, by simp; omega, ?_⟩
        refine nextR hi him ⟨g + 1, ?_⟩
        simp -implicitDefEqProofs only [↓aP, aQ, ↓reduceIte, Nat.reduceEqDiff, Nat.reduceAdd, Nat.reduceSub, Nat.reduceMul, Nat.reduceLT, Nat.reduceLeDiff, reduceCtorEq, Nat.reduceBEq, forall_const, implies_true, exists_const, ne_eq, Int.reduceAdd, Int.reduceSub, Int.reduceMul, Int.reduceBEq, Int.reduceEq, Int.reduceLT, Int.reduceLE, Int.reduceToNat, Int.reduceNeg, Int.reduceBNe, s0, s3, s4, s5, g48, b48, s6, s7, w1, ← hn2, List.map_append, encEv]
      · have hn2 : next = stbl ltD (l.take (i + 1)) := by rw [hfin, ← hn, if_pos rfl, List.append_nil]
        rw [hn2] at b48
        simp -implicitDefEqProofs only [↓aP, aQ, ↓reduceIte, Nat.reduceEqDiff, Nat.reduceAdd, Nat.reduceSub, Nat.reduceMul, Nat.reduceLT, Nat.reduceLeDiff, reduceCtorEq, Nat.reduceBEq, forall_const, implies_true, exists_const, ne_eq, Int.reduceAdd, Int.reduceSub, Int.reduceMul, Int.reduceBEq, Int.reduceEq, Int.reduceLT, Int.reduceLE, Int.reduceToNat, Int.reduceNeg, Int.reduceBNe, hlt, s0, s3, s4, s5, g48, b48, s6, s7, List.length_map]
        refine nextR hi him ⟨g, ?_⟩
        simp -implicitDefEqProofs only [↓aP, aQ, ↓reduceIte, Nat.reduceEqDiff, Nat.reduceAdd, Nat.reduceSub, Nat.reduceMul, Nat.reduceLT, Nat.reduceLeDiff, reduceCtorEq, Nat.reduceBEq, forall_const, implies_true, exists_const, ne_eq, Int.reduceAdd, Int.reduceSub, Int.reduceMul, Int.reduceBEq, Int.reduceEq, Int.reduceLT, Int.reduceLE, Int.reduceToNat, Int.reduceNeg, Int.reduceBNe, s0, s3, s4, s5, g48, b48, s6, s7, w1]
  · rintro m σ hlt ⟨g, s0, s3, g48, b48, s4⟩
    rw [List.take_length] at b48
    simp -implicitDefEqProofs only [↓aP, aQ, ↓reduceIte, Nat.reduceEqDiff, Nat.reduceAdd, Nat.reduceSub, Nat.reduceMul, Nat.reduceLT, Nat.reduceLeDiff, reduceCtorEq, Nat.reduceBEq, forall_const, implies_true, exists_const, ne_eq, Int.reduceAdd, Int.reduceSub, Int.reduceMul, Int.reduceBEq, Int.reduceEq, Int.reduceLT, Int.reduceLE, Int.reduceToNat, Int.reduceNeg, Int.reduceBNe, hlt, s0, s3, g48, b48, s4]
    rfl
def sepB (a b : Ev) : Bool := !(a.done == b.done) && !((a.who == b.who) && !(decide (a.ended < b.began) || decide (b.ended < a.began)))
theorem sepB_iff {a b : Ev} : sepB a b = true ↔ sep a b := by
  unfold sepB sep
  simp only [Bool.and_eq_true, Bool.not_eq_true', beq_eq_false_iff_ne, Bool.and_eq_false_iff, Bool.not_eq_false', Bool.or_eq_true, decide_eq_true_eq, ne_eq]
  omega


set_option maxHeartbeats 1000000 in
set_option maxRecDepth 100000 in
theorem rApart_spec (l : List Ev) (hl : l.length < 1000000) : Spec Try.prog 19 [rL 11 (l.map encEv)] (.val (rB (apart l))) := by
  refine spec_val mixed fn19 (by simp) ?_
  unfold ac19
  have bad1 : ∀ i (hi : i < l.length), okE l[i] = false → apart l = false := by
    intro i hi h
    cases q : apart l
    · rfl
    · have := (apart_iff.1 q).1 _ (List.getElem_mem hi)
      unfold okE at h
      simp at h
      omega
  have bad2 : ∀ i k (hi : i < l.length) (hk : k < l.length), i < k → sepB l[i] l[k] = false → apart l = false := by
    intro i k hi hk hik h
    cases q : apart l
    · rfl
    · have := List.pairwise_iff_getElem.1 (apart_iff.1 q).2 i k hi hk hik
      rw [sepB_iff.2 this] at h; cases h
  simp -implicitDefEqProofs only [↓aP, aQ, ↓reduceIte, Nat.reduceEqDiff, Nat.reduceAdd, Nat.reduceSub, Nat.reduceMul, Nat.reduceLT, Nat.reduceLeDiff, reduceCtorEq, Nat.reduceBEq, forall_const, implies_true, exists_const, ne_eq, Int.reduceAdd, Int.reduceSub, Int.reduceMul, Int.reduceBEq, Int.reduceEq, Int.reduceLT, Int.reduceLE, Int.reduceToNat, Int.reduceNeg, Int.reduceBNe]
  refine rangeB l.length (fun i σ => (∀ j (hj : j < l.length), j < i → okE l[j] = true ∧ ∀ k (hk : k < l.length), j < k → sepB l[j] l[k] = true) ∧ σ.slot 0 = vL 11 (l.map encEv) ∧ σ.slot 3 = vI i) ?_ ?_ ?_
  · simp -implicitDefEqProofs only [↓aP, aQ, ↓reduceIte, Nat.reduceEqDiff, Nat.reduceAdd, Nat.reduceSub, Nat.reduceMul, Nat.reduceLT, Nat.reduceLeDiff, reduceCtorEq, Nat.reduceBEq, forall_const, implies_true, exists_const, ne_eq, Int.reduceAdd, Int.reduceSub, Int.reduceMul, Int.reduceBEq, Int.reduceEq, Int.reduceLT, Int.reduceLE, Int.reduceToNat, Int.reduceNeg, Int.reduceBNe]
    omega
  · rintro i m σ him hi hlt ⟨hall, s0, s3⟩
    by_cases q1 : l[i].done ≤ l[i].began
    · simp -implicitDefEqProofs only [↓aP, aQ, ↓reduceIte, Nat.reduceEqDiff, Nat.reduceAdd, Nat.reduceSub, Nat.reduceMul, Nat.reduceLT, Nat.reduceLeDiff, reduceCtorEq, Nat.reduceBEq, forall_const, implies_true, exists_const, ne_eq, Int.reduceAdd, Int.reduceSub, Int.reduceMul, Int.reduceBEq, Int.reduceEq, Int.reduceLT, Int.reduceLE, Int.reduceToNat, Int.reduceNeg, Int.reduceBNe, hlt, s0, s3, List.length_map, askIdx_map, hi, encEv, decide_eq_true q1, bad1 i hi (by unfold okE; simp; omega)]
    have h1 := decide_eq_false q1
    by_cases q2 : l[i].ended ≤ l[i].done
    · simp -implicitDefEqProofs only [↓aP, aQ, ↓reduceIte, Nat.reduceEqDiff, Nat.reduceAdd, Nat.reduceSub, Nat.reduceMul, Nat.reduceLT, Nat.reduceLeDiff, reduceCtorEq, Nat.reduceBEq, forall_const, implies_true, exists_const, ne_eq, Int.reduceAdd, Int.reduceSub, Int.reduceMul, Int.reduceBEq, Int.reduceEq, Int.reduceLT, Int.reduceLE, Int.reduceToNat, Int.reduceNeg, Int.reduceBNe, hlt, s0, s3, List.length_map, askIdx_map, hi, encEv, h1, decide_eq_true q2, bad1 i hi (by unfold okE; simp; omega)]
    have h2 := decide_eq_false q2
    have hok : okE l[i] = true := by unfold okE; simp at h1 h2 ⊢; omega
    obtain ⟨G, hG⟩ : ∃ G, σ.h.gen 4 = G := ⟨_, rfl⟩
    simp -implicitDefEqProofs only [↓aP, aQ, ↓reduceIte, Nat.reduceEqDiff, Nat.reduceAdd, Nat.reduceSub, Nat.reduceMul, Nat.reduceLT, Nat.reduceLeDiff, reduceCtorEq, Nat.reduceBEq, forall_const, implies_true, exists_const, ne_eq, Int.reduceAdd, Int.reduceSub, Int.reduceMul, Int.reduceBEq, Int.reduceEq, Int.reduceLT, Int.reduceLE, Int.reduceToNat, Int.reduceNeg, Int.reduceBNe, hlt, s0, s3, List.length_map, askIdx_map, hi, encEv, h1, h2, wrapS (show i < 4611686018427387904 by omega), hG]
    refine loopA (fun n σ => ∃ k, i < k ∧ k ≤ l.length ∧ n = l.length - k ∧ (∀ k' (hk : k' < l.length), i < k' → k' < k → sepB l[i] l[k'] = true) ∧ σ.slot 0 = vL 11 (l.map encEv) ∧ σ.slot 3 = vI i ∧ σ.slot 4 = .c (.ptr 4 (G + 1) 0 0) ∧ σ.h.gen 4 = G + 1 ∧ σ.h.blk 4 = .box tRe 11 [(encEv l[i]).map AC.s] ∧ σ.slot 5 = vI k) (l.length - (i + 1)) ?_ ?_
    · refine ⟨i + 1, by omega, by omega, rfl, fun k' _ h3 h4 => by omega, ?_⟩
      simp -implicitDefEqProofs only [↓aP, aQ, ↓reduceIte, Nat.reduceEqDiff, Nat.reduceAdd, Nat.reduceSub, Nat.reduceMul, Nat.reduceLT, Nat.reduceLeDiff, reduceCtorEq, Nat.reduceBEq, forall_const, implies_true, exists_const, ne_eq, Int.reduceAdd, Int.reduceSub, Int.reduceMul, Int.reduceBEq, Int.reduceEq, Int.reduceLT, Int.reduceLE, Int.reduceToNat, Int.reduceNeg, Int.reduceBNe, s0, s3, hG, encEv]
    · clear s0 s3 hG hlt σ
      rintro n σ ⟨k, hik, hkl, rfl, hsep, s0, s3, s4, g4, b4, s5⟩
      have w1 := wrapS (show i < 4611686018427387904 by omega)
      have w2 := wrapS (show k < 4611686018427387904 by omega)
      by_cases hk : k < l.length
      · have d1 : decide ((k : Int) < (l.length : Int)) = true := by simp; omega
        have next : sepB l[i] l[k] = true → ∀ k' (hk : k' < l.length), i < k' → k' < k + 1 → sepB l[i] l[k'] = true := by
          intro h k' hk' h3 h4
          by_cases e : k' = k
          · subst e; exact h
          · exact hsep k' hk' h3 (by omega)
        have no := bad2 i k hi hk hik
        unfold sepB at next no
        cases e1 : (l[i].done == l[k].done)
        · cases e2 : (l[i].who == l[k].who)
          · rw [e1, e2] at next
            simp -implicitDefEqProofs only [↓aP, aQ, ↓reduceIte, Nat.reduceEqDiff, Nat.reduceAdd, Nat.reduceSub, Nat.reduceMul, Nat.reduceLT, Nat.reduceLeDiff, reduceCtorEq, Nat.reduceBEq, forall_const, implies_true, exists_const, ne_eq, Int.reduceAdd, Int.reduceSub, Int.reduceMul, Int.reduceBEq, Int.reduceEq, Int.reduceLT, Int.reduceLE, Int.reduceToNat, Int.reduceNeg, Int.reduceBNe, d1, s0, s3, s4, g4, b4, s5, List.length_map, askIdx_map, hk, encEv, e1, e2, w2]
            exact ⟨l.length - (k + 1), by omega, k + 1, by omega, by omega, rfl, next rfl, rfl⟩
          · cases e3 : decide (l[i].ended < l[k].began)
            · cases e4 : decide (l[k].ended < l[i].began)
              · rw [e1, e2, e3, e4] at no
                simp -implicitDefEqProofs only [↓aP, aQ, ↓reduceIte, Nat.reduceEqDiff, Nat.reduceAdd, Nat.reduceSub, Nat.reduceMul, Nat.reduceLT, Nat.reduceLeDiff, reduceCtorEq, Nat.reduceBEq, forall_const, implies_true, exists_const, ne_eq, Int.reduceAdd, Int.reduceSub, Int.reduceMul, Int.reduceBEq, Int.reduceEq, Int.reduceLT, Int.reduceLE, Int.reduceToNat, Int.reduceNeg, Int.reduceBNe, d1, s0, s3, s4, g4, b4, s5, List.length_map, askIdx_map, hk, encEv, e1, e2, e3, e4, no rfl]
              · rw [e1, e2, e3, e4] at next
                simp -implicitDefEqProofs only [↓aP, aQ, ↓reduceIte, Nat.reduceEqDiff, Nat.reduceAdd, Nat.reduceSub, Nat.reduceMul, Nat.reduceLT, Nat.reduceLeDiff, reduceCtorEq, Nat.reduceBEq, forall_const, implies_true, exists_const, ne_eq, Int.reduceAdd, Int.reduceSub, Int.reduceMul, Int.reduceBEq, Int.reduceEq, Int.reduceLT, Int.reduceLE, Int.reduceToNat, Int.reduceNeg, Int.reduceBNe, d1, s0, s3, s4, g4, b4, s5, List.length_map, askIdx_map, hk, encEv, e1, e2, e3, e4, w2]
                exact ⟨l.length - (k + 1), by omega, k + 1, by omega, by omega, rfl, next rfl, rfl⟩
            · rw [e1, e2, e3] at next
              simp -implicitDefEqProofs only [↓aP, aQ, ↓reduceIte, Nat.reduceEqDiff, Nat.reduceAdd, Nat.reduceSub, Nat.reduceMul, Nat.reduceLT, Nat.reduceLeDiff, reduceCtorEq, Nat.reduceBEq, forall_const, implies_true, exists_const, ne_eq, Int.reduceAdd, Int.reduceSub, Int.reduceMul, Int.reduceBEq, Int.reduceEq, Int.reduceLT, Int.reduceLE, Int.reduceToNat, Int.reduceNeg, Int.reduceBNe, d1, s0, s3, s4, g4, b4, s5, List.length_map, askIdx_map, hk, encEv, e1, e2, e3, w2]
              exact ⟨l.length - (k + 1), by omega, k + 1, by omega, by omega, rfl, next rfl, rfl⟩
        · rw [e1] at no
          simp -implicitDefEqProofs only [↓aP, aQ, ↓reduceIte, Nat.reduceEqDiff, Nat.reduceAdd, Nat.reduceSub, Nat.reduceMul, Nat.reduceLT, Nat.reduceLeDiff, reduceCtorEq, Nat.reduceBEq, forall_const, implies_true, exists_const, ne_eq, Int.reduceAdd, Int.reduceSub, Int.reduceMul, Int.reduceBEq, Int.reduceEq, Int.reduceLT, Int.reduceLE, Int.reduceToNat, Int.reduceNeg, Int.reduceBNe, d1, s0, s3, s4, g4, b4, s5, List.length_map, askIdx_map, hk, encEv, e1, no rfl]
      · simp -implicitDefEqProofs only [↓aP, aQ, ↓reduceIte, Nat.reduceEqDiff, Nat.reduceAdd, Nat.reduceSub, Nat.reduceMul, Nat.reduceLT, Nat.reduceLeDiff, reduceCtorEq, Nat.reduceBEq, forall_const, implies_true, exists_const, ne_eq, Int.reduceAdd, Int.reduceSub, Int.reduceMul, Int.reduceBEq, Int.reduceEq, Int.reduceLT, Int.reduceLE, Int.reduceToNat, Int.reduceNeg, Int.reduceBNe, show decide ((k : Int) < (l.length : Int)) = false by simp; omega, s0, s3, s4, g4, b4, s5, List.length_map, w1]
        refine nextR hi him ⟨?_, ?_⟩
        · intro j hj hji
          by_cases e : j = i
          · subst e; exact ⟨hok, fun k' hk' h3 => hsep k' hk' h3 (by omega)⟩
          · exact hall j hj (by omega)
        · simp -implicitDefEqProofs only [↓aP, aQ, ↓reduceIte, Nat.reduceEqDiff, Nat.reduceAdd, Nat.reduceSub, Nat.reduceMul, Nat.reduceLT, Nat.reduceLeDiff, reduceCtorEq, Nat.reduceBEq, forall_const, implies_true, exists_const, ne_eq, Int.reduceAdd, Int.reduceSub, Int.reduceMul, Int.reduceBEq, Int.reduceEq, Int.reduceLT, Int.reduceLE, Int.reduceToNat, Int.reduceNeg, Int.reduceBNe, s0, s3, s4, g4, b4, s5]
  · rintro m σ hlt ⟨hall, s0, s3⟩
    have e : apart l = true := apart_iff.2 ⟨fun e he => by
      obtain ⟨j, hj, rfl⟩ := List.getElem_of_mem he
      have := (hall j hj hj).1
      unfold okE at this
      simpa using this, List.pairwise_iff_getElem.2 fun j k hj hk hjk => sepB_iff.1 ((hall j hj hj).2 k hk hjk)⟩
    simp -implicitDefEqProofs only [↓aP, aQ, ↓reduceIte, Nat.reduceEqDiff, Nat.reduceAdd, Nat.reduceSub, Nat.reduceMul, Nat.reduceLT, Nat.reduceLeDiff, reduceCtorEq, Nat.reduceBEq, forall_const, implies_true, exists_const, ne_eq, Int.reduceAdd, Int.reduceSub, Int.reduceMul, Int.reduceBEq, Int.reduceEq, Int.reduceLT, Int.reduceLE, Int.reduceToNat, Int.reduceNeg, Int.reduceBNe, hlt, s0, s3, List.length_map, e]
end Go.Proofs.Ytbpipdgkkdifgaa
