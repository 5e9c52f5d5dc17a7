/- layer 7: the law TableKeeps. -/
import Derived.Test.YtkiddlkmodclhaaT12
namespace Go.Proofs.Ytkiddlkmodclhaa
open Go.RowKit
set_option linter.unusedVariables false
set_option linter.unusedSimpArgs false
def cIT (n : Int) : List AC := [.s (.pv (.int .i64 n))]
def encPT (p : Int × Int) : List SC := [.pv (.int .u8 p.1), .pv (.int .u8 p.2)]
theorem with_tailT {A : Prop} {F : St → Prop} (G : St → Prop) (h1 : (∀ σ, F σ → G σ) → A) (h2 : ∀ σ, F σ → G σ) : A := h1 h2
theorem ftT : (false == true) = false := rfl
theorem tfT : (true == false) = false := rfl



set_option maxRecDepth 100000 in
set_option maxHeartbeats 4000000 in
theorem law_keeps (A : List (Int × Int)) (hA : ∀ p ∈ A, (0 ≤ p.1 ∧ p.1 ≤ 255) ∧ (0 ≤ p.2 ∧ p.2 ≤ 255)) (hl : A.length ≤ 9223372036854775807) : Spec Try.prog 4 [rL 2 (A.map encPT)] (.val (rB true)) := by
  refine spec_val mixed fn4 (by simp) ?_
  unfold ac4
  simp -implicitDefEqProofs only [↓aP, aQ, ↓reduceIte, Nat.reduceEqDiff, Nat.reduceAdd, Nat.reduceSub, Nat.reduceMul, Nat.reduceLT, Nat.reduceLeDiff, reduceCtorEq, Nat.reduceBEq, forall_const, implies_true, exists_const, ne_eq, Int.reduceAdd, Int.reduceSub, Int.reduceMul, Int.reduceBEq, Int.reduceEq, Int.reduceLT, Int.reduceLE, Int.reduceToNat, Int.reduceNeg, Int.reduceBNe]
  refine ask tNew_spec ?_
  rw [show Ta.z = Ta.z from rfl]
  simp -implicitDefEqProofs only [↓aP, aQ, ↓reduceIte, Nat.reduceEqDiff, Nat.reduceAdd, Nat.reduceSub, Nat.reduceMul, Nat.reduceLT, Nat.reduceLeDiff, reduceCtorEq, Nat.reduceBEq, forall_const, implies_true, exists_const, ne_eq, Int.reduceAdd, Int.reduceSub, Int.reduceMul, Int.reduceBEq, Int.reduceEq, Int.reduceLT, Int.reduceLE, Int.reduceToNat, Int.reduceNeg, Int.reduceBNe, encTa]
  refine loopA (fun m σ => ∃ i t r N wt, i + m = min A.length 100 ∧ Ta.Kp t r N ∧ Ta.Wn t wt ∧ σ.slot 0 = vL 2 (A.map encPT) ∧ σ.slot 3 = .c (.ptr 3 1 0 0) ∧ σ.h.gen 3 = 1 ∧ σ.h.blk 3 = .box 24 1 [(encTa t).map AC.s] ∧ σ.slot 4 = .c (.ptr 4 1 0 0) ∧ σ.h.gen 4 = 1 ∧ σ.h.blk 4 = .box 40 1 ((Ta.Tw wt).map cIT) ∧ σ.slot 5 = vI (Ta.nf t).length ∧ σ.slot 6 = vI i) (min A.length 100) ?_ ?_
  · refine ⟨0, List.replicate 16 Ta.z, fun _ => 0, 0, fun _ => 0, by omega, Ta.kp_new, Ta.wn_new, ?_⟩
    simp -implicitDefEqProofs only [↓aP, aQ, ↓reduceIte, Nat.reduceEqDiff, Nat.reduceAdd, Nat.reduceSub, Nat.reduceMul, Nat.reduceLT, Nat.reduceLeDiff, reduceCtorEq, Nat.reduceBEq, forall_const, implies_true, exists_const, ne_eq, Int.reduceAdd, Int.reduceSub, Int.reduceMul, Int.reduceBEq, Int.reduceEq, Int.reduceLT, Int.reduceLE, Int.reduceToNat, Int.reduceNeg, Int.reduceBNe, encTa]
    exact ⟨rfl, rfl⟩
  · rintro m σ ⟨i, t, r, N, wt, him, hK, hW, s0, s3, g3, b3, s4, g4, b4, s5, s6⟩
    have h16 := hK.len
    have hnl := Ta.nf_le (t := t)
    have hwl := wrapS (show (Ta.nf t).length < 4611686018427387904 by omega)
    have hpc : (((Ta.pages t).length : Int) == ((Ta.nf t).length : Int)) = true := by rw [Ta.pages_len (Ta.kp_right hK), Ta.nf_pgs, beq_self_eq_true]
    by_cases hi : i < min A.length 100
    · have hiA : i < A.length := by omega
      have c1 : decide ((i : Int) < (A.length : Int)) = true := by simp; omega
      have c2 : decide ((i : Int) < 100) = true := by simp; omega
      have hp := hA _ (List.getElem_mem hiA)
      obtain ⟨q, hqe, hq⟩ : ∃ q : Int, IntKind.i64.wrap (1 + IntKind.i64.wrap (A[i].1.tmod 64)) = q ∧ (1 ≤ q ∧ q ≤ 64) := by
        rw [Int.tmod_eq_emod_of_nonneg hp.1.1, wrapI (x := A[i].1 % 64) (by omega), wrapI (by omega)]
        exact ⟨_, rfl, by omega⟩
      have hix : q.toNat < (Ta.Tw wt).length := by rw [Ta.tw_len]; omega
      have hq0 : 0 ≤ q ∧ q ≤ 64 := by omega
      have hat := Ta.tw_at hq0 hix
      have hqP : Ta.isP q = true := isP_iff.2 (by omega)
      have hiF : Ta.isF ((i + 1 : Nat) : Int) = true := isF_iff.2 (by omega)
      simp -implicitDefEqProofs only [↓aP, aQ, ↓reduceIte, Nat.reduceEqDiff, Nat.reduceAdd, Nat.reduceSub, Nat.reduceMul, Nat.reduceLT, Nat.reduceLeDiff, reduceCtorEq, Nat.reduceBEq, forall_const, implies_true, exists_const, ne_eq, Int.reduceAdd, Int.reduceSub, Int.reduceMul, Int.reduceBEq, Int.reduceEq, Int.reduceLT, Int.reduceLE, Int.reduceToNat, Int.reduceNeg, Int.reduceBNe, c1, c2, s0, s3, g3, b3, s4, g4, b4, s5, s6, List.length_map, askIdx_map, hiA, encPT, hqe]
      apply with_tailT (F := fun σ => ∃ (t' : List Sl) (r' : Int → Nat) (N' : Nat) (w' : Int → Int), Ta.Kp t' r' N' ∧ Ta.Wn t' w' ∧ σ.slot 0 = vL 2 (A.map encPT) ∧ σ.slot 3 = .c (.ptr 3 1 0 0) ∧ σ.h.gen 3 = 1 ∧ σ.h.blk 3 = .box 24 1 [(encTa t').map AC.s] ∧ σ.slot 4 = .c (.ptr 4 1 0 0) ∧ σ.h.gen 4 = 1 ∧ σ.h.blk 4 = .box 40 1 ((Ta.Tw w').map cIT) ∧ σ.slot 5 = vI (Ta.nf t').length ∧ σ.slot 6 = vI i ∧ σ.slot 13 = vI 1)
      case h1 =>
        intro tail
        refine fork ?_ ?_ <;> intro hc
        · have hwi := wrapS (show i < 4611686018427387904 by omega)
          by_cases hw0 : wt q = 0
          · have hw0b : (wt q == 0) = true := by simpa using hw0
            have hno := Ta.wn_no hW hw0
            by_cases hfull : (Ta.nf t).length = 16
            · have hput : Ta.put t q ((i + 1 : Nat) : Int) = (t, 7) := by
                unfold Ta.put
                rw [if_neg (by rw [Ta.kp_right hK, hqP, hiF]; simp), if_neg (by rw [(Ta.kp_out hK hq.1 hno).1]; simp), if_pos (by rw [Ta.kp_full h16 hfull hno]; decide)]
              have hsp := tPut_spec t q ((i + 1 : Nat) : Int)
              rw [hput] at hsp
              have d16 : decide (((Ta.nf t).length : Int) < 16) = false := by simp; omega
              simp -implicitDefEqProofs only [↓aP, aQ, ↓reduceIte, Nat.reduceEqDiff, Nat.reduceAdd, Nat.reduceSub, Nat.reduceMul, Nat.reduceLT, Nat.reduceLeDiff, reduceCtorEq, Nat.reduceBEq, forall_const, implies_true, exists_const, ne_eq, Int.reduceAdd, Int.reduceSub, Int.reduceMul, Int.reduceBEq, Int.reduceEq, Int.reduceLT, Int.reduceLE, Int.reduceToNat, Int.reduceNeg, Int.reduceBNe, s0, s3, g3, b3, s4, g4, b4, s5, s6, encTa, hwi, hqe]
              refine ask hsp ?_
              simp -implicitDefEqProofs only [↓aP, aQ, ↓reduceIte, Nat.reduceEqDiff, Nat.reduceAdd, Nat.reduceSub, Nat.reduceMul, Nat.reduceLT, Nat.reduceLeDiff, reduceCtorEq, Nat.reduceBEq, forall_const, implies_true, exists_const, ne_eq, Int.reduceAdd, Int.reduceSub, Int.reduceMul, Int.reduceBEq, Int.reduceEq, Int.reduceLT, Int.reduceLE, Int.reduceToNat, Int.reduceNeg, Int.reduceBNe, encPut, s0, s3, g3, b3, s4, g4, b4, s5, s6, hix, cIT, askIdx_map, hat, encTa, hw0b, d16, bne_self_eq_false]
              refine ⟨by omega, by omega, ?_⟩
              try simp -implicitDefEqProofs only [↓aP, aQ, ↓reduceIte, Nat.reduceEqDiff, Nat.reduceAdd, Nat.reduceSub, Nat.reduceMul, Nat.reduceLT, Nat.reduceLeDiff, reduceCtorEq, Nat.reduceBEq, forall_const, implies_true, exists_const, ne_eq, Int.reduceAdd, Int.reduceSub, Int.reduceMul, Int.reduceBEq, Int.reduceEq, Int.reduceLT, Int.reduceLE, Int.reduceToNat, Int.reduceNeg, Int.reduceBNe, s0, s3, g3, b3, s4, g4, b4, s5, s6, hix, cIT, askIdx_map, hat, encTa]
              refine ask (tRight_spec t) ?_
              simp -implicitDefEqProofs only [↓aP, aQ, ↓reduceIte, Nat.reduceEqDiff, Nat.reduceAdd, Nat.reduceSub, Nat.reduceMul, Nat.reduceLT, Nat.reduceLeDiff, reduceCtorEq, Nat.reduceBEq, forall_const, implies_true, exists_const, ne_eq, Int.reduceAdd, Int.reduceSub, Int.reduceMul, Int.reduceBEq, Int.reduceEq, Int.reduceLT, Int.reduceLE, Int.reduceToNat, Int.reduceNeg, Int.reduceBNe, Ta.kp_right hK]
              refine tail _ ⟨t, r, N, wt, hK, hW, ?_⟩
              simp -implicitDefEqProofs only [↓aP, aQ, ↓reduceIte, Nat.reduceEqDiff, Nat.reduceAdd, Nat.reduceSub, Nat.reduceMul, Nat.reduceLT, Nat.reduceLeDiff, reduceCtorEq, Nat.reduceBEq, forall_const, implies_true, exists_const, ne_eq, Int.reduceAdd, Int.reduceSub, Int.reduceMul, Int.reduceBEq, Int.reduceEq, Int.reduceLT, Int.reduceLE, Int.reduceToNat, Int.reduceNeg, Int.reduceBNe, s0, s3, g3, b3, s4, g4, b4, s5, s6, encTa]
            · obtain ⟨u, r', hput, hK', hperm⟩ := Ta.kp_put hK hqP hiF hno (by omega)
              have hW' := Ta.wn_put hW hq (show ((i + 1 : Nat) : Int) ≠ 0 by omega) hw0 hperm
              have hul : (Ta.nf u).length = (Ta.nf t).length + 1 := by have := hperm.length_eq; simpa using this
              have hsp := tPut_spec t q ((i + 1 : Nat) : Int)
              rw [hput] at hsp
              have d16 : decide (((Ta.nf t).length : Int) < 16) = true := by simp; omega
              have hset : ((Ta.Tw wt).map cIT).set q.toNat [.s (.pv (.int .i64 ((i + 1 : Nat) : Int)))] = (Ta.Tw (Ta.upT wt q ((i + 1 : Nat) : Int))).map cIT := by
                rw [← Ta.tw_set hq0, List.map_set]; rfl
              simp -implicitDefEqProofs only [↓aP, aQ, ↓reduceIte, Nat.reduceEqDiff, Nat.reduceAdd, Nat.reduceSub, Nat.reduceMul, Nat.reduceLT, Nat.reduceLeDiff, reduceCtorEq, Nat.reduceBEq, forall_const, implies_true, exists_const, ne_eq, Int.reduceAdd, Int.reduceSub, Int.reduceMul, Int.reduceBEq, Int.reduceEq, Int.reduceLT, Int.reduceLE, Int.reduceToNat, Int.reduceNeg, Int.reduceBNe, s0, s3, g3, b3, s4, g4, b4, s5, s6, encTa, hwi, hqe]
              refine ask hsp ?_
              simp -implicitDefEqProofs only [↓aP, aQ, ↓reduceIte, Nat.reduceEqDiff, Nat.reduceAdd, Nat.reduceSub, Nat.reduceMul, Nat.reduceLT, Nat.reduceLeDiff, reduceCtorEq, Nat.reduceBEq, forall_const, implies_true, exists_const, ne_eq, Int.reduceAdd, Int.reduceSub, Int.reduceMul, Int.reduceBEq, Int.reduceEq, Int.reduceLT, Int.reduceLE, Int.reduceToNat, Int.reduceNeg, Int.reduceBNe, encPut, s0, s3, g3, b3, s4, g4, b4, s5, s6, hix, cIT, askIdx_map, hat, encTa, hw0b, d16, bne_self_eq_false, hwi, hwl]
              refine ⟨by omega, by omega, by omega, by omega, ?_⟩
              refine ask (tRight_spec u) ?_
              simp -implicitDefEqProofs only [↓aP, aQ, ↓reduceIte, Nat.reduceEqDiff, Nat.reduceAdd, Nat.reduceSub, Nat.reduceMul, Nat.reduceLT, Nat.reduceLeDiff, reduceCtorEq, Nat.reduceBEq, forall_const, implies_true, exists_const, ne_eq, Int.reduceAdd, Int.reduceSub, Int.reduceMul, Int.reduceBEq, Int.reduceEq, Int.reduceLT, Int.reduceLE, Int.reduceToNat, Int.reduceNeg, Int.reduceBNe, Ta.kp_right hK', hwl]
              refine tail _ ⟨u, r', N + 1, _, hK', hW', ?_⟩
              simp -implicitDefEqProofs only [↓aP, aQ, ↓reduceIte, Nat.reduceEqDiff, Nat.reduceAdd, Nat.reduceSub, Nat.reduceMul, Nat.reduceLT, Nat.reduceLeDiff, reduceCtorEq, Nat.reduceBEq, forall_const, implies_true, exists_const, ne_eq, Int.reduceAdd, Int.reduceSub, Int.reduceMul, Int.reduceBEq, Int.reduceEq, Int.reduceLT, Int.reduceLE, Int.reduceToNat, Int.reduceNeg, Int.reduceBNe, s0, s3, g3, b3, s4, g4, b4, s5, s6, encTa, hset, hul, hwl, hwi]
          · have hw0b : (wt q == 0) = false := by simpa using hw0
            obtain ⟨s, hs, hsq⟩ := hW.b q hq hw0
            obtain ⟨k, _, _, hsl, _⟩ := Ta.kp_in hK hs
            rw [hsq] at hsl
            have hput : Ta.put t q ((i + 1 : Nat) : Int) = (t, 4) := by
              unfold Ta.put
              rw [if_neg (by rw [Ta.kp_right hK, hqP, hiF]; simp), if_pos (by rw [hsl])]
            have hsp := tPut_spec t q ((i + 1 : Nat) : Int)
            rw [hput] at hsp
            simp -implicitDefEqProofs only [↓aP, aQ, ↓reduceIte, Nat.reduceEqDiff, Nat.reduceAdd, Nat.reduceSub, Nat.reduceMul, Nat.reduceLT, Nat.reduceLeDiff, reduceCtorEq, Nat.reduceBEq, forall_const, implies_true, exists_const, ne_eq, Int.reduceAdd, Int.reduceSub, Int.reduceMul, Int.reduceBEq, Int.reduceEq, Int.reduceLT, Int.reduceLE, Int.reduceToNat, Int.reduceNeg, Int.reduceBNe, s0, s3, g3, b3, s4, g4, b4, s5, s6, encTa, hwi, hqe]
            refine ask hsp ?_
            simp -implicitDefEqProofs only [↓aP, aQ, ↓reduceIte, Nat.reduceEqDiff, Nat.reduceAdd, Nat.reduceSub, Nat.reduceMul, Nat.reduceLT, Nat.reduceLeDiff, reduceCtorEq, Nat.reduceBEq, forall_const, implies_true, exists_const, ne_eq, Int.reduceAdd, Int.reduceSub, Int.reduceMul, Int.reduceBEq, Int.reduceEq, Int.reduceLT, Int.reduceLE, Int.reduceToNat, Int.reduceNeg, Int.reduceBNe, encPut, s0, s3, g3, b3, s4, g4, b4, s5, s6, hix, cIT, askIdx_map, hat, encTa, hw0b, bne_self_eq_false]
            refine ⟨by omega, by omega, ?_⟩
            try simp -implicitDefEqProofs only [↓aP, aQ, ↓reduceIte, Nat.reduceEqDiff, Nat.reduceAdd, Nat.reduceSub, Nat.reduceMul, Nat.reduceLT, Nat.reduceLeDiff, reduceCtorEq, Nat.reduceBEq, forall_const, implies_true, exists_const, ne_eq, Int.reduceAdd, Int.reduceSub, Int.reduceMul, Int.reduceBEq, Int.reduceEq, Int.reduceLT, Int.reduceLE, Int.reduceToNat, Int.reduceNeg, Int.reduceBNe, s0, s3, g3, b3, s4, g4, b4, s5, s6, hix, cIT, askIdx_map, hat, encTa]
            refine ask (tRight_spec t) ?_
            simp -implicitDefEqProofs only [↓aP, aQ, ↓reduceIte, Nat.reduceEqDiff, Nat.reduceAdd, Nat.reduceSub, Nat.reduceMul, Nat.reduceLT, Nat.reduceLeDiff, reduceCtorEq, Nat.reduceBEq, forall_const, implies_true, exists_const, ne_eq, Int.reduceAdd, Int.reduceSub, Int.reduceMul, Int.reduceBEq, Int.reduceEq, Int.reduceLT, Int.reduceLE, Int.reduceToNat, Int.reduceNeg, Int.reduceBNe, Ta.kp_right hK]
            refine tail _ ⟨t, r, N, wt, hK, hW, ?_⟩
            simp -implicitDefEqProofs only [↓aP, aQ, ↓reduceIte, Nat.reduceEqDiff, Nat.reduceAdd, Nat.reduceSub, Nat.reduceMul, Nat.reduceLT, Nat.reduceLeDiff, reduceCtorEq, Nat.reduceBEq, forall_const, implies_true, exists_const, ne_eq, Int.reduceAdd, Int.reduceSub, Int.reduceMul, Int.reduceBEq, Int.reduceEq, Int.reduceLT, Int.reduceLE, Int.reduceToNat, Int.reduceNeg, Int.reduceBNe, s0, s3, g3, b3, s4, g4, b4, s5, s6, encTa]
        · by_cases hw0 : wt q = 0
          · have hw0b : (wt q != 0) = false := by simpa using hw0
            have hdel : Ta.del t q = (t, 3) := by
              unfold Ta.del
              rw [if_neg (by rw [Ta.kp_right hK]; simp), if_pos (Ta.kp_out hK hq.1 (Ta.wn_no hW hw0)).1]
            have hsp := tDel_spec t q
            rw [hdel] at hsp
            simp -implicitDefEqProofs only [↓aP, aQ, ↓reduceIte, Nat.reduceEqDiff, Nat.reduceAdd, Nat.reduceSub, Nat.reduceMul, Nat.reduceLT, Nat.reduceLeDiff, reduceCtorEq, Nat.reduceBEq, forall_const, implies_true, exists_const, ne_eq, Int.reduceAdd, Int.reduceSub, Int.reduceMul, Int.reduceBEq, Int.reduceEq, Int.reduceLT, Int.reduceLE, Int.reduceToNat, Int.reduceNeg, Int.reduceBNe, s0, s3, g3, b3, s4, g4, b4, s5, s6, encTa, hqe]
            refine ask hsp ?_
            simp -implicitDefEqProofs only [↓aP, aQ, ↓reduceIte, Nat.reduceEqDiff, Nat.reduceAdd, Nat.reduceSub, Nat.reduceMul, Nat.reduceLT, Nat.reduceLeDiff, reduceCtorEq, Nat.reduceBEq, forall_const, implies_true, exists_const, ne_eq, Int.reduceAdd, Int.reduceSub, Int.reduceMul, Int.reduceBEq, Int.reduceEq, Int.reduceLT, Int.reduceLE, Int.reduceToNat, Int.reduceNeg, Int.reduceBNe, encPut, s0, s3, g3, b3, s4, g4, b4, s5, s6, hix, cIT, askIdx_map, hat, encTa, hw0b, bne_self_eq_false]
            refine ⟨by omega, by omega, by omega, by omega, ?_⟩
            refine ask (tRight_spec t) ?_
            simp -implicitDefEqProofs only [↓aP, aQ, ↓reduceIte, Nat.reduceEqDiff, Nat.reduceAdd, Nat.reduceSub, Nat.reduceMul, Nat.reduceLT, Nat.reduceLeDiff, reduceCtorEq, Nat.reduceBEq, forall_const, implies_true, exists_const, ne_eq, Int.reduceAdd, Int.reduceSub, Int.reduceMul, Int.reduceBEq, Int.reduceEq, Int.reduceLT, Int.reduceLE, Int.reduceToNat, Int.reduceNeg, Int.reduceBNe, Ta.kp_right hK]
            refine tail _ ⟨t, r, N, wt, hK, hW, ?_⟩
            simp -implicitDefEqProofs only [↓aP, aQ, ↓reduceIte, Nat.reduceEqDiff, Nat.reduceAdd, Nat.reduceSub, Nat.reduceMul, Nat.reduceLT, Nat.reduceLeDiff, reduceCtorEq, Nat.reduceBEq, forall_const, implies_true, exists_const, ne_eq, Int.reduceAdd, Int.reduceSub, Int.reduceMul, Int.reduceBEq, Int.reduceEq, Int.reduceLT, Int.reduceLE, Int.reduceToNat, Int.reduceNeg, Int.reduceBNe, s0, s3, g3, b3, s4, g4, b4, s5, s6, encTa]
          · have hw0b : (wt q != 0) = true := by simpa using hw0
            obtain ⟨s, hs, hsq⟩ := hW.b q hq hw0
            obtain ⟨u, hdel, hK', hperm⟩ := Ta.kp_del hK hs
            have hW' := Ta.wn_del hW hperm
            rw [hsq] at hdel hW'
            have hul : (Ta.nf t).length = (Ta.nf u).length + 1 := by have := hperm.length_eq; simpa using this.symm
            have hsp := tDel_spec t q
            rw [hdel] at hsp
            have hset : ((Ta.Tw wt).map cIT).set q.toNat [.s (.pv (.int .i64 0))] = (Ta.Tw (Ta.upT wt q 0)).map cIT := by
              rw [← Ta.tw_set hq0, List.map_set]; rfl
            have hw1 : IntKind.i64.wrap (((Ta.nf t).length : Int) - 1) = ((Ta.nf u).length : Int) := by rw [wrapI (by omega)]; omega
            simp -implicitDefEqProofs only [↓aP, aQ, ↓reduceIte, Nat.reduceEqDiff, Nat.reduceAdd, Nat.reduceSub, Nat.reduceMul, Nat.reduceLT, Nat.reduceLeDiff, reduceCtorEq, Nat.reduceBEq, forall_const, implies_true, exists_const, ne_eq, Int.reduceAdd, Int.reduceSub, Int.reduceMul, Int.reduceBEq, Int.reduceEq, Int.reduceLT, Int.reduceLE, Int.reduceToNat, Int.reduceNeg, Int.reduceBNe, s0, s3, g3, b3, s4, g4, b4, s5, s6, encTa, hqe]
            refine ask hsp ?_
            simp -implicitDefEqProofs only [↓aP, aQ, ↓reduceIte, Nat.reduceEqDiff, Nat.reduceAdd, Nat.reduceSub, Nat.reduceMul, Nat.reduceLT, Nat.reduceLeDiff, reduceCtorEq, Nat.reduceBEq, forall_const, implies_true, exists_const, ne_eq, Int.reduceAdd, Int.reduceSub, Int.reduceMul, Int.reduceBEq, Int.reduceEq, Int.reduceLT, Int.reduceLE, Int.reduceToNat, Int.reduceNeg, Int.reduceBNe, encPut, s0, s3, g3, b3, s4, g4, b4, s5, s6, hix, cIT, askIdx_map, hat, encTa, hw0b, bne_self_eq_false]
            refine ⟨by omega, by omega, by omega, by omega, by omega, by omega, ?_⟩
            refine ask (tRight_spec u) ?_
            simp -implicitDefEqProofs only [↓aP, aQ, ↓reduceIte, Nat.reduceEqDiff, Nat.reduceAdd, Nat.reduceSub, Nat.reduceMul, Nat.reduceLT, Nat.reduceLeDiff, reduceCtorEq, Nat.reduceBEq, forall_const, implies_true, exists_const, ne_eq, Int.reduceAdd, Int.reduceSub, Int.reduceMul, Int.reduceBEq, Int.reduceEq, Int.reduceLT, Int.reduceLE, Int.reduceToNat, Int.reduceNeg, Int.reduceBNe, Ta.kp_right hK', hw1]
            refine tail _ ⟨u, r, N, _, hK', hW', ?_⟩
            simp -implicitDefEqProofs only [↓aP, aQ, ↓reduceIte, Nat.reduceEqDiff, Nat.reduceAdd, Nat.reduceSub, Nat.reduceMul, Nat.reduceLT, Nat.reduceLeDiff, reduceCtorEq, Nat.reduceBEq, forall_const, implies_true, exists_const, ne_eq, Int.reduceAdd, Int.reduceSub, Int.reduceMul, Int.reduceBEq, Int.reduceEq, Int.reduceLT, Int.reduceLE, Int.reduceToNat, Int.reduceNeg, Int.reduceBNe, s0, s3, g3, b3, s4, g4, b4, s5, s6, encTa, hset, hw1]
      case h2 =>
        clear s0 s3 g3 b3 s4 g4 b4 s5 s6 hat hix hqe
        rintro σ ⟨t', r', N', w', hK', hW', s0, s3, g3, b3, s4, g4, b4, s5, s6, s13⟩
        have h16' := hK'.len
        refine rangeB 64 (fun k σ => σ.slot 0 = vL 2 (A.map encPT) ∧ σ.slot 3 = .c (.ptr 3 1 0 0) ∧ σ.h.gen 3 = 1 ∧ σ.h.blk 3 = .box 24 1 [(encTa t').map AC.s] ∧ σ.slot 4 = .c (.ptr 4 1 0 0) ∧ σ.h.gen 4 = 1 ∧ σ.h.blk 4 = .box 40 1 ((Ta.Tw w').map cIT) ∧ σ.slot 5 = vI (Ta.nf t').length ∧ σ.slot 6 = vI i ∧ σ.slot 13 = vI (k + 1 : Nat)) ?_ ?_ ?_
        · simp -implicitDefEqProofs only [↓aP, aQ, ↓reduceIte, Nat.reduceEqDiff, Nat.reduceAdd, Nat.reduceSub, Nat.reduceMul, Nat.reduceLT, Nat.reduceLeDiff, reduceCtorEq, Nat.reduceBEq, forall_const, implies_true, exists_const, ne_eq, Int.reduceAdd, Int.reduceSub, Int.reduceMul, Int.reduceBEq, Int.reduceEq, Int.reduceLT, Int.reduceLE, Int.reduceToNat, Int.reduceNeg, Int.reduceBNe, s0, s3, g3, b3, s4, g4, b4, s5, s6, s13, encTa]
          try rfl
        · clear s0 s3 g3 b3 s4 g4 b4 s5 s6 s13
          rintro k m2 σ hkm hk hlt ⟨s0, s3, g3, b3, s4, g4, b4, s5, s6, s13⟩
          have hk65 : decide (((k + 1 : Nat) : Int) < 65) = true := by simp; omega
          have kl : k + 1 < (Ta.Tw w').length := by rw [Ta.tw_len]; omega
          have hf := Ta.wn_find hK' hW' (q := ((k + 1 : Nat) : Int)) (by omega)
          have hsp := tFind_spec t' ((k + 1 : Nat) : Int)
          rw [hf] at hsp
          simp -implicitDefEqProofs only [↓aP, aQ, ↓reduceIte, Nat.reduceEqDiff, Nat.reduceAdd, Nat.reduceSub, Nat.reduceMul, Nat.reduceLT, Nat.reduceLeDiff, reduceCtorEq, Nat.reduceBEq, forall_const, implies_true, exists_const, ne_eq, Int.reduceAdd, Int.reduceSub, Int.reduceMul, Int.reduceBEq, Int.reduceEq, Int.reduceLT, Int.reduceLE, Int.reduceToNat, Int.reduceNeg, Int.reduceBNe, hk65, s0, s3, g3, b3, s4, g4, b4, s5, s6, s13, encTa]
          refine ask hsp ?_
          simp -implicitDefEqProofs only [↓aP, aQ, ↓reduceIte, Nat.reduceEqDiff, Nat.reduceAdd, Nat.reduceSub, Nat.reduceMul, Nat.reduceLT, Nat.reduceLeDiff, reduceCtorEq, Nat.reduceBEq, forall_const, implies_true, exists_const, ne_eq, Int.reduceAdd, Int.reduceSub, Int.reduceMul, Int.reduceBEq, Int.reduceEq, Int.reduceLT, Int.reduceLE, Int.reduceToNat, Int.reduceNeg, Int.reduceBNe, encSlot, s0, s3, g3, b3, s4, g4, b4, s5, s6, s13, Int.toNat_natCast, kl, cIT, askIdx_map, Ta.tw_nat kl, bne_self_eq_false, wrapS (show k + 1 < 4611686018427387904 by omega)]
          refine ⟨by omega, by omega, ?_⟩
          refine nextR hk hkm ?_
          simp -implicitDefEqProofs only [↓aP, aQ, ↓reduceIte, Nat.reduceEqDiff, Nat.reduceAdd, Nat.reduceSub, Nat.reduceMul, Nat.reduceLT, Nat.reduceLeDiff, reduceCtorEq, Nat.reduceBEq, forall_const, implies_true, exists_const, ne_eq, Int.reduceAdd, Int.reduceSub, Int.reduceMul, Int.reduceBEq, Int.reduceEq, Int.reduceLT, Int.reduceLE, Int.reduceToNat, Int.reduceNeg, Int.reduceBNe, s0, s3, g3, b3, s4, g4, b4, s5, s6, s13, encTa]
        · clear s0 s3 g3 b3 s4 g4 b4 s5 s6 s13
          rintro m2 σ hlt ⟨s0, s3, g3, b3, s4, g4, b4, s5, s6, s13⟩
          simp -implicitDefEqProofs only [↓aP, aQ, ↓reduceIte, Nat.reduceEqDiff, Nat.reduceAdd, Nat.reduceSub, Nat.reduceMul, Nat.reduceLT, Nat.reduceLeDiff, reduceCtorEq, Nat.reduceBEq, forall_const, implies_true, exists_const, ne_eq, Int.reduceAdd, Int.reduceSub, Int.reduceMul, Int.reduceBEq, Int.reduceEq, Int.reduceLT, Int.reduceLE, Int.reduceToNat, Int.reduceNeg, Int.reduceBNe, s0, s3, g3, b3, s4, g4, b4, s5, s6, s13, show decide (((64 + 1 : Nat) : Int) < 65) = false by decide, wrapS (show i < 4611686018427387904 by omega)]
          refine ⟨m - 1, by omega, i + 1, t', r', N', w', by omega, hK', hW', ?_⟩
          simp -implicitDefEqProofs only [↓aP, aQ, ↓reduceIte, Nat.reduceEqDiff, Nat.reduceAdd, Nat.reduceSub, Nat.reduceMul, Nat.reduceLT, Nat.reduceLeDiff, reduceCtorEq, Nat.reduceBEq, forall_const, implies_true, exists_const, ne_eq, Int.reduceAdd, Int.reduceSub, Int.reduceMul, Int.reduceBEq, Int.reduceEq, Int.reduceLT, Int.reduceLE, Int.reduceToNat, Int.reduceNeg, Int.reduceBNe, encTa]
    · by_cases hiA : i < A.length
      · simp -implicitDefEqProofs only [↓aP, aQ, ↓reduceIte, Nat.reduceEqDiff, Nat.reduceAdd, Nat.reduceSub, Nat.reduceMul, Nat.reduceLT, Nat.reduceLeDiff, reduceCtorEq, Nat.reduceBEq, forall_const, implies_true, exists_const, ne_eq, Int.reduceAdd, Int.reduceSub, Int.reduceMul, Int.reduceBEq, Int.reduceEq, Int.reduceLT, Int.reduceLE, Int.reduceToNat, Int.reduceNeg, Int.reduceBNe, show decide ((i : Int) < (A.length : Int)) = true by (simp; omega), show decide ((i : Int) < 100) = false by (simp; omega), s0, s3, g3, b3, s4, g4, b4, s5, s6, List.length_map, encTa]
        refine ask (tPages_spec t) ?_
        simp -implicitDefEqProofs only [↓aP, aQ, ↓reduceIte, Nat.reduceEqDiff, Nat.reduceAdd, Nat.reduceSub, Nat.reduceMul, Nat.reduceLT, Nat.reduceLeDiff, reduceCtorEq, Nat.reduceBEq, forall_const, implies_true, exists_const, ne_eq, Int.reduceAdd, Int.reduceSub, Int.reduceMul, Int.reduceBEq, Int.reduceEq, Int.reduceLT, Int.reduceLE, Int.reduceToNat, Int.reduceNeg, Int.reduceBNe, s0, s3, g3, b3, s4, g4, b4, s5, s6, List.length_map, hpc]
        refine ask tawake_spec ?_
        simp -implicitDefEqProofs only [↓aP, aQ, ↓reduceIte, Nat.reduceEqDiff, Nat.reduceAdd, Nat.reduceSub, Nat.reduceMul, Nat.reduceLT, Nat.reduceLeDiff, reduceCtorEq, Nat.reduceBEq, forall_const, implies_true, exists_const, ne_eq, Int.reduceAdd, Int.reduceSub, Int.reduceMul, Int.reduceBEq, Int.reduceEq, Int.reduceLT, Int.reduceLE, Int.reduceToNat, Int.reduceNeg, Int.reduceBNe]
      · simp -implicitDefEqProofs only [↓aP, aQ, ↓reduceIte, Nat.reduceEqDiff, Nat.reduceAdd, Nat.reduceSub, Nat.reduceMul, Nat.reduceLT, Nat.reduceLeDiff, reduceCtorEq, Nat.reduceBEq, forall_const, implies_true, exists_const, ne_eq, Int.reduceAdd, Int.reduceSub, Int.reduceMul, Int.reduceBEq, Int.reduceEq, Int.reduceLT, Int.reduceLE, Int.reduceToNat, Int.reduceNeg, Int.reduceBNe, show decide ((i : Int) < (A.length : Int)) = false by (simp; omega), s0, s3, g3, b3, s4, g4, b4, s5, s6, List.length_map, encTa]
        refine ask (tPages_spec t) ?_
        simp -implicitDefEqProofs only [↓aP, aQ, ↓reduceIte, Nat.reduceEqDiff, Nat.reduceAdd, Nat.reduceSub, Nat.reduceMul, Nat.reduceLT, Nat.reduceLeDiff, reduceCtorEq, Nat.reduceBEq, forall_const, implies_true, exists_const, ne_eq, Int.reduceAdd, Int.reduceSub, Int.reduceMul, Int.reduceBEq, Int.reduceEq, Int.reduceLT, Int.reduceLE, Int.reduceToNat, Int.reduceNeg, Int.reduceBNe, s0, s3, g3, b3, s4, g4, b4, s5, s6, List.length_map, hpc]
        refine ask tawake_spec ?_
        simp -implicitDefEqProofs only [↓aP, aQ, ↓reduceIte, Nat.reduceEqDiff, Nat.reduceAdd, Nat.reduceSub, Nat.reduceMul, Nat.reduceLT, Nat.reduceLeDiff, reduceCtorEq, Nat.reduceBEq, forall_const, implies_true, exists_const, ne_eq, Int.reduceAdd, Int.reduceSub, Int.reduceMul, Int.reduceBEq, Int.reduceEq, Int.reduceLT, Int.reduceLE, Int.reduceToNat, Int.reduceNeg, Int.reduceBNe]
theorem u8_of {k : Int} (h : (Lit.int .u8 k).wf = true) : 0 ≤ k ∧ k ≤ 255 := by
  simpa [Lit.wf, IntKind.min, IntKind.max, IntKind.signed, IntKind.bits] using h
theorem all_of_mem2 {α β : Type} {f : α → β} {p : α → Prop} : ∀ {ys : List β}, (∀ y ∈ ys, ∃ x, y = f x ∧ p x) → ∃ xs : List α, ys = xs.map f ∧ ∀ x ∈ xs, p x
  | [], _ => ⟨[], rfl, by simp⟩
  | y :: ys, h => by
    obtain ⟨x, hx, px⟩ := h y (by simp)
    obtain ⟨xs, hxs, pxs⟩ := all_of_mem2 (ys := ys) (fun z hz => h z (by simp [hz]))
    exact ⟨x :: xs, by rw [hx, hxs]; rfl, fun z hz => (List.mem_cons.1 hz).elim (fun e => by rw [e]; exact px) (pxs z)⟩
open Go.ChangeShapes Go.WideShapes in
set_option maxRecDepth 100000 in
theorem open_acts {H : Type} {enc : TypeId × Value → H} {w : World} {spare : Nat → Bool} {held : Bool} {r : Reach} {b0 : Nat} {v : Value} {d : DataW H} {p : List MemPlace} 
    (hv : Value.okWide Try.prog w r b0 38 v) (h : DataW.Trod enc Try.prog w 0 spare held 38 v d p) : ∃ A : List (Int × Int), ((∀ p ∈ A, (0 ≤ p.1 ∧ p.1 ≤ 255) ∧ (0 ≤ p.2 ∧ p.2 ≤ 255)) ∧ A.length ≤ maxLen) ∧ RepT (RepS w fun _ => False) (rL 2 (A.map encPT)) v := by
  obtain ⟨y, ⟨els, e1, e2, e3⟩, h2⟩ := open_one (opens_slice Try.underlying38 (by kernel_rfl) (by decide) (opens_arr2 Try.underlying41 (by kernel_rfl) (opens_int Try.underlying5 (by kernel_rfl)))) (slice_cells Try.underlying38 hv) h
  simp only [List.cons.injEq, and_true] at e1
  subst e1
  obtain ⟨A, rfl, hA⟩ := all_of_mem2 (f := encPT) (p := fun p => (0 ≤ p.1 ∧ p.1 ≤ 255) ∧ (0 ≤ p.2 ∧ p.2 ≤ 255)) (fun y hy => by
    obtain ⟨a, b, rfl, ⟨n, hn, hw⟩, ⟨n2, hn2, hw2⟩⟩ := e2 y hy
    simp only [List.cons.injEq, and_true] at hn hn2
    subst hn; subst hn2
    exact ⟨(n, n2), rfl, u8_of hw, u8_of hw2⟩)
  exact ⟨A, ⟨hA, by simpa using e3⟩, h2⟩
theorem tableKeeps_walk {w : World} (v0 : Value) (a0 : ∃ A : List (Int × Int), ((∀ p ∈ A, (0 ≤ p.1 ∧ p.1 ≤ 255) ∧ (0 ≤ p.2 ∧ p.2 ≤ 255)) ∧ A.length ≤ maxLen) ∧ RepT (RepS w fun _ => False) (rL 2 (A.map encPT)) v0) :
    Calls Try.prog 4 #[v0] w fun e w' => e = .returned (.bool true) ∧ Below w.heap.size w w' := by
  obtain ⟨A, hA, h0⟩ := a0
  exact (law_keeps A hA.1 (by have := hA.2; unfold maxLen at this; omega)).plain (us := [v0]) (.cons h0 .nil)
end Go.Proofs.Ytkiddlkmodclhaa
