/- layer 8: the law LatchAlone: its walk. -/
import Derived.Test.YtkiddlkmodclhaaK17
import Derived.Test.YtkiddlkmodclhaaK18
namespace Go.Proofs.Ytkiddlkmodclhaa
open Go.RowKit La
set_option linter.unusedVariables false
set_option linter.unusedSimpArgs false
def cI (n : Int) : List AC := [.s (.pv (.int .i64 n))]
def Tg {α : Type} (f : Int → α) : List α := (List.range 10).map fun k : Nat => f (k : Int)
theorem tg_len {α : Type} {f : Int → α} : (Tg f).length = 10 := by simp [Tg]
theorem tg_at {α : Type} {f : Int → α} {n : Int} (hn : 0 ≤ n ∧ n ≤ 9) (h : n.toNat < (Tg f).length) : (Tg f)[n.toNat] = f n := by
  have e : ((n.toNat : Nat) : Int) = n := by omega
  simp only [Tg, List.getElem_map, List.getElem_range, e]
theorem tg_nat {α : Type} {f : Int → α} {n : Nat} (h : n < (Tg f).length) : (Tg f)[n] = f n := by
  simp only [Tg, List.getElem_map, List.getElem_range]
theorem tg_set {α : Type} {f : Int → α} {n : Int} {v : α} (hn : 0 ≤ n ∧ n ≤ 9) : (Tg f).set n.toNat v = Tg (up f n v) := by
  refine List.ext_getElem (by simp [tg_len]) (fun k h1 h2 => ?_)
  rw [List.getElem_set]
  simp only [Tg, List.getElem_map, List.getElem_range, up]
  by_cases e : n.toNat = k
  · rw [if_pos e, if_pos (by omega)]
  · rw [if_neg e, if_neg (by omega)]
theorem up_same {α : Type} {f : Int → α} {k : Int} {v : α} (h : f k = v) : up f k v = f := by
  funext n
  unfold up
  by_cases e : n = k
  · rw [if_pos e, e, h]
  · rw [if_neg e]
def encP (p : Int × Int) : List SC := [.pv (.int .u8 p.1), .pv (.int .u8 p.2)]








def Rd (l : Lt) (r w k : Nat) : Prop := (r ≤ k ∧ w ≤ k) ∧ (l.ex = false → w = 0) ∧ (l.ex = true → r = 0 ∧ ∀ a, l.h = [a] → w = if a < (k : Int) then 1 else 0)
def Fb (X : TV AC) (cs : List Int) (σ : St) : Prop := X = vL 1 (cs.map encI) ∨ ∃ g, X = .c (.own 84 g) ∧ σ.h.gen 84 = g ∧ σ.h.blk 84 = .row 3 1 (cs.map encI)
theorem with_tail {A : Prop} {F : St → Prop} (G : St → Prop) (h1 : (∀ σ, F σ → G σ) → A) (h2 : ∀ σ, F σ → G σ) : A := h1 h2
set_option maxRecDepth 100000 in
set_option maxHeartbeats 8000000 in
theorem law_alone (A : List (Int × Int)) (hA : ∀ p ∈ A, (0 ≤ p.1 ∧ p.1 ≤ 255) ∧ (0 ≤ p.2 ∧ p.2 ≤ 255)) (hl : A.length ≤ 9223372036854775807) : Spec Try.prog 8 [rL 2 (A.map encP)] (.val (rB true)) := by
  refine spec_val mixed fn8 (by simp) ?_
  unfold ac8
  simp -implicitDefEqProofs only [↓aP, aQ, ↓reduceIte, Nat.reduceEqDiff, Nat.reduceAdd, Nat.reduceSub, Nat.reduceMul, Nat.reduceLT, Nat.reduceLeDiff, reduceCtorEq, Nat.reduceBEq, forall_const, implies_true, exists_const, ne_eq, Int.reduceAdd, Int.reduceSub, Int.reduceMul, Int.reduceBEq, Int.reduceEq, Int.reduceLT, Int.reduceLE, Int.reduceToNat, Int.reduceNeg, Int.reduceBNe]
  refine shift (sub_cnil (p := 3) (i := 0) (j := 0) 1 rfl (by decide) (by rfl) (by decide)) ?_
  refine shift (sub_cnil (p := 3) (i := 0) (j := 2) 2 rfl (by decide) (by rfl) (by decide)) ?_
  refine loopA (fun m σ => ∃ i l f g H, i + m = min A.length 100 ∧ Good l f g i ∧ (∀ n, 0 ≤ n ∧ n ≤ 9 → H n = decide (n ∈ l.h)) ∧ σ.slot 0 = vL 2 (A.map encP) ∧ σ.slot 3 = .c (.ptr 3 1 0 0) ∧ σ.h.gen 3 = 1 ∧ σ.h.blk 3 = .box 54 3 [(encLt l).map AC.s] ∧ σ.slot 4 = .c (.ptr 4 1 0 0) ∧ σ.h.gen 4 = 1 ∧ σ.h.blk 4 = .box 73 1 ((Tg f).map cI) ∧ σ.slot 5 = .c (.ptr 5 1 0 0) ∧ σ.h.gen 5 = 1 ∧ σ.h.blk 5 = .box 74 1 ((Tg g).map cB) ∧ σ.slot 6 = .c (.ptr 6 1 0 0) ∧ σ.h.gen 6 = 1 ∧ σ.h.blk 6 = .box 74 1 ((Tg H).map cB) ∧ σ.slot 7 = vI i ∧ σ.slot 8 = vI i) (min A.length 100) ?_ ?_
  · refine ⟨0, ⟨[], false, []⟩, fun _ => 0, fun _ => false, fun _ => false, by omega, ?_, by simp, ?_⟩
    · refine ⟨⟨?_, by simp [whos], by simp [whos], by simp, by simp, by simp, by simp⟩, rfl⟩
      exact (right_iff.1 right_empty).1
    · simp -implicitDefEqProofs only [↓aP, aQ, ↓reduceIte, Nat.reduceEqDiff, Nat.reduceAdd, Nat.reduceSub, Nat.reduceMul, Nat.reduceLT, Nat.reduceLeDiff, reduceCtorEq, Nat.reduceBEq, forall_const, implies_true, exists_const, ne_eq, Int.reduceAdd, Int.reduceSub, Int.reduceMul, Int.reduceBEq, Int.reduceEq, Int.reduceLT, Int.reduceLE, Int.reduceToNat, Int.reduceNeg, Int.reduceBNe, encLt, List.map_nil]
      exact ⟨rfl, rfl, rfl⟩
  · rintro m σ ⟨i, l, f, g, H, him, hG, hH, s0, s3, g3, b3, s4, g4, b4, s5, g5, b5, s6, g6, b6, s7, s8⟩
    by_cases hi : i < min A.length 100
    · have hiA : i < A.length := by omega
      have c1 : decide ((i : Int) < (A.length : Int)) = true := by simp; omega
      have c2 : decide ((i : Int) < 100) = true := by simp; omega
      have hp := hA _ (List.getElem_mem hiA)
      obtain ⟨who, hwe, hw⟩ : ∃ who : Int, IntKind.i64.wrap (A[i].1.tmod 10) = who ∧ (0 ≤ who ∧ who ≤ 9) := by
        rw [Int.tmod_eq_emod_of_nonneg hp.1.1, wrapI (x := A[i].1 % 10) (by omega)]
        exact ⟨_, rfl, by omega⟩
      obtain ⟨ex, hex⟩ : ∃ ex : Bool, (A[i].2.tmod 4 == 0) = ex := ⟨_, rfl⟩
      have hix : who.toNat < (Tg f).length := by rw [tg_len]; omega
      have hixg : who.toNat < (Tg g).length := by rw [tg_len]; omega
      have hixH : who.toNat < (Tg H).length := by rw [tg_len]; omega
      have hok : okWho who = true := by unfold okWho; simp; omega
      have hlen := mid_len hG.1
      have hci : ((i + 1 : Nat) : Int) = (i : Int) + 1 := by omega
      simp -implicitDefEqProofs only [↓aP, aQ, ↓reduceIte, Nat.reduceEqDiff, Nat.reduceAdd, Nat.reduceSub, Nat.reduceMul, Nat.reduceLT, Nat.reduceLeDiff, reduceCtorEq, Nat.reduceBEq, forall_const, implies_true, exists_const, ne_eq, Int.reduceAdd, Int.reduceSub, Int.reduceMul, Int.reduceBEq, Int.reduceEq, Int.reduceLT, Int.reduceLE, Int.reduceToNat, Int.reduceNeg, Int.reduceBNe, c1, c2, s0, s3, g3, b3, s4, g4, b4, s5, g5, b5, s6, g6, b6, s7, s8, List.length_map, askIdx_map, hiA, encP, hwe, hex, wrapS (show i < 4611686018427387904 by omega)]
      refine ⟨by decide +kernel, ?_⟩
      apply with_tail (F := fun σ => ∃ (l' : Lt) (f' : Int → Int) (g' H' : Int → Bool) (cs hs : List Int), Good l' f' g' ((i + 1 : Nat) : Int) ∧ Came hs f' cs ∧ (∀ n, 0 ≤ n ∧ n ≤ 9 → H' n = decide (n ∈ hs)) ∧ (∀ n, n ∈ l'.h ↔ n ∈ hs ++ cs) ∧ cs.length ≤ 10 ∧ Fb (σ.slot 106) cs σ ∧ σ.slot 0 = vL 2 (A.map encP) ∧ σ.slot 3 = .c (.ptr 3 1 0 0) ∧ σ.h.gen 3 = 1 ∧ σ.h.blk 3 = .box 54 3 [(encLt l').map AC.s] ∧ σ.slot 4 = .c (.ptr 4 1 0 0) ∧ σ.h.gen 4 = 1 ∧ σ.h.blk 4 = .box 73 1 ((Tg f').map cI) ∧ σ.slot 5 = .c (.ptr 5 1 0 0) ∧ σ.h.gen 5 = 1 ∧ σ.h.blk 5 = .box 74 1 ((Tg g').map cB) ∧ σ.slot 6 = .c (.ptr 6 1 0 0) ∧ σ.h.gen 6 = 1 ∧ σ.h.blk 6 = .box 74 1 ((Tg H').map cB) ∧ σ.slot 7 = vI (i + 1 : Nat) ∧ σ.slot 8 = vI i ∧ σ.slot 107 = vI cs.length ∧ σ.slot 108 = vI 0)
      case h1 =>
        intro tail
        refine fork ?_ ?_ <;> intro hc
        · by_cases hin : who ∈ whos l
          · have hQ : La.askM l who ex = (l, false, 4) := by
              unfold La.askM
              rw [if_neg (by rw [hG.right]; simp [hok]), if_pos hin]
            have hsp := lAsk_spec l who ex (by omega)
            rw [hQ] at hsp
            have hf0 : (f who == 0) = false := by rw [beq_eq_false_iff_ne]; exact (hG.1.inn who hw).2 hin
            simp -implicitDefEqProofs only [↓aP, aQ, ↓reduceIte, Nat.reduceEqDiff, Nat.reduceAdd, Nat.reduceSub, Nat.reduceMul, Nat.reduceLT, Nat.reduceLeDiff, reduceCtorEq, Nat.reduceBEq, forall_const, implies_true, exists_const, ne_eq, Int.reduceAdd, Int.reduceSub, Int.reduceMul, Int.reduceBEq, Int.reduceEq, Int.reduceLT, Int.reduceLE, Int.reduceToNat, Int.reduceNeg, Int.reduceBNe, s0, s3, g3, b3, s4, g4, b4, s5, g5, b5, s6, g6, b6, s7, s8, encLt, hwe]
            refine ask hsp ?_
            simp -implicitDefEqProofs only [↓aP, aQ, ↓reduceIte, Nat.reduceEqDiff, Nat.reduceAdd, Nat.reduceSub, Nat.reduceMul, Nat.reduceLT, Nat.reduceLeDiff, reduceCtorEq, Nat.reduceBEq, forall_const, implies_true, exists_const, ne_eq, Int.reduceAdd, Int.reduceSub, Int.reduceMul, Int.reduceBEq, Int.reduceEq, Int.reduceLT, Int.reduceLE, Int.reduceToNat, Int.reduceNeg, Int.reduceBNe, encAsk, encLt, s0, s3, g3, b3, s4, g4, b4, s5, g5, b5, s6, g6, b6, s7, s8, hix, cI, askIdx_map, tg_at hw hix, hf0, bne_self_eq_false]
            refine ⟨by omega, by omega, ?_⟩
            refine shift (sub_nil (s := 106) 1 rfl (by decide)) ?_
            refine tail _ ⟨l, f, g, H, [], l.h, hci ▸ mid_same hG, fun j hj => by simp at hj, hH, by simp, by simp, .inl ?_, ?_⟩
            · simp -implicitDefEqProofs only [↓aP, aQ, ↓reduceIte, Nat.reduceEqDiff, Nat.reduceAdd, Nat.reduceSub, Nat.reduceMul, Nat.reduceLT, Nat.reduceLeDiff, reduceCtorEq, Nat.reduceBEq, forall_const, implies_true, exists_const, ne_eq, Int.reduceAdd, Int.reduceSub, Int.reduceMul, Int.reduceBEq, Int.reduceEq, Int.reduceLT, Int.reduceLE, Int.reduceToNat, Int.reduceNeg, Int.reduceBNe, List.map_nil]
            · simp -implicitDefEqProofs only [↓aP, aQ, ↓reduceIte, Nat.reduceEqDiff, Nat.reduceAdd, Nat.reduceSub, Nat.reduceMul, Nat.reduceLT, Nat.reduceLeDiff, reduceCtorEq, Nat.reduceBEq, forall_const, implies_true, exists_const, ne_eq, Int.reduceAdd, Int.reduceSub, Int.reduceMul, Int.reduceBEq, Int.reduceEq, Int.reduceLT, Int.reduceLE, Int.reduceToNat, Int.reduceNeg, Int.reduceBNe, s0, s3, g3, b3, s4, g4, b4, s5, g5, b5, s6, g6, b6, s7, s8, encLt, List.length_nil]
          · have hm0 := mid_ask (ex := ex) hG (by omega) hw hin
            rw [← hci] at hm0
            obtain ⟨me1, me2, me3, me4⟩ := mid_ent hm0
            simp only at me1 me2 me3 me4
            have hQ : La.askM l who ex = ((ent l.h l.ex (l.q ++ [⟨who, ex⟩])).1, decide (who ∈ (ent l.h l.ex (l.q ++ [⟨who, ex⟩])).1.h), 0) := by
              unfold La.askM
              rw [if_neg (by rw [hG.right]; simp [hok]), if_neg hin, if_neg (by omega)]
            rw [into_eq hG.right hin] at hQ
            have hsp := lAsk_spec l who ex (by omega)
            rw [hQ] at hsp
            have hf0 : (f who == 0) = true := by
              rw [beq_iff_eq]
              exact Classical.byContradiction fun e => hin ((hG.1.inn who hw).1 e)
            have hset1 : ((Tg f).map cI).set who.toNat [.s (.pv (.int .i64 ((i + 1 : Nat) : Int)))] = (Tg (up f who ((i + 1 : Nat) : Int))).map cI := by
              rw [← tg_set hw, List.map_set]; rfl
            have hset2 : ((Tg g).map cB).set who.toNat [.s (.pv (.bool ex))] = (Tg (up g who ex)).map cB := by
              rw [← tg_set hw, List.map_set]; rfl
            obtain ⟨E, hE⟩ : ∃ E, E = ent l.h l.ex (l.q ++ [⟨who, ex⟩]) := ⟨_, rfl⟩
            rw [← hE] at hsp me1 me2 me3 me4
            have hE2 : E.2 = [] ∨ E.2 = [who] := by
              rw [hE, ent_ask hG.2]
              split
              · exact .inr rfl
              · exact .inl rfl
            rcases hE2 with h2 | h2
            · rw [h2] at hsp me2 me3 me4
              simp -implicitDefEqProofs only [↓aP, aQ, ↓reduceIte, Nat.reduceEqDiff, Nat.reduceAdd, Nat.reduceSub, Nat.reduceMul, Nat.reduceLT, Nat.reduceLeDiff, reduceCtorEq, Nat.reduceBEq, forall_const, implies_true, exists_const, ne_eq, Int.reduceAdd, Int.reduceSub, Int.reduceMul, Int.reduceBEq, Int.reduceEq, Int.reduceLT, Int.reduceLE, Int.reduceToNat, Int.reduceNeg, Int.reduceBNe, s0, s3, g3, b3, s4, g4, b4, s5, g5, b5, s6, g6, b6, s7, s8, encLt, hwe]
              refine ask hsp ?_
              simp -implicitDefEqProofs only [↓aP, aQ, ↓reduceIte, Nat.reduceEqDiff, Nat.reduceAdd, Nat.reduceSub, Nat.reduceMul, Nat.reduceLT, Nat.reduceLeDiff, reduceCtorEq, Nat.reduceBEq, forall_const, implies_true, exists_const, ne_eq, Int.reduceAdd, Int.reduceSub, Int.reduceMul, Int.reduceBEq, Int.reduceEq, Int.reduceLT, Int.reduceLE, Int.reduceToNat, Int.reduceNeg, Int.reduceBNe, encAsk, encLt, s0, s3, g3, b3, s4, g4, b4, s5, g5, b5, s6, g6, b6, s7, s8, hix, cI, askIdx_map, tg_at hw hix, hf0, bne_self_eq_false, List.length_nil, show decide (0 < 0) = false by decide]
              refine ⟨by omega, by omega, by omega, by omega, by omega, by omega, ?_⟩
              simp -implicitDefEqProofs only [↓aP, aQ, ↓reduceIte, Nat.reduceEqDiff, Nat.reduceAdd, Nat.reduceSub, Nat.reduceMul, Nat.reduceLT, Nat.reduceLeDiff, reduceCtorEq, Nat.reduceBEq, forall_const, implies_true, exists_const, ne_eq, Int.reduceAdd, Int.reduceSub, Int.reduceMul, Int.reduceBEq, Int.reduceEq, Int.reduceLT, Int.reduceLE, Int.reduceToNat, Int.reduceNeg, Int.reduceBNe, s0, s3, g3, b3, s4, g4, b4, s5, g5, b5, s6, g6, b6, s7, s8, hix, hixg, cI, cB, askIdx_map, encLt]
              refine shift (sub_nil (s := 106) 1 rfl (by decide)) ?_
              refine tail _ ⟨E.1, _, _, H, [], l.h, me1, me2, hH, me3, by simp, .inl ?_, ?_⟩
              · simp -implicitDefEqProofs only [↓aP, aQ, ↓reduceIte, Nat.reduceEqDiff, Nat.reduceAdd, Nat.reduceSub, Nat.reduceMul, Nat.reduceLT, Nat.reduceLeDiff, reduceCtorEq, Nat.reduceBEq, forall_const, implies_true, exists_const, ne_eq, Int.reduceAdd, Int.reduceSub, Int.reduceMul, Int.reduceBEq, Int.reduceEq, Int.reduceLT, Int.reduceLE, Int.reduceToNat, Int.reduceNeg, Int.reduceBNe, List.map_nil]
              · simp -implicitDefEqProofs only [↓aP, aQ, ↓reduceIte, Nat.reduceEqDiff, Nat.reduceAdd, Nat.reduceSub, Nat.reduceMul, Nat.reduceLT, Nat.reduceLeDiff, reduceCtorEq, Nat.reduceBEq, forall_const, implies_true, exists_const, ne_eq, Int.reduceAdd, Int.reduceSub, Int.reduceMul, Int.reduceBEq, Int.reduceEq, Int.reduceLT, Int.reduceLE, Int.reduceToNat, Int.reduceNeg, Int.reduceBNe, s0, s3, g3, b3, s4, g4, b4, s5, g5, b5, s6, g6, b6, s7, s8, encLt, List.length_nil, hset1, hset2]
                all_goals (trace_state; sorry)
            · rw [h2] at hsp me2 me3 me4
              simp -implicitDefEqProofs only [↓aP, aQ, ↓reduceIte, Nat.reduceEqDiff, Nat.reduceAdd, Nat.reduceSub, Nat.reduceMul, Nat.reduceLT, Nat.reduceLeDiff, reduceCtorEq, Nat.reduceBEq, forall_const, implies_true, exists_const, ne_eq, Int.reduceAdd, Int.reduceSub, Int.reduceMul, Int.reduceBEq, Int.reduceEq, Int.reduceLT, Int.reduceLE, Int.reduceToNat, Int.reduceNeg, Int.reduceBNe, s0, s3, g3, b3, s4, g4, b4, s5, g5, b5, s6, g6, b6, s7, s8, encLt, hwe]
              refine ask hsp ?_
              simp -implicitDefEqProofs only [↓aP, aQ, ↓reduceIte, Nat.reduceEqDiff, Nat.reduceAdd, Nat.reduceSub, Nat.reduceMul, Nat.reduceLT, Nat.reduceLeDiff, reduceCtorEq, Nat.reduceBEq, forall_const, implies_true, exists_const, ne_eq, Int.reduceAdd, Int.reduceSub, Int.reduceMul, Int.reduceBEq, Int.reduceEq, Int.reduceLT, Int.reduceLE, Int.reduceToNat, Int.reduceNeg, Int.reduceBNe, encAsk, encLt, s0, s3, g3, b3, s4, g4, b4, s5, g5, b5, s6, g6, b6, s7, s8, hix, cI, askIdx_map, tg_at hw hix, hf0, bne_self_eq_false, List.length_cons, List.length_nil, show decide (0 < 0 + 1) = true by decide]
              refine ⟨by omega, by omega, by omega, by omega, by omega, by omega, ?_⟩
              simp -implicitDefEqProofs only [↓aP, aQ, ↓reduceIte, Nat.reduceEqDiff, Nat.reduceAdd, Nat.reduceSub, Nat.reduceMul, Nat.reduceLT, Nat.reduceLeDiff, reduceCtorEq, Nat.reduceBEq, forall_const, implies_true, exists_const, ne_eq, Int.reduceAdd, Int.reduceSub, Int.reduceMul, Int.reduceBEq, Int.reduceEq, Int.reduceLT, Int.reduceLE, Int.reduceToNat, Int.reduceNeg, Int.reduceBNe, s0, s3, g3, b3, s4, g4, b4, s5, g5, b5, s6, g6, b6, s7, s8, hix, hixg, cI, cB, askIdx_map, encLt]
              refine tail _ ⟨E.1, _, _, H, [who], l.h, me1, me2, hH, me3, by simp, .inr ⟨σ.h.gen 84 + 1, ?_, ?_, ?_⟩, ?_⟩
              all_goals simp -implicitDefEqProofs only [↓aP, aQ, ↓reduceIte, Nat.reduceEqDiff, Nat.reduceAdd, Nat.reduceSub, Nat.reduceMul, Nat.reduceLT, Nat.reduceLeDiff, reduceCtorEq, Nat.reduceBEq, forall_const, implies_true, exists_const, ne_eq, Int.reduceAdd, Int.reduceSub, Int.reduceMul, Int.reduceBEq, Int.reduceEq, Int.reduceLT, Int.reduceLE, Int.reduceToNat, Int.reduceNeg, Int.reduceBNe, s0, s3, g3, b3, s4, g4, b4, s5, g5, b5, s6, g6, b6, s7, s8, encLt, List.length_cons, List.length_nil, hset1, hset2, List.map_cons, List.map_nil, encI]
              all_goals (trace_state; sorry)
        · have hset3 : ((Tg f).map cI).set who.toNat [.s (.pv (.int .i64 0))] = (Tg (up f who 0)).map cI := by
            rw [← tg_set hw, List.map_set]; rfl
          have hset4 : ((Tg H).map cB).set who.toNat [.s (.pv (.bool false))] = (Tg (up H who false)).map cB := by
            rw [← tg_set hw, List.map_set]; rfl
          by_cases hin : who ∈ whos l
          · obtain ⟨hs, q1, q2, q3, q4, q5, q6⟩ := good_drop hG hw hin
            rw [← hci] at q2
            have hsp := lDrop_spec l who (by omega)
            have hf0 : (f who == 0) = false := by rw [beq_eq_false_iff_ne]; exact (hG.1.inn who hw).2 hin
            have hfn : (f who != 0) = true := by rw [bne, hf0]; rfl
            simp -implicitDefEqProofs only [↓aP, aQ, ↓reduceIte, Nat.reduceEqDiff, Nat.reduceAdd, Nat.reduceSub, Nat.reduceMul, Nat.reduceLT, Nat.reduceLeDiff, reduceCtorEq, Nat.reduceBEq, forall_const, implies_true, exists_const, ne_eq, Int.reduceAdd, Int.reduceSub, Int.reduceMul, Int.reduceBEq, Int.reduceEq, Int.reduceLT, Int.reduceLE, Int.reduceToNat, Int.reduceNeg, Int.reduceBNe, s0, s3, g3, b3, s4, g4, b4, s5, g5, b5, s6, g6, b6, s7, s8, encLt, hwe]
            refine ask hsp ?_
            simp -implicitDefEqProofs only [↓aP, aQ, ↓reduceIte, Nat.reduceEqDiff, Nat.reduceAdd, Nat.reduceSub, Nat.reduceMul, Nat.reduceLT, Nat.reduceLeDiff, reduceCtorEq, Nat.reduceBEq, forall_const, implies_true, exists_const, ne_eq, Int.reduceAdd, Int.reduceSub, Int.reduceMul, Int.reduceBEq, Int.reduceEq, Int.reduceLT, Int.reduceLE, Int.reduceToNat, Int.reduceNeg, Int.reduceBNe, encDrop, encLt, q1, s0, s3, g3, b3, s4, g4, b4, s5, g5, b5, s6, g6, b6, s7, s8, hix, cI, askIdx_map, tg_at hw hix, hfn, bne_self_eq_false]
            refine ⟨by omega, by omega, by omega, by omega, by omega, by omega, ?_⟩
            simp -implicitDefEqProofs only [↓aP, aQ, ↓reduceIte, Nat.reduceEqDiff, Nat.reduceAdd, Nat.reduceSub, Nat.reduceMul, Nat.reduceLT, Nat.reduceLeDiff, reduceCtorEq, Nat.reduceBEq, forall_const, implies_true, exists_const, ne_eq, Int.reduceAdd, Int.reduceSub, Int.reduceMul, Int.reduceBEq, Int.reduceEq, Int.reduceLT, Int.reduceLE, Int.reduceToNat, Int.reduceNeg, Int.reduceBNe, s0, s3, g3, b3, s4, g4, b4, s5, g5, b5, s6, g6, b6, s7, s8, hix, hixH, cI, cB, askIdx_map, encLt]
            refine tail _ ⟨(dropM l who).1, _, g, up H who false, (dropM l who).2.1, hs, q2, q3, ?_, q5, q6, .inl ?_, ?_⟩
            · intro n hn
              unfold up
              by_cases e : n = who
              · rw [if_pos e, eq_comm, decide_eq_false_iff_not, q4]; simp [e]
              · rw [if_neg e, hH n hn, decide_eq_decide, q4]; simp [e]
            · simp -implicitDefEqProofs only [↓aP, aQ, ↓reduceIte, Nat.reduceEqDiff, Nat.reduceAdd, Nat.reduceSub, Nat.reduceMul, Nat.reduceLT, Nat.reduceLeDiff, reduceCtorEq, Nat.reduceBEq, forall_const, implies_true, exists_const, ne_eq, Int.reduceAdd, Int.reduceSub, Int.reduceMul, Int.reduceBEq, Int.reduceEq, Int.reduceLT, Int.reduceLE, Int.reduceToNat, Int.reduceNeg, Int.reduceBNe]
            · simp -implicitDefEqProofs only [↓aP, aQ, ↓reduceIte, Nat.reduceEqDiff, Nat.reduceAdd, Nat.reduceSub, Nat.reduceMul, Nat.reduceLT, Nat.reduceLeDiff, reduceCtorEq, Nat.reduceBEq, forall_const, implies_true, exists_const, ne_eq, Int.reduceAdd, Int.reduceSub, Int.reduceMul, Int.reduceBEq, Int.reduceEq, Int.reduceLT, Int.reduceLE, Int.reduceToNat, Int.reduceNeg, Int.reduceBNe, s0, s3, g3, b3, s4, g4, b4, s5, g5, b5, s6, g6, b6, s7, s8, encLt, List.length_map, hset3, hset4]
              all_goals (trace_state; sorry)
          · have hQ : dropM l who = (l, [], 3) := by
              unfold dropM
              rw [if_neg (by rw [hG.right]; simp), if_neg (fun e => hin (List.mem_append_left _ e)), if_neg (fun e => hin (by rw [at_lt] at e; exact List.mem_append_right _ e))]
            have hsp := lDrop_spec l who (by omega)
            rw [hQ] at hsp
            have hfw : f who = 0 := Classical.byContradiction fun e => hin ((hG.1.inn who hw).1 e)
            have hfn : (f who != 0) = false := by rw [hfw]; rfl
            simp -implicitDefEqProofs only [↓aP, aQ, ↓reduceIte, Nat.reduceEqDiff, Nat.reduceAdd, Nat.reduceSub, Nat.reduceMul, Nat.reduceLT, Nat.reduceLeDiff, reduceCtorEq, Nat.reduceBEq, forall_const, implies_true, exists_const, ne_eq, Int.reduceAdd, Int.reduceSub, Int.reduceMul, Int.reduceBEq, Int.reduceEq, Int.reduceLT, Int.reduceLE, Int.reduceToNat, Int.reduceNeg, Int.reduceBNe, s0, s3, g3, b3, s4, g4, b4, s5, g5, b5, s6, g6, b6, s7, s8, encLt, hwe]
            refine ask hsp ?_
            simp -implicitDefEqProofs only [↓aP, aQ, ↓reduceIte, Nat.reduceEqDiff, Nat.reduceAdd, Nat.reduceSub, Nat.reduceMul, Nat.reduceLT, Nat.reduceLeDiff, reduceCtorEq, Nat.reduceBEq, forall_const, implies_true, exists_const, ne_eq, Int.reduceAdd, Int.reduceSub, Int.reduceMul, Int.reduceBEq, Int.reduceEq, Int.reduceLT, Int.reduceLE, Int.reduceToNat, Int.reduceNeg, Int.reduceBNe, encDrop, encLt, s0, s3, g3, b3, s4, g4, b4, s5, g5, b5, s6, g6, b6, s7, s8, hix, cI, askIdx_map, tg_at hw hix, hfn, bne_self_eq_false, List.map_nil]
            refine ⟨by omega, by omega, by omega, by omega, by omega, by omega, ?_⟩
            simp -implicitDefEqProofs only [↓aP, aQ, ↓reduceIte, Nat.reduceEqDiff, Nat.reduceAdd, Nat.reduceSub, Nat.reduceMul, Nat.reduceLT, Nat.reduceLeDiff, reduceCtorEq, Nat.reduceBEq, forall_const, implies_true, exists_const, ne_eq, Int.reduceAdd, Int.reduceSub, Int.reduceMul, Int.reduceBEq, Int.reduceEq, Int.reduceLT, Int.reduceLE, Int.reduceToNat, Int.reduceNeg, Int.reduceBNe, s0, s3, g3, b3, s4, g4, b4, s5, g5, b5, s6, g6, b6, s7, s8, hix, hixH, cI, cB, askIdx_map, encLt]
            have hm1 := mid_same hG
            rw [← hci] at hm1
            have hHw : H who = false := by rw [hH who hw, decide_eq_false_iff_not]; exact fun e => hin (List.mem_append_left _ e)
            rw [up_same hfw] at hset3
            rw [up_same hHw] at hset4
            refine tail _ ⟨l, f, g, H, [], l.h, hm1, fun j hj => by simp at hj, hH, by simp, by simp, .inl ?_, ?_⟩
            · simp -implicitDefEqProofs only [↓aP, aQ, ↓reduceIte, Nat.reduceEqDiff, Nat.reduceAdd, Nat.reduceSub, Nat.reduceMul, Nat.reduceLT, Nat.reduceLeDiff, reduceCtorEq, Nat.reduceBEq, forall_const, implies_true, exists_const, ne_eq, Int.reduceAdd, Int.reduceSub, Int.reduceMul, Int.reduceBEq, Int.reduceEq, Int.reduceLT, Int.reduceLE, Int.reduceToNat, Int.reduceNeg, Int.reduceBNe, List.map_nil]
            · simp -implicitDefEqProofs only [↓aP, aQ, ↓reduceIte, Nat.reduceEqDiff, Nat.reduceAdd, Nat.reduceSub, Nat.reduceMul, Nat.reduceLT, Nat.reduceLeDiff, reduceCtorEq, Nat.reduceBEq, forall_const, implies_true, exists_const, ne_eq, Int.reduceAdd, Int.reduceSub, Int.reduceMul, Int.reduceBEq, Int.reduceEq, Int.reduceLT, Int.reduceLE, Int.reduceToNat, Int.reduceNeg, Int.reduceBNe, s0, s3, g3, b3, s4, g4, b4, s5, g5, b5, s6, g6, b6, s7, s8, encLt, List.length_nil, hset3, hset4]
              all_goals (trace_state; sorry)
      case h2 =>
        clear s0 s3 g3 b3 s4 g4 b4 s5 g5 b5 s6 g6 b6 s7 s8 hH hG hex hwe hix hixg hixH
        rintro σ ⟨l', f', g', H', cs, hs, hG', hcm, hH', hmem, hcl, hF, s0, s3, g3, b3, s4, g4, b4, s5, g5, b5, s6, g6, b6, s7, s8, s107, s108⟩
        rcases hF with hX | ⟨K, hX, hg84, hb84⟩
        · refine rangeB cs.length (fun j σ => ∃ H, (∀ n, 0 ≤ n ∧ n ≤ 9 → H n = decide (n ∈ hs ++ cs.take j)) ∧ σ.slot 0 = vL 2 (A.map encP) ∧ σ.slot 3 = .c (.ptr 3 1 0 0) ∧ σ.h.gen 3 = 1 ∧ σ.h.blk 3 = .box 54 3 [(encLt l').map AC.s] ∧ σ.slot 4 = .c (.ptr 4 1 0 0) ∧ σ.h.gen 4 = 1 ∧ σ.h.blk 4 = .box 73 1 ((Tg f').map cI) ∧ σ.slot 5 = .c (.ptr 5 1 0 0) ∧ σ.h.gen 5 = 1 ∧ σ.h.blk 5 = .box 74 1 ((Tg g').map cB) ∧ σ.slot 6 = .c (.ptr 6 1 0 0) ∧ σ.h.gen 6 = 1 ∧ σ.h.blk 6 = .box 74 1 ((Tg H).map cB) ∧ σ.slot 7 = vI (i + 1 : Nat) ∧ σ.slot 8 = vI i ∧ σ.slot 107 = vI cs.length ∧ σ.slot 108 = vI j ∧ σ.slot 106 = vL 1 (cs.map encI)) ?_ ?_ ?_
          · refine ⟨H', by simpa using hH', ?_⟩
            simp -implicitDefEqProofs only [↓aP, aQ, ↓reduceIte, Nat.reduceEqDiff, Nat.reduceAdd, Nat.reduceSub, Nat.reduceMul, Nat.reduceLT, Nat.reduceLeDiff, reduceCtorEq, Nat.reduceBEq, forall_const, implies_true, exists_const, ne_eq, Int.reduceAdd, Int.reduceSub, Int.reduceMul, Int.reduceBEq, Int.reduceEq, Int.reduceLT, Int.reduceLE, Int.reduceToNat, Int.reduceNeg, Int.reduceBNe, s0, s3, g3, b3, s4, g4, b4, s5, g5, b5, s6, g6, b6, s7, s8, s107, s108, hX]
          · clear s0 s3 g3 b3 s4 g4 b4 s5 g5 b5 s6 g6 b6 s7 s8 s107 s108 hX
            rintro j m2 σ hjm hj hlt ⟨H, hH, s0, s3, g3, b3, s4, g4, b4, s5, g5, b5, s6, g6, b6, s7, s8, s107, s108, s106⟩
            obtain ⟨r1, r2, r3, r4⟩ := hcm j hj
            have hH0 : H cs[j] = false := by rw [hH _ r1, decide_eq_false r2]
            have hix : cs[j].toNat < (Tg f').length := by rw [tg_len]; omega
            have hixH : cs[j].toNat < (Tg H).length := by rw [tg_len]; omega
            have hf0 : (f' cs[j] == 0) = false := by rw [beq_eq_false_iff_ne]; exact r3
            have hset : ((Tg H).map cB).set cs[j].toNat [.s (.pv (.bool true))] = (Tg (up H cs[j] true)).map cB := by
              rw [← tg_set r1, List.map_set]; rfl
            simp -implicitDefEqProofs only [↓aP, aQ, ↓reduceIte, Nat.reduceEqDiff, Nat.reduceAdd, Nat.reduceSub, Nat.reduceMul, Nat.reduceLT, Nat.reduceLeDiff, reduceCtorEq, Nat.reduceBEq, forall_const, implies_true, exists_const, ne_eq, Int.reduceAdd, Int.reduceSub, Int.reduceMul, Int.reduceBEq, Int.reduceEq, Int.reduceLT, Int.reduceLE, Int.reduceToNat, Int.reduceNeg, Int.reduceBNe, hlt, s0, s3, g3, b3, s4, g4, b4, s5, g5, b5, s6, g6, b6, s7, s8, s107, s108, s106, askIdx_map, hj, encI, List.length_map, show decide (cs[j] < 0) = false by (simp; omega), show decide (9 < cs[j]) = false by (simp; omega), hix, hixH, cB, cI, tg_at r1 hix, tg_at r1 hixH, hH0, hf0]
            (repeat' (with_reducible refine And.intro (by omega) ?_))
            obtain ⟨H2, hH2⟩ : ∃ H2, H2 = up H cs[j] true := ⟨_, rfl⟩
            rw [← hH2] at hset
            have hH2n : ∀ n, 0 ≤ n ∧ n ≤ 9 → H2 n = decide (n ∈ hs ++ cs.take (j + 1)) := by
              intro n hn
              rw [hH2, take_snoc hj, ← List.append_assoc]
              unfold up
              by_cases e : n = cs[j]
              · rw [if_pos e, eq_comm, decide_eq_true_eq]; simp only [List.mem_append, List.mem_singleton, e, or_true]
              · rw [if_neg e, hH n hn, decide_eq_decide]; simp only [List.mem_append, List.mem_singleton, e, or_false]
            refine rangeB 10 (fun k σ => σ.slot 0 = vL 2 (A.map encP) ∧ σ.slot 3 = .c (.ptr 3 1 0 0) ∧ σ.h.gen 3 = 1 ∧ σ.h.blk 3 = .box 54 3 [(encLt l').map AC.s] ∧ σ.slot 4 = .c (.ptr 4 1 0 0) ∧ σ.h.gen 4 = 1 ∧ σ.h.blk 4 = .box 73 1 ((Tg f').map cI) ∧ σ.slot 5 = .c (.ptr 5 1 0 0) ∧ σ.h.gen 5 = 1 ∧ σ.h.blk 5 = .box 74 1 ((Tg g').map cB) ∧ σ.slot 6 = .c (.ptr 6 1 0 0) ∧ σ.h.gen 6 = 1 ∧ σ.h.blk 6 = .box 74 1 ((Tg H2).map cB) ∧ σ.slot 7 = vI (i + 1 : Nat) ∧ σ.slot 8 = vI i ∧ σ.slot 107 = vI cs.length ∧ σ.slot 108 = vI j ∧ σ.slot 19 = vI cs[j] ∧ σ.slot 131 = vI k ∧ σ.slot 106 = vL 1 (cs.map encI)) ?_ ?_ ?_
            · simp -implicitDefEqProofs only [↓aP, aQ, ↓reduceIte, Nat.reduceEqDiff, Nat.reduceAdd, Nat.reduceSub, Nat.reduceMul, Nat.reduceLT, Nat.reduceLeDiff, reduceCtorEq, Nat.reduceBEq, forall_const, implies_true, exists_const, ne_eq, Int.reduceAdd, Int.reduceSub, Int.reduceMul, Int.reduceBEq, Int.reduceEq, Int.reduceLT, Int.reduceLE, Int.reduceToNat, Int.reduceNeg, Int.reduceBNe, s0, s3, g3, b3, s4, g4, b4, s5, g5, b5, s6, g6, b6, s7, s8, s107, s108, s106, hset]
            · clear hlt s0 s3 g3 b3 s4 g4 b4 s5 g5 b5 s6 g6 b6 s7 s8 s107 s108 s106
              rintro k m3 σ hkm hk hlt ⟨s0, s3, g3, b3, s4, g4, b4, s5, g5, b5, s6, g6, b6, s7, s8, s107, s108, s19, s131, s106⟩
              have kf : k < (Tg f').length := by rw [tg_len]; omega
              have kH : k < (Tg H2).length := by rw [tg_len]; omega
              have hk9 : (0 : Int) ≤ (k : Int) ∧ (k : Int) ≤ 9 := by omega
              have kt : ((k : Int)).toNat = k := by omega
              have hk10 : decide ((k : Int) < 10) = true := by simp; omega
              by_cases e1 : f' k = 0
              · simp -implicitDefEqProofs only [↓aP, aQ, ↓reduceIte, Nat.reduceEqDiff, Nat.reduceAdd, Nat.reduceSub, Nat.reduceMul, Nat.reduceLT, Nat.reduceLeDiff, reduceCtorEq, Nat.reduceBEq, forall_const, implies_true, exists_const, ne_eq, Int.reduceAdd, Int.reduceSub, Int.reduceMul, Int.reduceBEq, Int.reduceEq, Int.reduceLT, Int.reduceLE, Int.reduceToNat, Int.reduceNeg, Int.reduceBNe, hk10, s0, s3, g3, b3, s4, g4, b4, s5, g5, b5, s6, g6, b6, s7, s8, s107, s108, s19, s131, s106, kt, kf, kH, hix, cI, cB, askIdx_map, tg_nat kf, tg_nat kH, tg_at r1 hix, show (f' k != 0) = false by simpa using e1, wrapS (show k < 4611686018427387904 by omega)]
                repeat (first | with_reducible refine And.intro (by first | omega | decide +kernel) ?_)
                refine nextR hk hkm ?_
                simp -implicitDefEqProofs only [↓aP, aQ, ↓reduceIte, Nat.reduceEqDiff, Nat.reduceAdd, Nat.reduceSub, Nat.reduceMul, Nat.reduceLT, Nat.reduceLeDiff, reduceCtorEq, Nat.reduceBEq, forall_const, implies_true, exists_const, ne_eq, Int.reduceAdd, Int.reduceSub, Int.reduceMul, Int.reduceBEq, Int.reduceEq, Int.reduceLT, Int.reduceLE, Int.reduceToNat, Int.reduceNeg, Int.reduceBNe, s0, s3, g3, b3, s4, g4, b4, s5, g5, b5, s6, g6, b6, s7, s8, s107, s108, s19, s131, s106]
              · have e1' : (f' k != 0) = true := by simpa using e1
                by_cases e2 : f' k < f' cs[j]
                · have e3 : H2 k = true := by rw [hH2n _ hk9, decide_eq_true (r4 _ hk9 e1 e2)]
                  simp -implicitDefEqProofs only [↓aP, aQ, ↓reduceIte, Nat.reduceEqDiff, Nat.reduceAdd, Nat.reduceSub, Nat.reduceMul, Nat.reduceLT, Nat.reduceLeDiff, reduceCtorEq, Nat.reduceBEq, forall_const, implies_true, exists_const, ne_eq, Int.reduceAdd, Int.reduceSub, Int.reduceMul, Int.reduceBEq, Int.reduceEq, Int.reduceLT, Int.reduceLE, Int.reduceToNat, Int.reduceNeg, Int.reduceBNe, hk10, s0, s3, g3, b3, s4, g4, b4, s5, g5, b5, s6, g6, b6, s7, s8, s107, s108, s19, s131, s106, kt, kf, kH, hix, cI, cB, askIdx_map, tg_nat kf, tg_nat kH, tg_at r1 hix, e1', decide_eq_true e2, e3, wrapS (show k < 4611686018427387904 by omega)]
                  repeat (first | with_reducible refine And.intro (by first | omega | decide +kernel) ?_)
                  refine nextR hk hkm ?_
                  simp -implicitDefEqProofs only [↓aP, aQ, ↓reduceIte, Nat.reduceEqDiff, Nat.reduceAdd, Nat.reduceSub, Nat.reduceMul, Nat.reduceLT, Nat.reduceLeDiff, reduceCtorEq, Nat.reduceBEq, forall_const, implies_true, exists_const, ne_eq, Int.reduceAdd, Int.reduceSub, Int.reduceMul, Int.reduceBEq, Int.reduceEq, Int.reduceLT, Int.reduceLE, Int.reduceToNat, Int.reduceNeg, Int.reduceBNe, s0, s3, g3, b3, s4, g4, b4, s5, g5, b5, s6, g6, b6, s7, s8, s107, s108, s19, s131, s106]
                · simp -implicitDefEqProofs only [↓aP, aQ, ↓reduceIte, Nat.reduceEqDiff, Nat.reduceAdd, Nat.reduceSub, Nat.reduceMul, Nat.reduceLT, Nat.reduceLeDiff, reduceCtorEq, Nat.reduceBEq, forall_const, implies_true, exists_const, ne_eq, Int.reduceAdd, Int.reduceSub, Int.reduceMul, Int.reduceBEq, Int.reduceEq, Int.reduceLT, Int.reduceLE, Int.reduceToNat, Int.reduceNeg, Int.reduceBNe, hk10, s0, s3, g3, b3, s4, g4, b4, s5, g5, b5, s6, g6, b6, s7, s8, s107, s108, s19, s131, s106, kt, kf, kH, hix, cI, cB, askIdx_map, tg_nat kf, tg_nat kH, tg_at r1 hix, e1', decide_eq_false e2, wrapS (show k < 4611686018427387904 by omega)]
                  repeat (first | with_reducible refine And.intro (by first | omega | decide +kernel) ?_)
                  refine nextR hk hkm ?_
                  simp -implicitDefEqProofs only [↓aP, aQ, ↓reduceIte, Nat.reduceEqDiff, Nat.reduceAdd, Nat.reduceSub, Nat.reduceMul, Nat.reduceLT, Nat.reduceLeDiff, reduceCtorEq, Nat.reduceBEq, forall_const, implies_true, exists_const, ne_eq, Int.reduceAdd, Int.reduceSub, Int.reduceMul, Int.reduceBEq, Int.reduceEq, Int.reduceLT, Int.reduceLE, Int.reduceToNat, Int.reduceNeg, Int.reduceBNe, s0, s3, g3, b3, s4, g4, b4, s5, g5, b5, s6, g6, b6, s7, s8, s107, s108, s19, s131, s106]
            · clear hlt s0 s3 g3 b3 s4 g4 b4 s5 g5 b5 s6 g6 b6 s7 s8 s107 s108 s106
              rintro m3 σ hlt ⟨s0, s3, g3, b3, s4, g4, b4, s5, g5, b5, s6, g6, b6, s7, s8, s107, s108, s19, s131, s106⟩
              simp -implicitDefEqProofs only [↓aP, aQ, ↓reduceIte, Nat.reduceEqDiff, Nat.reduceAdd, Nat.reduceSub, Nat.reduceMul, Nat.reduceLT, Nat.reduceLeDiff, reduceCtorEq, Nat.reduceBEq, forall_const, implies_true, exists_const, ne_eq, Int.reduceAdd, Int.reduceSub, Int.reduceMul, Int.reduceBEq, Int.reduceEq, Int.reduceLT, Int.reduceLE, Int.reduceToNat, Int.reduceNeg, Int.reduceBNe, hlt, s0, s3, g3, b3, s4, g4, b4, s5, g5, b5, s6, g6, b6, s7, s8, s107, s108, s19, s131, s106, wrapS (show j < 4611686018427387904 by omega)]
              refine nextR hj hjm ⟨H2, hH2n, ?_⟩
              simp -implicitDefEqProofs only [↓aP, aQ, ↓reduceIte, Nat.reduceEqDiff, Nat.reduceAdd, Nat.reduceSub, Nat.reduceMul, Nat.reduceLT, Nat.reduceLeDiff, reduceCtorEq, Nat.reduceBEq, forall_const, implies_true, exists_const, ne_eq, Int.reduceAdd, Int.reduceSub, Int.reduceMul, Int.reduceBEq, Int.reduceEq, Int.reduceLT, Int.reduceLE, Int.reduceToNat, Int.reduceNeg, Int.reduceBNe, s0, s3, g3, b3, s4, g4, b4, s5, g5, b5, s6, g6, b6, s7, s8, s107, s108, s19, s131, s106]
          · clear s0 s3 g3 b3 s4 g4 b4 s5 g5 b5 s6 g6 b6 s7 s8 s107 s108 hX
            rintro m2 σ hlt ⟨H, hH, s0, s3, g3, b3, s4, g4, b4, s5, g5, b5, s6, g6, b6, s7, s8, s107, s108, s106⟩
            rw [List.take_length] at hH
            have hH9 : ∀ n, 0 ≤ n ∧ n ≤ 9 → H n = decide (n ∈ l'.h) := fun n hn => by rw [hH n hn, decide_eq_decide, hmem]
            simp -implicitDefEqProofs only [↓aP, aQ, ↓reduceIte, Nat.reduceEqDiff, Nat.reduceAdd, Nat.reduceSub, Nat.reduceMul, Nat.reduceLT, Nat.reduceLeDiff, reduceCtorEq, Nat.reduceBEq, forall_const, implies_true, exists_const, ne_eq, Int.reduceAdd, Int.reduceSub, Int.reduceMul, Int.reduceBEq, Int.reduceEq, Int.reduceLT, Int.reduceLE, Int.reduceToNat, Int.reduceNeg, Int.reduceBNe, hlt, s0, s3, g3, b3, s4, g4, b4, s5, g5, b5, s6, g6, b6, s7, s8, s107, s108, s106, List.length_map]
            refine rangeB 10 (fun k σ => ∃ r w : Nat, Rd l' r w k ∧ σ.slot 0 = vL 2 (A.map encP) ∧ σ.slot 3 = .c (.ptr 3 1 0 0) ∧ σ.h.gen 3 = 1 ∧ σ.h.blk 3 = .box 54 3 [(encLt l').map AC.s] ∧ σ.slot 4 = .c (.ptr 4 1 0 0) ∧ σ.h.gen 4 = 1 ∧ σ.h.blk 4 = .box 73 1 ((Tg f').map cI) ∧ σ.slot 5 = .c (.ptr 5 1 0 0) ∧ σ.h.gen 5 = 1 ∧ σ.h.blk 5 = .box 74 1 ((Tg g').map cB) ∧ σ.slot 6 = .c (.ptr 6 1 0 0) ∧ σ.h.gen 6 = 1 ∧ σ.h.blk 6 = .box 74 1 ((Tg H).map cB) ∧ σ.slot 7 = vI (i + 1 : Nat) ∧ σ.slot 8 = vI i ∧ σ.slot 21 = vI r ∧ σ.slot 22 = vI w ∧ σ.slot 155 = vI k) ?_ ?_ ?_
            · refine ⟨0, 0, ⟨⟨by omega, by omega⟩, fun _ => rfl, fun hx => ⟨rfl, fun a ha => ?_⟩⟩, ?_⟩
              · have := hG'.1.rng a (List.mem_append_left _ (by rw [ha]; simp))
                rw [if_neg (by omega)]
              · simp -implicitDefEqProofs only [↓aP, aQ, ↓reduceIte, Nat.reduceEqDiff, Nat.reduceAdd, Nat.reduceSub, Nat.reduceMul, Nat.reduceLT, Nat.reduceLeDiff, reduceCtorEq, Nat.reduceBEq, forall_const, implies_true, exists_const, ne_eq, Int.reduceAdd, Int.reduceSub, Int.reduceMul, Int.reduceBEq, Int.reduceEq, Int.reduceLT, Int.reduceLE, Int.reduceToNat, Int.reduceNeg, Int.reduceBNe, s0, s3, g3, b3, s4, g4, b4, s5, g5, b5, s6, g6, b6, s7, s8, s107, s108, s106]
            · clear hlt s0 s3 g3 b3 s4 g4 b4 s5 g5 b5 s6 g6 b6 s7 s8 s107 s108 s106
              rintro k m3 σ hkm hk hlt ⟨r, w, ⟨⟨hr, hw⟩, hx0, hx1⟩, s0, s3, g3, b3, s4, g4, b4, s5, g5, b5, s6, g6, b6, s7, s8, s21, s22, s155⟩
              have hk10 : decide ((k : Int) < 10) = true := by simp; omega
              have kg : k < (Tg g').length := by rw [tg_len]; omega
              have kH : k < (Tg H).length := by rw [tg_len]; omega
              have hk9 : (0 : Int) ≤ (k : Int) ∧ (k : Int) ≤ 9 := by omega
              have kt : ((k : Int)).toNat = k := by omega
              have hsp := lHolds_spec l' k (by have := mid_len hG'.1; omega)
              by_cases hkh : (k : Int) ∈ l'.h
              · have hq : holdsM l' k = (true, l'.ex) := by unfold holdsM; rw [if_pos ⟨hG'.right, hkh⟩]
                have hHk : H k = true := by rw [hH9 _ hk9, decide_eq_true hkh]
                have hgk : g' k = l'.ex := hG'.1.hol _ hkh
                rw [hq] at hsp
                simp -implicitDefEqProofs only [↓aP, aQ, ↓reduceIte, Nat.reduceEqDiff, Nat.reduceAdd, Nat.reduceSub, Nat.reduceMul, Nat.reduceLT, Nat.reduceLeDiff, reduceCtorEq, Nat.reduceBEq, forall_const, implies_true, exists_const, ne_eq, Int.reduceAdd, Int.reduceSub, Int.reduceMul, Int.reduceBEq, Int.reduceEq, Int.reduceLT, Int.reduceLE, Int.reduceToNat, Int.reduceNeg, Int.reduceBNe, hk10, s0, s3, g3, b3, s4, g4, b4, s5, g5, b5, s6, g6, b6, s7, s8, s21, s22, s155, encLt]
                refine ask hsp ?_
                cases hex : l'.ex
                · rw [hex] at hgk
                  have hw0 := hx0 hex
                  simp -implicitDefEqProofs only [↓aP, aQ, ↓reduceIte, Nat.reduceEqDiff, Nat.reduceAdd, Nat.reduceSub, Nat.reduceMul, Nat.reduceLT, Nat.reduceLeDiff, reduceCtorEq, Nat.reduceBEq, forall_const, implies_true, exists_const, ne_eq, Int.reduceAdd, Int.reduceSub, Int.reduceMul, Int.reduceBEq, Int.reduceEq, Int.reduceLT, Int.reduceLE, Int.reduceToNat, Int.reduceNeg, Int.reduceBNe, s0, s3, g3, b3, s4, g4, b4, s5, g5, b5, s6, g6, b6, s7, s8, s21, s22, s155, encLt, kt, kg, kH, askIdx_map, cB, tg_nat kg, tg_nat kH, hHk, hgk, bne_self_eq_false, hex, wrapS (show k < 4611686018427387904 by omega), wrapS (show r < 4611686018427387904 by omega), wrapS (show w < 4611686018427387904 by omega)]
                  refine ⟨by omega, by omega, by omega, ?_⟩
                  try simp -implicitDefEqProofs only [↓aP, aQ, ↓reduceIte, Nat.reduceEqDiff, Nat.reduceAdd, Nat.reduceSub, Nat.reduceMul, Nat.reduceLT, Nat.reduceLeDiff, reduceCtorEq, Nat.reduceBEq, forall_const, implies_true, exists_const, ne_eq, Int.reduceAdd, Int.reduceSub, Int.reduceMul, Int.reduceBEq, Int.reduceEq, Int.reduceLT, Int.reduceLE, Int.reduceToNat, Int.reduceNeg, Int.reduceBNe, s0, s3, g3, b3, s4, g4, b4, s5, g5, b5, s6, g6, b6, s7, s8, s21, s22, s155, encLt, kt, kg, kH, askIdx_map, cB, tg_nat kg, tg_nat kH, hHk, hgk, hex, wrapS (show k < 4611686018427387904 by omega), wrapS (show r < 4611686018427387904 by omega), wrapS (show w < 4611686018427387904 by omega)]
                  refine ⟨by omega, nextR hk hkm ⟨r + 1, w, ⟨⟨by omega, by omega⟩, hx0, fun hx => by rw [hex] at hx; cases hx⟩, ?_⟩⟩
                  simp -implicitDefEqProofs only [↓aP, aQ, ↓reduceIte, Nat.reduceEqDiff, Nat.reduceAdd, Nat.reduceSub, Nat.reduceMul, Nat.reduceLT, Nat.reduceLeDiff, reduceCtorEq, Nat.reduceBEq, forall_const, implies_true, exists_const, ne_eq, Int.reduceAdd, Int.reduceSub, Int.reduceMul, Int.reduceBEq, Int.reduceEq, Int.reduceLT, Int.reduceLE, Int.reduceToNat, Int.reduceNeg, Int.reduceBNe, s0, s3, g3, b3, s4, g4, b4, s5, g5, b5, s6, g6, b6, s7, s8, s21, s22, s155, encLt, hex]
                · rw [hex] at hgk
                  obtain ⟨hr0, hw1⟩ := hx1 hex
                  simp -implicitDefEqProofs only [↓aP, aQ, ↓reduceIte, Nat.reduceEqDiff, Nat.reduceAdd, Nat.reduceSub, Nat.reduceMul, Nat.reduceLT, Nat.reduceLeDiff, reduceCtorEq, Nat.reduceBEq, forall_const, implies_true, exists_const, ne_eq, Int.reduceAdd, Int.reduceSub, Int.reduceMul, Int.reduceBEq, Int.reduceEq, Int.reduceLT, Int.reduceLE, Int.reduceToNat, Int.reduceNeg, Int.reduceBNe, s0, s3, g3, b3, s4, g4, b4, s5, g5, b5, s6, g6, b6, s7, s8, s21, s22, s155, encLt, kt, kg, kH, askIdx_map, cB, tg_nat kg, tg_nat kH, hHk, hgk, bne_self_eq_false, hex, wrapS (show k < 4611686018427387904 by omega), wrapS (show r < 4611686018427387904 by omega), wrapS (show w < 4611686018427387904 by omega)]
                  refine ⟨by omega, by omega, by omega, ?_⟩
                  try simp -implicitDefEqProofs only [↓aP, aQ, ↓reduceIte, Nat.reduceEqDiff, Nat.reduceAdd, Nat.reduceSub, Nat.reduceMul, Nat.reduceLT, Nat.reduceLeDiff, reduceCtorEq, Nat.reduceBEq, forall_const, implies_true, exists_const, ne_eq, Int.reduceAdd, Int.reduceSub, Int.reduceMul, Int.reduceBEq, Int.reduceEq, Int.reduceLT, Int.reduceLE, Int.reduceToNat, Int.reduceNeg, Int.reduceBNe, s0, s3, g3, b3, s4, g4, b4, s5, g5, b5, s6, g6, b6, s7, s8, s21, s22, s155, encLt, kt, kg, kH, askIdx_map, cB, tg_nat kg, tg_nat kH, hHk, hgk, hex, wrapS (show k < 4611686018427387904 by omega), wrapS (show r < 4611686018427387904 by omega), wrapS (show w < 4611686018427387904 by omega)]
                  have hw2 : ∀ a, l'.h = [a] → w + 1 = if a < ((k + 1 : Nat) : Int) then 1 else 0 := by
                    intro a ha
                    have hak : (k : Int) = a := by rw [ha] at hkh; simpa using hkh
                    rw [hw1 a ha, if_neg (by omega), if_pos (by omega)]
                  refine ⟨by omega, nextR hk hkm ⟨r, w + 1, ⟨⟨by omega, by omega⟩, (fun hx => by rw [hex] at hx; cases hx), fun _ => ⟨hr0, hw2⟩⟩, ?_⟩⟩
                  simp -implicitDefEqProofs only [↓aP, aQ, ↓reduceIte, Nat.reduceEqDiff, Nat.reduceAdd, Nat.reduceSub, Nat.reduceMul, Nat.reduceLT, Nat.reduceLeDiff, reduceCtorEq, Nat.reduceBEq, forall_const, implies_true, exists_const, ne_eq, Int.reduceAdd, Int.reduceSub, Int.reduceMul, Int.reduceBEq, Int.reduceEq, Int.reduceLT, Int.reduceLE, Int.reduceToNat, Int.reduceNeg, Int.reduceBNe, s0, s3, g3, b3, s4, g4, b4, s5, g5, b5, s6, g6, b6, s7, s8, s21, s22, s155, encLt, hex]
              · have hq : holdsM l' k = (false, false) := by unfold holdsM; rw [if_neg (fun h => hkh h.2)]
                have hHk : H k = false := by rw [hH9 _ hk9, decide_eq_false hkh]
                rw [hq] at hsp
                simp -implicitDefEqProofs only [↓aP, aQ, ↓reduceIte, Nat.reduceEqDiff, Nat.reduceAdd, Nat.reduceSub, Nat.reduceMul, Nat.reduceLT, Nat.reduceLeDiff, reduceCtorEq, Nat.reduceBEq, forall_const, implies_true, exists_const, ne_eq, Int.reduceAdd, Int.reduceSub, Int.reduceMul, Int.reduceBEq, Int.reduceEq, Int.reduceLT, Int.reduceLE, Int.reduceToNat, Int.reduceNeg, Int.reduceBNe, hk10, s0, s3, g3, b3, s4, g4, b4, s5, g5, b5, s6, g6, b6, s7, s8, s21, s22, s155, encLt]
                refine ask hsp ?_
                simp -implicitDefEqProofs only [↓aP, aQ, ↓reduceIte, Nat.reduceEqDiff, Nat.reduceAdd, Nat.reduceSub, Nat.reduceMul, Nat.reduceLT, Nat.reduceLeDiff, reduceCtorEq, Nat.reduceBEq, forall_const, implies_true, exists_const, ne_eq, Int.reduceAdd, Int.reduceSub, Int.reduceMul, Int.reduceBEq, Int.reduceEq, Int.reduceLT, Int.reduceLE, Int.reduceToNat, Int.reduceNeg, Int.reduceBNe, s0, s3, g3, b3, s4, g4, b4, s5, g5, b5, s6, g6, b6, s7, s8, s21, s22, s155, encLt, kt, kg, kH, askIdx_map, cB, tg_nat kg, tg_nat kH, hHk, bne_self_eq_false, wrapS (show k < 4611686018427387904 by omega)]
                refine ⟨by omega, ?_⟩
                refine nextR hk hkm ⟨r, w, ⟨⟨by omega, by omega⟩, hx0, fun hx => ⟨(hx1 hx).1, fun a ha => ?_⟩⟩, ?_⟩
                · have hne : a ≠ (k : Int) := fun e => hkh (by rw [ha, e]; simp)
                  rw [(hx1 hx).2 a ha]
                  split <;> split <;> omega
                · simp -implicitDefEqProofs only [↓aP, aQ, ↓reduceIte, Nat.reduceEqDiff, Nat.reduceAdd, Nat.reduceSub, Nat.reduceMul, Nat.reduceLT, Nat.reduceLeDiff, reduceCtorEq, Nat.reduceBEq, forall_const, implies_true, exists_const, ne_eq, Int.reduceAdd, Int.reduceSub, Int.reduceMul, Int.reduceBEq, Int.reduceEq, Int.reduceLT, Int.reduceLE, Int.reduceToNat, Int.reduceNeg, Int.reduceBNe, s0, s3, g3, b3, s4, g4, b4, s5, g5, b5, s6, g6, b6, s7, s8, s21, s22, s155, encLt]
            · clear hlt s0 s3 g3 b3 s4 g4 b4 s5 g5 b5 s6 g6 b6 s7 s8 s107 s108 s106
              rintro m3 σ hlt ⟨r, w, ⟨⟨hr, hw⟩, hx0, hx1⟩, s0, s3, g3, b3, s4, g4, b4, s5, g5, b5, s6, g6, b6, s7, s8, s21, s22, s155⟩
              cases hex : l'.ex
              · obtain rfl := hx0 hex
                simp -implicitDefEqProofs only [↓aP, aQ, ↓reduceIte, Nat.reduceEqDiff, Nat.reduceAdd, Nat.reduceSub, Nat.reduceMul, Nat.reduceLT, Nat.reduceLeDiff, reduceCtorEq, Nat.reduceBEq, forall_const, implies_true, exists_const, ne_eq, Int.reduceAdd, Int.reduceSub, Int.reduceMul, Int.reduceBEq, Int.reduceEq, Int.reduceLT, Int.reduceLE, Int.reduceToNat, Int.reduceNeg, Int.reduceBNe, hlt, s0, s3, g3, b3, s4, g4, b4, s5, g5, b5, s6, g6, b6, s7, s8, s21, s22, s155]
                refine ask (by have := lRight_spec l' (by have := mid_len hG'.1; omega); exact this) ?_
                simp -implicitDefEqProofs only [↓aP, aQ, ↓reduceIte, Nat.reduceEqDiff, Nat.reduceAdd, Nat.reduceSub, Nat.reduceMul, Nat.reduceLT, Nat.reduceLeDiff, reduceCtorEq, Nat.reduceBEq, forall_const, implies_true, exists_const, ne_eq, Int.reduceAdd, Int.reduceSub, Int.reduceMul, Int.reduceBEq, Int.reduceEq, Int.reduceLT, Int.reduceLE, Int.reduceToNat, Int.reduceNeg, Int.reduceBNe, hG'.right, s0, s3, g3, b3, s4, g4, b4, s5, g5, b5, s6, g6, b6, s7, s8, s21, s22, s155, wrapS (show i < 4611686018427387904 by omega)]
                refine ⟨m - 1, by omega, i + 1, l', f', g', H, by omega, hG', hH9, ?_⟩
                simp -implicitDefEqProofs only [↓aP, aQ, ↓reduceIte, Nat.reduceEqDiff, Nat.reduceAdd, Nat.reduceSub, Nat.reduceMul, Nat.reduceLT, Nat.reduceLeDiff, reduceCtorEq, Nat.reduceBEq, forall_const, implies_true, exists_const, ne_eq, Int.reduceAdd, Int.reduceSub, Int.reduceMul, Int.reduceBEq, Int.reduceEq, Int.reduceLT, Int.reduceLE, Int.reduceToNat, Int.reduceNeg, Int.reduceBNe, encLt]
              · obtain ⟨rfl, hw1⟩ := hx1 hex
                have h1 := hG'.1.pre.2.1 hex
                obtain ⟨a, ha⟩ : ∃ a, l'.h = [a] := List.length_eq_one_iff.1 h1
                have ha9 := hG'.1.rng a (List.mem_append_left _ (by rw [ha]; simp))
                have hw2 := hw1 a ha
                rw [if_pos (by omega)] at hw2
                subst hw2
                simp -implicitDefEqProofs only [↓aP, aQ, ↓reduceIte, Nat.reduceEqDiff, Nat.reduceAdd, Nat.reduceSub, Nat.reduceMul, Nat.reduceLT, Nat.reduceLeDiff, reduceCtorEq, Nat.reduceBEq, forall_const, implies_true, exists_const, ne_eq, Int.reduceAdd, Int.reduceSub, Int.reduceMul, Int.reduceBEq, Int.reduceEq, Int.reduceLT, Int.reduceLE, Int.reduceToNat, Int.reduceNeg, Int.reduceBNe, hlt, s0, s3, g3, b3, s4, g4, b4, s5, g5, b5, s6, g6, b6, s7, s8, s21, s22, s155]
                refine ask (by have := lRight_spec l' (by have := mid_len hG'.1; omega); exact this) ?_
                simp -implicitDefEqProofs only [↓aP, aQ, ↓reduceIte, Nat.reduceEqDiff, Nat.reduceAdd, Nat.reduceSub, Nat.reduceMul, Nat.reduceLT, Nat.reduceLeDiff, reduceCtorEq, Nat.reduceBEq, forall_const, implies_true, exists_const, ne_eq, Int.reduceAdd, Int.reduceSub, Int.reduceMul, Int.reduceBEq, Int.reduceEq, Int.reduceLT, Int.reduceLE, Int.reduceToNat, Int.reduceNeg, Int.reduceBNe, hG'.right, s0, s3, g3, b3, s4, g4, b4, s5, g5, b5, s6, g6, b6, s7, s8, s21, s22, s155, wrapS (show i < 4611686018427387904 by omega)]
                refine ⟨m - 1, by omega, i + 1, l', f', g', H, by omega, hG', hH9, ?_⟩
                simp -implicitDefEqProofs only [↓aP, aQ, ↓reduceIte, Nat.reduceEqDiff, Nat.reduceAdd, Nat.reduceSub, Nat.reduceMul, Nat.reduceLT, Nat.reduceLeDiff, reduceCtorEq, Nat.reduceBEq, forall_const, implies_true, exists_const, ne_eq, Int.reduceAdd, Int.reduceSub, Int.reduceMul, Int.reduceBEq, Int.reduceEq, Int.reduceLT, Int.reduceLE, Int.reduceToNat, Int.reduceNeg, Int.reduceBNe, encLt]
        · refine rangeB cs.length (fun j σ => ∃ H, (∀ n, 0 ≤ n ∧ n ≤ 9 → H n = decide (n ∈ hs ++ cs.take j)) ∧ σ.slot 0 = vL 2 (A.map encP) ∧ σ.slot 3 = .c (.ptr 3 1 0 0) ∧ σ.h.gen 3 = 1 ∧ σ.h.blk 3 = .box 54 3 [(encLt l').map AC.s] ∧ σ.slot 4 = .c (.ptr 4 1 0 0) ∧ σ.h.gen 4 = 1 ∧ σ.h.blk 4 = .box 73 1 ((Tg f').map cI) ∧ σ.slot 5 = .c (.ptr 5 1 0 0) ∧ σ.h.gen 5 = 1 ∧ σ.h.blk 5 = .box 74 1 ((Tg g').map cB) ∧ σ.slot 6 = .c (.ptr 6 1 0 0) ∧ σ.h.gen 6 = 1 ∧ σ.h.blk 6 = .box 74 1 ((Tg H).map cB) ∧ σ.slot 7 = vI (i + 1 : Nat) ∧ σ.slot 8 = vI i ∧ σ.slot 107 = vI cs.length ∧ σ.slot 108 = vI j ∧ σ.slot 106 = .c (.own 84 K) ∧ σ.h.gen 84 = K ∧ σ.h.blk 84 = .row 3 1 (cs.map encI)) ?_ ?_ ?_
          · refine ⟨H', by simpa using hH', ?_⟩
            simp -implicitDefEqProofs only [↓aP, aQ, ↓reduceIte, Nat.reduceEqDiff, Nat.reduceAdd, Nat.reduceSub, Nat.reduceMul, Nat.reduceLT, Nat.reduceLeDiff, reduceCtorEq, Nat.reduceBEq, forall_const, implies_true, exists_const, ne_eq, Int.reduceAdd, Int.reduceSub, Int.reduceMul, Int.reduceBEq, Int.reduceEq, Int.reduceLT, Int.reduceLE, Int.reduceToNat, Int.reduceNeg, Int.reduceBNe, s0, s3, g3, b3, s4, g4, b4, s5, g5, b5, s6, g6, b6, s7, s8, s107, s108, hX, hg84, hb84]
          · clear s0 s3 g3 b3 s4 g4 b4 s5 g5 b5 s6 g6 b6 s7 s8 s107 s108 hX  hg84  hb84
            rintro j m2 σ hjm hj hlt ⟨H, hH, s0, s3, g3, b3, s4, g4, b4, s5, g5, b5, s6, g6, b6, s7, s8, s107, s108, s106, g84, b84⟩
            obtain ⟨r1, r2, r3, r4⟩ := hcm j hj
            have hH0 : H cs[j] = false := by rw [hH _ r1, decide_eq_false r2]
            have hix : cs[j].toNat < (Tg f').length := by rw [tg_len]; omega
            have hixH : cs[j].toNat < (Tg H).length := by rw [tg_len]; omega
            have hf0 : (f' cs[j] == 0) = false := by rw [beq_eq_false_iff_ne]; exact r3
            have hset : ((Tg H).map cB).set cs[j].toNat [.s (.pv (.bool true))] = (Tg (up H cs[j] true)).map cB := by
              rw [← tg_set r1, List.map_set]; rfl
            simp -implicitDefEqProofs only [↓aP, aQ, ↓reduceIte, Nat.reduceEqDiff, Nat.reduceAdd, Nat.reduceSub, Nat.reduceMul, Nat.reduceLT, Nat.reduceLeDiff, reduceCtorEq, Nat.reduceBEq, forall_const, implies_true, exists_const, ne_eq, Int.reduceAdd, Int.reduceSub, Int.reduceMul, Int.reduceBEq, Int.reduceEq, Int.reduceLT, Int.reduceLE, Int.reduceToNat, Int.reduceNeg, Int.reduceBNe, hlt, s0, s3, g3, b3, s4, g4, b4, s5, g5, b5, s6, g6, b6, s7, s8, s107, s108, s106, g84, b84, askIdx_map, hj, encI, List.length_map, show decide (cs[j] < 0) = false by (simp; omega), show decide (9 < cs[j]) = false by (simp; omega), hix, hixH, cB, cI, tg_at r1 hix, tg_at r1 hixH, hH0, hf0]
            (repeat' (with_reducible refine And.intro (by omega) ?_))
            obtain ⟨H2, hH2⟩ : ∃ H2, H2 = up H cs[j] true := ⟨_, rfl⟩
            rw [← hH2] at hset
            have hH2n : ∀ n, 0 ≤ n ∧ n ≤ 9 → H2 n = decide (n ∈ hs ++ cs.take (j + 1)) := by
              intro n hn
              rw [hH2, take_snoc hj, ← List.append_assoc]
              unfold up
              by_cases e : n = cs[j]
              · rw [if_pos e, eq_comm, decide_eq_true_eq]; simp only [List.mem_append, List.mem_singleton, e, or_true]
              · rw [if_neg e, hH n hn, decide_eq_decide]; simp only [List.mem_append, List.mem_singleton, e, or_false]
            refine rangeB 10 (fun k σ => σ.slot 0 = vL 2 (A.map encP) ∧ σ.slot 3 = .c (.ptr 3 1 0 0) ∧ σ.h.gen 3 = 1 ∧ σ.h.blk 3 = .box 54 3 [(encLt l').map AC.s] ∧ σ.slot 4 = .c (.ptr 4 1 0 0) ∧ σ.h.gen 4 = 1 ∧ σ.h.blk 4 = .box 73 1 ((Tg f').map cI) ∧ σ.slot 5 = .c (.ptr 5 1 0 0) ∧ σ.h.gen 5 = 1 ∧ σ.h.blk 5 = .box 74 1 ((Tg g').map cB) ∧ σ.slot 6 = .c (.ptr 6 1 0 0) ∧ σ.h.gen 6 = 1 ∧ σ.h.blk 6 = .box 74 1 ((Tg H2).map cB) ∧ σ.slot 7 = vI (i + 1 : Nat) ∧ σ.slot 8 = vI i ∧ σ.slot 107 = vI cs.length ∧ σ.slot 108 = vI j ∧ σ.slot 19 = vI cs[j] ∧ σ.slot 131 = vI k ∧ σ.slot 106 = .c (.own 84 K) ∧ σ.h.gen 84 = K ∧ σ.h.blk 84 = .row 3 1 (cs.map encI)) ?_ ?_ ?_
            · simp -implicitDefEqProofs only [↓aP, aQ, ↓reduceIte, Nat.reduceEqDiff, Nat.reduceAdd, Nat.reduceSub, Nat.reduceMul, Nat.reduceLT, Nat.reduceLeDiff, reduceCtorEq, Nat.reduceBEq, forall_const, implies_true, exists_const, ne_eq, Int.reduceAdd, Int.reduceSub, Int.reduceMul, Int.reduceBEq, Int.reduceEq, Int.reduceLT, Int.reduceLE, Int.reduceToNat, Int.reduceNeg, Int.reduceBNe, s0, s3, g3, b3, s4, g4, b4, s5, g5, b5, s6, g6, b6, s7, s8, s107, s108, s106, g84, b84, hset]
            · clear hlt s0 s3 g3 b3 s4 g4 b4 s5 g5 b5 s6 g6 b6 s7 s8 s107 s108 s106 g84 b84
              rintro k m3 σ hkm hk hlt ⟨s0, s3, g3, b3, s4, g4, b4, s5, g5, b5, s6, g6, b6, s7, s8, s107, s108, s19, s131, s106, g84, b84⟩
              have kf : k < (Tg f').length := by rw [tg_len]; omega
              have kH : k < (Tg H2).length := by rw [tg_len]; omega
              have hk9 : (0 : Int) ≤ (k : Int) ∧ (k : Int) ≤ 9 := by omega
              have kt : ((k : Int)).toNat = k := by omega
              have hk10 : decide ((k : Int) < 10) = true := by simp; omega
              by_cases e1 : f' k = 0
              · simp -implicitDefEqProofs only [↓aP, aQ, ↓reduceIte, Nat.reduceEqDiff, Nat.reduceAdd, Nat.reduceSub, Nat.reduceMul, Nat.reduceLT, Nat.reduceLeDiff, reduceCtorEq, Nat.reduceBEq, forall_const, implies_true, exists_const, ne_eq, Int.reduceAdd, Int.reduceSub, Int.reduceMul, Int.reduceBEq, Int.reduceEq, Int.reduceLT, Int.reduceLE, Int.reduceToNat, Int.reduceNeg, Int.reduceBNe, hk10, s0, s3, g3, b3, s4, g4, b4, s5, g5, b5, s6, g6, b6, s7, s8, s107, s108, s19, s131, s106, g84, b84, kt, kf, kH, hix, cI, cB, askIdx_map, tg_nat kf, tg_nat kH, tg_at r1 hix, show (f' k != 0) = false by simpa using e1, wrapS (show k < 4611686018427387904 by omega)]
                repeat (first | with_reducible refine And.intro (by first | omega | decide +kernel) ?_)
                refine nextR hk hkm ?_
                simp -implicitDefEqProofs only [↓aP, aQ, ↓reduceIte, Nat.reduceEqDiff, Nat.reduceAdd, Nat.reduceSub, Nat.reduceMul, Nat.reduceLT, Nat.reduceLeDiff, reduceCtorEq, Nat.reduceBEq, forall_const, implies_true, exists_const, ne_eq, Int.reduceAdd, Int.reduceSub, Int.reduceMul, Int.reduceBEq, Int.reduceEq, Int.reduceLT, Int.reduceLE, Int.reduceToNat, Int.reduceNeg, Int.reduceBNe, s0, s3, g3, b3, s4, g4, b4, s5, g5, b5, s6, g6, b6, s7, s8, s107, s108, s19, s131, s106, g84, b84]
              · have e1' : (f' k != 0) = true := by simpa using e1
                by_cases e2 : f' k < f' cs[j]
                · have e3 : H2 k = true := by rw [hH2n _ hk9, decide_eq_true (r4 _ hk9 e1 e2)]
                  simp -implicitDefEqProofs only [↓aP, aQ, ↓reduceIte, Nat.reduceEqDiff, Nat.reduceAdd, Nat.reduceSub, Nat.reduceMul, Nat.reduceLT, Nat.reduceLeDiff, reduceCtorEq, Nat.reduceBEq, forall_const, implies_true, exists_const, ne_eq, Int.reduceAdd, Int.reduceSub, Int.reduceMul, Int.reduceBEq, Int.reduceEq, Int.reduceLT, Int.reduceLE, Int.reduceToNat, Int.reduceNeg, Int.reduceBNe, hk10, s0, s3, g3, b3, s4, g4, b4, s5, g5, b5, s6, g6, b6, s7, s8, s107, s108, s19, s131, s106, g84, b84, kt, kf, kH, hix, cI, cB, askIdx_map, tg_nat kf, tg_nat kH, tg_at r1 hix, e1', decide_eq_true e2, e3, wrapS (show k < 4611686018427387904 by omega)]
                  repeat (first | with_reducible refine And.intro (by first | omega | decide +kernel) ?_)
                  refine nextR hk hkm ?_
                  simp -implicitDefEqProofs only [↓aP, aQ, ↓reduceIte, Nat.reduceEqDiff, Nat.reduceAdd, Nat.reduceSub, Nat.reduceMul, Nat.reduceLT, Nat.reduceLeDiff, reduceCtorEq, Nat.reduceBEq, forall_const, implies_true, exists_const, ne_eq, Int.reduceAdd, Int.reduceSub, Int.reduceMul, Int.reduceBEq, Int.reduceEq, Int.reduceLT, Int.reduceLE, Int.reduceToNat, Int.reduceNeg, Int.reduceBNe, s0, s3, g3, b3, s4, g4, b4, s5, g5, b5, s6, g6, b6, s7, s8, s107, s108, s19, s131, s106, g84, b84]
                · simp -implicitDefEqProofs only [↓aP, aQ, ↓reduceIte, Nat.reduceEqDiff, Nat.reduceAdd, Nat.reduceSub, Nat.reduceMul, Nat.reduceLT, Nat.reduceLeDiff, reduceCtorEq, Nat.reduceBEq, forall_const, implies_true, exists_const, ne_eq, Int.reduceAdd, Int.reduceSub, Int.reduceMul, Int.reduceBEq, Int.reduceEq, Int.reduceLT, Int.reduceLE, Int.reduceToNat, Int.reduceNeg, Int.reduceBNe, hk10, s0, s3, g3, b3, s4, g4, b4, s5, g5, b5, s6, g6, b6, s7, s8, s107, s108, s19, s131, s106, g84, b84, kt, kf, kH, hix, cI, cB, askIdx_map, tg_nat kf, tg_nat kH, tg_at r1 hix, e1', decide_eq_false e2, wrapS (show k < 4611686018427387904 by omega)]
                  repeat (first | with_reducible refine And.intro (by first | omega | decide +kernel) ?_)
                  refine nextR hk hkm ?_
                  simp -implicitDefEqProofs only [↓aP, aQ, ↓reduceIte, Nat.reduceEqDiff, Nat.reduceAdd, Nat.reduceSub, Nat.reduceMul, Nat.reduceLT, Nat.reduceLeDiff, reduceCtorEq, Nat.reduceBEq, forall_const, implies_true, exists_const, ne_eq, Int.reduceAdd, Int.reduceSub, Int.reduceMul, Int.reduceBEq, Int.reduceEq, Int.reduceLT, Int.reduceLE, Int.reduceToNat, Int.reduceNeg, Int.reduceBNe, s0, s3, g3, b3, s4, g4, b4, s5, g5, b5, s6, g6, b6, s7, s8, s107, s108, s19, s131, s106, g84, b84]
            · clear hlt s0 s3 g3 b3 s4 g4 b4 s5 g5 b5 s6 g6 b6 s7 s8 s107 s108 s106 g84 b84
              rintro m3 σ hlt ⟨s0, s3, g3, b3, s4, g4, b4, s5, g5, b5, s6, g6, b6, s7, s8, s107, s108, s19, s131, s106, g84, b84⟩
              simp -implicitDefEqProofs only [↓aP, aQ, ↓reduceIte, Nat.reduceEqDiff, Nat.reduceAdd, Nat.reduceSub, Nat.reduceMul, Nat.reduceLT, Nat.reduceLeDiff, reduceCtorEq, Nat.reduceBEq, forall_const, implies_true, exists_const, ne_eq, Int.reduceAdd, Int.reduceSub, Int.reduceMul, Int.reduceBEq, Int.reduceEq, Int.reduceLT, Int.reduceLE, Int.reduceToNat, Int.reduceNeg, Int.reduceBNe, hlt, s0, s3, g3, b3, s4, g4, b4, s5, g5, b5, s6, g6, b6, s7, s8, s107, s108, s19, s131, s106, g84, b84, wrapS (show j < 4611686018427387904 by omega)]
              refine nextR hj hjm ⟨H2, hH2n, ?_⟩
              simp -implicitDefEqProofs only [↓aP, aQ, ↓reduceIte, Nat.reduceEqDiff, Nat.reduceAdd, Nat.reduceSub, Nat.reduceMul, Nat.reduceLT, Nat.reduceLeDiff, reduceCtorEq, Nat.reduceBEq, forall_const, implies_true, exists_const, ne_eq, Int.reduceAdd, Int.reduceSub, Int.reduceMul, Int.reduceBEq, Int.reduceEq, Int.reduceLT, Int.reduceLE, Int.reduceToNat, Int.reduceNeg, Int.reduceBNe, s0, s3, g3, b3, s4, g4, b4, s5, g5, b5, s6, g6, b6, s7, s8, s107, s108, s19, s131, s106, g84, b84]
          · clear s0 s3 g3 b3 s4 g4 b4 s5 g5 b5 s6 g6 b6 s7 s8 s107 s108 hX  hg84  hb84
            rintro m2 σ hlt ⟨H, hH, s0, s3, g3, b3, s4, g4, b4, s5, g5, b5, s6, g6, b6, s7, s8, s107, s108, s106, g84, b84⟩
            rw [List.take_length] at hH
            have hH9 : ∀ n, 0 ≤ n ∧ n ≤ 9 → H n = decide (n ∈ l'.h) := fun n hn => by rw [hH n hn, decide_eq_decide, hmem]
            simp -implicitDefEqProofs only [↓aP, aQ, ↓reduceIte, Nat.reduceEqDiff, Nat.reduceAdd, Nat.reduceSub, Nat.reduceMul, Nat.reduceLT, Nat.reduceLeDiff, reduceCtorEq, Nat.reduceBEq, forall_const, implies_true, exists_const, ne_eq, Int.reduceAdd, Int.reduceSub, Int.reduceMul, Int.reduceBEq, Int.reduceEq, Int.reduceLT, Int.reduceLE, Int.reduceToNat, Int.reduceNeg, Int.reduceBNe, hlt, s0, s3, g3, b3, s4, g4, b4, s5, g5, b5, s6, g6, b6, s7, s8, s107, s108, s106, g84, b84, List.length_map]
            refine rangeB 10 (fun k σ => ∃ r w : Nat, Rd l' r w k ∧ σ.slot 0 = vL 2 (A.map encP) ∧ σ.slot 3 = .c (.ptr 3 1 0 0) ∧ σ.h.gen 3 = 1 ∧ σ.h.blk 3 = .box 54 3 [(encLt l').map AC.s] ∧ σ.slot 4 = .c (.ptr 4 1 0 0) ∧ σ.h.gen 4 = 1 ∧ σ.h.blk 4 = .box 73 1 ((Tg f').map cI) ∧ σ.slot 5 = .c (.ptr 5 1 0 0) ∧ σ.h.gen 5 = 1 ∧ σ.h.blk 5 = .box 74 1 ((Tg g').map cB) ∧ σ.slot 6 = .c (.ptr 6 1 0 0) ∧ σ.h.gen 6 = 1 ∧ σ.h.blk 6 = .box 74 1 ((Tg H).map cB) ∧ σ.slot 7 = vI (i + 1 : Nat) ∧ σ.slot 8 = vI i ∧ σ.slot 21 = vI r ∧ σ.slot 22 = vI w ∧ σ.slot 155 = vI k) ?_ ?_ ?_
            · refine ⟨0, 0, ⟨⟨by omega, by omega⟩, fun _ => rfl, fun hx => ⟨rfl, fun a ha => ?_⟩⟩, ?_⟩
              · have := hG'.1.rng a (List.mem_append_left _ (by rw [ha]; simp))
                rw [if_neg (by omega)]
              · simp -implicitDefEqProofs only [↓aP, aQ, ↓reduceIte, Nat.reduceEqDiff, Nat.reduceAdd, Nat.reduceSub, Nat.reduceMul, Nat.reduceLT, Nat.reduceLeDiff, reduceCtorEq, Nat.reduceBEq, forall_const, implies_true, exists_const, ne_eq, Int.reduceAdd, Int.reduceSub, Int.reduceMul, Int.reduceBEq, Int.reduceEq, Int.reduceLT, Int.reduceLE, Int.reduceToNat, Int.reduceNeg, Int.reduceBNe, s0, s3, g3, b3, s4, g4, b4, s5, g5, b5, s6, g6, b6, s7, s8, s107, s108, s106, g84, b84]
            · clear hlt s0 s3 g3 b3 s4 g4 b4 s5 g5 b5 s6 g6 b6 s7 s8 s107 s108 s106 g84 b84
              rintro k m3 σ hkm hk hlt ⟨r, w, ⟨⟨hr, hw⟩, hx0, hx1⟩, s0, s3, g3, b3, s4, g4, b4, s5, g5, b5, s6, g6, b6, s7, s8, s21, s22, s155⟩
              have hk10 : decide ((k : Int) < 10) = true := by simp; omega
              have kg : k < (Tg g').length := by rw [tg_len]; omega
              have kH : k < (Tg H).length := by rw [tg_len]; omega
              have hk9 : (0 : Int) ≤ (k : Int) ∧ (k : Int) ≤ 9 := by omega
              have kt : ((k : Int)).toNat = k := by omega
              have hsp := lHolds_spec l' k (by have := mid_len hG'.1; omega)
              by_cases hkh : (k : Int) ∈ l'.h
              · have hq : holdsM l' k = (true, l'.ex) := by unfold holdsM; rw [if_pos ⟨hG'.right, hkh⟩]
                have hHk : H k = true := by rw [hH9 _ hk9, decide_eq_true hkh]
                have hgk : g' k = l'.ex := hG'.1.hol _ hkh
                rw [hq] at hsp
                simp -implicitDefEqProofs only [↓aP, aQ, ↓reduceIte, Nat.reduceEqDiff, Nat.reduceAdd, Nat.reduceSub, Nat.reduceMul, Nat.reduceLT, Nat.reduceLeDiff, reduceCtorEq, Nat.reduceBEq, forall_const, implies_true, exists_const, ne_eq, Int.reduceAdd, Int.reduceSub, Int.reduceMul, Int.reduceBEq, Int.reduceEq, Int.reduceLT, Int.reduceLE, Int.reduceToNat, Int.reduceNeg, Int.reduceBNe, hk10, s0, s3, g3, b3, s4, g4, b4, s5, g5, b5, s6, g6, b6, s7, s8, s21, s22, s155, encLt]
                refine ask hsp ?_
                cases hex : l'.ex
                · rw [hex] at hgk
                  have hw0 := hx0 hex
                  simp -implicitDefEqProofs only [↓aP, aQ, ↓reduceIte, Nat.reduceEqDiff, Nat.reduceAdd, Nat.reduceSub, Nat.reduceMul, Nat.reduceLT, Nat.reduceLeDiff, reduceCtorEq, Nat.reduceBEq, forall_const, implies_true, exists_const, ne_eq, Int.reduceAdd, Int.reduceSub, Int.reduceMul, Int.reduceBEq, Int.reduceEq, Int.reduceLT, Int.reduceLE, Int.reduceToNat, Int.reduceNeg, Int.reduceBNe, s0, s3, g3, b3, s4, g4, b4, s5, g5, b5, s6, g6, b6, s7, s8, s21, s22, s155, encLt, kt, kg, kH, askIdx_map, cB, tg_nat kg, tg_nat kH, hHk, hgk, bne_self_eq_false, hex, wrapS (show k < 4611686018427387904 by omega), wrapS (show r < 4611686018427387904 by omega), wrapS (show w < 4611686018427387904 by omega)]
                  refine ⟨by omega, by omega, by omega, ?_⟩
                  try simp -implicitDefEqProofs only [↓aP, aQ, ↓reduceIte, Nat.reduceEqDiff, Nat.reduceAdd, Nat.reduceSub, Nat.reduceMul, Nat.reduceLT, Nat.reduceLeDiff, reduceCtorEq, Nat.reduceBEq, forall_const, implies_true, exists_const, ne_eq, Int.reduceAdd, Int.reduceSub, Int.reduceMul, Int.reduceBEq, Int.reduceEq, Int.reduceLT, Int.reduceLE, Int.reduceToNat, Int.reduceNeg, Int.reduceBNe, s0, s3, g3, b3, s4, g4, b4, s5, g5, b5, s6, g6, b6, s7, s8, s21, s22, s155, encLt, kt, kg, kH, askIdx_map, cB, tg_nat kg, tg_nat kH, hHk, hgk, hex, wrapS (show k < 4611686018427387904 by omega), wrapS (show r < 4611686018427387904 by omega), wrapS (show w < 4611686018427387904 by omega)]
                  refine ⟨by omega, nextR hk hkm ⟨r + 1, w, ⟨⟨by omega, by omega⟩, hx0, fun hx => by rw [hex] at hx; cases hx⟩, ?_⟩⟩
                  simp -implicitDefEqProofs only [↓aP, aQ, ↓reduceIte, Nat.reduceEqDiff, Nat.reduceAdd, Nat.reduceSub, Nat.reduceMul, Nat.reduceLT, Nat.reduceLeDiff, reduceCtorEq, Nat.reduceBEq, forall_const, implies_true, exists_const, ne_eq, Int.reduceAdd, Int.reduceSub, Int.reduceMul, Int.reduceBEq, Int.reduceEq, Int.reduceLT, Int.reduceLE, Int.reduceToNat, Int.reduceNeg, Int.reduceBNe, s0, s3, g3, b3, s4, g4, b4, s5, g5, b5, s6, g6, b6, s7, s8, s21, s22, s155, encLt, hex]
                · rw [hex] at hgk
                  obtain ⟨hr0, hw1⟩ := hx1 hex
                  simp -implicitDefEqProofs only [↓aP, aQ, ↓reduceIte, Nat.reduceEqDiff, Nat.reduceAdd, Nat.reduceSub, Nat.reduceMul, Nat.reduceLT, Nat.reduceLeDiff, reduceCtorEq, Nat.reduceBEq, forall_const, implies_true, exists_const, ne_eq, Int.reduceAdd, Int.reduceSub, Int.reduceMul, Int.reduceBEq, Int.reduceEq, Int.reduceLT, Int.reduceLE, Int.reduceToNat, Int.reduceNeg, Int.reduceBNe, s0, s3, g3, b3, s4, g4, b4, s5, g5, b5, s6, g6, b6, s7, s8, s21, s22, s155, encLt, kt, kg, kH, askIdx_map, cB, tg_nat kg, tg_nat kH, hHk, hgk, bne_self_eq_false, hex, wrapS (show k < 4611686018427387904 by omega), wrapS (show r < 4611686018427387904 by omega), wrapS (show w < 4611686018427387904 by omega)]
                  refine ⟨by omega, by omega, by omega, ?_⟩
                  try simp -implicitDefEqProofs only [↓aP, aQ, ↓reduceIte, Nat.reduceEqDiff, Nat.reduceAdd, Nat.reduceSub, Nat.reduceMul, Nat.reduceLT, Nat.reduceLeDiff, reduceCtorEq, Nat.reduceBEq, forall_const, implies_true, exists_const, ne_eq, Int.reduceAdd, Int.reduceSub, Int.reduceMul, Int.reduceBEq, Int.reduceEq, Int.reduceLT, Int.reduceLE, Int.reduceToNat, Int.reduceNeg, Int.reduceBNe, s0, s3, g3, b3, s4, g4, b4, s5, g5, b5, s6, g6, b6, s7, s8, s21, s22, s155, encLt, kt, kg, kH, askIdx_map, cB, tg_nat kg, tg_nat kH, hHk, hgk, hex, wrapS (show k < 4611686018427387904 by omega), wrapS (show r < 4611686018427387904 by omega), wrapS (show w < 4611686018427387904 by omega)]
                  have hw2 : ∀ a, l'.h = [a] → w + 1 = if a < ((k + 1 : Nat) : Int) then 1 else 0 := by
                    intro a ha
                    have hak : (k : Int) = a := by rw [ha] at hkh; simpa using hkh
                    rw [hw1 a ha, if_neg (by omega), if_pos (by omega)]
                  refine ⟨by omega, nextR hk hkm ⟨r, w + 1, ⟨⟨by omega, by omega⟩, (fun hx => by rw [hex] at hx; cases hx), fun _ => ⟨hr0, hw2⟩⟩, ?_⟩⟩
                  simp -implicitDefEqProofs only [↓aP, aQ, ↓reduceIte, Nat.reduceEqDiff, Nat.reduceAdd, Nat.reduceSub, Nat.reduceMul, Nat.reduceLT, Nat.reduceLeDiff, reduceCtorEq, Nat.reduceBEq, forall_const, implies_true, exists_const, ne_eq, Int.reduceAdd, Int.reduceSub, Int.reduceMul, Int.reduceBEq, Int.reduceEq, Int.reduceLT, Int.reduceLE, Int.reduceToNat, Int.reduceNeg, Int.reduceBNe, s0, s3, g3, b3, s4, g4, b4, s5, g5, b5, s6, g6, b6, s7, s8, s21, s22, s155, encLt, hex]
              · have hq : holdsM l' k = (false, false) := by unfold holdsM; rw [if_neg (fun h => hkh h.2)]
                have hHk : H k = false := by rw [hH9 _ hk9, decide_eq_false hkh]
                rw [hq] at hsp
                simp -implicitDefEqProofs only [↓aP, aQ, ↓reduceIte, Nat.reduceEqDiff, Nat.reduceAdd, Nat.reduceSub, Nat.reduceMul, Nat.reduceLT, Nat.reduceLeDiff, reduceCtorEq, Nat.reduceBEq, forall_const, implies_true, exists_const, ne_eq, Int.reduceAdd, Int.reduceSub, Int.reduceMul, Int.reduceBEq, Int.reduceEq, Int.reduceLT, Int.reduceLE, Int.reduceToNat, Int.reduceNeg, Int.reduceBNe, hk10, s0, s3, g3, b3, s4, g4, b4, s5, g5, b5, s6, g6, b6, s7, s8, s21, s22, s155, encLt]
                refine ask hsp ?_
                simp -implicitDefEqProofs only [↓aP, aQ, ↓reduceIte, Nat.reduceEqDiff, Nat.reduceAdd, Nat.reduceSub, Nat.reduceMul, Nat.reduceLT, Nat.reduceLeDiff, reduceCtorEq, Nat.reduceBEq, forall_const, implies_true, exists_const, ne_eq, Int.reduceAdd, Int.reduceSub, Int.reduceMul, Int.reduceBEq, Int.reduceEq, Int.reduceLT, Int.reduceLE, Int.reduceToNat, Int.reduceNeg, Int.reduceBNe, s0, s3, g3, b3, s4, g4, b4, s5, g5, b5, s6, g6, b6, s7, s8, s21, s22, s155, encLt, kt, kg, kH, askIdx_map, cB, tg_nat kg, tg_nat kH, hHk, bne_self_eq_false, wrapS (show k < 4611686018427387904 by omega)]
                refine ⟨by omega, ?_⟩
                refine nextR hk hkm ⟨r, w, ⟨⟨by omega, by omega⟩, hx0, fun hx => ⟨(hx1 hx).1, fun a ha => ?_⟩⟩, ?_⟩
                · have hne : a ≠ (k : Int) := fun e => hkh (by rw [ha, e]; simp)
                  rw [(hx1 hx).2 a ha]
                  split <;> split <;> omega
                · simp -implicitDefEqProofs only [↓aP, aQ, ↓reduceIte, Nat.reduceEqDiff, Nat.reduceAdd, Nat.reduceSub, Nat.reduceMul, Nat.reduceLT, Nat.reduceLeDiff, reduceCtorEq, Nat.reduceBEq, forall_const, implies_true, exists_const, ne_eq, Int.reduceAdd, Int.reduceSub, Int.reduceMul, Int.reduceBEq, Int.reduceEq, Int.reduceLT, Int.reduceLE, Int.reduceToNat, Int.reduceNeg, Int.reduceBNe, s0, s3, g3, b3, s4, g4, b4, s5, g5, b5, s6, g6, b6, s7, s8, s21, s22, s155, encLt]
            · clear hlt s0 s3 g3 b3 s4 g4 b4 s5 g5 b5 s6 g6 b6 s7 s8 s107 s108 s106 g84 b84
              rintro m3 σ hlt ⟨r, w, ⟨⟨hr, hw⟩, hx0, hx1⟩, s0, s3, g3, b3, s4, g4, b4, s5, g5, b5, s6, g6, b6, s7, s8, s21, s22, s155⟩
              cases hex : l'.ex
              · obtain rfl := hx0 hex
                simp -implicitDefEqProofs only [↓aP, aQ, ↓reduceIte, Nat.reduceEqDiff, Nat.reduceAdd, Nat.reduceSub, Nat.reduceMul, Nat.reduceLT, Nat.reduceLeDiff, reduceCtorEq, Nat.reduceBEq, forall_const, implies_true, exists_const, ne_eq, Int.reduceAdd, Int.reduceSub, Int.reduceMul, Int.reduceBEq, Int.reduceEq, Int.reduceLT, Int.reduceLE, Int.reduceToNat, Int.reduceNeg, Int.reduceBNe, hlt, s0, s3, g3, b3, s4, g4, b4, s5, g5, b5, s6, g6, b6, s7, s8, s21, s22, s155]
                refine ask (by have := lRight_spec l' (by have := mid_len hG'.1; omega); exact this) ?_
                simp -implicitDefEqProofs only [↓aP, aQ, ↓reduceIte, Nat.reduceEqDiff, Nat.reduceAdd, Nat.reduceSub, Nat.reduceMul, Nat.reduceLT, Nat.reduceLeDiff, reduceCtorEq, Nat.reduceBEq, forall_const, implies_true, exists_const, ne_eq, Int.reduceAdd, Int.reduceSub, Int.reduceMul, Int.reduceBEq, Int.reduceEq, Int.reduceLT, Int.reduceLE, Int.reduceToNat, Int.reduceNeg, Int.reduceBNe, hG'.right, s0, s3, g3, b3, s4, g4, b4, s5, g5, b5, s6, g6, b6, s7, s8, s21, s22, s155, wrapS (show i < 4611686018427387904 by omega)]
                refine ⟨m - 1, by omega, i + 1, l', f', g', H, by omega, hG', hH9, ?_⟩
                simp -implicitDefEqProofs only [↓aP, aQ, ↓reduceIte, Nat.reduceEqDiff, Nat.reduceAdd, Nat.reduceSub, Nat.reduceMul, Nat.reduceLT, Nat.reduceLeDiff, reduceCtorEq, Nat.reduceBEq, forall_const, implies_true, exists_const, ne_eq, Int.reduceAdd, Int.reduceSub, Int.reduceMul, Int.reduceBEq, Int.reduceEq, Int.reduceLT, Int.reduceLE, Int.reduceToNat, Int.reduceNeg, Int.reduceBNe, encLt]
              · obtain ⟨rfl, hw1⟩ := hx1 hex
                have h1 := hG'.1.pre.2.1 hex
                obtain ⟨a, ha⟩ : ∃ a, l'.h = [a] := List.length_eq_one_iff.1 h1
                have ha9 := hG'.1.rng a (List.mem_append_left _ (by rw [ha]; simp))
                have hw2 := hw1 a ha
                rw [if_pos (by omega)] at hw2
                subst hw2
                simp -implicitDefEqProofs only [↓aP, aQ, ↓reduceIte, Nat.reduceEqDiff, Nat.reduceAdd, Nat.reduceSub, Nat.reduceMul, Nat.reduceLT, Nat.reduceLeDiff, reduceCtorEq, Nat.reduceBEq, forall_const, implies_true, exists_const, ne_eq, Int.reduceAdd, Int.reduceSub, Int.reduceMul, Int.reduceBEq, Int.reduceEq, Int.reduceLT, Int.reduceLE, Int.reduceToNat, Int.reduceNeg, Int.reduceBNe, hlt, s0, s3, g3, b3, s4, g4, b4, s5, g5, b5, s6, g6, b6, s7, s8, s21, s22, s155]
                refine ask (by have := lRight_spec l' (by have := mid_len hG'.1; omega); exact this) ?_
                simp -implicitDefEqProofs only [↓aP, aQ, ↓reduceIte, Nat.reduceEqDiff, Nat.reduceAdd, Nat.reduceSub, Nat.reduceMul, Nat.reduceLT, Nat.reduceLeDiff, reduceCtorEq, Nat.reduceBEq, forall_const, implies_true, exists_const, ne_eq, Int.reduceAdd, Int.reduceSub, Int.reduceMul, Int.reduceBEq, Int.reduceEq, Int.reduceLT, Int.reduceLE, Int.reduceToNat, Int.reduceNeg, Int.reduceBNe, hG'.right, s0, s3, g3, b3, s4, g4, b4, s5, g5, b5, s6, g6, b6, s7, s8, s21, s22, s155, wrapS (show i < 4611686018427387904 by omega)]
                refine ⟨m - 1, by omega, i + 1, l', f', g', H, by omega, hG', hH9, ?_⟩
                simp -implicitDefEqProofs only [↓aP, aQ, ↓reduceIte, Nat.reduceEqDiff, Nat.reduceAdd, Nat.reduceSub, Nat.reduceMul, Nat.reduceLT, Nat.reduceLeDiff, reduceCtorEq, Nat.reduceBEq, forall_const, implies_true, exists_const, ne_eq, Int.reduceAdd, Int.reduceSub, Int.reduceMul, Int.reduceBEq, Int.reduceEq, Int.reduceLT, Int.reduceLE, Int.reduceToNat, Int.reduceNeg, Int.reduceBNe, encLt]
    · by_cases hiA : i < A.length
      · simp -implicitDefEqProofs only [↓aP, aQ, ↓reduceIte, Nat.reduceEqDiff, Nat.reduceAdd, Nat.reduceSub, Nat.reduceMul, Nat.reduceLT, Nat.reduceLeDiff, reduceCtorEq, Nat.reduceBEq, forall_const, implies_true, exists_const, ne_eq, Int.reduceAdd, Int.reduceSub, Int.reduceMul, Int.reduceBEq, Int.reduceEq, Int.reduceLT, Int.reduceLE, Int.reduceToNat, Int.reduceNeg, Int.reduceBNe, show decide ((i : Int) < (A.length : Int)) = true by (simp; omega), show decide ((i : Int) < 100) = false by (simp; omega), s0, s3, g3, b3, s4, g4, b4, s5, g5, b5, s6, g6, b6, s7, s8, List.length_map]
        refine ask awake_spec ?_
        simp -implicitDefEqProofs only [↓aP, aQ, ↓reduceIte, Nat.reduceEqDiff, Nat.reduceAdd, Nat.reduceSub, Nat.reduceMul, Nat.reduceLT, Nat.reduceLeDiff, reduceCtorEq, Nat.reduceBEq, forall_const, implies_true, exists_const, ne_eq, Int.reduceAdd, Int.reduceSub, Int.reduceMul, Int.reduceBEq, Int.reduceEq, Int.reduceLT, Int.reduceLE, Int.reduceToNat, Int.reduceNeg, Int.reduceBNe]
      · simp -implicitDefEqProofs only [↓aP, aQ, ↓reduceIte, Nat.reduceEqDiff, Nat.reduceAdd, Nat.reduceSub, Nat.reduceMul, Nat.reduceLT, Nat.reduceLeDiff, reduceCtorEq, Nat.reduceBEq, forall_const, implies_true, exists_const, ne_eq, Int.reduceAdd, Int.reduceSub, Int.reduceMul, Int.reduceBEq, Int.reduceEq, Int.reduceLT, Int.reduceLE, Int.reduceToNat, Int.reduceNeg, Int.reduceBNe, show decide ((i : Int) < (A.length : Int)) = false by (simp; omega), s0, s3, g3, b3, s4, g4, b4, s5, g5, b5, s6, g6, b6, s7, s8, List.length_map]
        refine ask awake_spec ?_
        simp -implicitDefEqProofs only [↓aP, aQ, ↓reduceIte, Nat.reduceEqDiff, Nat.reduceAdd, Nat.reduceSub, Nat.reduceMul, Nat.reduceLT, Nat.reduceLeDiff, reduceCtorEq, Nat.reduceBEq, forall_const, implies_true, exists_const, ne_eq, Int.reduceAdd, Int.reduceSub, Int.reduceMul, Int.reduceBEq, Int.reduceEq, Int.reduceLT, Int.reduceLE, Int.reduceToNat, Int.reduceNeg, Int.reduceBNe]
open Go.ChangeShapes Go.WideShapes in
set_option maxRecDepth 100000 in
theorem open_acts {H : Type} {enc : TypeId × Value → H} {w : World} {spare : Nat → Bool} {held : Bool} {r : Reach} {b0 : Nat} {v : Value} {d : DataW H} {p : List MemPlace} 
    (hv : Value.okWide Try.prog w r b0 38 v) (h : DataW.Trod enc Try.prog w 0 spare held 38 v d p) : ∃ A : List (Int × Int), ((∀ p ∈ A, (0 ≤ p.1 ∧ p.1 ≤ 255) ∧ (0 ≤ p.2 ∧ p.2 ≤ 255)) ∧ A.length ≤ maxLen) ∧ RepT (RepS w fun _ => False) (rL 2 (A.map encP)) v := by
  obtain ⟨y, ⟨els, e1, e2, e3⟩, h2⟩ := open_one (opens_slice Try.underlying38 (by kernel_rfl) (by decide) (opens_arr2 Try.underlying41 (by kernel_rfl) (opens_int Try.underlying5 (by kernel_rfl)))) (slice_cells Try.underlying38 hv) h
  simp only [List.cons.injEq, and_true] at e1
  subst e1
  obtain ⟨A, rfl, hA⟩ := all_of_mem2 (f := encP) (p := fun p => (0 ≤ p.1 ∧ p.1 ≤ 255) ∧ (0 ≤ p.2 ∧ p.2 ≤ 255)) (fun y hy => by
    obtain ⟨a, b, rfl, ⟨n, hn, hw⟩, ⟨n2, hn2, hw2⟩⟩ := e2 y hy
    simp only [List.cons.injEq, and_true] at hn hn2
    subst hn; subst hn2
    exact ⟨(n, n2), rfl, u8_of hw, u8_of hw2⟩)
  exact ⟨A, ⟨hA, by simpa using e3⟩, h2⟩
theorem latchAlone_walk {w : World} (v0 : Value) (a0 : ∃ A : List (Int × Int), ((∀ p ∈ A, (0 ≤ p.1 ∧ p.1 ≤ 255) ∧ (0 ≤ p.2 ∧ p.2 ≤ 255)) ∧ A.length ≤ maxLen) ∧ RepT (RepS w fun _ => False) (rL 2 (A.map encP)) v0) :
    Calls Try.prog 8 #[v0] w fun e w' => e = .returned (.bool true) ∧ Below w.heap.size w w' := by
  obtain ⟨A, hA, h0⟩ := a0
  exact (law_alone A hA.1 (by have := hA.2; unfold maxLen at this; omega)).plain (us := [v0]) (.cons h0 .nil)
end Go.Proofs.Ytkiddlkmodclhaa
