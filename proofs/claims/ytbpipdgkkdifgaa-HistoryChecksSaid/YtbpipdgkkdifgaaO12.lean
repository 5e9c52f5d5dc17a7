/- layer 18: the contract: the document's Do. -/
import Derived.Test.YtbpipdgkkdifgaaO9
namespace Go.Proofs.Ytbpipdgkkdifgaa
open Go.RowKit Ok
set_option linter.unusedVariables false
set_option linter.unusedSimpArgs false
set_option maxRecDepth 10000
def encDo2 (x : List Pg × Rs) : TV SC := .tup [(false, [.sl 3 (x.1.map encPg)]), (true, encRs x.2)]
def aPg (p : Pg) : List AC := (encPg p).map AC.s
namespace Ok
theorem tab_at {l : List Pg} (h : rightM l = true) {id : Int} (hid : 1 ≤ id ∧ id ≤ 16) (hx : id.toNat < (tabL l).length) : (tabL l)[id.toNat] = (look l id).getD zP := by
  obtain ⟨hok, hm⟩ := right_iff.1 h
  have h1 := tab_look (l := l) rfl hm (fun p hp => by have := okP_iff.1 (hok p hp); exact ⟨this.1, this.2.1⟩) id.toNat (by omega)
  rw [List.getD_eq_getElem?_getD, List.getElem?_eq_getElem hx, show ((id.toNat : Nat) : Int) = id by omega] at h1
  exact h1
theorem tab_do {l : List Pg} {o : Opr} (h : rightM l = true) (hid : 1 ≤ o.id ∧ o.id ≤ 16) : ((((tabL l).set o.id.toNat ((step (look l o.id) o).1.getD zP)).drop 1).filter fun p => p.id != 0) = (doM l o).1 := by
  obtain ⟨hok, hm⟩ := right_iff.1 h
  obtain ⟨g1, g2, g3⟩ := do_good (o := o) h
  refine tab_tell (by rw [List.length_set, tab_len]) g1 (fun k h1 h2 => ?_)
  rw [g3, List.getD_eq_getElem?_getD, List.getElem?_set]
  by_cases e : o.id.toNat = k
  · rw [if_pos e, if_pos (by rw [tab_len]; omega), if_pos (by omega)]
    rfl
  · rw [if_neg e, if_neg (by omega), ← List.getD_eq_getElem?_getD]
    exact tab_look rfl hm (fun p hp => by have := okP_iff.1 (hok p hp); exact ⟨this.1, this.2.1⟩) k h2
end Ok
theorem tab_nil : tabL [] = List.replicate 17 zP := rfl


theorem rDo_spec (l : List Pg) (o : Opr) (hl : l.length < 4611686018427387904) : Spec Try.prog 24 [rL 3 (l.map encPg), .agg (encOp o)] (.val (encDo2 (doM l o))) := by
  refine spec_val mixed fn24 (by simp) ?_
  unfold ac24
  simp -implicitDefEqProofs only [↓aP, aQ, ↓reduceIte, Nat.reduceEqDiff, Nat.reduceAdd, Nat.reduceSub, Nat.reduceMul, Nat.reduceLT, Nat.reduceLeDiff, reduceCtorEq, Nat.reduceBEq, forall_const, implies_true, exists_const, ne_eq, Int.reduceAdd, Int.reduceSub, Int.reduceMul, Int.reduceBEq, Int.reduceEq, Int.reduceLT, Int.reduceLE, Int.reduceToNat, Int.reduceNeg, Int.reduceBNe, encOp, encDo2]
  refine ask (rRight_spec l hl) ?_
  by_cases hb : badO l o
  · have e : doM l o = (l, ⟨1, zP⟩) := if_pos hb
    rw [e]
    unfold badO at hb
    simp -implicitDefEqProofs only [↓aP, aQ, ↓reduceIte, Nat.reduceEqDiff, Nat.reduceAdd, Nat.reduceSub, Nat.reduceMul, Nat.reduceLT, Nat.reduceLeDiff, reduceCtorEq, Nat.reduceBEq, forall_const, implies_true, exists_const, ne_eq, Int.reduceAdd, Int.reduceSub, Int.reduceMul, Int.reduceBEq, Int.reduceEq, Int.reduceLT, Int.reduceLE, Int.reduceToNat, Int.reduceNeg, Int.reduceBNe, encOp, encRs, zP]
    repeat' ((first | ((first | with_reducible refine fork ?_ ?_ | with_reducible refine gcase ?_ ?_ | with_reducible refine gcaseD ?_ ?_) <;> intro hc <;> (have hp := hc) <;> (try simp only [aB] at hp)) | (have hc := True.intro; first | with_reducible refine askM (by omega) ?_ | with_reducible refine And.intro (by first | omega | decide +kernel) ?_ | fail)) <;> (try simp -implicitDefEqProofs only [↓aP, aQ, ↓reduceIte, Nat.reduceEqDiff, Nat.reduceAdd, Nat.reduceSub, Nat.reduceMul, Nat.reduceLT, Nat.reduceLeDiff, reduceCtorEq, Nat.reduceBEq, forall_const, implies_true, exists_const, ne_eq, Int.reduceAdd, Int.reduceSub, Int.reduceMul, Int.reduceBEq, Int.reduceEq, Int.reduceLT, Int.reduceLE, Int.reduceToNat, Int.reduceNeg, Int.reduceBNe, hc, encOp, encRs, zP]))
    all_goals (exfalso; rcases hb with h | h | h | h | h <;> first | omega | (simp_all; done) | (simp_all; omega))
  have hgood : rightM l = true ∧ 1 ≤ o.kind ∧ o.kind ≤ 4 ∧ 1 ≤ o.id ∧ o.id ≤ 16 := by
    unfold badO at hb
    simp only [not_or, Bool.not_eq_false, Int.not_lt] at hb
    exact hb
  obtain ⟨hr, k1, k2, i1, i2⟩ := hgood
  obtain ⟨hok, hm⟩ := right_iff.1 hr
  have h16 := right_len hr
  simp -implicitDefEqProofs only [↓aP, aQ, ↓reduceIte, Nat.reduceEqDiff, Nat.reduceAdd, Nat.reduceSub, Nat.reduceMul, Nat.reduceLT, Nat.reduceLeDiff, reduceCtorEq, Nat.reduceBEq, forall_const, implies_true, exists_const, ne_eq, Int.reduceAdd, Int.reduceSub, Int.reduceMul, Int.reduceBEq, Int.reduceEq, Int.reduceLT, Int.reduceLE, Int.reduceToNat, Int.reduceNeg, Int.reduceBNe, hr, show decide (o.kind < 1) = false by simp; omega, show decide (4 < o.kind) = false by simp; omega, show decide (o.id < 1) = false by simp; omega, show decide (16 < o.id) = false by simp; omega, encOp]
  refine rangeB l.length (fun i σ => σ.slot 0 = vL 3 (l.map encPg) ∧ σ.slot 3 = .c (.ptr 3 1 0 0) ∧ σ.h.gen 3 = 1 ∧ σ.h.blk 3 = .box 39 3 [(encOp o).map AC.s] ∧ σ.slot 5 = .c (.ptr 5 1 0 0) ∧ σ.h.gen 5 = 1 ∧ σ.h.blk 5 = .box 64 4 [(encRs ⟨0, zP⟩).map AC.s] ∧ σ.slot 6 = .c (.ptr 6 1 0 0) ∧ σ.h.gen 6 = 1 ∧ σ.h.blk 6 = .box 77 3 ((tabL (l.take i)).map aPg) ∧ σ.slot 7 = vI i) ?_ ?_ ?_
  · simp -implicitDefEqProofs only [↓aP, aQ, ↓reduceIte, Nat.reduceEqDiff, Nat.reduceAdd, Nat.reduceSub, Nat.reduceMul, Nat.reduceLT, Nat.reduceLeDiff, reduceCtorEq, Nat.reduceBEq, forall_const, implies_true, exists_const, ne_eq, Int.reduceAdd, Int.reduceSub, Int.reduceMul, Int.reduceBEq, Int.reduceEq, Int.reduceLT, Int.reduceLE, Int.reduceToNat, Int.reduceNeg, Int.reduceBNe, encOp, encRs, zP]
    rfl
  · rintro i m σ him hi hlt ⟨s0, s3, g3, b3, s5, g5, b5, s6, g6, b6, s7⟩
    have hp := okP_iff.1 (hok _ (List.getElem_mem hi))
    have hix : l[i].id.toNat < (tabL (l.take i)).length := by rw [tab_len]; omega
    have hmap : ((tabL (l.take i)).map aPg).set l[i].id.toNat [.s (.pv (.int .i64 l[i].id)), .s (.pv (.int .i64 l[i].ver)), .s (.pv (.string l[i].body))] = (tabL (l.take (i + 1))).map aPg := by
      rw [take_snoc hi, tab_snoc, List.map_set]; rfl
    simp -implicitDefEqProofs only [↓aP, aQ, ↓reduceIte, Nat.reduceEqDiff, Nat.reduceAdd, Nat.reduceSub, Nat.reduceMul, Nat.reduceLT, Nat.reduceLeDiff, reduceCtorEq, Nat.reduceBEq, forall_const, implies_true, exists_const, ne_eq, Int.reduceAdd, Int.reduceSub, Int.reduceMul, Int.reduceBEq, Int.reduceEq, Int.reduceLT, Int.reduceLE, Int.reduceToNat, Int.reduceNeg, Int.reduceBNe, hlt, s0, s3, g3, b3, s5, g5, b5, s6, g6, b6, s7, List.length_map, askIdx_map, hi, encPg, hix, aPg, wrapS (show i < 4611686018427387904 by omega)]
    refine ⟨by omega, by omega, by decide +kernel, ?_⟩
    refine nextR hi him ?_
    simp -implicitDefEqProofs only [↓aP, aQ, ↓reduceIte, Nat.reduceEqDiff, Nat.reduceAdd, Nat.reduceSub, Nat.reduceMul, Nat.reduceLT, Nat.reduceLeDiff, reduceCtorEq, Nat.reduceBEq, forall_const, implies_true, exists_const, ne_eq, Int.reduceAdd, Int.reduceSub, Int.reduceMul, Int.reduceBEq, Int.reduceEq, Int.reduceLT, Int.reduceLE, Int.reduceToNat, Int.reduceNeg, Int.reduceBNe, s0, s3, g3, b3, s5, g5, b5, s6, g6, b6, s7, encOp, encRs, zP, hmap]
  · rintro m σ hlt ⟨s0, s3, g3, b3, s5, g5, b5, s6, g6, b6, s7⟩
    rw [List.take_length] at b6
    have hix : o.id.toNat < (tabL l).length := by rw [tab_len]; omega
    have hat := tab_at hr ⟨i1, i2⟩ hix
    have htd := tab_do hr ⟨i1, i2⟩
    obtain ⟨dg1, dg2, dg3⟩ := do_good (o := o) hr
    have hbk : ¬ badK o := fun x => hb ((right_bad hr).2 x)
    have hset : ∀ q : Pg, ((tabL l).map aPg).set o.id.toNat [.s (.pv (.int .i64 q.id)), .s (.pv (.int .i64 q.ver)), .s (.pv (.string q.body))] = ((tabL l).set o.id.toNat q).map aPg := by
      intro q; rw [List.map_set]; rfl
    simp -implicitDefEqProofs only [↓aP, aQ, ↓reduceIte, Nat.reduceEqDiff, Nat.reduceAdd, Nat.reduceSub, Nat.reduceMul, Nat.reduceLT, Nat.reduceLeDiff, reduceCtorEq, Nat.reduceBEq, forall_const, implies_true, exists_const, ne_eq, Int.reduceAdd, Int.reduceSub, Int.reduceMul, Int.reduceBEq, Int.reduceEq, Int.reduceLT, Int.reduceLE, Int.reduceToNat, Int.reduceNeg, Int.reduceBNe, hlt, s0, s3, g3, b3, s5, g5, b5, s6, g6, b6, s7, List.length_map, askIdx_map, hix, aPg, encPg, encOp]
    refine ⟨by omega, by omega, ?_⟩
    rw [hat]
    have hstep : (doM l o).2 = (Ok.step (Ok.look l o.id) o).2 := dg2
    obtain ⟨GA, hGA⟩ : ∃ G, σ.h.gen 8 = G := ⟨_, rfl⟩
    have fin : ∀ q, (Ok.step (Ok.look l o.id) o).1.getD zP = q → (Ok.step (Ok.look l o.id) o).2 = ⟨0, q⟩ → doM l o = (((((tabL l).set o.id.toNat q).drop 1).filter fun p => p.id != 0), ⟨0, q⟩) := by
      intro q h1 h2
      rw [h1] at htd
      rw [htd, ← h2, ← hstep]
    have bad : ∀ e, e ≠ 0 → (Ok.step (Ok.look l o.id) o).2 = ⟨e, zP⟩ → doM l o = (l, ⟨e, zP⟩) := by
      intro e he h2
      have h3 : (doM l o).2.e ≠ 0 := by rw [hstep, h2]; exact he
      have := do_err h3
      rw [← h2, ← hstep]
      exact Prod.ext this.1 rfl
    cases hlk : Ok.look l o.id with
    | none =>
      rw [hlk] at fin bad
      by_cases hk1 : o.kind = 1
      · have e := fin (newP o.id) (by unfold Ok.step; rw [if_neg hbk]; simp only [if_pos hk1]; rfl) (by unfold Ok.step; rw [if_neg hbk]; simp only [if_pos hk1])
        have kk : (o.kind == 1) = true := by simp [hk1]
        simp -implicitDefEqProofs only [↓aP, aQ, ↓reduceIte, Nat.reduceEqDiff, Nat.reduceAdd, Nat.reduceSub, Nat.reduceMul, Nat.reduceLT, Nat.reduceLeDiff, reduceCtorEq, Nat.reduceBEq, forall_const, implies_true, exists_const, ne_eq, Int.reduceAdd, Int.reduceSub, Int.reduceMul, Int.reduceBEq, Int.reduceEq, Int.reduceLT, Int.reduceLE, Int.reduceToNat, Int.reduceNeg, Int.reduceBNe, s0, s3, g3, b3, s5, g5, b5, s6, g6, b6, s7, Option.getD_none, zP, kk, hk1, hGA, encOp, askIdx_map, hix, aPg, encPg]
        refine ⟨by omega, by omega, ?_⟩
        obtain ⟨q, hq⟩ : ∃ q : Pg, q = newP o.id := ⟨_, rfl⟩
        obtain ⟨T, hT⟩ : ∃ T, T = (tabL l).set o.id.toNat q := ⟨_, rfl⟩
        rw [← hq, ← hT] at e
        have hTl : T.length = 17 := by rw [hT, List.length_set, tab_len]
        refine shift (sub_slot (s := 9) 124 41 3 rfl (by exact Nat.succ_pos _)) ?_
        refine rangeB 16 (fun j σ => ∃ g, σ.slot 5 = .c (.ptr 5 1 0 0) ∧ σ.h.gen 5 = 1 ∧ σ.h.blk 5 = .box 64 4 [(encRs ⟨0, zP⟩).map AC.s] ∧ σ.slot 6 = .c (.ptr 6 1 0 0) ∧ σ.h.gen 6 = 1 ∧ σ.h.blk 6 = .box 77 3 (T.map aPg) ∧ σ.slot 8 = .c (.ptr 8 (GA + 1) 0 0) ∧ σ.h.gen 8 = GA + 1 ∧ σ.h.blk 8 = .box 41 3 [(encPg q).map AC.s] ∧ σ.slot 9 = .c (.own 124 g) ∧ σ.h.gen 124 = g ∧ σ.h.blk 124 = .row 41 3 ((((T.drop 1).take j).filter fun p => p.id != 0).map encPg) ∧ σ.slot 10 = vI (j + 1 : Nat)) ?_ ?_ ?_
        · simp -implicitDefEqProofs only [↓aP, aQ, ↓reduceIte, Nat.reduceEqDiff, Nat.reduceAdd, Nat.reduceSub, Nat.reduceMul, Nat.reduceLT, Nat.reduceLeDiff, reduceCtorEq, Nat.reduceBEq, forall_const, implies_true, exists_const, ne_eq, Int.reduceAdd, Int.reduceSub, Int.reduceMul, Int.reduceBEq, Int.reduceEq, Int.reduceLT, Int.reduceLE, Int.reduceToNat, Int.reduceNeg, Int.reduceBNe, s0, s3, g3, b3, s5, g5, b5, s6, g6, b6, s7, hGA]
          refine ⟨σ.h.gen 124 + 1, ?_⟩
          have e1 := hset q
          rw [← hT] at e1
          rw [← e1, hq]
          simp -implicitDefEqProofs only [↓aP, aQ, ↓reduceIte, Nat.reduceEqDiff, Nat.reduceAdd, Nat.reduceSub, Nat.reduceMul, Nat.reduceLT, Nat.reduceLeDiff, reduceCtorEq, Nat.reduceBEq, forall_const, implies_true, exists_const, ne_eq, Int.reduceAdd, Int.reduceSub, Int.reduceMul, Int.reduceBEq, Int.reduceEq, Int.reduceLT, Int.reduceLE, Int.reduceToNat, Int.reduceNeg, Int.reduceBNe, encPg, newP, encRs, zP]
          try rfl
        · clear hlt s0 s3 g3 b3 s5 g5 b5 s6 g6 b6 s7 hGA
          rintro j m σ hjm hj hlt ⟨g, s5, g5, b5, s6, g6, b6, s8, g8, b8, s9, g124, b124, s10⟩
          have hj1 : j + 1 < T.length := by omega
          have c1 : decide (((j + 1 : Nat) : Int) < 17) = true := by simp; omega
          have htk : (T.drop 1).take (j + 1) = (T.drop 1).take j ++ [T[j + 1]] := by
            have h1 : j < (T.drop 1).length := by rw [List.length_drop]; omega
            rw [take_snoc h1, List.getElem_drop]
            simp only [Nat.add_comm 1 j]
          have hfl : (((T.drop 1).take j).filter fun p => p.id != 0).length ≤ 16 := by have h1 := List.length_filter_le (fun p : Pg => p.id != 0) ((T.drop 1).take j); rw [List.length_take] at h1; omega
          cases h0 : (T[j + 1].id != 0)
          · simp -implicitDefEqProofs only [↓aP, aQ, ↓reduceIte, Nat.reduceEqDiff, Nat.reduceAdd, Nat.reduceSub, Nat.reduceMul, Nat.reduceLT, Nat.reduceLeDiff, reduceCtorEq, Nat.reduceBEq, forall_const, implies_true, exists_const, ne_eq, Int.reduceAdd, Int.reduceSub, Int.reduceMul, Int.reduceBEq, Int.reduceEq, Int.reduceLT, Int.reduceLE, Int.reduceToNat, Int.reduceNeg, Int.reduceBNe, hlt, s5, g5, b5, s6, g6, b6, s8, g8, b8, s9, g124, b124, s10, c1, askIdx_map, hj1, aPg, encPg, h0, wrapS (show j + 1 < 4611686018427387904 by omega)]
            refine ⟨by omega, ?_⟩
            refine nextR hj hjm ⟨g, ?_⟩
            simp -implicitDefEqProofs only [↓aP, aQ, ↓reduceIte, Nat.reduceEqDiff, Nat.reduceAdd, Nat.reduceSub, Nat.reduceMul, Nat.reduceLT, Nat.reduceLeDiff, reduceCtorEq, Nat.reduceBEq, forall_const, implies_true, exists_const, ne_eq, Int.reduceAdd, Int.reduceSub, Int.reduceMul, Int.reduceBEq, Int.reduceEq, Int.reduceLT, Int.reduceLE, Int.reduceToNat, Int.reduceNeg, Int.reduceBNe, s5, g5, b5, s6, g6, b6, s8, g8, b8, s9, g124, b124, s10, htk, List.filter_append, h0]
            exact ⟨rfl, by rw [show [T[j + 1]].filter (fun p => p.id != 0) = [] by simp only [List.filter_cons, h0]; rfl, List.append_nil]⟩
          · simp -implicitDefEqProofs only [↓aP, aQ, ↓reduceIte, Nat.reduceEqDiff, Nat.reduceAdd, Nat.reduceSub, Nat.reduceMul, Nat.reduceLT, Nat.reduceLeDiff, reduceCtorEq, Nat.reduceBEq, forall_const, implies_true, exists_const, ne_eq, Int.reduceAdd, Int.reduceSub, Int.reduceMul, Int.reduceBEq, Int.reduceEq, Int.reduceLT, Int.reduceLE, Int.reduceToNat, Int.reduceNeg, Int.reduceBNe, hlt, s5, g5, b5, s6, g6, b6, s8, g8, b8, s9, g124, b124, s10, c1, askIdx_map, hj1, aPg, encPg, h0, List.length_map, wrapS (show j + 1 < 4611686018427387904 by omega)]
            refine ⟨by omega, by omega, by omega, by omega, ?_⟩
            refine nextR hj hjm ⟨g + 1, ?_⟩
            simp -implicitDefEqProofs only [↓aP, aQ, ↓reduceIte, Nat.reduceEqDiff, Nat.reduceAdd, Nat.reduceSub, Nat.reduceMul, Nat.reduceLT, Nat.reduceLeDiff, reduceCtorEq, Nat.reduceBEq, forall_const, implies_true, exists_const, ne_eq, Int.reduceAdd, Int.reduceSub, Int.reduceMul, Int.reduceBEq, Int.reduceEq, Int.reduceLT, Int.reduceLE, Int.reduceToNat, Int.reduceNeg, Int.reduceBNe, s5, g5, b5, s6, g6, b6, s8, g8, b8, s9, g124, b124, s10, htk, List.filter_append, h0]
            exact ⟨rfl, by rw [show [T[j + 1]].filter (fun p => p.id != 0) = [T[j + 1]] by simp only [List.filter_cons, h0]; rfl, List.map_append]; rfl⟩
        · clear hlt s0 s3 g3 b3 s5 g5 b5 s6 g6 b6 s7 hGA
          rintro m σ hlt ⟨g, s5, g5, b5, s6, g6, b6, s8, g8, b8, s9, g124, b124, s10⟩
          have c2 : decide (((16 + 1 : Nat) : Int) < 17) = false := by decide
          rw [List.take_of_length_le (by rw [List.length_drop]; omega)] at b124
          simp -implicitDefEqProofs only [↓aP, aQ, ↓reduceIte, Nat.reduceEqDiff, Nat.reduceAdd, Nat.reduceSub, Nat.reduceMul, Nat.reduceLT, Nat.reduceLeDiff, reduceCtorEq, Nat.reduceBEq, forall_const, implies_true, exists_const, ne_eq, Int.reduceAdd, Int.reduceSub, Int.reduceMul, Int.reduceBEq, Int.reduceEq, Int.reduceLT, Int.reduceLE, Int.reduceToNat, Int.reduceNeg, Int.reduceBNe, s5, g5, b5, s6, g6, b6, s8, g8, b8, s9, g124, b124, s10, c2, e, encPg, encRs, zP]
          decide +kernel
      · have e := bad 3 (by omega) (by unfold Ok.step; rw [if_neg hbk]; simp only [if_neg hk1])
        have kk : (o.kind == 1) = false := by simpa using hk1
        have kk2 : decide (1 < o.kind) = true := by simp; omega
        simp -implicitDefEqProofs only [↓aP, aQ, ↓reduceIte, Nat.reduceEqDiff, Nat.reduceAdd, Nat.reduceSub, Nat.reduceMul, Nat.reduceLT, Nat.reduceLeDiff, reduceCtorEq, Nat.reduceBEq, forall_const, implies_true, exists_const, ne_eq, Int.reduceAdd, Int.reduceSub, Int.reduceMul, Int.reduceBEq, Int.reduceEq, Int.reduceLT, Int.reduceLE, Int.reduceToNat, Int.reduceNeg, Int.reduceBNe, s0, s3, g3, b3, s5, g5, b5, s6, g6, b6, s7, Option.getD_none, zP, kk, kk2, hGA, encOp, e, encRs]
    | some p =>
      rw [hlk] at fin bad
      have hpid : p.id = o.id := look_id hlk
      have hpok := okP_iff.1 (hok p ((look_mem hm).1 hlk).1)
      have p0 : (p.id != 0) = true := by simp; omega
      have p0' : (p.id == 0) = false := by simp; omega
      by_cases hk1 : o.kind = 1
      · have e := bad 4 (by omega) (by unfold Ok.step; rw [if_neg hbk]; simp only [if_pos hk1])
        have kk : (o.kind == 1) = true := by simp [hk1]
        simp -implicitDefEqProofs only [↓aP, aQ, ↓reduceIte, Nat.reduceEqDiff, Nat.reduceAdd, Nat.reduceSub, Nat.reduceMul, Nat.reduceLT, Nat.reduceLeDiff, reduceCtorEq, Nat.reduceBEq, forall_const, implies_true, exists_const, ne_eq, Int.reduceAdd, Int.reduceSub, Int.reduceMul, Int.reduceBEq, Int.reduceEq, Int.reduceLT, Int.reduceLE, Int.reduceToNat, Int.reduceNeg, Int.reduceBNe, s0, s3, g3, b3, s5, g5, b5, s6, g6, b6, s7, Option.getD_some, zP, kk, p0, hGA, encOp, e, encRs]
      have kk : (o.kind == 1) = false := by simpa using hk1
      have kk2 : decide (1 < o.kind) = true := by simp; omega
      by_cases hk3 : o.kind = 3
      · have kk3 : (o.kind == 3) = true := by simp [hk3]
        by_cases h16 : 16 < o.body.size
        · have e := bad 5 (by omega) (by unfold Ok.step; rw [if_neg hbk]; simp only [if_neg hk1, if_pos hk3, if_pos h16])
          simp -implicitDefEqProofs only [↓aP, aQ, ↓reduceIte, Nat.reduceEqDiff, Nat.reduceAdd, Nat.reduceSub, Nat.reduceMul, Nat.reduceLT, Nat.reduceLeDiff, reduceCtorEq, Nat.reduceBEq, forall_const, implies_true, exists_const, ne_eq, Int.reduceAdd, Int.reduceSub, Int.reduceMul, Int.reduceBEq, Int.reduceEq, Int.reduceLT, Int.reduceLE, Int.reduceToNat, Int.reduceNeg, Int.reduceBNe, s0, s3, g3, b3, s5, g5, b5, s6, g6, b6, s7, Option.getD_some, zP, kk, kk2, kk3, p0, p0', hGA, encOp, e, encRs, show decide ((16 : Int) < (o.body.size : Int)) = true by simp; omega]
        by_cases hmx : p.ver = 2147483647
        · have e := bad 7 (by omega) (by unfold Ok.step; rw [if_neg hbk]; simp only [if_neg hk1, if_pos hk3, if_neg h16, if_pos hmx])
          simp -implicitDefEqProofs only [↓aP, aQ, ↓reduceIte, Nat.reduceEqDiff, Nat.reduceAdd, Nat.reduceSub, Nat.reduceMul, Nat.reduceLT, Nat.reduceLeDiff, reduceCtorEq, Nat.reduceBEq, forall_const, implies_true, exists_const, ne_eq, Int.reduceAdd, Int.reduceSub, Int.reduceMul, Int.reduceBEq, Int.reduceEq, Int.reduceLT, Int.reduceLE, Int.reduceToNat, Int.reduceNeg, Int.reduceBNe, s0, s3, g3, b3, s5, g5, b5, s6, g6, b6, s7, Option.getD_some, zP, kk, kk2, kk3, p0, p0', hGA, encOp, e, encRs, show decide ((16 : Int) < (o.body.size : Int)) = false by simp; omega, show (p.ver == 2147483647) = true by simpa using hmx]
        have e := fin ⟨p.id, p.ver + 1, o.body⟩ (by unfold Ok.step; rw [if_neg hbk]; simp only [if_neg hk1, if_pos hk3, if_neg h16, if_neg hmx]; rfl) (by unfold Ok.step; rw [if_neg hbk]; simp only [if_neg hk1, if_pos hk3, if_neg h16, if_neg hmx])
        simp -implicitDefEqProofs only [↓aP, aQ, ↓reduceIte, Nat.reduceEqDiff, Nat.reduceAdd, Nat.reduceSub, Nat.reduceMul, Nat.reduceLT, Nat.reduceLeDiff, reduceCtorEq, Nat.reduceBEq, forall_const, implies_true, exists_const, ne_eq, Int.reduceAdd, Int.reduceSub, Int.reduceMul, Int.reduceBEq, Int.reduceEq, Int.reduceLT, Int.reduceLE, Int.reduceToNat, Int.reduceNeg, Int.reduceBNe, s0, s3, g3, b3, s5, g5, b5, s6, g6, b6, s7, Option.getD_some, zP, kk, kk2, kk3, p0, p0', hGA, encOp, askIdx_map, hix, aPg, encPg, show decide ((16 : Int) < (o.body.size : Int)) = false by simp; omega, show (p.ver == 2147483647) = false by simpa using hmx, show IntKind.i64.wrap (p.ver + 1) = p.ver + 1 from wrapI (by omega)]
        refine ⟨by omega, by omega, ?_⟩
        obtain ⟨q, hq⟩ : ∃ q : Pg, q = ⟨p.id, p.ver + 1, o.body⟩ := ⟨_, rfl⟩
        obtain ⟨T, hT⟩ : ∃ T, T = (tabL l).set o.id.toNat q := ⟨_, rfl⟩
        rw [← hq, ← hT] at e
        have hTl : T.length = 17 := by rw [hT, List.length_set, tab_len]
        refine shift (sub_slot (s := 9) 124 41 3 rfl (by exact Nat.succ_pos _)) ?_
        refine rangeB 16 (fun j σ => ∃ g, σ.slot 5 = .c (.ptr 5 1 0 0) ∧ σ.h.gen 5 = 1 ∧ σ.h.blk 5 = .box 64 4 [(encRs ⟨0, zP⟩).map AC.s] ∧ σ.slot 6 = .c (.ptr 6 1 0 0) ∧ σ.h.gen 6 = 1 ∧ σ.h.blk 6 = .box 77 3 (T.map aPg) ∧ σ.slot 8 = .c (.ptr 8 (GA + 1) 0 0) ∧ σ.h.gen 8 = GA + 1 ∧ σ.h.blk 8 = .box 41 3 [(encPg q).map AC.s] ∧ σ.slot 9 = .c (.own 124 g) ∧ σ.h.gen 124 = g ∧ σ.h.blk 124 = .row 41 3 ((((T.drop 1).take j).filter fun p => p.id != 0).map encPg) ∧ σ.slot 10 = vI (j + 1 : Nat)) ?_ ?_ ?_
        · simp -implicitDefEqProofs only [↓aP, aQ, ↓reduceIte, Nat.reduceEqDiff, Nat.reduceAdd, Nat.reduceSub, Nat.reduceMul, Nat.reduceLT, Nat.reduceLeDiff, reduceCtorEq, Nat.reduceBEq, forall_const, implies_true, exists_const, ne_eq, Int.reduceAdd, Int.reduceSub, Int.reduceMul, Int.reduceBEq, Int.reduceEq, Int.reduceLT, Int.reduceLE, Int.reduceToNat, Int.reduceNeg, Int.reduceBNe, s0, s3, g3, b3, s5, g5, b5, s6, g6, b6, s7, hGA]
          refine ⟨σ.h.gen 124 + 1, ?_⟩
          have e1 := hset q
          rw [← hT] at e1
          rw [← e1, hq]
          simp -implicitDefEqProofs only [↓aP, aQ, ↓reduceIte, Nat.reduceEqDiff, Nat.reduceAdd, Nat.reduceSub, Nat.reduceMul, Nat.reduceLT, Nat.reduceLeDiff, reduceCtorEq, Nat.reduceBEq, forall_const, implies_true, exists_const, ne_eq, Int.reduceAdd, Int.reduceSub, Int.reduceMul, Int.reduceBEq, Int.reduceEq, Int.reduceLT, Int.reduceLE, Int.reduceToNat, Int.reduceNeg, Int.reduceBNe, encPg, newP, encRs, zP]
          try rfl
        · clear hlt s0 s3 g3 b3 s5 g5 b5 s6 g6 b6 s7 hGA
          rintro j m σ hjm hj hlt ⟨g, s5, g5, b5, s6, g6, b6, s8, g8, b8, s9, g124, b124, s10⟩
          have hj1 : j + 1 < T.length := by omega
          have c1 : decide (((j + 1 : Nat) : Int) < 17) = true := by simp; omega
          have htk : (T.drop 1).take (j + 1) = (T.drop 1).take j ++ [T[j + 1]] := by
            have h1 : j < (T.drop 1).length := by rw [List.length_drop]; omega
            rw [take_snoc h1, List.getElem_drop]
            simp only [Nat.add_comm 1 j]
          have hfl : (((T.drop 1).take j).filter fun p => p.id != 0).length ≤ 16 := by have h1 := List.length_filter_le (fun p : Pg => p.id != 0) ((T.drop 1).take j); rw [List.length_take] at h1; omega
          cases h0 : (T[j + 1].id != 0)
          · simp -implicitDefEqProofs only [↓aP, aQ, ↓reduceIte, Nat.reduceEqDiff, Nat.reduceAdd, Nat.reduceSub, Nat.reduceMul, Nat.reduceLT, Nat.reduceLeDiff, reduceCtorEq, Nat.reduceBEq, forall_const, implies_true, exists_const, ne_eq, Int.reduceAdd, Int.reduceSub, Int.reduceMul, Int.reduceBEq, Int.reduceEq, Int.reduceLT, Int.reduceLE, Int.reduceToNat, Int.reduceNeg, Int.reduceBNe, hlt, s5, g5, b5, s6, g6, b6, s8, g8, b8, s9, g124, b124, s10, c1, askIdx_map, hj1, aPg, encPg, h0, wrapS (show j + 1 < 4611686018427387904 by omega)]
            refine ⟨by omega, ?_⟩
            refine nextR hj hjm ⟨g, ?_⟩
            simp -implicitDefEqProofs only [↓aP, aQ, ↓reduceIte, Nat.reduceEqDiff, Nat.reduceAdd, Nat.reduceSub, Nat.reduceMul, Nat.reduceLT, Nat.reduceLeDiff, reduceCtorEq, Nat.reduceBEq, forall_const, implies_true, exists_const, ne_eq, Int.reduceAdd, Int.reduceSub, Int.reduceMul, Int.reduceBEq, Int.reduceEq, Int.reduceLT, Int.reduceLE, Int.reduceToNat, Int.reduceNeg, Int.reduceBNe, s5, g5, b5, s6, g6, b6, s8, g8, b8, s9, g124, b124, s10, htk, List.filter_append, h0]
            exact ⟨rfl, by rw [show [T[j + 1]].filter (fun p => p.id != 0) = [] by simp only [List.filter_cons, h0]; rfl, List.append_nil]⟩
          · simp -implicitDefEqProofs only [↓aP, aQ, ↓reduceIte, Nat.reduceEqDiff, Nat.reduceAdd, Nat.reduceSub, Nat.reduceMul, Nat.reduceLT, Nat.reduceLeDiff, reduceCtorEq, Nat.reduceBEq, forall_const, implies_true, exists_const, ne_eq, Int.reduceAdd, Int.reduceSub, Int.reduceMul, Int.reduceBEq, Int.reduceEq, Int.reduceLT, Int.reduceLE, Int.reduceToNat, Int.reduceNeg, Int.reduceBNe, hlt, s5, g5, b5, s6, g6, b6, s8, g8, b8, s9, g124, b124, s10, c1, askIdx_map, hj1, aPg, encPg, h0, List.length_map, wrapS (show j + 1 < 4611686018427387904 by omega)]
            refine ⟨by omega, by omega, by omega, by omega, ?_⟩
            refine nextR hj hjm ⟨g + 1, ?_⟩
            simp -implicitDefEqProofs only [↓aP, aQ, ↓reduceIte, Nat.reduceEqDiff, Nat.reduceAdd, Nat.reduceSub, Nat.reduceMul, Nat.reduceLT, Nat.reduceLeDiff, reduceCtorEq, Nat.reduceBEq, forall_const, implies_true, exists_const, ne_eq, Int.reduceAdd, Int.reduceSub, Int.reduceMul, Int.reduceBEq, Int.reduceEq, Int.reduceLT, Int.reduceLE, Int.reduceToNat, Int.reduceNeg, Int.reduceBNe, s5, g5, b5, s6, g6, b6, s8, g8, b8, s9, g124, b124, s10, htk, List.filter_append, h0]
            exact ⟨rfl, by rw [show [T[j + 1]].filter (fun p => p.id != 0) = [T[j + 1]] by simp only [List.filter_cons, h0]; rfl, List.map_append]; rfl⟩
        · clear hlt s0 s3 g3 b3 s5 g5 b5 s6 g6 b6 s7 hGA
          rintro m σ hlt ⟨g, s5, g5, b5, s6, g6, b6, s8, g8, b8, s9, g124, b124, s10⟩
          have c2 : decide (((16 + 1 : Nat) : Int) < 17) = false := by decide
          rw [List.take_of_length_le (by rw [List.length_drop]; omega)] at b124
          simp -implicitDefEqProofs only [↓aP, aQ, ↓reduceIte, Nat.reduceEqDiff, Nat.reduceAdd, Nat.reduceSub, Nat.reduceMul, Nat.reduceLT, Nat.reduceLeDiff, reduceCtorEq, Nat.reduceBEq, forall_const, implies_true, exists_const, ne_eq, Int.reduceAdd, Int.reduceSub, Int.reduceMul, Int.reduceBEq, Int.reduceEq, Int.reduceLT, Int.reduceLE, Int.reduceToNat, Int.reduceNeg, Int.reduceBNe, s5, g5, b5, s6, g6, b6, s8, g8, b8, s9, g124, b124, s10, c2, e, encPg, encRs, zP]
          decide +kernel
      have kk3 : (o.kind == 3) = false := by simpa using hk3
      by_cases hk4 : o.kind = 4
      · have kk4 : (o.kind == 4) = true := by simp [hk4]
        have e := fin zP (by unfold Ok.step; rw [if_neg hbk]; simp only [if_neg hk1, if_neg hk3, if_pos hk4]; rfl) (by unfold Ok.step; rw [if_neg hbk]; simp only [if_neg hk1, if_neg hk3, if_pos hk4])
        simp -implicitDefEqProofs only [↓aP, aQ, ↓reduceIte, Nat.reduceEqDiff, Nat.reduceAdd, Nat.reduceSub, Nat.reduceMul, Nat.reduceLT, Nat.reduceLeDiff, reduceCtorEq, Nat.reduceBEq, forall_const, implies_true, exists_const, ne_eq, Int.reduceAdd, Int.reduceSub, Int.reduceMul, Int.reduceBEq, Int.reduceEq, Int.reduceLT, Int.reduceLE, Int.reduceToNat, Int.reduceNeg, Int.reduceBNe, s0, s3, g3, b3, s5, g5, b5, s6, g6, b6, s7, Option.getD_some, zP, kk, kk2, kk3, kk4, p0, p0', hGA, encOp, askIdx_map, hix, aPg, encPg]
        refine ⟨by omega, by omega, ?_⟩
        obtain ⟨q, hq⟩ : ∃ q : Pg, q = zP := ⟨_, rfl⟩
        obtain ⟨T, hT⟩ : ∃ T, T = (tabL l).set o.id.toNat q := ⟨_, rfl⟩
        rw [← hq, ← hT] at e
        have hTl : T.length = 17 := by rw [hT, List.length_set, tab_len]
        refine shift (sub_slot (s := 9) 124 41 3 rfl (by exact Nat.succ_pos _)) ?_
        refine rangeB 16 (fun j σ => ∃ g, σ.slot 5 = .c (.ptr 5 1 0 0) ∧ σ.h.gen 5 = 1 ∧ σ.h.blk 5 = .box 64 4 [(encRs ⟨0, zP⟩).map AC.s] ∧ σ.slot 6 = .c (.ptr 6 1 0 0) ∧ σ.h.gen 6 = 1 ∧ σ.h.blk 6 = .box 77 3 (T.map aPg) ∧ σ.slot 8 = .c (.ptr 8 (GA + 1) 0 0) ∧ σ.h.gen 8 = GA + 1 ∧ σ.h.blk 8 = .box 41 3 [(encPg q).map AC.s] ∧ σ.slot 9 = .c (.own 124 g) ∧ σ.h.gen 124 = g ∧ σ.h.blk 124 = .row 41 3 ((((T.drop 1).take j).filter fun p => p.id != 0).map encPg) ∧ σ.slot 10 = vI (j + 1 : Nat)) ?_ ?_ ?_
        · simp -implicitDefEqProofs only [↓aP, aQ, ↓reduceIte, Nat.reduceEqDiff, Nat.reduceAdd, Nat.reduceSub, Nat.reduceMul, Nat.reduceLT, Nat.reduceLeDiff, reduceCtorEq, Nat.reduceBEq, forall_const, implies_true, exists_const, ne_eq, Int.reduceAdd, Int.reduceSub, Int.reduceMul, Int.reduceBEq, Int.reduceEq, Int.reduceLT, Int.reduceLE, Int.reduceToNat, Int.reduceNeg, Int.reduceBNe, s0, s3, g3, b3, s5, g5, b5, s6, g6, b6, s7, hGA]
          refine ⟨σ.h.gen 124 + 1, ?_⟩
          have e1 := hset q
          rw [← hT] at e1
          rw [← e1, hq]
          simp -implicitDefEqProofs only [↓aP, aQ, ↓reduceIte, Nat.reduceEqDiff, Nat.reduceAdd, Nat.reduceSub, Nat.reduceMul, Nat.reduceLT, Nat.reduceLeDiff, reduceCtorEq, Nat.reduceBEq, forall_const, implies_true, exists_const, ne_eq, Int.reduceAdd, Int.reduceSub, Int.reduceMul, Int.reduceBEq, Int.reduceEq, Int.reduceLT, Int.reduceLE, Int.reduceToNat, Int.reduceNeg, Int.reduceBNe, encPg, newP, encRs, zP]
          try rfl
        · clear hlt s0 s3 g3 b3 s5 g5 b5 s6 g6 b6 s7 hGA
          rintro j m σ hjm hj hlt ⟨g, s5, g5, b5, s6, g6, b6, s8, g8, b8, s9, g124, b124, s10⟩
          have hj1 : j + 1 < T.length := by omega
          have c1 : decide (((j + 1 : Nat) : Int) < 17) = true := by simp; omega
          have htk : (T.drop 1).take (j + 1) = (T.drop 1).take j ++ [T[j + 1]] := by
            have h1 : j < (T.drop 1).length := by rw [List.length_drop]; omega
            rw [take_snoc h1, List.getElem_drop]
            simp only [Nat.add_comm 1 j]
          have hfl : (((T.drop 1).take j).filter fun p => p.id != 0).length ≤ 16 := by have h1 := List.length_filter_le (fun p : Pg => p.id != 0) ((T.drop 1).take j); rw [List.length_take] at h1; omega
          cases h0 : (T[j + 1].id != 0)
          · simp -implicitDefEqProofs only [↓aP, aQ, ↓reduceIte, Nat.reduceEqDiff, Nat.reduceAdd, Nat.reduceSub, Nat.reduceMul, Nat.reduceLT, Nat.reduceLeDiff, reduceCtorEq, Nat.reduceBEq, forall_const, implies_true, exists_const, ne_eq, Int.reduceAdd, Int.reduceSub, Int.reduceMul, Int.reduceBEq, Int.reduceEq, Int.reduceLT, Int.reduceLE, Int.reduceToNat, Int.reduceNeg, Int.reduceBNe, hlt, s5, g5, b5, s6, g6, b6, s8, g8, b8, s9, g124, b124, s10, c1, askIdx_map, hj1, aPg, encPg, h0, wrapS (show j + 1 < 4611686018427387904 by omega)]
            refine ⟨by omega, ?_⟩
            refine nextR hj hjm ⟨g, ?_⟩
            simp -implicitDefEqProofs only [↓aP, aQ, ↓reduceIte, Nat.reduceEqDiff, Nat.reduceAdd, Nat.reduceSub, Nat.reduceMul, Nat.reduceLT, Nat.reduceLeDiff, reduceCtorEq, Nat.reduceBEq, forall_const, implies_true, exists_const, ne_eq, Int.reduceAdd, Int.reduceSub, Int.reduceMul, Int.reduceBEq, Int.reduceEq, Int.reduceLT, Int.reduceLE, Int.reduceToNat, Int.reduceNeg, Int.reduceBNe, s5, g5, b5, s6, g6, b6, s8, g8, b8, s9, g124, b124, s10, htk, List.filter_append, h0]
            exact ⟨rfl, by rw [show [T[j + 1]].filter (fun p => p.id != 0) = [] by simp only [List.filter_cons, h0]; rfl, List.append_nil]⟩
          · simp -implicitDefEqProofs only [↓aP, aQ, ↓reduceIte, Nat.reduceEqDiff, Nat.reduceAdd, Nat.reduceSub, Nat.reduceMul, Nat.reduceLT, Nat.reduceLeDiff, reduceCtorEq, Nat.reduceBEq, forall_const, implies_true, exists_const, ne_eq, Int.reduceAdd, Int.reduceSub, Int.reduceMul, Int.reduceBEq, Int.reduceEq, Int.reduceLT, Int.reduceLE, Int.reduceToNat, Int.reduceNeg, Int.reduceBNe, hlt, s5, g5, b5, s6, g6, b6, s8, g8, b8, s9, g124, b124, s10, c1, askIdx_map, hj1, aPg, encPg, h0, List.length_map, wrapS (show j + 1 < 4611686018427387904 by omega)]
            refine ⟨by omega, by omega, by omega, by omega, ?_⟩
            refine nextR hj hjm ⟨g + 1, ?_⟩
            simp -implicitDefEqProofs only [↓aP, aQ, ↓reduceIte, Nat.reduceEqDiff, Nat.reduceAdd, Nat.reduceSub, Nat.reduceMul, Nat.reduceLT, Nat.reduceLeDiff, reduceCtorEq, Nat.reduceBEq, forall_const, implies_true, exists_const, ne_eq, Int.reduceAdd, Int.reduceSub, Int.reduceMul, Int.reduceBEq, Int.reduceEq, Int.reduceLT, Int.reduceLE, Int.reduceToNat, Int.reduceNeg, Int.reduceBNe, s5, g5, b5, s6, g6, b6, s8, g8, b8, s9, g124, b124, s10, htk, List.filter_append, h0]
            exact ⟨rfl, by rw [show [T[j + 1]].filter (fun p => p.id != 0) = [T[j + 1]] by simp only [List.filter_cons, h0]; rfl, List.map_append]; rfl⟩
        · clear hlt s0 s3 g3 b3 s5 g5 b5 s6 g6 b6 s7 hGA
          rintro m σ hlt ⟨g, s5, g5, b5, s6, g6, b6, s8, g8, b8, s9, g124, b124, s10⟩
          have c2 : decide (((16 + 1 : Nat) : Int) < 17) = false := by decide
          rw [List.take_of_length_le (by rw [List.length_drop]; omega)] at b124
          simp -implicitDefEqProofs only [↓aP, aQ, ↓reduceIte, Nat.reduceEqDiff, Nat.reduceAdd, Nat.reduceSub, Nat.reduceMul, Nat.reduceLT, Nat.reduceLeDiff, reduceCtorEq, Nat.reduceBEq, forall_const, implies_true, exists_const, ne_eq, Int.reduceAdd, Int.reduceSub, Int.reduceMul, Int.reduceBEq, Int.reduceEq, Int.reduceLT, Int.reduceLE, Int.reduceToNat, Int.reduceNeg, Int.reduceBNe, s5, g5, b5, s6, g6, b6, s8, g8, b8, s9, g124, b124, s10, c2, e, encPg, encRs, zP]
          decide +kernel
      · have kk4 : (o.kind == 4) = false := by simpa using hk4
        have e := fin p (by unfold Ok.step; rw [if_neg hbk]; simp only [if_neg hk1, if_neg hk3, if_neg hk4]; rfl) (by unfold Ok.step; rw [if_neg hbk]; simp only [if_neg hk1, if_neg hk3, if_neg hk4])
        simp -implicitDefEqProofs only [↓aP, aQ, ↓reduceIte, Nat.reduceEqDiff, Nat.reduceAdd, Nat.reduceSub, Nat.reduceMul, Nat.reduceLT, Nat.reduceLeDiff, reduceCtorEq, Nat.reduceBEq, forall_const, implies_true, exists_const, ne_eq, Int.reduceAdd, Int.reduceSub, Int.reduceMul, Int.reduceBEq, Int.reduceEq, Int.reduceLT, Int.reduceLE, Int.reduceToNat, Int.reduceNeg, Int.reduceBNe, s0, s3, g3, b3, s5, g5, b5, s6, g6, b6, s7, Option.getD_some, zP, kk, kk2, kk3, kk4, p0, p0', hGA, encOp, askIdx_map, hix, aPg, encPg]
        refine ⟨by omega, by omega, ?_⟩
        obtain ⟨q, hq⟩ : ∃ q : Pg, q = p := ⟨_, rfl⟩
        obtain ⟨T, hT⟩ : ∃ T, T = (tabL l).set o.id.toNat q := ⟨_, rfl⟩
        rw [← hq, ← hT] at e
        have hTl : T.length = 17 := by rw [hT, List.length_set, tab_len]
        refine shift (sub_slot (s := 9) 124 41 3 rfl (by exact Nat.succ_pos _)) ?_
        refine rangeB 16 (fun j σ => ∃ g, σ.slot 5 = .c (.ptr 5 1 0 0) ∧ σ.h.gen 5 = 1 ∧ σ.h.blk 5 = .box 64 4 [(encRs ⟨0, zP⟩).map AC.s] ∧ σ.slot 6 = .c (.ptr 6 1 0 0) ∧ σ.h.gen 6 = 1 ∧ σ.h.blk 6 = .box 77 3 (T.map aPg) ∧ σ.slot 8 = .c (.ptr 8 (GA + 1) 0 0) ∧ σ.h.gen 8 = GA + 1 ∧ σ.h.blk 8 = .box 41 3 [(encPg q).map AC.s] ∧ σ.slot 9 = .c (.own 124 g) ∧ σ.h.gen 124 = g ∧ σ.h.blk 124 = .row 41 3 ((((T.drop 1).take j).filter fun p => p.id != 0).map encPg) ∧ σ.slot 10 = vI (j + 1 : Nat)) ?_ ?_ ?_
        · simp -implicitDefEqProofs only [↓aP, aQ, ↓reduceIte, Nat.reduceEqDiff, Nat.reduceAdd, Nat.reduceSub, Nat.reduceMul, Nat.reduceLT, Nat.reduceLeDiff, reduceCtorEq, Nat.reduceBEq, forall_const, implies_true, exists_const, ne_eq, Int.reduceAdd, Int.reduceSub, Int.reduceMul, Int.reduceBEq, Int.reduceEq, Int.reduceLT, Int.reduceLE, Int.reduceToNat, Int.reduceNeg, Int.reduceBNe, s0, s3, g3, b3, s5, g5, b5, s6, g6, b6, s7, hGA]
          refine ⟨σ.h.gen 124 + 1, ?_⟩
          have e1 := hset q
          rw [← hT] at e1
          rw [← e1, hq]
          simp -implicitDefEqProofs only [↓aP, aQ, ↓reduceIte, Nat.reduceEqDiff, Nat.reduceAdd, Nat.reduceSub, Nat.reduceMul, Nat.reduceLT, Nat.reduceLeDiff, reduceCtorEq, Nat.reduceBEq, forall_const, implies_true, exists_const, ne_eq, Int.reduceAdd, Int.reduceSub, Int.reduceMul, Int.reduceBEq, Int.reduceEq, Int.reduceLT, Int.reduceLE, Int.reduceToNat, Int.reduceNeg, Int.reduceBNe, encPg, newP, encRs, zP]
          try rfl
        · clear hlt s0 s3 g3 b3 s5 g5 b5 s6 g6 b6 s7 hGA
          rintro j m σ hjm hj hlt ⟨g, s5, g5, b5, s6, g6, b6, s8, g8, b8, s9, g124, b124, s10⟩
          have hj1 : j + 1 < T.length := by omega
          have c1 : decide (((j + 1 : Nat) : Int) < 17) = true := by simp; omega
          have htk : (T.drop 1).take (j + 1) = (T.drop 1).take j ++ [T[j + 1]] := by
            have h1 : j < (T.drop 1).length := by rw [List.length_drop]; omega
            rw [take_snoc h1, List.getElem_drop]
            simp only [Nat.add_comm 1 j]
          have hfl : (((T.drop 1).take j).filter fun p => p.id != 0).length ≤ 16 := by have h1 := List.length_filter_le (fun p : Pg => p.id != 0) ((T.drop 1).take j); rw [List.length_take] at h1; omega
          cases h0 : (T[j + 1].id != 0)
          · simp -implicitDefEqProofs only [↓aP, aQ, ↓reduceIte, Nat.reduceEqDiff, Nat.reduceAdd, Nat.reduceSub, Nat.reduceMul, Nat.reduceLT, Nat.reduceLeDiff, reduceCtorEq, Nat.reduceBEq, forall_const, implies_true, exists_const, ne_eq, Int.reduceAdd, Int.reduceSub, Int.reduceMul, Int.reduceBEq, Int.reduceEq, Int.reduceLT, Int.reduceLE, Int.reduceToNat, Int.reduceNeg, Int.reduceBNe, hlt, s5, g5, b5, s6, g6, b6, s8, g8, b8, s9, g124, b124, s10, c1, askIdx_map, hj1, aPg, encPg, h0, wrapS (show j + 1 < 4611686018427387904 by omega)]
            refine ⟨by omega, ?_⟩
            refine nextR hj hjm ⟨g, ?_⟩
            simp -implicitDefEqProofs only [↓aP, aQ, ↓reduceIte, Nat.reduceEqDiff, Nat.reduceAdd, Nat.reduceSub, Nat.reduceMul, Nat.reduceLT, Nat.reduceLeDiff, reduceCtorEq, Nat.reduceBEq, forall_const, implies_true, exists_const, ne_eq, Int.reduceAdd, Int.reduceSub, Int.reduceMul, Int.reduceBEq, Int.reduceEq, Int.reduceLT, Int.reduceLE, Int.reduceToNat, Int.reduceNeg, Int.reduceBNe, s5, g5, b5, s6, g6, b6, s8, g8, b8, s9, g124, b124, s10, htk, List.filter_append, h0]
            exact ⟨rfl, by rw [show [T[j + 1]].filter (fun p => p.id != 0) = [] by simp only [List.filter_cons, h0]; rfl, List.append_nil]⟩
          · simp -implicitDefEqProofs only [↓aP, aQ, ↓reduceIte, Nat.reduceEqDiff, Nat.reduceAdd, Nat.reduceSub, Nat.reduceMul, Nat.reduceLT, Nat.reduceLeDiff, reduceCtorEq, Nat.reduceBEq, forall_const, implies_true, exists_const, ne_eq, Int.reduceAdd, Int.reduceSub, Int.reduceMul, Int.reduceBEq, Int.reduceEq, Int.reduceLT, Int.reduceLE, Int.reduceToNat, Int.reduceNeg, Int.reduceBNe, hlt, s5, g5, b5, s6, g6, b6, s8, g8, b8, s9, g124, b124, s10, c1, askIdx_map, hj1, aPg, encPg, h0, List.length_map, wrapS (show j + 1 < 4611686018427387904 by omega)]
            refine ⟨by omega, by omega, by omega, by omega, ?_⟩
            refine nextR hj hjm ⟨g + 1, ?_⟩
            simp -implicitDefEqProofs only [↓aP, aQ, ↓reduceIte, Nat.reduceEqDiff, Nat.reduceAdd, Nat.reduceSub, Nat.reduceMul, Nat.reduceLT, Nat.reduceLeDiff, reduceCtorEq, Nat.reduceBEq, forall_const, implies_true, exists_const, ne_eq, Int.reduceAdd, Int.reduceSub, Int.reduceMul, Int.reduceBEq, Int.reduceEq, Int.reduceLT, Int.reduceLE, Int.reduceToNat, Int.reduceNeg, Int.reduceBNe, s5, g5, b5, s6, g6, b6, s8, g8, b8, s9, g124, b124, s10, htk, List.filter_append, h0]
            exact ⟨rfl, by rw [show [T[j + 1]].filter (fun p => p.id != 0) = [T[j + 1]] by simp only [List.filter_cons, h0]; rfl, List.map_append]; rfl⟩
        · clear hlt s0 s3 g3 b3 s5 g5 b5 s6 g6 b6 s7 hGA
          rintro m σ hlt ⟨g, s5, g5, b5, s6, g6, b6, s8, g8, b8, s9, g124, b124, s10⟩
          have c2 : decide (((16 + 1 : Nat) : Int) < 17) = false := by decide
          rw [List.take_of_length_le (by rw [List.length_drop]; omega)] at b124
          simp -implicitDefEqProofs only [↓aP, aQ, ↓reduceIte, Nat.reduceEqDiff, Nat.reduceAdd, Nat.reduceSub, Nat.reduceMul, Nat.reduceLT, Nat.reduceLeDiff, reduceCtorEq, Nat.reduceBEq, forall_const, implies_true, exists_const, ne_eq, Int.reduceAdd, Int.reduceSub, Int.reduceMul, Int.reduceBEq, Int.reduceEq, Int.reduceLT, Int.reduceLE, Int.reduceToNat, Int.reduceNeg, Int.reduceBNe, s5, g5, b5, s6, g6, b6, s8, g8, b8, s9, g124, b124, s10, c2, e, encPg, encRs, zP]
          decide +kernel
end Go.Proofs.Ytbpipdgkkdifgaa
