/- layer 15: the document's clock, and page. -/
import Derived.Test.YtcindpblgbpcoaaF3
import Derived.Test.YtcindpblgbpcoaaY3
import Derived.Test.YtcindpblgbpcoaaT5
namespace Go.Proofs.Ytcindpblgbpcoaa
open Go.RowKit
set_option linter.unusedVariables false
set_option linter.unusedSimpArgs false
theorem rpRight_spec (p : Pg) : Spec Try.prog 56 [.agg (encPg p)] (.val (rB (okPg p))) := by
  refine spec_val mixed fn56 (by simp) ?_
  unfold ac56
  simp -implicitDefEqProofs only [↓aP, aQ, ↓reduceIte, Nat.reduceEqDiff, Nat.reduceAdd, Nat.reduceSub, Nat.reduceMul, Nat.reduceLT, Nat.reduceLeDiff, reduceCtorEq, Nat.reduceBEq, forall_const, implies_true, exists_const, ne_eq, Int.reduceAdd, Int.reduceSub, Int.reduceMul, Int.reduceBEq, Int.reduceEq, Int.reduceLT, Int.reduceLE, Int.reduceToNat, Int.reduceNeg, Int.reduceBNe, encPg]
  repeat' ((first | ((first | with_reducible refine fork ?_ ?_ | with_reducible refine gcase ?_ ?_ | with_reducible refine gcaseD ?_ ?_) <;> intro hc <;> (have hp := hc) <;> (try simp only [aB] at hp)) | (have hc := True.intro; first | with_reducible refine askM (by omega) ?_ | with_reducible refine And.intro (by first | omega | decide +kernel) ?_ | fail)) <;> (try simp -implicitDefEqProofs only [↓aP, aQ, ↓reduceIte, Nat.reduceEqDiff, Nat.reduceAdd, Nat.reduceSub, Nat.reduceMul, Nat.reduceLT, Nat.reduceLeDiff, reduceCtorEq, Nat.reduceBEq, forall_const, implies_true, exists_const, ne_eq, Int.reduceAdd, Int.reduceSub, Int.reduceMul, Int.reduceBEq, Int.reduceEq, Int.reduceLT, Int.reduceLE, Int.reduceToNat, Int.reduceNeg, Int.reduceBNe, hc]))
  all_goals (unfold okPg; first | (symm; rw [decide_eq_false_iff_not]; omega) | (rw [decide_eq_decide]; omega) | all_goals (trace_state; sorry))

theorem rcRight_spec (c : Clk) (hl : c.fr.length < 4611686018427387904) : Spec Try.prog 52 [.agg (encClk c)] (.val (rB (Ck.right c.fr c.hand))) := by
  refine spec_val mixed fn52 (by simp) ?_
  unfold ac52
  have no : ¬ (c.fr.length ≤ 8 ∧ 0 ≤ c.hand ∧ c.hand < c.fr.length) → Ck.right c.fr c.hand = false := fun h => by unfold Ck.right; rw [decide_eq_false h, Bool.false_and]
  by_cases h0 : c.fr.length < 1
  · simp -implicitDefEqProofs only [↓aP, aQ, ↓reduceIte, Nat.reduceEqDiff, Nat.reduceAdd, Nat.reduceSub, Nat.reduceMul, Nat.reduceLT, Nat.reduceLeDiff, reduceCtorEq, Nat.reduceBEq, forall_const, implies_true, exists_const, ne_eq, Int.reduceAdd, Int.reduceSub, Int.reduceMul, Int.reduceBEq, Int.reduceEq, Int.reduceLT, Int.reduceLE, Int.reduceToNat, Int.reduceNeg, Int.reduceBNe, encClk, List.length_map, show decide ((c.fr.length : Int) < 1) = true by simp; omega, no (by omega)]
  by_cases h8 : 8 < c.fr.length
  · simp -implicitDefEqProofs only [↓aP, aQ, ↓reduceIte, Nat.reduceEqDiff, Nat.reduceAdd, Nat.reduceSub, Nat.reduceMul, Nat.reduceLT, Nat.reduceLeDiff, reduceCtorEq, Nat.reduceBEq, forall_const, implies_true, exists_const, ne_eq, Int.reduceAdd, Int.reduceSub, Int.reduceMul, Int.reduceBEq, Int.reduceEq, Int.reduceLT, Int.reduceLE, Int.reduceToNat, Int.reduceNeg, Int.reduceBNe, encClk, List.length_map, show decide ((c.fr.length : Int) < 1) = false by simp; omega, show decide ((8 : Int) < (c.fr.length : Int)) = true by simp; omega, no (by omega)]
  by_cases h1 : c.hand < 0
  · simp -implicitDefEqProofs only [↓aP, aQ, ↓reduceIte, Nat.reduceEqDiff, Nat.reduceAdd, Nat.reduceSub, Nat.reduceMul, Nat.reduceLT, Nat.reduceLeDiff, reduceCtorEq, Nat.reduceBEq, forall_const, implies_true, exists_const, ne_eq, Int.reduceAdd, Int.reduceSub, Int.reduceMul, Int.reduceBEq, Int.reduceEq, Int.reduceLT, Int.reduceLE, Int.reduceToNat, Int.reduceNeg, Int.reduceBNe, encClk, List.length_map, show decide ((c.fr.length : Int) < 1) = false by simp; omega, show decide ((8 : Int) < (c.fr.length : Int)) = false by simp; omega, decide_eq_true h1, no (by omega)]
  by_cases h2 : (c.fr.length : Int) ≤ c.hand
  · simp -implicitDefEqProofs only [↓aP, aQ, ↓reduceIte, Nat.reduceEqDiff, Nat.reduceAdd, Nat.reduceSub, Nat.reduceMul, Nat.reduceLT, Nat.reduceLeDiff, reduceCtorEq, Nat.reduceBEq, forall_const, implies_true, exists_const, ne_eq, Int.reduceAdd, Int.reduceSub, Int.reduceMul, Int.reduceBEq, Int.reduceEq, Int.reduceLT, Int.reduceLE, Int.reduceToNat, Int.reduceNeg, Int.reduceBNe, encClk, List.length_map, show decide ((c.fr.length : Int) < 1) = false by simp; omega, show decide ((8 : Int) < (c.fr.length : Int)) = false by simp; omega, decide_eq_false h1, decide_eq_true h2, no (by omega)]
  have e0 : Ck.right c.fr c.hand = c.fr.all Ck.good := by unfold Ck.right; rw [decide_eq_true (by omega), Bool.true_and]
  simp -implicitDefEqProofs only [↓aP, aQ, ↓reduceIte, Nat.reduceEqDiff, Nat.reduceAdd, Nat.reduceSub, Nat.reduceMul, Nat.reduceLT, Nat.reduceLeDiff, reduceCtorEq, Nat.reduceBEq, forall_const, implies_true, exists_const, ne_eq, Int.reduceAdd, Int.reduceSub, Int.reduceMul, Int.reduceBEq, Int.reduceEq, Int.reduceLT, Int.reduceLE, Int.reduceToNat, Int.reduceNeg, Int.reduceBNe, encClk, List.length_map, show decide ((c.fr.length : Int) < 1) = false by simp; omega, show decide ((8 : Int) < (c.fr.length : Int)) = false by simp; omega, decide_eq_false h1, decide_eq_false h2]
  refine rangeB c.fr.length (fun i σ => (∀ x ∈ c.fr.take i, Ck.good x = true) ∧ σ.slot 1 = .c (.ptr 1 1 0 0) ∧ σ.h.gen 1 = 1 ∧ σ.h.blk 1 = .box 51 2 [(encClk c).map AC.s] ∧ σ.slot 3 = vI i) ?_ ?_ ?_
  · simp -implicitDefEqProofs only [↓aP, aQ, ↓reduceIte, Nat.reduceEqDiff, Nat.reduceAdd, Nat.reduceSub, Nat.reduceMul, Nat.reduceLT, Nat.reduceLeDiff, reduceCtorEq, Nat.reduceBEq, forall_const, implies_true, exists_const, ne_eq, Int.reduceAdd, Int.reduceSub, Int.reduceMul, Int.reduceBEq, Int.reduceEq, Int.reduceLT, Int.reduceLE, Int.reduceToNat, Int.reduceNeg, Int.reduceBNe, encClk]
    simp
  · rintro i m σ him hi hlt ⟨hg, s1, g1, b1, s3⟩
    have bad : Ck.good c.fr[i] = false → Ck.right c.fr c.hand = false := fun h => by
      rw [e0, List.all_eq_false]; exact ⟨_, List.getElem_mem hi, by simp [h]⟩
    simp -implicitDefEqProofs only [↓aP, aQ, ↓reduceIte, Nat.reduceEqDiff, Nat.reduceAdd, Nat.reduceSub, Nat.reduceMul, Nat.reduceLT, Nat.reduceLeDiff, reduceCtorEq, Nat.reduceBEq, forall_const, implies_true, exists_const, ne_eq, Int.reduceAdd, Int.reduceSub, Int.reduceMul, Int.reduceBEq, Int.reduceEq, Int.reduceLT, Int.reduceLE, Int.reduceToNat, Int.reduceNeg, Int.reduceBNe, hlt, s1, g1, b1, s3, encClk, List.length_map, askIdx_map, hi, encFr]
    repeat' ((first | ((first | with_reducible refine fork ?_ ?_ | with_reducible refine gcase ?_ ?_ | with_reducible refine gcaseD ?_ ?_) <;> intro hc <;> (have hp := hc) <;> (try simp only [aB] at hp)) | (have hc := True.intro; first | with_reducible refine askM (by omega) ?_ | with_reducible refine And.intro (by first | omega | decide +kernel) ?_ | fail)) <;> (try simp -implicitDefEqProofs only [↓aP, aQ, ↓reduceIte, Nat.reduceEqDiff, Nat.reduceAdd, Nat.reduceSub, Nat.reduceMul, Nat.reduceLT, Nat.reduceLeDiff, reduceCtorEq, Nat.reduceBEq, forall_const, implies_true, exists_const, ne_eq, Int.reduceAdd, Int.reduceSub, Int.reduceMul, Int.reduceBEq, Int.reduceEq, Int.reduceLT, Int.reduceLE, Int.reduceToNat, Int.reduceNeg, Int.reduceBNe, hc, s1, g1, b1, s3, encFr, wrapS (show i < 4611686018427387904 by omega)]))
    all_goals first
      | (rw [bad (by unfold Ck.good; rw [decide_eq_false_iff_not]; omega)]; done)
      | (have hgi : Ck.good c.fr[i] = true := by unfold Ck.good; rw [decide_eq_true_iff]; omega
         refine nextR hi him ?_
         simp -implicitDefEqProofs only [↓aP, aQ, ↓reduceIte, Nat.reduceEqDiff, Nat.reduceAdd, Nat.reduceSub, Nat.reduceMul, Nat.reduceLT, Nat.reduceLeDiff, reduceCtorEq, Nat.reduceBEq, forall_const, implies_true, exists_const, ne_eq, Int.reduceAdd, Int.reduceSub, Int.reduceMul, Int.reduceBEq, Int.reduceEq, Int.reduceLT, Int.reduceLE, Int.reduceToNat, Int.reduceNeg, Int.reduceBNe, s1, g1, b1, s3, encClk]
         rw [take_snoc hi]
         intro x hx
         rcases List.mem_append.1 hx with h | h
         · exact hg x h
         · rw [List.mem_singleton.1 h]; exact hgi)
      | all_goals (trace_state; sorry)
  · rintro m σ hlt ⟨hg, s1, g1, b1, s3⟩
    rw [List.take_length] at hg
    simp -implicitDefEqProofs only [↓aP, aQ, ↓reduceIte, Nat.reduceEqDiff, Nat.reduceAdd, Nat.reduceSub, Nat.reduceMul, Nat.reduceLT, Nat.reduceLeDiff, reduceCtorEq, Nat.reduceBEq, forall_const, implies_true, exists_const, ne_eq, Int.reduceAdd, Int.reduceSub, Int.reduceMul, Int.reduceBEq, Int.reduceEq, Int.reduceLT, Int.reduceLE, Int.reduceToNat, Int.reduceNeg, Int.reduceBNe, hlt, s1, g1, b1, s3, encClk, List.length_map, e0, List.all_eq_true.2 hg]
end Go.Proofs.Ytcindpblgbpcoaa
namespace Go.Proofs.Ytcindpblgbpcoaa
open Go.RowKit
set_option linter.unusedVariables false
set_option linter.unusedSimpArgs false
namespace Fm
def okR (f : Fs) (k : Nat) : Bool := if (f.ck.fr.getD k zF).page = 0 then decide (f.pg.getD k zP = zP) && decide ((f.ck.fr.getD k zF).pins = 0) else
  decide ((f.pg.getD k zP).id = (f.ck.fr.getD k zF).page) && (okPg (f.pg.getD k zP) && (decide (0 ≤ Ta.findM f.tb (f.ck.fr.getD k zF).page) && decide ((Ta.at' f.tb (Ta.findM f.tb (f.ck.fr.getD k zF).page).toNat).f = k)))
def okT (f : Fs) (k : Nat) : Bool := decide ((Ta.at' f.tb k).p = 0) || (decide ((Ta.at' f.tb k).f < f.pg.length) && decide ((f.pg.getD (Ta.at' f.tb k).f.toNat zP).id = (Ta.at' f.tb k).p))
def rightR (f : Fs) : Bool := Ck.right f.ck.fr f.ck.hand && (Ta.right f.tb && (Dy.right f.dt && (decide (f.pg.length = f.ck.fr.length) && ((List.range f.pg.length).all (okR f) && ((List.range 16).all (okT f) && f.dt.all fun i => decide (0 ≤ Ta.findM f.tb i.page))))))
end Fm
theorem rightR_eq (f : Fs) : Fm.rightR f = (Ck.right f.ck.fr f.ck.hand && (Ta.right f.tb && (Dy.right f.dt && (decide (f.pg.length = f.ck.fr.length) && ((List.range f.pg.length).all (Fm.okR f) && ((List.range 16).all (Fm.okT f) && f.dt.all fun i => decide (0 ≤ Ta.findM f.tb i.page))))))) := rfl
theorem okR_eq (f : Fs) (k : Nat) : Fm.okR f k = if (f.ck.fr.getD k zF).page = 0 then decide (f.pg.getD k zP = zP) && decide ((f.ck.fr.getD k zF).pins = 0) else
  decide ((f.pg.getD k zP).id = (f.ck.fr.getD k zF).page) && (okPg (f.pg.getD k zP) && (decide (0 ≤ Ta.findM f.tb (f.ck.fr.getD k zF).page) && decide ((Ta.at' f.tb (Ta.findM f.tb (f.ck.fr.getD k zF).page).toNat).f = k))) := rfl
theorem okT_eq (f : Fs) (k : Nat) : Fm.okT f k = (decide ((Ta.at' f.tb k).p = 0) || (decide ((Ta.at' f.tb k).f < f.pg.length) && decide ((f.pg.getD (Ta.at' f.tb k).f.toNat zP).id = (Ta.at' f.tb k).p))) := rfl
theorem tl_beq (a b : ByteArray) : (a.toList == b.toList) = decide (a = b) := by
  by_cases h : a = b
  · rw [decide_eq_true h, h]; exact beq_self_eq_true _
  · rw [decide_eq_false h]; exact beq_eq_false_iff_ne.2 (fun e => h (tl_eq _ _ e))
theorem findM_lt {t : List Sl} {p : Int} (h : 0 ≤ Ta.findM t p) : ∃ k : Nat, Ta.findM t p = k ∧ k < t.length := by
  unfold Ta.findM at h ⊢
  split at h
  · omega
  rename_i hp
  rw [if_neg hp]
  cases e : t.findIdx? (fun s => s.p == p) with
  | none => rw [e] at h; exact absurd h (by decide)
  | some k =>
    obtain ⟨hk, _⟩ := List.findIdx?_eq_some_iff_getElem.1 e
    exact ⟨k, rfl, hk⟩



set_option maxRecDepth 100000 in
set_option maxHeartbeats 4000000 in
theorem rrRight_spec (f : Fs) (hl : f.ck.fr.length < 4611686018427387904 ∧ f.dt.length < 4611686018427387904) : Spec Try.prog 19 [.agg (encFs f)] (.val (rB (Fm.rightR f))) := by
  refine spec_val mixed fn19 (by simp) ?_
  unfold ac19
  have hrc := rightR_eq f
  simp -implicitDefEqProofs only [↓aP, aQ, ↓reduceIte, Nat.reduceEqDiff, Nat.reduceAdd, Nat.reduceSub, Nat.reduceMul, Nat.reduceLT, Nat.reduceLeDiff, reduceCtorEq, Nat.reduceBEq, forall_const, implies_true, exists_const, ne_eq, Int.reduceAdd, Int.reduceSub, Int.reduceMul, Int.reduceBEq, Int.reduceEq, Int.reduceLT, Int.reduceLE, Int.reduceToNat, Int.reduceNeg, Int.reduceBNe, encFs]
  refine ask (by have := rcRight_spec f.ck hl.1; rw [encClk] at this; exact this) ?_
  cases r1 : Ck.right f.ck.fr f.ck.hand
  · rw [r1, Bool.false_and] at hrc
    simp -implicitDefEqProofs only [↓aP, aQ, ↓reduceIte, Nat.reduceEqDiff, Nat.reduceAdd, Nat.reduceSub, Nat.reduceMul, Nat.reduceLT, Nat.reduceLeDiff, reduceCtorEq, Nat.reduceBEq, forall_const, implies_true, exists_const, ne_eq, Int.reduceAdd, Int.reduceSub, Int.reduceMul, Int.reduceBEq, Int.reduceEq, Int.reduceLT, Int.reduceLE, Int.reduceToNat, Int.reduceNeg, Int.reduceBNe, hrc]
  rw [r1, Bool.true_and] at hrc
  obtain ⟨h8, _, _, _⟩ := right_fr r1
  simp -implicitDefEqProofs only [↓aP, aQ, ↓reduceIte, Nat.reduceEqDiff, Nat.reduceAdd, Nat.reduceSub, Nat.reduceMul, Nat.reduceLT, Nat.reduceLeDiff, reduceCtorEq, Nat.reduceBEq, forall_const, implies_true, exists_const, ne_eq, Int.reduceAdd, Int.reduceSub, Int.reduceMul, Int.reduceBEq, Int.reduceEq, Int.reduceLT, Int.reduceLE, Int.reduceToNat, Int.reduceNeg, Int.reduceBNe, encFs]
  refine ask (by have := rRight_specT f.tb; rw [encTa] at this; exact this) ?_
  cases r2 : Ta.right f.tb
  · rw [r2, Bool.false_and] at hrc
    simp -implicitDefEqProofs only [↓aP, aQ, ↓reduceIte, Nat.reduceEqDiff, Nat.reduceAdd, Nat.reduceSub, Nat.reduceMul, Nat.reduceLT, Nat.reduceLeDiff, reduceCtorEq, Nat.reduceBEq, forall_const, implies_true, exists_const, ne_eq, Int.reduceAdd, Int.reduceSub, Int.reduceMul, Int.reduceBEq, Int.reduceEq, Int.reduceLT, Int.reduceLE, Int.reduceToNat, Int.reduceNeg, Int.reduceBNe, hrc]
  rw [r2, Bool.true_and] at hrc
  obtain ⟨ht16, hts⟩ := Ta.right_iff.1 r2
  simp -implicitDefEqProofs only [↓aP, aQ, ↓reduceIte, Nat.reduceEqDiff, Nat.reduceAdd, Nat.reduceSub, Nat.reduceMul, Nat.reduceLT, Nat.reduceLeDiff, reduceCtorEq, Nat.reduceBEq, forall_const, implies_true, exists_const, ne_eq, Int.reduceAdd, Int.reduceSub, Int.reduceMul, Int.reduceBEq, Int.reduceEq, Int.reduceLT, Int.reduceLE, Int.reduceToNat, Int.reduceNeg, Int.reduceBNe, encFs]
  refine ask (drRight_spec f.dt hl.2) ?_
  cases r3 : Dy.right f.dt
  · rw [r3, Bool.false_and] at hrc
    simp -implicitDefEqProofs only [↓aP, aQ, ↓reduceIte, Nat.reduceEqDiff, Nat.reduceAdd, Nat.reduceSub, Nat.reduceMul, Nat.reduceLT, Nat.reduceLeDiff, reduceCtorEq, Nat.reduceBEq, forall_const, implies_true, exists_const, ne_eq, Int.reduceAdd, Int.reduceSub, Int.reduceMul, Int.reduceBEq, Int.reduceEq, Int.reduceLT, Int.reduceLE, Int.reduceToNat, Int.reduceNeg, Int.reduceBNe, hrc]
  rw [r3, Bool.true_and] at hrc
  have hd := right_len r3
  simp -implicitDefEqProofs only [↓aP, aQ, ↓reduceIte, Nat.reduceEqDiff, Nat.reduceAdd, Nat.reduceSub, Nat.reduceMul, Nat.reduceLT, Nat.reduceLeDiff, reduceCtorEq, Nat.reduceBEq, forall_const, implies_true, exists_const, ne_eq, Int.reduceAdd, Int.reduceSub, Int.reduceMul, Int.reduceBEq, Int.reduceEq, Int.reduceLT, Int.reduceLE, Int.reduceToNat, Int.reduceNeg, Int.reduceBNe, encFs, List.length_map]
  by_cases r4 : f.pg.length = f.ck.fr.length
  case neg =>
    rw [decide_eq_false r4, Bool.false_and] at hrc
    simp -implicitDefEqProofs only [↓aP, aQ, ↓reduceIte, Nat.reduceEqDiff, Nat.reduceAdd, Nat.reduceSub, Nat.reduceMul, Nat.reduceLT, Nat.reduceLeDiff, reduceCtorEq, Nat.reduceBEq, forall_const, implies_true, exists_const, ne_eq, Int.reduceAdd, Int.reduceSub, Int.reduceMul, Int.reduceBEq, Int.reduceEq, Int.reduceLT, Int.reduceLE, Int.reduceToNat, Int.reduceNeg, Int.reduceBNe, show ((f.pg.length : Int) != (f.ck.fr.length : Int)) = true by rw [bne_iff_ne]; omega, hrc]
  rw [decide_eq_true r4, Bool.true_and] at hrc
  simp -implicitDefEqProofs only [↓aP, aQ, ↓reduceIte, Nat.reduceEqDiff, Nat.reduceAdd, Nat.reduceSub, Nat.reduceMul, Nat.reduceLT, Nat.reduceLeDiff, reduceCtorEq, Nat.reduceBEq, forall_const, implies_true, exists_const, ne_eq, Int.reduceAdd, Int.reduceSub, Int.reduceMul, Int.reduceBEq, Int.reduceEq, Int.reduceLT, Int.reduceLE, Int.reduceToNat, Int.reduceNeg, Int.reduceBNe, show ((f.pg.length : Int) != (f.ck.fr.length : Int)) = false by rw [bne_eq_false_iff_eq]; omega]
  refine rangeB f.pg.length (fun i σ => (∀ j, j < i → Fm.okR f j = true) ∧ σ.slot 1 = .c (.ptr 1 1 0 0) ∧ σ.h.gen 1 = 1 ∧ σ.h.blk 1 = .box 57 5 [(encFs f).map AC.s] ∧ σ.slot 3 = vI i) ?_ ?_ ?_
  · simp -implicitDefEqProofs only [↓aP, aQ, ↓reduceIte, Nat.reduceEqDiff, Nat.reduceAdd, Nat.reduceSub, Nat.reduceMul, Nat.reduceLT, Nat.reduceLeDiff, reduceCtorEq, Nat.reduceBEq, forall_const, implies_true, exists_const, ne_eq, Int.reduceAdd, Int.reduceSub, Int.reduceMul, Int.reduceBEq, Int.reduceEq, Int.reduceLT, Int.reduceLE, Int.reduceToNat, Int.reduceNeg, Int.reduceBNe, encFs]
    simp
  · rintro i m σ him hi hlt ⟨hok, s1, g1, b1, s3⟩
    have hic : i < f.ck.fr.length := by omega
    have bad : Fm.okR f i = false → Fm.rightR f = false := fun ho => by
      rw [hrc, show (List.range f.pg.length).all (Fm.okR f) = false by rw [List.all_eq_false]; exact ⟨i, List.mem_range.2 hi, by simp [ho]⟩, Bool.false_and]
    have okr := okR_eq f i
    rw [fr_getD hic, pg_getD hi] at okr
    have wi : IntKind.i64.wrap ((i : Int) + 1) = ((i + 1 : Nat) : Int) := by rw [wrapI (by omega)]; omega
    have next : Fm.okR f i = true → ∀ j, j < i + 1 → Fm.okR f j = true := fun ho j hj => by
      by_cases e : j = i
      · rw [e]; exact ho
      · exact hok j (by omega)
    simp -implicitDefEqProofs only [↓aP, aQ, ↓reduceIte, Nat.reduceEqDiff, Nat.reduceAdd, Nat.reduceSub, Nat.reduceMul, Nat.reduceLT, Nat.reduceLeDiff, reduceCtorEq, Nat.reduceBEq, forall_const, implies_true, exists_const, ne_eq, Int.reduceAdd, Int.reduceSub, Int.reduceMul, Int.reduceBEq, Int.reduceEq, Int.reduceLT, Int.reduceLE, Int.reduceToNat, Int.reduceNeg, Int.reduceBNe, hlt, s1, g1, b1, s3, askIdx_map, hi, hic, encFr, encPg, encFs, List.length_map]
    by_cases hp : f.ck.fr[i].page = 0
    · rw [if_pos hp] at okr
      simp -implicitDefEqProofs only [↓aP, aQ, ↓reduceIte, Nat.reduceEqDiff, Nat.reduceAdd, Nat.reduceSub, Nat.reduceMul, Nat.reduceLT, Nat.reduceLeDiff, reduceCtorEq, Nat.reduceBEq, forall_const, implies_true, exists_const, ne_eq, Int.reduceAdd, Int.reduceSub, Int.reduceMul, Int.reduceBEq, Int.reduceEq, Int.reduceLT, Int.reduceLE, Int.reduceToNat, Int.reduceNeg, Int.reduceBNe, hp, beq_self_eq_true]
      refine ⟨by decide +kernel, ?_⟩
      have nz : f.pg[i].id ≠ 0 ∨ f.pg[i].ver ≠ 0 ∨ f.pg[i].body ≠ ⟨#[]⟩ → Fm.okR f i = false := fun h => by
        rw [okr, decide_eq_false (fun e => by rw [e] at h; exact h.elim (fun x => x rfl) (fun y => y.elim (fun x => x rfl) (fun x => x rfl))), Bool.false_and]
      by_cases z1 : f.pg[i].id = 0
      case neg => simp -implicitDefEqProofs only [↓aP, aQ, ↓reduceIte, Nat.reduceEqDiff, Nat.reduceAdd, Nat.reduceSub, Nat.reduceMul, Nat.reduceLT, Nat.reduceLeDiff, reduceCtorEq, Nat.reduceBEq, forall_const, implies_true, exists_const, ne_eq, Int.reduceAdd, Int.reduceSub, Int.reduceMul, Int.reduceBEq, Int.reduceEq, Int.reduceLT, Int.reduceLE, Int.reduceToNat, Int.reduceNeg, Int.reduceBNe, show (f.pg[i].id != 0) = true from bne_iff_ne.2 z1, bad (nz (.inl z1))]
      by_cases z2 : f.pg[i].ver = 0
      case neg => simp -implicitDefEqProofs only [↓aP, aQ, ↓reduceIte, Nat.reduceEqDiff, Nat.reduceAdd, Nat.reduceSub, Nat.reduceMul, Nat.reduceLT, Nat.reduceLeDiff, reduceCtorEq, Nat.reduceBEq, forall_const, implies_true, exists_const, ne_eq, Int.reduceAdd, Int.reduceSub, Int.reduceMul, Int.reduceBEq, Int.reduceEq, Int.reduceLT, Int.reduceLE, Int.reduceToNat, Int.reduceNeg, Int.reduceBNe, z1, bne_self_eq_false, show (f.pg[i].ver != 0) = true from bne_iff_ne.2 z2, bad (nz (.inr (.inl z2)))]
      by_cases z3 : f.pg[i].body = ⟨#[]⟩
      case neg => simp -implicitDefEqProofs only [↓aP, aQ, ↓reduceIte, Nat.reduceEqDiff, Nat.reduceAdd, Nat.reduceSub, Nat.reduceMul, Nat.reduceLT, Nat.reduceLeDiff, reduceCtorEq, Nat.reduceBEq, forall_const, implies_true, exists_const, ne_eq, Int.reduceAdd, Int.reduceSub, Int.reduceMul, Int.reduceBEq, Int.reduceEq, Int.reduceLT, Int.reduceLE, Int.reduceToNat, Int.reduceNeg, Int.reduceBNe, z1, z2, bne_self_eq_false, tl_beq, decide_eq_false z3, Bool.not_false, bad (nz (.inr (.inr z3)))]
      have hz : f.pg[i] = zP := by
        cases hx : f.pg[i] with
        | mk a b c => rw [hx] at z1 z2 z3; simp only at z1 z2 z3; rw [z1, z2, z3]; rfl
      rw [decide_eq_true hz, Bool.true_and] at okr
      by_cases z4 : f.ck.fr[i].pins = 0
      · rw [decide_eq_true z4] at okr
        simp -implicitDefEqProofs only [↓aP, aQ, ↓reduceIte, Nat.reduceEqDiff, Nat.reduceAdd, Nat.reduceSub, Nat.reduceMul, Nat.reduceLT, Nat.reduceLeDiff, reduceCtorEq, Nat.reduceBEq, forall_const, implies_true, exists_const, ne_eq, Int.reduceAdd, Int.reduceSub, Int.reduceMul, Int.reduceBEq, Int.reduceEq, Int.reduceLT, Int.reduceLE, Int.reduceToNat, Int.reduceNeg, Int.reduceBNe, z1, z2, bne_self_eq_false, tl_beq, decide_eq_true z3, Bool.not_true, z4, s1, g1, b1, s3, wi]
        refine nextR hi him ⟨next okr, ?_⟩
        simp -implicitDefEqProofs only [↓aP, aQ, ↓reduceIte, Nat.reduceEqDiff, Nat.reduceAdd, Nat.reduceSub, Nat.reduceMul, Nat.reduceLT, Nat.reduceLeDiff, reduceCtorEq, Nat.reduceBEq, forall_const, implies_true, exists_const, ne_eq, Int.reduceAdd, Int.reduceSub, Int.reduceMul, Int.reduceBEq, Int.reduceEq, Int.reduceLT, Int.reduceLE, Int.reduceToNat, Int.reduceNeg, Int.reduceBNe, s1, g1, b1, s3, encFs]
      · rw [decide_eq_false z4] at okr
        simp -implicitDefEqProofs only [↓aP, aQ, ↓reduceIte, Nat.reduceEqDiff, Nat.reduceAdd, Nat.reduceSub, Nat.reduceMul, Nat.reduceLT, Nat.reduceLeDiff, reduceCtorEq, Nat.reduceBEq, forall_const, implies_true, exists_const, ne_eq, Int.reduceAdd, Int.reduceSub, Int.reduceMul, Int.reduceBEq, Int.reduceEq, Int.reduceLT, Int.reduceLE, Int.reduceToNat, Int.reduceNeg, Int.reduceBNe, z1, z2, bne_self_eq_false, tl_beq, decide_eq_true z3, Bool.not_true, show (f.ck.fr[i].pins != 0) = true from bne_iff_ne.2 z4, bad okr]
    · rw [if_neg hp] at okr
      simp -implicitDefEqProofs only [↓aP, aQ, ↓reduceIte, Nat.reduceEqDiff, Nat.reduceAdd, Nat.reduceSub, Nat.reduceMul, Nat.reduceLT, Nat.reduceLeDiff, reduceCtorEq, Nat.reduceBEq, forall_const, implies_true, exists_const, ne_eq, Int.reduceAdd, Int.reduceSub, Int.reduceMul, Int.reduceBEq, Int.reduceEq, Int.reduceLT, Int.reduceLE, Int.reduceToNat, Int.reduceNeg, Int.reduceBNe, show (f.ck.fr[i].page == 0) = false from beq_eq_false_iff_ne.2 hp, s1, g1, b1, s3, encFs]
      refine ⟨by decide +kernel, ?_⟩
      refine ask (by have := rFind_spec f.tb f.ck.fr[i].page (by omega); rw [encTa] at this; exact this) ?_
      by_cases y1 : f.pg[i].id = f.ck.fr[i].page
      case neg =>
        rw [decide_eq_false y1, Bool.false_and] at okr
        simp -implicitDefEqProofs only [↓aP, aQ, ↓reduceIte, Nat.reduceEqDiff, Nat.reduceAdd, Nat.reduceSub, Nat.reduceMul, Nat.reduceLT, Nat.reduceLeDiff, reduceCtorEq, Nat.reduceBEq, forall_const, implies_true, exists_const, ne_eq, Int.reduceAdd, Int.reduceSub, Int.reduceMul, Int.reduceBEq, Int.reduceEq, Int.reduceLT, Int.reduceLE, Int.reduceToNat, Int.reduceNeg, Int.reduceBNe, show (f.pg[i].id != f.ck.fr[i].page) = true from bne_iff_ne.2 y1, bad okr]
      rw [decide_eq_true y1, Bool.true_and] at okr
      simp -implicitDefEqProofs only [↓aP, aQ, ↓reduceIte, Nat.reduceEqDiff, Nat.reduceAdd, Nat.reduceSub, Nat.reduceMul, Nat.reduceLT, Nat.reduceLeDiff, reduceCtorEq, Nat.reduceBEq, forall_const, implies_true, exists_const, ne_eq, Int.reduceAdd, Int.reduceSub, Int.reduceMul, Int.reduceBEq, Int.reduceEq, Int.reduceLT, Int.reduceLE, Int.reduceToNat, Int.reduceNeg, Int.reduceBNe, show (f.pg[i].id != f.ck.fr[i].page) = false from bne_eq_false_iff_eq.2 y1, encPg]
      refine ask (by have := rpRight_spec f.pg[i]; rw [encPg] at this; exact this) ?_
      cases y2 : okPg f.pg[i]
      · rw [y2, Bool.false_and] at okr
        simp -implicitDefEqProofs only [↓aP, aQ, ↓reduceIte, Nat.reduceEqDiff, Nat.reduceAdd, Nat.reduceSub, Nat.reduceMul, Nat.reduceLT, Nat.reduceLeDiff, reduceCtorEq, Nat.reduceBEq, forall_const, implies_true, exists_const, ne_eq, Int.reduceAdd, Int.reduceSub, Int.reduceMul, Int.reduceBEq, Int.reduceEq, Int.reduceLT, Int.reduceLE, Int.reduceToNat, Int.reduceNeg, Int.reduceBNe, bad okr]
      rw [y2, Bool.true_and] at okr
      by_cases y3 : 0 ≤ Ta.findM f.tb f.ck.fr[i].page
      case neg =>
        rw [decide_eq_false y3, Bool.false_and] at okr
        simp -implicitDefEqProofs only [↓aP, aQ, ↓reduceIte, Nat.reduceEqDiff, Nat.reduceAdd, Nat.reduceSub, Nat.reduceMul, Nat.reduceLT, Nat.reduceLeDiff, reduceCtorEq, Nat.reduceBEq, forall_const, implies_true, exists_const, ne_eq, Int.reduceAdd, Int.reduceSub, Int.reduceMul, Int.reduceBEq, Int.reduceEq, Int.reduceLT, Int.reduceLE, Int.reduceToNat, Int.reduceNeg, Int.reduceBNe, show decide (Ta.findM f.tb f.ck.fr[i].page < 0) = true by simp; omega, bad okr]
      rw [decide_eq_true y3, Bool.true_and] at okr
      obtain ⟨k, e1, k1⟩ := findM_lt y3
      rw [e1, Int.toNat_natCast, Ta.at_get k1] at okr
      simp -implicitDefEqProofs only [↓aP, aQ, ↓reduceIte, Nat.reduceEqDiff, Nat.reduceAdd, Nat.reduceSub, Nat.reduceMul, Nat.reduceLT, Nat.reduceLeDiff, reduceCtorEq, Nat.reduceBEq, forall_const, implies_true, exists_const, ne_eq, Int.reduceAdd, Int.reduceSub, Int.reduceMul, Int.reduceBEq, Int.reduceEq, Int.reduceLT, Int.reduceLE, Int.reduceToNat, Int.reduceNeg, Int.reduceBNe, e1, show decide ((k : Int) < 0) = false by simp, s1, g1, b1, s3, encFs, askIdx_map, k1, encSl]
      by_cases y4 : f.tb[k].f = (i : Int)
      · rw [decide_eq_true y4] at okr
        simp -implicitDefEqProofs only [↓aP, aQ, ↓reduceIte, Nat.reduceEqDiff, Nat.reduceAdd, Nat.reduceSub, Nat.reduceMul, Nat.reduceLT, Nat.reduceLeDiff, reduceCtorEq, Nat.reduceBEq, forall_const, implies_true, exists_const, ne_eq, Int.reduceAdd, Int.reduceSub, Int.reduceMul, Int.reduceBEq, Int.reduceEq, Int.reduceLT, Int.reduceLE, Int.reduceToNat, Int.reduceNeg, Int.reduceBNe, y4, bne_self_eq_false, s1, g1, b1, s3, wi]
        refine nextR hi him ⟨next okr, ?_⟩
        simp -implicitDefEqProofs only [↓aP, aQ, ↓reduceIte, Nat.reduceEqDiff, Nat.reduceAdd, Nat.reduceSub, Nat.reduceMul, Nat.reduceLT, Nat.reduceLeDiff, reduceCtorEq, Nat.reduceBEq, forall_const, implies_true, exists_const, ne_eq, Int.reduceAdd, Int.reduceSub, Int.reduceMul, Int.reduceBEq, Int.reduceEq, Int.reduceLT, Int.reduceLE, Int.reduceToNat, Int.reduceNeg, Int.reduceBNe, s1, g1, b1, s3, encFs]
      · rw [decide_eq_false y4] at okr
        simp -implicitDefEqProofs only [↓aP, aQ, ↓reduceIte, Nat.reduceEqDiff, Nat.reduceAdd, Nat.reduceSub, Nat.reduceMul, Nat.reduceLT, Nat.reduceLeDiff, reduceCtorEq, Nat.reduceBEq, forall_const, implies_true, exists_const, ne_eq, Int.reduceAdd, Int.reduceSub, Int.reduceMul, Int.reduceBEq, Int.reduceEq, Int.reduceLT, Int.reduceLE, Int.reduceToNat, Int.reduceNeg, Int.reduceBNe, show (f.tb[k].f != (i : Int)) = true from bne_iff_ne.2 y4, bad okr]
  · rintro m σ hlt ⟨hok, s1, g1, b1, s3⟩
    have r5 : (List.range f.pg.length).all (Fm.okR f) = true := by rw [List.all_eq_true]; intro x hx; exact hok x (List.mem_range.1 hx)
    rw [r5, Bool.true_and] at hrc
    simp -implicitDefEqProofs only [↓aP, aQ, ↓reduceIte, Nat.reduceEqDiff, Nat.reduceAdd, Nat.reduceSub, Nat.reduceMul, Nat.reduceLT, Nat.reduceLeDiff, reduceCtorEq, Nat.reduceBEq, forall_const, implies_true, exists_const, ne_eq, Int.reduceAdd, Int.reduceSub, Int.reduceMul, Int.reduceBEq, Int.reduceEq, Int.reduceLT, Int.reduceLE, Int.reduceToNat, Int.reduceNeg, Int.reduceBNe, hlt, s1, g1, b1, s3, encFs, List.length_map]
    refine loopA (fun x σ => ∃ k : Nat, k + x = 16 ∧ (∀ j, j < k → Fm.okT f j = true) ∧ σ.slot 1 = .c (.ptr 1 1 0 0) ∧ σ.h.gen 1 = 1 ∧ σ.h.blk 1 = .box 57 5 [(encFs f).map AC.s] ∧ σ.slot 7 = vI k) 16 ⟨0, by omega, fun j hj => absurd hj (by omega), ?_⟩ ?_
    · simp -implicitDefEqProofs only [↓aP, aQ, ↓reduceIte, Nat.reduceEqDiff, Nat.reduceAdd, Nat.reduceSub, Nat.reduceMul, Nat.reduceLT, Nat.reduceLeDiff, reduceCtorEq, Nat.reduceBEq, forall_const, implies_true, exists_const, ne_eq, Int.reduceAdd, Int.reduceSub, Int.reduceMul, Int.reduceBEq, Int.reduceEq, Int.reduceLT, Int.reduceLE, Int.reduceToNat, Int.reduceNeg, Int.reduceBNe, s1, g1, b1, s3, encFs]
    clear hlt s1 g1 b1 s3
    rintro x σ ⟨k, hkx, hot, s1, g1, b1, s7⟩
    by_cases hx : x = 0
    case neg =>
      have k1 : k < f.tb.length := by omega
      have ga := Ta.at_get k1
      have okt := okT_eq f k
      rw [ga] at okt
      have bad : Fm.okT f k = false → Fm.rightR f = false := fun ho => by
        rw [hrc, show (List.range 16).all (Fm.okT f) = false by rw [List.all_eq_false]; exact ⟨k, List.mem_range.2 (by omega), by simp [ho]⟩, Bool.false_and]
      have wk : IntKind.i64.wrap ((k : Int) + 1) = ((k + 1 : Nat) : Int) := by rw [wrapI (by omega)]; omega
      have next : Fm.okT f k = true → ∀ j, j < k + 1 → Fm.okT f j = true := fun ho j hj => by
        by_cases e : j = k
        · rw [e]; exact ho
        · exact hot j (by omega)
      simp -implicitDefEqProofs only [↓aP, aQ, ↓reduceIte, Nat.reduceEqDiff, Nat.reduceAdd, Nat.reduceSub, Nat.reduceMul, Nat.reduceLT, Nat.reduceLeDiff, reduceCtorEq, Nat.reduceBEq, forall_const, implies_true, exists_const, ne_eq, Int.reduceAdd, Int.reduceSub, Int.reduceMul, Int.reduceBEq, Int.reduceEq, Int.reduceLT, Int.reduceLE, Int.reduceToNat, Int.reduceNeg, Int.reduceBNe, s1, g1, b1, s7, encFs, show decide ((k : Int) < 16) = true by simp; omega, askIdx_map, k1, encSl, List.length_map]
      by_cases y1 : f.tb[k].p = 0
      · rw [decide_eq_true y1, Bool.true_or] at okt
        simp -implicitDefEqProofs only [↓aP, aQ, ↓reduceIte, Nat.reduceEqDiff, Nat.reduceAdd, Nat.reduceSub, Nat.reduceMul, Nat.reduceLT, Nat.reduceLeDiff, reduceCtorEq, Nat.reduceBEq, forall_const, implies_true, exists_const, ne_eq, Int.reduceAdd, Int.reduceSub, Int.reduceMul, Int.reduceBEq, Int.reduceEq, Int.reduceLT, Int.reduceLE, Int.reduceToNat, Int.reduceNeg, Int.reduceBNe, y1, bne_self_eq_false, s1, g1, b1, s7, wk]
        refine ⟨by decide +kernel, x - 1, by omega, k + 1, by omega, next okt, ?_⟩
        simp -implicitDefEqProofs only [↓aP, aQ, ↓reduceIte, Nat.reduceEqDiff, Nat.reduceAdd, Nat.reduceSub, Nat.reduceMul, Nat.reduceLT, Nat.reduceLeDiff, reduceCtorEq, Nat.reduceBEq, forall_const, implies_true, exists_const, ne_eq, Int.reduceAdd, Int.reduceSub, Int.reduceMul, Int.reduceBEq, Int.reduceEq, Int.reduceLT, Int.reduceLE, Int.reduceToNat, Int.reduceNeg, Int.reduceBNe, s1, g1, b1, s7, encFs]
      · rw [decide_eq_false y1, Bool.false_or] at okt
        have hos := hts k (by omega)
        unfold Ta.okS at hos
        rw [ga, show Ta.free f.tb[k] = false by unfold Ta.free; rw [show (f.tb[k].p == 0) = false from beq_eq_false_iff_ne.2 y1]; rfl, Bool.false_or] at hos
        simp only [Bool.and_eq_true, decide_eq_true_eq] at hos
        have hF := hos.1.2
        unfold Ta.isF at hF
        rw [decide_eq_true_iff] at hF
        obtain ⟨a, ea⟩ : ∃ a : Nat, f.tb[k].f = a := ⟨f.tb[k].f.toNat, by omega⟩
        rw [ea, Int.toNat_natCast] at okt
        by_cases y2 : a < f.pg.length
        case neg =>
          rw [decide_eq_false (by omega), Bool.false_and] at okt
          simp -implicitDefEqProofs only [↓aP, aQ, ↓reduceIte, Nat.reduceEqDiff, Nat.reduceAdd, Nat.reduceSub, Nat.reduceMul, Nat.reduceLT, Nat.reduceLeDiff, reduceCtorEq, Nat.reduceBEq, forall_const, implies_true, exists_const, ne_eq, Int.reduceAdd, Int.reduceSub, Int.reduceMul, Int.reduceBEq, Int.reduceEq, Int.reduceLT, Int.reduceLE, Int.reduceToNat, Int.reduceNeg, Int.reduceBNe, show (f.tb[k].p != 0) = true from bne_iff_ne.2 y1, s1, g1, b1, s7, encFs, List.length_map, ea, show decide ((f.pg.length : Int) ≤ (a : Int)) = true by simp; omega, bad okt]
          all_goals decide +kernel
        rw [decide_eq_true (by omega), Bool.true_and, pg_getD y2] at okt
        by_cases y3 : f.pg[a].id = f.tb[k].p
        · rw [decide_eq_true y3] at okt
          simp -implicitDefEqProofs only [↓aP, aQ, ↓reduceIte, Nat.reduceEqDiff, Nat.reduceAdd, Nat.reduceSub, Nat.reduceMul, Nat.reduceLT, Nat.reduceLeDiff, reduceCtorEq, Nat.reduceBEq, forall_const, implies_true, exists_const, ne_eq, Int.reduceAdd, Int.reduceSub, Int.reduceMul, Int.reduceBEq, Int.reduceEq, Int.reduceLT, Int.reduceLE, Int.reduceToNat, Int.reduceNeg, Int.reduceBNe, show (f.tb[k].p != 0) = true from bne_iff_ne.2 y1, s1, g1, b1, s7, encFs, List.length_map, ea, show decide ((f.pg.length : Int) ≤ (a : Int)) = false by simp; omega, askIdx_map, y2, encPg, show (f.pg[a].id != f.tb[k].p) = false from bne_eq_false_iff_eq.2 y3, wk]
          refine ⟨by decide +kernel, x - 1, by omega, k + 1, by omega, next okt, ?_⟩
          simp -implicitDefEqProofs only [↓aP, aQ, ↓reduceIte, Nat.reduceEqDiff, Nat.reduceAdd, Nat.reduceSub, Nat.reduceMul, Nat.reduceLT, Nat.reduceLeDiff, reduceCtorEq, Nat.reduceBEq, forall_const, implies_true, exists_const, ne_eq, Int.reduceAdd, Int.reduceSub, Int.reduceMul, Int.reduceBEq, Int.reduceEq, Int.reduceLT, Int.reduceLE, Int.reduceToNat, Int.reduceNeg, Int.reduceBNe, s1, g1, b1, s7, encFs]
        · rw [decide_eq_false y3] at okt
          simp -implicitDefEqProofs only [↓aP, aQ, ↓reduceIte, Nat.reduceEqDiff, Nat.reduceAdd, Nat.reduceSub, Nat.reduceMul, Nat.reduceLT, Nat.reduceLeDiff, reduceCtorEq, Nat.reduceBEq, forall_const, implies_true, exists_const, ne_eq, Int.reduceAdd, Int.reduceSub, Int.reduceMul, Int.reduceBEq, Int.reduceEq, Int.reduceLT, Int.reduceLE, Int.reduceToNat, Int.reduceNeg, Int.reduceBNe, show (f.tb[k].p != 0) = true from bne_iff_ne.2 y1, s1, g1, b1, s7, encFs, List.length_map, ea, show decide ((f.pg.length : Int) ≤ (a : Int)) = false by simp; omega, askIdx_map, y2, encPg, show (f.pg[a].id != f.tb[k].p) = true from bne_iff_ne.2 y3, bad okt]
          all_goals decide +kernel
    obtain rfl : k = 16 := by omega
    have r6 : (List.range 16).all (Fm.okT f) = true := by rw [List.all_eq_true]; intro x hx; exact hot x (List.mem_range.1 hx)
    rw [r6, Bool.true_and] at hrc
    simp -implicitDefEqProofs only [↓aP, aQ, ↓reduceIte, Nat.reduceEqDiff, Nat.reduceAdd, Nat.reduceSub, Nat.reduceMul, Nat.reduceLT, Nat.reduceLeDiff, reduceCtorEq, Nat.reduceBEq, forall_const, implies_true, exists_const, ne_eq, Int.reduceAdd, Int.reduceSub, Int.reduceMul, Int.reduceBEq, Int.reduceEq, Int.reduceLT, Int.reduceLE, Int.reduceToNat, Int.reduceNeg, Int.reduceBNe, s1, g1, b1, s7, show decide (((16 : Nat) : Int) < 16) = false by decide, encFs, List.length_map]
    refine rangeB f.dt.length (fun i σ => (∀ x ∈ f.dt.take i, decide (0 ≤ Ta.findM f.tb x.page) = true) ∧ σ.slot 1 = .c (.ptr 1 1 0 0) ∧ σ.h.gen 1 = 1 ∧ σ.h.blk 1 = .box 57 5 [(encFs f).map AC.s] ∧ σ.slot 9 = vI i) ?_ ?_ ?_
    · simp -implicitDefEqProofs only [↓aP, aQ, ↓reduceIte, Nat.reduceEqDiff, Nat.reduceAdd, Nat.reduceSub, Nat.reduceMul, Nat.reduceLT, Nat.reduceLeDiff, reduceCtorEq, Nat.reduceBEq, forall_const, implies_true, exists_const, ne_eq, Int.reduceAdd, Int.reduceSub, Int.reduceMul, Int.reduceBEq, Int.reduceEq, Int.reduceLT, Int.reduceLE, Int.reduceToNat, Int.reduceNeg, Int.reduceBNe, s1, g1, b1, s7, encFs]
      simp
    · clear s1 g1 b1 s7
      rintro i m σ him hi hlt ⟨hg, s1, g1, b1, s9⟩
      have wi : IntKind.i64.wrap ((i : Int) + 1) = ((i + 1 : Nat) : Int) := by rw [wrapI (by omega)]; omega
      simp -implicitDefEqProofs only [↓aP, aQ, ↓reduceIte, Nat.reduceEqDiff, Nat.reduceAdd, Nat.reduceSub, Nat.reduceMul, Nat.reduceLT, Nat.reduceLeDiff, reduceCtorEq, Nat.reduceBEq, forall_const, implies_true, exists_const, ne_eq, Int.reduceAdd, Int.reduceSub, Int.reduceMul, Int.reduceBEq, Int.reduceEq, Int.reduceLT, Int.reduceLE, Int.reduceToNat, Int.reduceNeg, Int.reduceBNe, hlt, s1, g1, b1, s9, encFs, List.length_map, askIdx_map, hi, encIt]
      refine ask (by have := rFind_spec f.tb f.dt[i].page (by omega); rw [encTa] at this; exact this) ?_
      by_cases y1 : 0 ≤ Ta.findM f.tb f.dt[i].page
      · simp -implicitDefEqProofs only [↓aP, aQ, ↓reduceIte, Nat.reduceEqDiff, Nat.reduceAdd, Nat.reduceSub, Nat.reduceMul, Nat.reduceLT, Nat.reduceLeDiff, reduceCtorEq, Nat.reduceBEq, forall_const, implies_true, exists_const, ne_eq, Int.reduceAdd, Int.reduceSub, Int.reduceMul, Int.reduceBEq, Int.reduceEq, Int.reduceLT, Int.reduceLE, Int.reduceToNat, Int.reduceNeg, Int.reduceBNe, show decide (Ta.findM f.tb f.dt[i].page < 0) = false by simp; omega, s1, g1, b1, s9, wi]
        repeat (refine And.intro (by decide +kernel) ?_)
        refine nextR hi him ⟨?_, ?_⟩
        · rw [take_snoc hi]
          intro x hx
          rcases List.mem_append.1 hx with h | h
          · exact hg x h
          · rw [List.mem_singleton.1 h]; exact decide_eq_true y1
        · simp -implicitDefEqProofs only [↓aP, aQ, ↓reduceIte, Nat.reduceEqDiff, Nat.reduceAdd, Nat.reduceSub, Nat.reduceMul, Nat.reduceLT, Nat.reduceLeDiff, reduceCtorEq, Nat.reduceBEq, forall_const, implies_true, exists_const, ne_eq, Int.reduceAdd, Int.reduceSub, Int.reduceMul, Int.reduceBEq, Int.reduceEq, Int.reduceLT, Int.reduceLE, Int.reduceToNat, Int.reduceNeg, Int.reduceBNe, s1, g1, b1, s9, encFs]
      · have : Fm.rightR f = false := by
          rw [hrc, List.all_eq_false]; exact ⟨_, List.getElem_mem hi, by simp; omega⟩
        simp -implicitDefEqProofs only [↓aP, aQ, ↓reduceIte, Nat.reduceEqDiff, Nat.reduceAdd, Nat.reduceSub, Nat.reduceMul, Nat.reduceLT, Nat.reduceLeDiff, reduceCtorEq, Nat.reduceBEq, forall_const, implies_true, exists_const, ne_eq, Int.reduceAdd, Int.reduceSub, Int.reduceMul, Int.reduceBEq, Int.reduceEq, Int.reduceLT, Int.reduceLE, Int.reduceToNat, Int.reduceNeg, Int.reduceBNe, show decide (Ta.findM f.tb f.dt[i].page < 0) = true by simp; omega, this]
        all_goals decide +kernel
    · clear s1 g1 b1 s7
      rintro m σ hlt ⟨hg, s1, g1, b1, s9⟩
      rw [List.take_length] at hg
      rw [List.all_eq_true.2 hg] at hrc
      simp -implicitDefEqProofs only [↓aP, aQ, ↓reduceIte, Nat.reduceEqDiff, Nat.reduceAdd, Nat.reduceSub, Nat.reduceMul, Nat.reduceLT, Nat.reduceLeDiff, reduceCtorEq, Nat.reduceBEq, forall_const, implies_true, exists_const, ne_eq, Int.reduceAdd, Int.reduceSub, Int.reduceMul, Int.reduceBEq, Int.reduceEq, Int.reduceLT, Int.reduceLE, Int.reduceToNat, Int.reduceNeg, Int.reduceBNe, hlt, s1, g1, b1, s9, encFs, List.length_map, hrc]
end Go.Proofs.Ytcindpblgbpcoaa
