/- layer 6: the contract of Ask. -/
import Derived.Test.YtfmbfgoofiojcaaS4
import Derived.Test.YtfmbfgoofiojcaaSA
namespace Go.Proofs.Ytfmbfgoofiojcaa
open Go.RowKit Lk
set_option linter.unusedVariables false
set_option linter.unusedSimpArgs false
set_option maxRecDepth 100000 in
set_option maxHeartbeats 4000000 in
theorem sask_spec (s : Sd) (j : Jb) (h : Shs s) : Spec Try.prog 27 [.agg (encSd s), .agg (encJb j)] (.val (encSi (Sc.askS s j))) := by
  refine spec_val mixed fn27 (by simp) ?_
  unfold ac27
  simp -implicitDefEqProofs only [↓aP, aQ, ↓reduceIte, Nat.reduceEqDiff, Nat.reduceAdd, Nat.reduceSub, Nat.reduceMul, Nat.reduceLT, Nat.reduceLeDiff, reduceCtorEq, Nat.reduceBEq, forall_const, implies_true, exists_const, ne_eq, Int.reduceAdd, Int.reduceSub, Int.reduceMul, Int.reduceBEq, Int.reduceEq, Int.reduceLT, Int.reduceLE, Int.reduceToNat, Int.reduceNeg, Int.reduceBNe, encSd, encJb, encSi]
  refine ask (by have := sright_spec s h; rw [encSd] at this; exact this) ?_
  have bad : (Sc.rightS s = false ∨ Sc.hasL s j.who = false ∨ Sc.newB s.dv.disk j = false) → Sc.askS s j = (s, 1) := fun h => by unfold Sc.askS; rw [if_pos h]
  cases r1 : Sc.rightS s
  · simp -implicitDefEqProofs only [↓aP, aQ, ↓reduceIte, Nat.reduceEqDiff, Nat.reduceAdd, Nat.reduceSub, Nat.reduceMul, Nat.reduceLT, Nat.reduceLeDiff, reduceCtorEq, Nat.reduceBEq, forall_const, implies_true, exists_const, ne_eq, Int.reduceAdd, Int.reduceSub, Int.reduceMul, Int.reduceBEq, Int.reduceEq, Int.reduceLT, Int.reduceLE, Int.reduceToNat, Int.reduceNeg, Int.reduceBNe, bad (.inl r1), encSd]
  simp -implicitDefEqProofs only [↓aP, aQ, ↓reduceIte, Nat.reduceEqDiff, Nat.reduceAdd, Nat.reduceSub, Nat.reduceMul, Nat.reduceLT, Nat.reduceLeDiff, reduceCtorEq, Nat.reduceBEq, forall_const, implies_true, exists_const, ne_eq, Int.reduceAdd, Int.reduceSub, Int.reduceMul, Int.reduceBEq, Int.reduceEq, Int.reduceLT, Int.reduceLE, Int.reduceToNat, Int.reduceNeg, Int.reduceBNe, encSd]
  refine ask (by have := shas_spec s j.who; rw [encSd] at this; exact this) ?_
  cases r2 : Sc.hasL s j.who
  · simp -implicitDefEqProofs only [↓aP, aQ, ↓reduceIte, Nat.reduceEqDiff, Nat.reduceAdd, Nat.reduceSub, Nat.reduceMul, Nat.reduceLT, Nat.reduceLeDiff, reduceCtorEq, Nat.reduceBEq, forall_const, implies_true, exists_const, ne_eq, Int.reduceAdd, Int.reduceSub, Int.reduceMul, Int.reduceBEq, Int.reduceEq, Int.reduceLT, Int.reduceLE, Int.reduceToNat, Int.reduceNeg, Int.reduceBNe, bad (.inr (.inl r2)), encSd]
  simp -implicitDefEqProofs only [↓aP, aQ, ↓reduceIte, Nat.reduceEqDiff, Nat.reduceAdd, Nat.reduceSub, Nat.reduceMul, Nat.reduceLT, Nat.reduceLeDiff, reduceCtorEq, Nat.reduceBEq, forall_const, implies_true, exists_const, ne_eq, Int.reduceAdd, Int.reduceSub, Int.reduceMul, Int.reduceBEq, Int.reduceEq, Int.reduceLT, Int.reduceLE, Int.reduceToNat, Int.reduceNeg, Int.reduceBNe, encSd]
  refine ask (by have := snew_spec s.dv j; rw [encDv, encJb] at this; exact this) ?_
  cases r3 : Sc.newB s.dv.disk j
  · simp -implicitDefEqProofs only [↓aP, aQ, ↓reduceIte, Nat.reduceEqDiff, Nat.reduceAdd, Nat.reduceSub, Nat.reduceMul, Nat.reduceLT, Nat.reduceLeDiff, reduceCtorEq, Nat.reduceBEq, forall_const, implies_true, exists_const, ne_eq, Int.reduceAdd, Int.reduceSub, Int.reduceMul, Int.reduceBEq, Int.reduceEq, Int.reduceLT, Int.reduceLE, Int.reduceToNat, Int.reduceNeg, Int.reduceBNe, bad (.inr (.inr r3)), encSd]
  have hr := Sc.rs_iff.1 r1
  obtain ⟨k, ek, k1, k2⟩ := Sc.lanes_of hr r2
  have hlen := hr.len
  have hno : ¬ (Sc.rightS s = false ∨ Sc.hasL s j.who = false ∨ Sc.newB s.dv.disk j = false) := by rw [r1, r2, r3]; simp
  simp -implicitDefEqProofs only [↓aP, aQ, ↓reduceIte, Nat.reduceEqDiff, Nat.reduceAdd, Nat.reduceSub, Nat.reduceMul, Nat.reduceLT, Nat.reduceLeDiff, reduceCtorEq, Nat.reduceBEq, forall_const, implies_true, exists_const, ne_eq, Int.reduceAdd, Int.reduceSub, Int.reduceMul, Int.reduceBEq, Int.reduceEq, Int.reduceLT, Int.reduceLE, Int.reduceToNat, Int.reduceNeg, Int.reduceBNe, encSd, encJb]
  refine ask (scost_spec j.kind) ?_
  simp -implicitDefEqProofs only [↓aP, aQ, ↓reduceIte, Nat.reduceEqDiff, Nat.reduceAdd, Nat.reduceSub, Nat.reduceMul, Nat.reduceLT, Nat.reduceLeDiff, reduceCtorEq, Nat.reduceBEq, forall_const, implies_true, exists_const, ne_eq, Int.reduceAdd, Int.reduceSub, Int.reduceMul, Int.reduceBEq, Int.reduceEq, Int.reduceLT, Int.reduceLE, Int.reduceToNat, Int.reduceNeg, Int.reduceBNe, encSd, encJb]
  refine ask (by have := lPush_spec s.l j.who (Sc.costI j.kind) h.1; rw [encLs] at this; exact this) ?_
  simp -implicitDefEqProofs only [↓aP, aQ, ↓reduceIte, Nat.reduceEqDiff, Nat.reduceAdd, Nat.reduceSub, Nat.reduceMul, Nat.reduceLT, Nat.reduceLeDiff, reduceCtorEq, Nat.reduceBEq, forall_const, implies_true, exists_const, ne_eq, Int.reduceAdd, Int.reduceSub, Int.reduceMul, Int.reduceBEq, Int.reduceEq, Int.reduceLT, Int.reduceLE, Int.reduceToNat, Int.reduceNeg, Int.reduceBNe, encR, encLs]
  by_cases hp : (pushI s.l j.who (Sc.costI j.kind)).2 = 0
  case neg =>
    have e : Sc.askS s j = (s, (pushI s.l j.who (Sc.costI j.kind)).2) := by unfold Sc.askS; rw [if_neg hno, if_pos hp]
    simp -implicitDefEqProofs only [↓aP, aQ, ↓reduceIte, Nat.reduceEqDiff, Nat.reduceAdd, Nat.reduceSub, Nat.reduceMul, Nat.reduceLT, Nat.reduceLeDiff, reduceCtorEq, Nat.reduceBEq, forall_const, implies_true, exists_const, ne_eq, Int.reduceAdd, Int.reduceSub, Int.reduceMul, Int.reduceBEq, Int.reduceEq, Int.reduceLT, Int.reduceLE, Int.reduceToNat, Int.reduceNeg, Int.reduceBNe, show ((pushI s.l j.who (Sc.costI j.kind)).2 != 0) = true from bne_iff_ne.2 hp, e, encSd]
    decide +kernel
  have hjk : s.js[k].length ≤ 200 := hlen.2.2.2.2.1 _ (List.getElem_mem k1)
  have e : Sc.askS s j = (⟨(pushI s.l j.who (Sc.costI j.kind)).1, s.js.set k (s.js[k] ++ [j]), s.dv, s.out⟩, 0) := by
    unfold Sc.askS
    rw [if_neg hno, if_neg (by rw [hp]; exact fun h => h rfl), ek, Int.toNat_natCast, List.getD_eq_getElem?_getD, List.getElem?_eq_getElem k1]; rfl
  rw [e]
  have ms : (s.js.map encJs).set k [.sl 5 (s.js[k].map encJb ++ [encJb j])] = (s.js.set k (s.js[k] ++ [j])).map encJs := by
    rw [List.map_set]; simp [encJs]
  rw [encJb, ek] at ms
  simp -implicitDefEqProofs only [↓aP, aQ, ↓reduceIte, Nat.reduceEqDiff, Nat.reduceAdd, Nat.reduceSub, Nat.reduceMul, Nat.reduceLT, Nat.reduceLeDiff, reduceCtorEq, Nat.reduceBEq, forall_const, implies_true, exists_const, ne_eq, Int.reduceAdd, Int.reduceSub, Int.reduceMul, Int.reduceBEq, Int.reduceEq, Int.reduceLT, Int.reduceLE, Int.reduceToNat, Int.reduceNeg, Int.reduceBNe, hp, bne_self_eq_false, encSd, encJb]
  refine ⟨by decide +kernel, ?_⟩
  refine ask (cloneJs _ (by simp; omega)) ?_
  simp -implicitDefEqProofs only [↓aP, aQ, ↓reduceIte, Nat.reduceEqDiff, Nat.reduceAdd, Nat.reduceSub, Nat.reduceMul, Nat.reduceLT, Nat.reduceLeDiff, reduceCtorEq, Nat.reduceBEq, forall_const, implies_true, exists_const, ne_eq, Int.reduceAdd, Int.reduceSub, Int.reduceMul, Int.reduceBEq, Int.reduceEq, Int.reduceLT, Int.reduceLE, Int.reduceToNat, Int.reduceNeg, Int.reduceBNe, encSd, encJb, ek, askIdx_map, k1, encJs, List.length_map]
  refine ask (cloneJb _ (by simp; omega)) ?_
  simp -implicitDefEqProofs only [↓aP, aQ, ↓reduceIte, Nat.reduceEqDiff, Nat.reduceAdd, Nat.reduceSub, Nat.reduceMul, Nat.reduceLT, Nat.reduceLeDiff, reduceCtorEq, Nat.reduceBEq, forall_const, implies_true, exists_const, ne_eq, Int.reduceAdd, Int.reduceSub, Int.reduceMul, Int.reduceBEq, Int.reduceEq, Int.reduceLT, Int.reduceLE, Int.reduceToNat, Int.reduceNeg, Int.reduceBNe, encSd, encJb, ek, askIdx_map, k1, encJs, List.length_map]
  refine ⟨by omega, by omega, by decide +kernel, ?_⟩
  first
    | exact Sim.eq (congrArg (SC.sl 1) ms)
    | (rw [ms]; exact Sim.refl _)
end Go.Proofs.Ytfmbfgoofiojcaa
namespace Go.Proofs.Ytfmbfgoofiojcaa
open Go.RowKit Lk
set_option linter.unusedVariables false
set_option linter.unusedSimpArgs false
/-- the same, where nothing else of the call's own is handed on -/
theorem askR0 {P : Program} {f d : Nat} {h : Hp} {K : KT} {aa : List (TV SC)} {xs : List (TV AC)} (l g : Nat) (rv : TV AC) {css : List (List AC)} (h1 : (h.blk l).isRow = true) (h2 : g = h.gen l) (h3 : okR l g rv = true) (hc : all? TV.cells xs = some css)
    (h4 : (all? (shA h) (restR l g css)).isSome = true) (hz : frz h (restR l g css) = []) (F : Value → List (TV SC)) (hF : ∀ v, all? (rawT h l g v) xs = some (F v)) (hs : ∀ v, Spec P f (F v) (.val (lowT v rv))) (hk : K rv []) : Ask P f aa h d xs K :=
  askR l g rv h1 h2 h3 hc h4 (by rw [hz]; rfl) F hF hs (by rw [hz]; exact hk)

set_option maxRecDepth 100000 in
set_option maxHeartbeats 4000000 in
theorem spump_spec (s : Sd) (h : Shs s) : Spec Try.prog 29 [.agg (encSd s)] (.val (.agg (encSd (Sc.pumpS s)))) := by
  refine spec_val mixed fn29 (by simp) ?_
  unfold ac29
  simp -implicitDefEqProofs only [↓aP, aQ, ↓reduceIte, Nat.reduceEqDiff, Nat.reduceAdd, Nat.reduceSub, Nat.reduceMul, Nat.reduceLT, Nat.reduceLeDiff, reduceCtorEq, Nat.reduceBEq, forall_const, implies_true, exists_const, ne_eq, Int.reduceAdd, Int.reduceSub, Int.reduceMul, Int.reduceBEq, Int.reduceEq, Int.reduceLT, Int.reduceLE, Int.reduceToNat, Int.reduceNeg, Int.reduceBNe, encSd]
  refine ask (by have := sright_spec s h; rw [encSd] at this; exact this) ?_
  cases r1 : Sc.rightS s
  · have e : Sc.pumpS s = s := by unfold Sc.pumpS; rw [if_pos r1]
    simp -implicitDefEqProofs only [↓aP, aQ, ↓reduceIte, Nat.reduceEqDiff, Nat.reduceAdd, Nat.reduceSub, Nat.reduceMul, Nat.reduceLT, Nat.reduceLeDiff, reduceCtorEq, Nat.reduceBEq, forall_const, implies_true, exists_const, ne_eq, Int.reduceAdd, Int.reduceSub, Int.reduceMul, Int.reduceBEq, Int.reduceEq, Int.reduceLT, Int.reduceLE, Int.reduceToNat, Int.reduceNeg, Int.reduceBNe, e, encSd]
  have e : Sc.pumpS s = Sc.pumpN 5 s := by unfold Sc.pumpS; rw [if_neg (by rw [r1]; decide)]
  rw [e]
  have hr := Sc.rs_iff.1 r1
  have hlen := hr.len
  simp -implicitDefEqProofs only [↓aP, aQ, ↓reduceIte, Nat.reduceEqDiff, Nat.reduceAdd, Nat.reduceSub, Nat.reduceMul, Nat.reduceLT, Nat.reduceLeDiff, reduceCtorEq, Nat.reduceBEq, forall_const, implies_true, exists_const, ne_eq, Int.reduceAdd, Int.reduceSub, Int.reduceMul, Int.reduceBEq, Int.reduceEq, Int.reduceLT, Int.reduceLE, Int.reduceToNat, Int.reduceNeg, Int.reduceBNe, encSd]
  refine ask (cloneJs _ (by simp; omega)) ?_
  simp -implicitDefEqProofs only [↓aP, aQ, ↓reduceIte, Nat.reduceEqDiff, Nat.reduceAdd, Nat.reduceSub, Nat.reduceMul, Nat.reduceLT, Nat.reduceLeDiff, reduceCtorEq, Nat.reduceBEq, forall_const, implies_true, exists_const, ne_eq, Int.reduceAdd, Int.reduceSub, Int.reduceMul, Int.reduceBEq, Int.reduceEq, Int.reduceLT, Int.reduceLE, Int.reduceToNat, Int.reduceNeg, Int.reduceBNe, encSd]
  refine loopA (fun m σ => ∃ (t : Sd) (g : Nat), Sc.Rs t ∧ Sc.pumpN m t = Sc.pumpN 5 s ∧ 5 ≤ t.dv.flight.length + m ∧ σ.slot 1 = .c (.ptr 1 1 0 0) ∧ σ.h.gen 1 = 1 ∧ σ.h.blk 1 = .box 68 9 [[.s (.sl 3 (t.l.l.map encLn)), .s (.pv (.int .i64 t.l.at')), .s (.pv (.bool t.l.g)), .own 14 g, .s (.sl 1 (t.dv.disk.sectors.map encS)), .s (.sl 2 (t.dv.disk.cache.map encWr)), .s (.pv (.int .i64 t.dv.next)), .s (.sl 4 (t.dv.flight.map encRq)), .s (.sl 5 (t.out.map encJb))]] ∧ σ.h.gen 14 = g ∧ σ.h.blk 14 = .row 66 1 (t.js.map encJs) ∧ σ.slot 2 = .c (.ptr 2 1 0 0) ∧ σ.h.gen 2 = 1 ∧ σ.h.blk 2 = .box 68 9 [[.zc, .s (.pv (.int .i64 0)), .s (.pv (.bool false)), .zc, .zc, .zc, .s (.pv (.int .i64 0)), .zc, .zc]]) 5 ⟨s, 1, hr, rfl, by omega, ?_⟩ ?_
  · simp -implicitDefEqProofs only [↓aP, aQ, ↓reduceIte, Nat.reduceEqDiff, Nat.reduceAdd, Nat.reduceSub, Nat.reduceMul, Nat.reduceLT, Nat.reduceLeDiff, reduceCtorEq, Nat.reduceBEq, forall_const, implies_true, exists_const, ne_eq, Int.reduceAdd, Int.reduceSub, Int.reduceMul, Int.reduceBEq, Int.reduceEq, Int.reduceLT, Int.reduceLE, Int.reduceToNat, Int.reduceNeg, Int.reduceBNe, encSd]
  rintro m σ ⟨t, g, hrt, hpe, hm, s1, g1, b1, g14, b14, s2, g2, b2⟩
  have hl4 := hrt.len
  obtain ⟨m', rfl⟩ : ∃ m', m = m' + 1 := ⟨m - 1, by omega⟩
  by_cases h1 : t.dv.flight.length < 4
  case neg =>
    have hg : Sc.goes t = false := by unfold Sc.goes; rw [decide_eq_false h1, Bool.false_and]
    have e2 : Sc.pumpN 5 s = t := by rw [← hpe]; unfold Sc.pumpN; rw [if_neg (by rw [hg]; decide)]
    simp -implicitDefEqProofs only [↓aP, aQ, ↓reduceIte, Nat.reduceEqDiff, Nat.reduceAdd, Nat.reduceSub, Nat.reduceMul, Nat.reduceLT, Nat.reduceLeDiff, reduceCtorEq, Nat.reduceBEq, forall_const, implies_true, exists_const, ne_eq, Int.reduceAdd, Int.reduceSub, Int.reduceMul, Int.reduceBEq, Int.reduceEq, Int.reduceLT, Int.reduceLE, Int.reduceToNat, Int.reduceNeg, Int.reduceBNe, s1, g1, b1, g14, b14, s2, g2, b2, List.length_map, show decide ((t.dv.flight.length : Int) < 4) = false by simp; omega, e2, encSd]
  by_cases h2 : t.dv.next < 2147483647
  case neg =>
    have hg : Sc.goes t = false := by unfold Sc.goes; rw [decide_eq_false h2, Bool.false_and, Bool.and_false]
    have e2 : Sc.pumpN 5 s = t := by rw [← hpe]; unfold Sc.pumpN; rw [if_neg (by rw [hg]; decide)]
    simp -implicitDefEqProofs only [↓aP, aQ, ↓reduceIte, Nat.reduceEqDiff, Nat.reduceAdd, Nat.reduceSub, Nat.reduceMul, Nat.reduceLT, Nat.reduceLeDiff, reduceCtorEq, Nat.reduceBEq, forall_const, implies_true, exists_const, ne_eq, Int.reduceAdd, Int.reduceSub, Int.reduceMul, Int.reduceBEq, Int.reduceEq, Int.reduceLT, Int.reduceLE, Int.reduceToNat, Int.reduceNeg, Int.reduceBNe, s1, g1, b1, g14, b14, s2, g2, b2, List.length_map, show decide ((t.dv.flight.length : Int) < 4) = true by simp; omega, decide_eq_false h2, e2, encSd]
  simp -implicitDefEqProofs only [↓aP, aQ, ↓reduceIte, Nat.reduceEqDiff, Nat.reduceAdd, Nat.reduceSub, Nat.reduceMul, Nat.reduceLT, Nat.reduceLeDiff, reduceCtorEq, Nat.reduceBEq, forall_const, implies_true, exists_const, ne_eq, Int.reduceAdd, Int.reduceSub, Int.reduceMul, Int.reduceBEq, Int.reduceEq, Int.reduceLT, Int.reduceLE, Int.reduceToNat, Int.reduceNeg, Int.reduceBNe, s1, g1, b1, g14, b14, s2, g2, b2, List.length_map, show decide ((t.dv.flight.length : Int) < 4) = true by simp; omega, decide_eq_true h2]
  refine ask (by have := lNext_spec t.l ⟨by omega, fun y hy => by have := hl4.2.2.2.2.2.1 y hy; omega⟩; rw [encLs] at this; exact this) ?_
  cases h3 : (nextI t.l).2.2.2
  · have hg : Sc.goes t = false := by unfold Sc.goes; rw [h3, Bool.and_false, Bool.and_false]
    have e2 : Sc.pumpN 5 s = t := by rw [← hpe]; unfold Sc.pumpN; rw [if_neg (by rw [hg]; decide)]
    simp -implicitDefEqProofs only [↓aP, aQ, ↓reduceIte, Nat.reduceEqDiff, Nat.reduceAdd, Nat.reduceSub, Nat.reduceMul, Nat.reduceLT, Nat.reduceLeDiff, reduceCtorEq, Nat.reduceBEq, forall_const, implies_true, exists_const, ne_eq, Int.reduceAdd, Int.reduceSub, Int.reduceMul, Int.reduceBEq, Int.reduceEq, Int.reduceLT, Int.reduceLE, Int.reduceToNat, Int.reduceNeg, Int.reduceBNe, encN, encLs, h3, s1, g1, b1, g14, b14, s2, g2, b2, e2, encSd]
  have hg : Sc.goes t = true := by unfold Sc.goes; rw [decide_eq_true h1, decide_eq_true h2, h3]; rfl
  obtain ⟨k, j, tl, hk, hkl, ejk, e2, _, _, hrn, hcs⟩ := Sc.goes_at hrt hg
  have ejk2 : t.js[k] = j :: tl := by rw [List.getElem?_eq_getElem hk] at ejk; exact Option.some.inj ejk
  have hstep := Sc.step_eq ejk e2
  obtain ⟨w1, w2, w3⟩ := hrt.wait k hk j (by rw [ejk2]; simp)
  have htl : tl.length < 200 := by have := hl4.2.2.2.2.1 _ (List.getElem_mem hk); rw [ejk2, List.length_cons] at this; omega
  simp -implicitDefEqProofs only [↓aP, aQ, ↓reduceIte, Nat.reduceEqDiff, Nat.reduceAdd, Nat.reduceSub, Nat.reduceMul, Nat.reduceLT, Nat.reduceLeDiff, reduceCtorEq, Nat.reduceBEq, forall_const, implies_true, exists_const, ne_eq, Int.reduceAdd, Int.reduceSub, Int.reduceMul, Int.reduceBEq, Int.reduceEq, Int.reduceLT, Int.reduceLE, Int.reduceToNat, Int.reduceNeg, Int.reduceBNe, encN, encLs, h3, e2, s1, g1, b1, g14, b14, s2, g2, b2, askIdx_map, hk, encJs, ejk2, List.map_cons, encJb]
  have htk : List.take tl.length (List.map encJb tl) = tl.map encJb := List.take_of_length_le (by simp)
  rw [htk]
  refine ⟨by omega, ?_⟩
  refine ask (cloneJb _ (by simp; omega)) ?_
  simp -implicitDefEqProofs only [↓aP, aQ, ↓reduceIte, Nat.reduceEqDiff, Nat.reduceAdd, Nat.reduceSub, Nat.reduceMul, Nat.reduceLT, Nat.reduceLeDiff, reduceCtorEq, Nat.reduceBEq, forall_const, implies_true, exists_const, ne_eq, Int.reduceAdd, Int.reduceSub, Int.reduceMul, Int.reduceBEq, Int.reduceEq, Int.reduceLT, Int.reduceLE, Int.reduceToNat, Int.reduceNeg, Int.reduceBNe, encSd, askIdx_map, hk, encJs, List.length_map, s1, g1, b1, g14, b14, s2, g2, b2]
  refine ⟨by decide +kernel, ?_⟩
  have cs := fun v : Value => ssubm_spec ⟨(nextI t.l).1, [], t.dv, t.out⟩ (.pv v) j (by show t.out.length ≤ 1000000; omega) (by omega)
  refine askR0 14 g (.agg [.s (.sl 3 ((nextI t.l).1.l.map encLn)), .s (.pv (.int .i64 (nextI t.l).1.at')), .s (.pv (.bool (nextI t.l).1.g)), .own 14 g, .s (.sl 1 ((Sc.submS ⟨(nextI t.l).1, [], t.dv, t.out⟩ j).dv.disk.sectors.map encS)), .s (.sl 2 ((Sc.submS ⟨(nextI t.l).1, [], t.dv, t.out⟩ j).dv.disk.cache.map encWr)), .s (.pv (.int .i64 (Sc.submS ⟨(nextI t.l).1, [], t.dv, t.out⟩ j).dv.next)), .s (.sl 4 ((Sc.submS ⟨(nextI t.l).1, [], t.dv, t.out⟩ j).dv.flight.map encRq)), .s (.sl 5 ((Sc.submS ⟨(nextI t.l).1, [], t.dv, t.out⟩ j).out.map encJb))]) (by simp -implicitDefEqProofs only [↓aP, aQ, ↓reduceIte, Nat.reduceEqDiff, Nat.reduceAdd, Nat.reduceSub, Nat.reduceMul, Nat.reduceLT, Nat.reduceLeDiff, reduceCtorEq, Nat.reduceBEq, forall_const, implies_true, exists_const, ne_eq, Int.reduceAdd, Int.reduceSub, Int.reduceMul, Int.reduceBEq, Int.reduceEq, Int.reduceLT, Int.reduceLE, Int.reduceToNat, Int.reduceNeg, Int.reduceBNe, LB.isRow]) (by simp -implicitDefEqProofs only [↓aP, aQ, ↓reduceIte, Nat.reduceEqDiff, Nat.reduceAdd, Nat.reduceSub, Nat.reduceMul, Nat.reduceLT, Nat.reduceLeDiff, reduceCtorEq, Nat.reduceBEq, forall_const, implies_true, exists_const, ne_eq, Int.reduceAdd, Int.reduceSub, Int.reduceMul, Int.reduceBEq, Int.reduceEq, Int.reduceLT, Int.reduceLE, Int.reduceToNat, Int.reduceNeg, Int.reduceBNe]) (by simp [okR, okCR, AC.isS, isRow]) rfl (by simp [restR, isRow, all?, shA]) (by simp [restR, isRow, frz]) (fun v => [.agg (encSx ⟨(nextI t.l).1, [], t.dv, t.out⟩ (.pv v)), .agg (encJb j)]) (fun v => by simp [all?, rawT, rawC, isRow, shA, encSx, encJb]) (fun v => cs v) ?_
  have ms : (t.js.map encJs).set k [.sl 5 (tl.map encJb)] = (t.js.set k tl).map encJs := by rw [List.map_set]; rfl
  have hpn : Sc.pumpN m' (Sc.stepS t) = Sc.pumpN 5 s := by rw [← hpe]; conv => rhs; unfold Sc.pumpN; rw [if_pos hg]
  have hfl := (Sc.step_facts hrt hg).2.2.2.2.2
  simp -implicitDefEqProofs only [↓aP, aQ, ↓reduceIte, Nat.reduceEqDiff, Nat.reduceAdd, Nat.reduceSub, Nat.reduceMul, Nat.reduceLT, Nat.reduceLeDiff, reduceCtorEq, Nat.reduceBEq, forall_const, implies_true, exists_const, ne_eq, Int.reduceAdd, Int.reduceSub, Int.reduceMul, Int.reduceBEq, Int.reduceEq, Int.reduceLT, Int.reduceLE, Int.reduceToNat, Int.reduceNeg, Int.reduceBNe, encSd, s1, g1, b1, g14, b14, s2, g2, b2, ms]
  refine ⟨m', by omega, Sc.stepS t, g, Sc.rs_step hrt hg, hpn, by omega, ?_, rfl, ?_⟩
  · rw [hstep]; rfl
  · rw [hstep]; rfl
end Go.Proofs.Ytfmbfgoofiojcaa
