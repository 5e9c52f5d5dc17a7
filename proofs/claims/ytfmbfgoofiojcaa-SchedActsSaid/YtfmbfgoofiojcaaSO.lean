/- layer 6: the document's Crash, Same. -/
import Derived.Test.YtfmbfgoofiojcaaSK
import Derived.Test.YtfmbfgoofiojcaaQE
import Derived.Test.YtfmbfgoofiojcaaVA
namespace Go.Proofs.Ytfmbfgoofiojcaa
open Go.RowKit Lk
set_option linter.unusedVariables false
set_option linter.unusedSimpArgs false

set_option maxRecDepth 100000 in
set_option maxHeartbeats 4000000 in
theorem rCrash6_spec (s : Sd) (keep : List Int) (h : Sc.Rs s) (hk : keep.length < 4611686018427387904) : Spec Try.prog 34 [.agg (encSd s), rL 1 (keep.map encI)] (.val (.agg (encSd (Sc.crashS s keep)))) := by
  refine spec_val mixed fn34 (by simp) ?_
  unfold ac34
  have hlen := h.len
  have hn := h.n
  obtain ⟨h1, _⟩ := rightV_len h.d
  rw [(Sc.rs_crash h keep).2]
  have cC := refCrash_spec s.dv.disk keep h1 hk
  obtain ⟨D, hD⟩ : ∃ D, D = crashD s.dv.disk keep := ⟨_, rfl⟩
  obtain ⟨W, hW⟩ : ∃ W, W = s.l.l.map Ln.w := ⟨_, rfl⟩
  have hWl : W.length = s.l.l.length := by rw [hW, List.length_map]
  rw [← hD, ← hW]
  rw [← hD] at cC
  simp only [encDk] at cC
  simp -implicitDefEqProofs only [↓aP, aQ, ↓reduceIte, reduceCtorEq, forall_const, implies_true, exists_const, ne_eq, seval, encSd]
  refine ask cC ?_
  simp -implicitDefEqProofs only [↓aP, aQ, ↓reduceIte, reduceCtorEq, forall_const, implies_true, exists_const, ne_eq, seval, encSd]
  refine ⟨by decide +kernel, ?_⟩
  refine shift (sub_cell (p := 5) (i := 0) (j := 0) 36 36 3 rfl (by exact Nat.succ_pos _) (by rfl) (by decide) (by decide)) ?_
  refine shift (sub_cell (p := 5) (i := 0) (j := 3) 42 76 1 rfl (by exact Nat.succ_pos _) (by rfl) (by decide) (by decide)) ?_
  refine rangeB s.js.length (fun i σ => ∃ g u, σ.slot 2 = .c (.ptr 2 1 0 0) ∧ σ.h.gen 2 = 1 ∧ σ.h.blk 2 = .box 78 9 [(encSd s).map AC.s] ∧ σ.slot 4 = .c (.ptr 4 1 0 0) ∧ σ.h.gen 4 = 1 ∧ σ.h.blk 4 = .box 78 9 [[.zc, .s (.pv (.int .i64 0)), .s (.pv (.bool false)), .zc, .zc, .zc, .s (.pv (.int .i64 0)), .zc, .zc]] ∧ σ.slot 5 = .c (.ptr 5 1 0 0) ∧ σ.h.gen 5 = 1 ∧ σ.h.blk 5 = .box 78 9 [[.own 36 g, .s (.pv (.int .i64 0)), .s (.pv (.bool false)), .own 42 u, .s (.sl 1 (D.sectors.map encS)), .s (.sl 2 (D.cache.map encWr)), .s (.pv (.int .i64 s.dv.next)), .zc, .zc]] ∧ σ.h.gen 36 = g ∧ σ.h.blk 36 = .row 36 3 (((W.map fresh).take i).map encLn) ∧ σ.h.gen 42 = u ∧ σ.h.blk 42 = .row 76 1 (List.replicate i [SC.sl 1 []]) ∧ σ.slot 6 = vI i) ?_ ?_ ?_
  · simp -implicitDefEqProofs only [↓aP, aQ, ↓reduceIte, reduceCtorEq, forall_const, implies_true, exists_const, ne_eq, seval, encSd, List.take_zero, List.map_nil, List.replicate_zero]
    exact ⟨1, 1, rfl, rfl, rfl⟩
  · rintro i m σ him hi hlt ⟨g, u, s2, g2, b2, s4, g4, b4, s5, g5, b5, g36, b36, g42, b42, s6⟩
    have hi2 : i < s.l.l.length := by omega
    have hiw : i < (W.map fresh).length := by rw [List.length_map]; omega
    have ew : (W.map fresh)[i] = fresh s.l.l[i].w := by simp only [hW, List.getElem_map]
    have l1 : ((W.map fresh).take i).length ≤ 1000 := by rw [List.length_take]; omega
    simp -implicitDefEqProofs only [↓aP, aQ, ↓reduceIte, reduceCtorEq, forall_const, implies_true, exists_const, ne_eq, seval, hlt, s2, g2, b2, s4, g4, b4, s5, g5, b5, g36, b36, g42, b42, s6, encSd, askIdx_map, hi2, encLn, List.length_map, List.length_replicate, wrapS (show i < 4611686018427387904 by omega)]
    refine ⟨by omega, by omega, by decide +kernel, by omega, by omega, ?_⟩
    refine nextR hi him ⟨g + 1, u + 1, ?_⟩
    have er : List.replicate i [SC.sl 1 []] ++ [[SC.sl 1 []]] = List.replicate (i + 1) [SC.sl 1 []] := List.replicate_succ'.symm
    simp -implicitDefEqProofs only [↓aP, aQ, ↓reduceIte, reduceCtorEq, forall_const, implies_true, exists_const, ne_eq, seval, s2, g2, b2, s4, g4, b4, s5, g5, b5, g36, b36, g42, b42, s6, encSd, take_snoc hiw, ew, fresh, encLn, List.map_append, List.map_cons, List.map_nil]
    exact congrArg (LB.row _ 1) er
  · rintro m σ hlt ⟨g, u, s2, g2, b2, s4, g4, b4, s5, g5, b5, g36, b36, g42, b42, s6⟩
    rw [show s.js.length = (W.map fresh).length by rw [List.length_map]; omega, List.take_length] at b36
    simp -implicitDefEqProofs only [↓aP, aQ, ↓reduceIte, reduceCtorEq, forall_const, implies_true, exists_const, ne_eq, seval, hlt, s2, g2, b2, s4, g4, b4, s5, g5, b5, g36, b36, g42, b42, s6, encSd, List.length_map, List.map_nil]
    rw [hn]
    exact sim_rep _
theorem fields_rjb : Try.prog.underlying 86 = some (.struct (Try.prog.fieldsOf 86)) := by kernel_rfl
theorem held_rjb : Try.prog.stoodInHeld 86 = false := by kernel_rfl
theorem fieldsL_rjb : ((Try.prog.fieldsOf 86).toList.map fun f => (f.type, f.offset)) = [(3, 0), (3, 1), (3, 2), (9, 3), (3, 4)] := by kernel_rfl
set_option maxRecDepth 100000 in
theorem eq_rjb (x : Jb) : EqRun Try.prog 86 [.int .i64 x.who, .int .i64 x.kind, .int .i64 x.page, .string x.data, .int .i64 x.tries] [.int .i64 x.who, .int .i64 x.kind, .int .i64 x.page, .string x.data, .int .i64 x.tries] true := by
  intro w
  rw [run_eql_struct, run_equalIn_agg w 9999 _ _ _ fields_rjb held_rjb]
  go_simp

theorem rJobs6_spec (l : List Jb) (hl : l.length < 1000000) : Spec Try.prog 69 [rL 5 (l.map encJb), rL 5 (l.map encJb)] (.val (rB true)) := by
  refine spec_val mixed fn69 (by simp) ?_
  unfold ac69
  simp -implicitDefEqProofs only [↓aP, aQ, ↓reduceIte, reduceCtorEq, forall_const, implies_true, exists_const, ne_eq, seval, bne_self_eq_false]
  refine rangeB l.length (fun i σ => σ.slot 0 = vL 5 (l.map encJb) ∧ σ.slot 1 = vL 5 (l.map encJb) ∧ σ.slot 5 = vI i) ?_ ?_ ?_
  · simp -implicitDefEqProofs only [↓aP, aQ, ↓reduceIte, reduceCtorEq, forall_const, implies_true, exists_const, ne_eq, seval]
  · rintro i m σ him hi hlt ⟨s0, s1, s5⟩
    simp -implicitDefEqProofs only [↓aP, aQ, ↓reduceIte, reduceCtorEq, forall_const, implies_true, exists_const, ne_eq, seval, hlt, s0, s1, s5, askIdx_map, hi, encJb, List.length_map]
    refine askEq (eq_rjb l[i]) ?_
    simp -implicitDefEqProofs only [↓aP, aQ, ↓reduceIte, reduceCtorEq, forall_const, implies_true, exists_const, ne_eq, seval, s0, s1, s5, wrapS (show i < 4611686018427387904 by omega)]
    refine ⟨by decide +kernel, nextR hi him ?_⟩
    simp -implicitDefEqProofs only [↓aP, aQ, ↓reduceIte, reduceCtorEq, forall_const, implies_true, exists_const, ne_eq, seval, s0, s1, s5]
  · rintro m σ hlt ⟨s0, s1, s5⟩
    simp -implicitDefEqProofs only [↓aP, aQ, ↓reduceIte, reduceCtorEq, forall_const, implies_true, exists_const, ne_eq, seval, hlt, s0, s1, s5, List.length_map]

theorem rSame6_spec (s : Sd) (h : Sc.Rs s) : Spec Try.prog 36 [.agg (encSd s), .agg (encSd s)] (.val (rB true)) := by
  refine spec_val mixed fn36 (by simp) ?_
  unfold ac36
  have hlen := h.len
  obtain ⟨h1, _⟩ := rightV_len h.d
  have hrl := right_len h1
  have hsm : Small s.l := ⟨by omega, fun y hy => by have := hlen.2.2.2.2.2.1 y hy; omega⟩
  simp -implicitDefEqProofs only [↓aP, aQ, ↓reduceIte, reduceCtorEq, forall_const, implies_true, exists_const, ne_eq, seval, encSd]
  refine ask (by have := rSame_spec s.l s.l hsm hsm; rw [decide_eq_true rfl, encLs] at this; exact this) ?_
  simp -implicitDefEqProofs only [↓aP, aQ, ↓reduceIte, reduceCtorEq, forall_const, implies_true, exists_const, ne_eq, seval, encSd]
  refine ask (by have := sameV_spec s.dv (by omega) (by omega) (by omega); rw [encDv] at this; exact this) ?_
  simp -implicitDefEqProofs only [↓aP, aQ, ↓reduceIte, reduceCtorEq, forall_const, implies_true, exists_const, ne_eq, seval, encSd, bne_self_eq_false]
  refine rangeB s.js.length (fun i σ => σ.slot 2 = .c (.ptr 2 1 0 0) ∧ σ.h.gen 2 = 1 ∧ σ.h.blk 2 = .box 78 9 [(encSd s).map AC.s] ∧ σ.slot 3 = .c (.ptr 3 1 0 0) ∧ σ.h.gen 3 = 1 ∧ σ.h.blk 3 = .box 78 9 [(encSd s).map AC.s] ∧ σ.slot 5 = vI i) ?_ ?_ ?_
  · simp -implicitDefEqProofs only [↓aP, aQ, ↓reduceIte, reduceCtorEq, forall_const, implies_true, exists_const, ne_eq, seval, encSd]
  · rintro i m σ him hi hlt ⟨s2, g2, b2, s3, g3, b3, s5⟩
    have h200 := hlen.2.2.2.2.1 _ (List.getElem_mem hi)
    simp -implicitDefEqProofs only [↓aP, aQ, ↓reduceIte, reduceCtorEq, forall_const, implies_true, exists_const, ne_eq, seval, hlt, s2, g2, b2, s3, g3, b3, s5, encSd, askIdx_map, hi, encJs, List.length_map]
    refine ask (rJobs6_spec s.js[i] (by omega)) ?_
    simp -implicitDefEqProofs only [↓aP, aQ, ↓reduceIte, reduceCtorEq, forall_const, implies_true, exists_const, ne_eq, seval, s2, g2, b2, s3, g3, b3, s5, wrapS (show i < 4611686018427387904 by omega)]
    refine ⟨by decide +kernel, nextR hi him ?_⟩
    simp -implicitDefEqProofs only [↓aP, aQ, ↓reduceIte, reduceCtorEq, forall_const, implies_true, exists_const, ne_eq, seval, s2, g2, b2, s3, g3, b3, s5, encSd]
  · rintro m σ hlt ⟨s2, g2, b2, s3, g3, b3, s5⟩
    simp -implicitDefEqProofs only [↓aP, aQ, ↓reduceIte, reduceCtorEq, forall_const, implies_true, exists_const, ne_eq, seval, hlt, s2, g2, b2, s3, g3, b3, s5, encSd, List.length_map]
    refine ask (rJobs6_spec s.out (by omega)) ?_
    simp -implicitDefEqProofs only [↓aP, aQ, ↓reduceIte, reduceCtorEq, forall_const, implies_true, exists_const, ne_eq, seval]
end Go.Proofs.Ytfmbfgoofiojcaa
