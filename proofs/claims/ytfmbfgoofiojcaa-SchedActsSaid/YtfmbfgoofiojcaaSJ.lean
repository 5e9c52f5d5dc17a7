/- layer 6: the document's lanes: with, over, Waits, Next. -/
import Derived.Test.YtfmbfgoofiojcaaLB
namespace Go.Proofs.Ytfmbfgoofiojcaa
open Go.RowKit Lk
set_option linter.unusedVariables false
set_option linter.unusedSimpArgs false

set_option maxRecDepth 100000 in
set_option maxHeartbeats 4000000 in
theorem with05_spec (x : Ls) (a : Nat) (y : Ln) (hl : x.l.length ≤ 1000000) : Spec Try.prog 82 [.agg (encLs x), rI (a : Int), .agg (encLn y)] (.val (.agg (encLs ⟨x.l.set a y, x.at', x.g⟩))) := by
  refine spec_val mixed fn82 (by simp) ?_
  unfold ac82
  simp -implicitDefEqProofs only [↓aP, aQ, ↓reduceIte, reduceCtorEq, forall_const, implies_true, exists_const, ne_eq, seval, encLs, encLn]
  refine shift (sub_cell (p := 7) (i := 0) (j := 0) 28 36 3 rfl (by exact Nat.succ_pos _) (by rfl) (by decide) (by decide)) ?_
  refine rangeB x.l.length (fun i σ => ∃ g, σ.slot 1 = vI a ∧ σ.slot 3 = .c (.ptr 3 1 0 0) ∧ σ.h.gen 3 = 1 ∧ σ.h.blk 3 = .box 28 3 [(encLs x).map AC.s] ∧ σ.slot 5 = .c (.ptr 5 1 0 0) ∧ σ.h.gen 5 = 1 ∧ σ.h.blk 5 = .box 36 3 [(encLn y).map AC.s] ∧ σ.slot 6 = .c (.ptr 6 1 0 0) ∧ σ.h.gen 6 = 1 ∧ σ.h.blk 6 = .box 28 3 [[.zc, .s (.pv (.int .i64 0)), .s (.pv (.bool false))]] ∧ σ.slot 7 = .c (.ptr 7 1 0 0) ∧ σ.h.gen 7 = 1 ∧ σ.h.blk 7 = .box 28 3 [[.own 28 g, .s (.pv (.int .i64 x.at')), .s (.pv (.bool x.g))]] ∧ σ.h.gen 28 = g ∧ σ.h.blk 28 = .row 36 3 (((x.l.set a y).take i).map encLn) ∧ σ.slot 8 = vI i) ?_ ?_ ?_
  · simp -implicitDefEqProofs only [↓aP, aQ, ↓reduceIte, reduceCtorEq, forall_const, implies_true, exists_const, ne_eq, seval, encLs, encLn, List.take_zero, List.map_nil]
    exact ⟨1, rfl, rfl⟩
  · rintro i m σ him hi hlt ⟨g, s1, s3, g3, b3, s5, g5, b5, s6, g6, b6, s7, g7, b7, g28, b28, s8⟩
    have hi1 : i < (x.l.set a y).length := by simpa using hi
    have l1 : ((x.l.set a y).take i).length ≤ 1000000 := by rw [List.length_take]; omega
    by_cases e : i = a
    · have e1 : (x.l.set a y)[i] = y := by subst e; rw [List.getElem_set_self]
      simp -implicitDefEqProofs only [↓aP, aQ, ↓reduceIte, reduceCtorEq, forall_const, implies_true, exists_const, ne_eq, seval, hlt, s1, s3, g3, b3, s5, g5, b5, s6, g6, b6, s7, g7, b7, g28, b28, s8, encLs, encLn, List.length_map, show ((i : Int) == (a : Int)) = true by simp; omega, wrapS (show i < 4611686018427387904 by omega)]
      refine ⟨by omega, by omega, ?_⟩
      refine nextR hi him ⟨g + 1, ?_⟩
      simp -implicitDefEqProofs only [↓aP, aQ, ↓reduceIte, reduceCtorEq, forall_const, implies_true, exists_const, ne_eq, seval, s1, s3, g3, b3, s5, g5, b5, s6, g6, b6, s7, g7, b7, g28, b28, s8, encLs, encLn, take_snoc hi1, e1, List.map_append, List.map_cons, List.map_nil]
    · have e1 : (x.l.set a y)[i] = x.l[i] := by rw [List.getElem_set_ne (by omega)]
      simp -implicitDefEqProofs only [↓aP, aQ, ↓reduceIte, reduceCtorEq, forall_const, implies_true, exists_const, ne_eq, seval, hlt, s1, s3, g3, b3, s5, g5, b5, s6, g6, b6, s7, g7, b7, g28, b28, s8, encLs, encLn, askIdx_map, hi, List.length_map, show ((i : Int) == (a : Int)) = false by simp; omega, wrapS (show i < 4611686018427387904 by omega)]
      refine ⟨by omega, by omega, by decide +kernel, ?_⟩
      refine nextR hi him ⟨g + 1, ?_⟩
      simp -implicitDefEqProofs only [↓aP, aQ, ↓reduceIte, reduceCtorEq, forall_const, implies_true, exists_const, ne_eq, seval, s1, s3, g3, b3, s5, g5, b5, s6, g6, b6, s7, g7, b7, g28, b28, s8, encLs, encLn, take_snoc hi1, e1, List.map_append, List.map_cons, List.map_nil]
  · rintro m σ hlt ⟨g, s1, s3, g3, b3, s5, g5, b5, s6, g6, b6, s7, g7, b7, g28, b28, s8⟩
    rw [show x.l.length = (x.l.set a y).length by simp, List.take_length] at b28
    simp -implicitDefEqProofs only [↓aP, aQ, ↓reduceIte, reduceCtorEq, forall_const, implies_true, exists_const, ne_eq, seval, hlt, s1, s3, g3, b3, s5, g5, b5, s6, g6, b6, s7, g7, b7, g28, b28, s8, encLs, List.length_map]
theorem over05_spec (x : Ls) (a : Nat) (ha : x.at' = a) (hl : a < x.l.length) (h6 : x.l.length ≤ 1000000) : Spec Try.prog 81 [.agg (encLs x)] (.val (.agg (encLs ⟨x.l, ((a + 1) % x.l.length : Nat), false⟩))) := by
  refine spec_val mixed fn81 (by simp) ?_
  unfold ac81
  have wa : IntKind.i64.wrap ((a : Int) + 1) = ((a + 1 : Nat) : Int) := by rw [wrapI (by omega)]; omega
  by_cases e : a + 1 = x.l.length
  · simp -implicitDefEqProofs only [↓aP, aQ, ↓reduceIte, reduceCtorEq, forall_const, implies_true, exists_const, ne_eq, seval, encLs, ha, wa, List.length_map, show (((a + 1 : Nat) : Int) == (x.l.length : Int)) = true by rw [e]; exact beq_self_eq_true _, show (a + 1) % x.l.length = 0 by rw [e]; exact Nat.mod_self _]
  · simp -implicitDefEqProofs only [↓aP, aQ, ↓reduceIte, reduceCtorEq, forall_const, implies_true, exists_const, ne_eq, seval, encLs, ha, wa, List.length_map, show (((a + 1 : Nat) : Int) == (x.l.length : Int)) = false by rw [beq_eq_false_iff_ne]; omega, show (a + 1) % x.l.length = a + 1 from Nat.mod_eq_of_lt (by omega)]

theorem waits05_spec (x : Ls) (hl : x.l.length < 1000000) : Spec Try.prog 58 [.agg (encLs x)] (.val (rB (waits x))) := by
  refine spec_val mixed fn58 (by simp) ?_
  unfold ac58
  simp -implicitDefEqProofs only [↓aP, aQ, ↓reduceIte, reduceCtorEq, forall_const, implies_true, exists_const, ne_eq, seval, encLs]
  refine rangeB x.l.length (fun i σ => (∀ y ∈ x.l.take i, y.cs.length = 0) ∧ σ.slot 1 = .c (.ptr 1 1 0 0) ∧ σ.h.gen 1 = 1 ∧ σ.h.blk 1 = .box 28 3 [(encLs x).map AC.s] ∧ σ.slot 3 = vI i) ?_ ?_ ?_
  · simp -implicitDefEqProofs only [↓aP, aQ, ↓reduceIte, reduceCtorEq, forall_const, implies_true, exists_const, ne_eq, seval, encLs]
    simp
  · rintro i m σ him hi hlt ⟨hg, s1, g1, b1, s3⟩
    by_cases h : x.l[i].cs.length = 0
    · simp -implicitDefEqProofs only [↓aP, aQ, ↓reduceIte, reduceCtorEq, forall_const, implies_true, exists_const, ne_eq, seval, hlt, s1, g1, b1, s3, encLs, encLn, askIdx_map, hi, List.length_map, h, show decide ((0 : Int) < ((0 : Nat) : Int)) = false by decide, wrapS (show i < 4611686018427387904 by omega)]
      refine nextR hi him ⟨?_, ?_⟩
      · rw [take_snoc hi]
        intro y hy
        rcases List.mem_append.1 hy with h1 | h1
        · exact hg y h1
        · rw [List.mem_singleton.1 h1]; exact h
      · simp -implicitDefEqProofs only [↓aP, aQ, ↓reduceIte, reduceCtorEq, forall_const, implies_true, exists_const, ne_eq, seval, s1, g1, b1, s3, encLs]
    · have e : waits x = true := by unfold waits; rw [List.any_eq_true]; exact ⟨_, List.getElem_mem hi, decide_eq_true (by omega)⟩
      simp -implicitDefEqProofs only [↓aP, aQ, ↓reduceIte, reduceCtorEq, forall_const, implies_true, exists_const, ne_eq, seval, hlt, s1, g1, b1, s3, encLs, encLn, askIdx_map, hi, List.length_map, show decide ((0 : Int) < (x.l[i].cs.length : Int)) = true by simp; omega, e]
  · rintro m σ hlt ⟨hg, s1, g1, b1, s3⟩
    rw [List.take_length] at hg
    have e : waits x = false := by unfold waits; rw [List.any_eq_false]; exact fun y hy => by rw [decide_eq_true_iff]; have := hg y hy; omega
    simp -implicitDefEqProofs only [↓aP, aQ, ↓reduceIte, reduceCtorEq, forall_const, implies_true, exists_const, ne_eq, seval, hlt, s1, g1, b1, s3, encLs, List.length_map, e]

set_option maxRecDepth 100000 in
set_option maxHeartbeats 4000000 in
theorem next05_spec (x : Ls) (hr : right x = true) (hw : waits x = true) : Spec Try.prog 59 [.agg (encLs x)] (.val (.tup [(true, encLs (nextI x).1), (false, [.pv (.int .i64 (nextI x).2.1)]), (false, [.pv (.int .i64 (nextI x).2.2.1)])])) := by
  refine spec_val mixed fn59 (by simp) ?_
  unfold ac59
  have hn : nextI x = (⟨(run 14 x).l.set (run 14 x).at'.toNat (takeL (getL (run 14 x))), (run 14 x).at', (run 14 x).g⟩, (run 14 x).at', (getL (run 14 x)).cs.headD 0, true) := if_pos ⟨hr, hw⟩
  rw [hn]
  have hst := stops14 hr hw
  generalize hrun : run 14 x = R
  simp -implicitDefEqProofs only [↓aP, aQ, ↓reduceIte, reduceCtorEq, forall_const, implies_true, exists_const, ne_eq, seval, encLs]
  refine loopA (fun m σ => ∃ (y : Ls) (n : Nat), right y = true ∧ Stops m y ∧ run m y = R ∧ n + m = 14 ∧ σ.slot 1 = .c (.ptr 1 1 0 0) ∧ σ.h.gen 1 = 1 ∧ σ.h.blk 1 = .box 28 3 [(encLs y).map AC.s] ∧ σ.slot 2 = .c (.ptr 2 1 0 0) ∧ σ.h.gen 2 = 1 ∧ σ.h.blk 2 = .box 28 3 [[.zc, .s (.pv (.int .i64 0)), .s (.pv (.bool false))]] ∧ σ.slot 3 = vI 0 ∧ σ.slot 4 = vI 0 ∧ σ.slot 5 = vI n) 14 ⟨x, 0, hr, hst, hrun, by omega, ?_⟩ ?_
  · simp -implicitDefEqProofs only [↓aP, aQ, ↓reduceIte, reduceCtorEq, forall_const, implies_true, exists_const, ne_eq, seval, encLs]
  rintro m σ ⟨y, n, hry, hs, hru, hnm, s1, g1, b1, s2, g2, b2, s3, s4, s5⟩
  obtain ⟨m, rfl⟩ : ∃ k, m = k + 1 := by
    cases m with
    | zero => exact hs.elim
    | succ k => exact ⟨k, rfl⟩
  obtain ⟨⟨hl6, h0, hal⟩, _⟩ := right_iff.1 hry
  obtain ⟨a, ha⟩ : ∃ a : Nat, y.at' = a := ⟨y.at'.toNat, by omega⟩
  have hl : a < y.l.length := by omega
  have hgl := getL_eq ha hl
  have hrt := turn_right hry
  have hown := right_own hry ha hl
  obtain ⟨q1, ⟨q2, q3⟩, q4, q5⟩ := okL_iff.1 hown
  have qw := okW_iff.1 q1
  have q39 : y.l[a].d ≤ 39 := by
    cases hg : y.g <;> rw [hg] at q3 <;> simp at q3 <;> omega
  have wn : IntKind.i64.wrap ((n : Int) + 1) = ((n + 1 : Nat) : Int) := by rw [wrapI (by omega)]; omega
  have d40 : decide ((n : Int) < 40) = true := by simp; omega
  generalize hz : y.l[a] = z at hgl hown q1 q2 q3 q4 q5 qw q39
  have hnx : (turn y).1 = false → right (turn y).2 = true ∧ Stops m (turn y).2 ∧ run m (turn y).2 = R := fun e => ⟨hrt, by
    rcases hs with h | h
    · rw [e] at h; exact Bool.noConfusion h
    · exact h, by rw [← hru]; show _ = if (turn y).1 = true then _ else _; rw [e, if_neg (by decide)]⟩
  have stp := fun (Y : Ls) (e : turn y = (false, Y)) => hnx (by rw [e])
  obtain ⟨w, dd, cs⟩ := z
  cases cs with
  | nil =>
    have et : turn y = (false, ⟨y.l.set a ⟨w, 0, []⟩, ((a + 1) % y.l.length : Nat), false⟩) := by
      unfold turn over zero
      rw [hgl, if_pos rfl, ha, Int.toNat_natCast]
    obtain ⟨u1, u2, u3⟩ := hnx (by rw [et])
    rw [et] at u1 u2 u3
    have c1 := with05_spec y a ⟨w, 0, []⟩ (by omega)
    have c2 := over05_spec ⟨y.l.set a ⟨w, 0, []⟩, y.at', y.g⟩ a ha (by simpa using hl) (by simp; omega)
    rw [List.length_set] at c2
    simp only [encLs, encLn, ha, List.map_nil] at c1 c2
    simp -implicitDefEqProofs only [↓aP, aQ, ↓reduceIte, reduceCtorEq, forall_const, implies_true, exists_const, ne_eq, seval, s1, g1, b1, s2, g2, b2, s3, s4, s5, d40, encLs, encLn, ha, askIdx_map, hl, hz, List.map_nil, List.length_nil, beq_self_eq_true]
    refine ask c1 ?_
    simp -implicitDefEqProofs only [↓aP, aQ, ↓reduceIte, reduceCtorEq, forall_const, implies_true, exists_const, ne_eq, seval, encLs, s1, g1, b1, s2, g2, b2, s3, s4, s5]
    refine ask c2 ?_
    simp -implicitDefEqProofs only [↓aP, aQ, ↓reduceIte, reduceCtorEq, forall_const, implies_true, exists_const, ne_eq, seval, s1, g1, b1, s2, g2, b2, s3, s4, s5, wn]
    refine ⟨m, by omega, _, n + 1, u1, u2, u3, by omega, ?_⟩
    simp -implicitDefEqProofs only [↓aP, aQ, ↓reduceIte, reduceCtorEq, forall_const, implies_true, exists_const, ne_eq, seval, s1, g1, b1, s2, g2, b2, s3, s4, s5, encLs]
  | cons c cs =>
    have hc := (List.all_eq_true.1 q5) c (by simp)
    unfold okC at hc
    rw [decide_eq_true_iff] at hc
    have hcl : cs.length + 1 ≤ 200 := by simpa using q4
    have hlen0 : (((cs.length + 1 : Nat) : Int) == 0) = false := by rw [beq_eq_false_iff_ne]; omega
    have qw1 : 1 ≤ w ∧ w ≤ 8 := qw
    have qd1 : 0 ≤ dd := q2
    have qd2 : dd ≤ 39 := q39
    have w4 : IntKind.i64.wrap (4 * w) = 4 * w := wrapI (by omega)
    have w5 : IntKind.i64.wrap (dd + 4 * w) = dd + w * 4 := by rw [wrapI (by omega)]; omega
    have c1 := with05_spec y a ⟨w, dd + w * 4, c :: cs⟩ (by omega)
    cases hg : y.g
    · have hsh : shared y = ⟨w, (dd + w * 4), c :: cs⟩ := by unfold shared; rw [hg, hgl]; rfl
      by_cases hcd : c ≤ (dd + w * 4)
      · have et : turn y = (true, ⟨y.l.set a ⟨w, (dd + w * 4), c :: cs⟩, (a : Int), true⟩) := by
          unfold turn
          rw [hgl, if_neg (by simp), hsh]
          show (if c ≤ (dd + w * 4) then _ else _) = _
          rw [if_pos hcd, ha, Int.toNat_natCast]
        have hR : R = ⟨y.l.set a ⟨w, (dd + w * 4), c :: cs⟩, (a : Int), true⟩ := by
          rw [← hru]
          show (if (turn y).1 = true then (turn y).2 else _) = _
          rw [et, if_pos rfl]
        have hgR : getL R = ⟨w, (dd + w * 4), c :: cs⟩ := by
          rw [hR, getL_eq (a := a) rfl (by simpa using hl)]
          exact List.getElem_set_self _
        rw [hgR, hR]
        have c3 := with05_spec ⟨(y.l.set a ⟨w, dd + w * 4, c :: cs⟩), (a : Int), true⟩ a (takeL ⟨w, (dd + w * 4), c :: cs⟩) (by simp; omega)
        have htk : List.take cs.length (List.map encI cs) = cs.map encI := List.take_of_length_le (by simp)
        simp only [encLs, encLn, encI, ha, hg, List.map_cons, List.set_set, takeL, List.length_cons, List.tail_cons, List.headD_cons] at c1 c3
        simp -implicitDefEqProofs only [↓aP, aQ, ↓reduceIte, reduceCtorEq, forall_const, implies_true, exists_const, ne_eq, seval, s1, g1, b1, s2, g2, b2, s3, s4, s5, d40, encLs, encLn, encI, ha, hg, askIdx_map, hl, hz, List.map_cons, List.length_cons, List.length_map, hlen0, w4, w5]
        refine ask c1 ?_
        simp -implicitDefEqProofs only [↓aP, aQ, ↓reduceIte, reduceCtorEq, forall_const, implies_true, exists_const, ne_eq, seval, s1, g1, b1, s2, g2, b2, s3, s4, s5, encLs, encLn, encI, askIdx_map, List.map_cons, List.length_cons, List.length_map, show decide ((dd + w * 4) < c) = false from decide_eq_false (by omega)]
        rw [htk]
        refine ⟨by omega, ?_⟩
        have wd : IntKind.i64.wrap ((dd + w * 4) - c) = (dd + w * 4) - c := wrapI (by omega)
        by_cases hcs : cs.length = 0
        · have htd : (if cs.length + 1 = 1 then (0 : Int) else (dd + w * 4) - c) = 0 := if_pos (by omega)
          rw [htd] at c3
          simp -implicitDefEqProofs only [↓aP, aQ, ↓reduceIte, reduceCtorEq, forall_const, implies_true, exists_const, ne_eq, seval, s1, g1, b1, s2, g2, b2, s3, s4, s5, wd, List.length_map, hcs, show (((0 : Nat) : Int) == 0) = true by decide, encLs, ha, hg]
          refine ask c3 ?_
          simp -implicitDefEqProofs only [↓aP, aQ, ↓reduceIte, reduceCtorEq, forall_const, implies_true, exists_const, ne_eq, seval, s1, g1, b1, s2, g2, b2, s3, s4, s5, encLs, takeL, List.length_cons, htd, List.tail_cons, List.headD_cons, List.set_set]
          refine ⟨by decide +kernel, ?_⟩
          rw [if_pos hcs]
          exact Sim.refl _
        · have htd : (if cs.length + 1 = 1 then (0 : Int) else (dd + w * 4) - c) = (dd + w * 4) - c := if_neg (by omega)
          rw [htd] at c3
          simp -implicitDefEqProofs only [↓aP, aQ, ↓reduceIte, reduceCtorEq, forall_const, implies_true, exists_const, ne_eq, seval, s1, g1, b1, s2, g2, b2, s3, s4, s5, wd, List.length_map, show ((cs.length : Int) == 0) = false by rw [beq_eq_false_iff_ne]; omega, encLs, ha, hg]
          refine ask c3 ?_
          simp -implicitDefEqProofs only [↓aP, aQ, ↓reduceIte, reduceCtorEq, forall_const, implies_true, exists_const, ne_eq, seval, s1, g1, b1, s2, g2, b2, s3, s4, s5, encLs, takeL, List.length_cons, htd, List.tail_cons, List.headD_cons, List.set_set]
          refine ⟨by decide +kernel, ?_⟩
          rw [if_neg hcs]
          exact Sim.refl _
      · have et : turn y = (false, ⟨y.l.set a ⟨w, (dd + w * 4), c :: cs⟩, ((a + 1) % y.l.length : Nat), false⟩) := by
          unfold turn over
          rw [hgl, if_neg (by simp), hsh]
          show (if c ≤ (dd + w * 4) then _ else _) = _
          rw [if_neg hcd, ha, Int.toNat_natCast]
        obtain ⟨u1, u2, u3⟩ := hnx (by rw [et])
        rw [et] at u1 u2 u3
        have c2 := over05_spec ⟨(y.l.set a ⟨w, dd + w * 4, c :: cs⟩), y.at', true⟩ a ha (by simpa using hl) (by simp; omega)
        simp only [List.length_set] at c2
        simp only [encLs, encLn, encI, ha, hg, List.map_cons] at c1 c2
        simp -implicitDefEqProofs only [↓aP, aQ, ↓reduceIte, reduceCtorEq, forall_const, implies_true, exists_const, ne_eq, seval, s1, g1, b1, s2, g2, b2, s3, s4, s5, d40, encLs, encLn, encI, ha, hg, askIdx_map, hl, hz, List.map_cons, List.length_cons, List.length_map, hlen0, w4, w5]
        refine ask c1 ?_
        simp -implicitDefEqProofs only [↓aP, aQ, ↓reduceIte, reduceCtorEq, forall_const, implies_true, exists_const, ne_eq, seval, s1, g1, b1, s2, g2, b2, s3, s4, s5, encLs, encLn, encI, askIdx_map, List.map_cons, List.length_cons, List.length_map, show decide ((dd + w * 4) < c) = true from decide_eq_true (by omega)]
        refine ask c2 ?_
        simp -implicitDefEqProofs only [↓aP, aQ, ↓reduceIte, reduceCtorEq, forall_const, implies_true, exists_const, ne_eq, seval, s1, g1, b1, s2, g2, b2, s3, s4, s5, wn]
        refine ⟨m, by omega, _, n + 1, u1, u2, u3, by omega, ?_⟩
        simp -implicitDefEqProofs only [↓aP, aQ, ↓reduceIte, reduceCtorEq, forall_const, implies_true, exists_const, ne_eq, seval, s1, g1, b1, s2, g2, b2, s3, s4, s5, encLs, encLn, encI, List.map_cons]
    · have hsh : shared y = ⟨w, dd, c :: cs⟩ := by unfold shared; rw [hg, hgl]; rfl
      have hsame : y.l.set a ⟨w, dd, c :: cs⟩ = y.l := by rw [← hz, List.set_getElem_self]
      by_cases hcd : c ≤ dd
      · have et : turn y = (true, ⟨y.l.set a ⟨w, dd, c :: cs⟩, (a : Int), true⟩) := by
          unfold turn
          rw [hgl, if_neg (by simp), hsh]
          show (if c ≤ dd then _ else _) = _
          rw [if_pos hcd, ha, Int.toNat_natCast]
        have hR : R = ⟨y.l.set a ⟨w, dd, c :: cs⟩, (a : Int), true⟩ := by
          rw [← hru]
          show (if (turn y).1 = true then (turn y).2 else _) = _
          rw [et, if_pos rfl]
        have hgR : getL R = ⟨w, dd, c :: cs⟩ := by
          rw [hR, getL_eq (a := a) rfl (by simpa using hl)]
          exact List.getElem_set_self _
        rw [hgR, hR]
        have c3 := with05_spec ⟨y.l, (a : Int), true⟩ a (takeL ⟨w, dd, c :: cs⟩) (by simp; omega)
        have htk : List.take cs.length (List.map encI cs) = cs.map encI := List.take_of_length_le (by simp)
        simp only [encLs, encLn, encI, ha, hg, List.map_cons, List.set_set, takeL, List.length_cons, List.tail_cons, List.headD_cons] at c1 c3
        simp -implicitDefEqProofs only [↓aP, aQ, ↓reduceIte, reduceCtorEq, forall_const, implies_true, exists_const, ne_eq, seval, s1, g1, b1, s2, g2, b2, s3, s4, s5, d40, encLs, encLn, encI, ha, hg, askIdx_map, hl, hz, List.map_cons, List.length_cons, List.length_map, hlen0, w4, w5]
        simp -implicitDefEqProofs only [↓aP, aQ, ↓reduceIte, reduceCtorEq, forall_const, implies_true, exists_const, ne_eq, seval, show decide (dd < c) = false from decide_eq_false (by omega), s1, g1, b1, s2, g2, b2, s3, s4, s5, List.length_cons, List.length_map]
        rw [htk]
        refine ⟨by omega, ?_⟩
        have wd : IntKind.i64.wrap (dd - c) = dd - c := wrapI (by omega)
        by_cases hcs : cs.length = 0
        · have htd : (if cs.length + 1 = 1 then (0 : Int) else dd - c) = 0 := if_pos (by omega)
          rw [htd] at c3
          simp -implicitDefEqProofs only [↓aP, aQ, ↓reduceIte, reduceCtorEq, forall_const, implies_true, exists_const, ne_eq, seval, s1, g1, b1, s2, g2, b2, s3, s4, s5, wd, List.length_map, hcs, show (((0 : Nat) : Int) == 0) = true by decide, encLs, ha, hg]
          refine ask c3 ?_
          simp -implicitDefEqProofs only [↓aP, aQ, ↓reduceIte, reduceCtorEq, forall_const, implies_true, exists_const, ne_eq, seval, s1, g1, b1, s2, g2, b2, s3, s4, s5, encLs, takeL, List.length_cons, htd, List.tail_cons, List.headD_cons, List.set_set]
          refine ⟨by decide +kernel, ?_⟩
          rw [if_pos hcs]
          exact ⟨Sim.refl _, ha⟩
        · have htd : (if cs.length + 1 = 1 then (0 : Int) else dd - c) = dd - c := if_neg (by omega)
          rw [htd] at c3
          simp -implicitDefEqProofs only [↓aP, aQ, ↓reduceIte, reduceCtorEq, forall_const, implies_true, exists_const, ne_eq, seval, s1, g1, b1, s2, g2, b2, s3, s4, s5, wd, List.length_map, show ((cs.length : Int) == 0) = false by rw [beq_eq_false_iff_ne]; omega, encLs, ha, hg]
          refine ask c3 ?_
          simp -implicitDefEqProofs only [↓aP, aQ, ↓reduceIte, reduceCtorEq, forall_const, implies_true, exists_const, ne_eq, seval, s1, g1, b1, s2, g2, b2, s3, s4, s5, encLs, takeL, List.length_cons, htd, List.tail_cons, List.headD_cons, List.set_set]
          refine ⟨by decide +kernel, ?_⟩
          rw [if_neg hcs]
          exact ⟨Sim.refl _, ha⟩
      · have et : turn y = (false, ⟨y.l.set a ⟨w, dd, c :: cs⟩, ((a + 1) % y.l.length : Nat), false⟩) := by
          unfold turn over
          rw [hgl, if_neg (by simp), hsh]
          show (if c ≤ dd then _ else _) = _
          rw [if_neg hcd, ha, Int.toNat_natCast]
        obtain ⟨u1, u2, u3⟩ := hnx (by rw [et])
        rw [et] at u1 u2 u3
        have c2 := over05_spec ⟨y.l, y.at', true⟩ a ha (by simpa using hl) (by simp; omega)
        simp only [List.length_set] at c2
        simp only [encLs, encLn, encI, ha, hg, List.map_cons] at c1 c2
        simp -implicitDefEqProofs only [↓aP, aQ, ↓reduceIte, reduceCtorEq, forall_const, implies_true, exists_const, ne_eq, seval, s1, g1, b1, s2, g2, b2, s3, s4, s5, d40, encLs, encLn, encI, ha, hg, askIdx_map, hl, hz, List.map_cons, List.length_cons, List.length_map, hlen0, w4, w5]
        simp -implicitDefEqProofs only [↓aP, aQ, ↓reduceIte, reduceCtorEq, forall_const, implies_true, exists_const, ne_eq, seval, show decide (dd < c) = true from decide_eq_true (by omega), s1, g1, b1, s2, g2, b2, s3, s4, s5, encLs, encLn, encI, ha, hg]
        refine ask c2 ?_
        simp -implicitDefEqProofs only [↓aP, aQ, ↓reduceIte, reduceCtorEq, forall_const, implies_true, exists_const, ne_eq, seval, s1, g1, b1, s2, g2, b2, s3, s4, s5, wn]
        refine ⟨m, by omega, _, n + 1, u1, u2, u3, by omega, ?_⟩
        simp -implicitDefEqProofs only [↓aP, aQ, ↓reduceIte, reduceCtorEq, forall_const, implies_true, exists_const, ne_eq, seval, s1, g1, b1, s2, g2, b2, s3, s4, s5, encLs, encLn, encI, List.map_cons]
        rw [hsame]
end Go.Proofs.Ytfmbfgoofiojcaa
