/- layer 6: how schedulers are handed to the document's. -/
import Derived.Test.YtfmbfgoofiojcaaSO
namespace Go.Proofs.Ytfmbfgoofiojcaa
open Go.RowKit Lk
set_option linter.unusedVariables false
set_option linter.unusedSimpArgs false
theorem dk_small {d : Dk} (h : rightB d = true) : smallB d = true := by
  have h1 := right_len h
  have h2 := right_16 h
  have h3 := right_fits h
  simp only [smallB, Bool.and_eq_true, decide_eq_true_eq, List.all_eq_true]
  rw [List.all_eq_true] at h2
  refine ⟨⟨by omega, fun x hx => ?_⟩, fun x hx => ?_⟩
  · have := h2 x hx
    simp [len16] at this
    simp [le40]; omega
  · have := (fits_has (h3 x hx)).2
    simp [le40]; omega





set_option maxRecDepth 100000 in
set_option maxHeartbeats 4000000 in
theorem ref6_spec (s : Sd) (h : Sc.Rs s) : Spec Try.prog 35 [.agg (encSd s)] (.val (.tup [(true, encSd s), (false, [.pv (.bool true)])])) := by
  refine spec_val mixed fn35 (by simp) ?_
  unfold ac35
  have hlen := h.len
  obtain ⟨h1, _⟩ := rightV_len h.d
  have cS := small_spec s.dv.disk
  rw [dk_small h1, encDk] at cS
  simp -implicitDefEqProofs only [↓aP, aQ, ↓reduceIte, reduceCtorEq, forall_const, implies_true, exists_const, ne_eq, seval, encSd]
  refine ask cS ?_
  simp -implicitDefEqProofs only [↓aP, aQ, ↓reduceIte, reduceCtorEq, forall_const, implies_true, exists_const, ne_eq, seval, encSd, List.length_map, show decide ((20 : Int) < (s.dv.flight.length : Int)) = false by simp; omega, show decide ((20 : Int) < (s.l.l.length : Int)) = false by simp; omega, show decide ((20 : Int) < (s.js.length : Int)) = false by simp; omega, show decide ((20 : Int) < (s.out.length : Int)) = false by simp; omega]
  refine shift (sub_slot (s := 5) 76 133 4 (by simp -implicitDefEqProofs only [↓aP, aQ, ↓reduceIte, reduceCtorEq, forall_const, implies_true, exists_const, ne_eq, seval]) (by decide)) ?_
  refine rangeB s.dv.flight.length (fun i σ => ∃ g, σ.slot 1 = .c (.ptr 1 1 0 0) ∧ σ.h.gen 1 = 1 ∧ σ.h.blk 1 = .box 68 9 [(encSd s).map AC.s] ∧ σ.slot 2 = .c (.ptr 2 1 0 0) ∧ σ.h.gen 2 = 1 ∧ σ.h.blk 2 = .box 78 9 [[.zc, .s (.pv (.int .i64 0)), .s (.pv (.bool false)), .zc, .zc, .zc, .s (.pv (.int .i64 0)), .zc, .zc]] ∧ σ.slot 4 = .c (.ptr 4 1 0 0) ∧ σ.h.gen 4 = 1 ∧ σ.h.blk 4 = .box 78 9 [[.zc, .s (.pv (.int .i64 s.l.at')), .s (.pv (.bool s.l.g)), .zc, .s (.sl 1 (s.dv.disk.sectors.map encS)), .s (.sl 2 (s.dv.disk.cache.map encWr)), .s (.pv (.int .i64 s.dv.next)), .zc, .zc]] ∧ σ.slot 5 = .c (.own 76 g) ∧ σ.h.gen 76 = g ∧ σ.h.blk 76 = .row 133 4 ((s.dv.flight.take i).map encRq) ∧ σ.slot 67 = vL 4 (s.dv.flight.map encRq) ∧ σ.slot 68 = vI s.dv.flight.length ∧ σ.slot 69 = vI i) ?_ ?_ ?_
  · simp -implicitDefEqProofs only [↓aP, aQ, ↓reduceIte, reduceCtorEq, forall_const, implies_true, exists_const, ne_eq, seval, encSd, List.take_zero, List.map_nil]
    exact ⟨1, rfl, rfl⟩
  · rintro i m σ him hi hlt ⟨g, s1, g1, b1, s2, g2, b2, s4, g4, b4, s5, g76, b76, s67, s68, s69⟩
    have l1 : (s.dv.flight.take i).length ≤ 1000 := by rw [List.length_take]; omega
    simp -implicitDefEqProofs only [↓aP, aQ, ↓reduceIte, reduceCtorEq, forall_const, implies_true, exists_const, ne_eq, seval, hlt, s1, g1, b1, s2, g2, b2, s4, g4, b4, s5, g76, b76, s67, s68, s69, askIdx_map, hi, encRq, List.length_map, wrapS (show i < 4611686018427387904 by omega)]
    refine ⟨by omega, by omega, ?_⟩
    refine nextR hi him ⟨g + 1, ?_⟩
    simp -implicitDefEqProofs only [↓aP, aQ, ↓reduceIte, reduceCtorEq, forall_const, implies_true, exists_const, ne_eq, seval, s1, g1, b1, s2, g2, b2, s4, g4, b4, s5, g76, b76, s67, s68, s69, encSd, take_snoc hi, List.map_append, List.map_cons, List.map_nil, encRq]
  rintro m σ hlt ⟨g, s1, g1, b1, s2, g2, b2, s4, g4, b4, s5, g76, b76, s67, s68, s69⟩
  rw [List.take_length] at b76
  simp -implicitDefEqProofs only [↓aP, aQ, ↓reduceIte, reduceCtorEq, forall_const, implies_true, exists_const, ne_eq, seval, hlt, s1, g1, b1, s2, g2, b2, s4, g4, b4, s5, g76, b76, s67, s68, s69, encSd, List.length_map]
  refine shift (sub_slot (s := 8) 94 36 3 (by simp -implicitDefEqProofs only [↓aP, aQ, ↓reduceIte, reduceCtorEq, forall_const, implies_true, exists_const, ne_eq, seval]) (by decide)) ?_
  refine rangeB s.l.l.length (fun i σ => ∃ g u, σ.slot 1 = .c (.ptr 1 1 0 0) ∧ σ.h.gen 1 = 1 ∧ σ.h.blk 1 = .box 68 9 [(encSd s).map AC.s] ∧ σ.slot 2 = .c (.ptr 2 1 0 0) ∧ σ.h.gen 2 = 1 ∧ σ.h.blk 2 = .box 78 9 [[.zc, .s (.pv (.int .i64 0)), .s (.pv (.bool false)), .zc, .zc, .zc, .s (.pv (.int .i64 0)), .zc, .zc]] ∧ σ.slot 4 = .c (.ptr 4 1 0 0) ∧ σ.h.gen 4 = 1 ∧ σ.h.blk 4 = .box 78 9 [[.zc, .s (.pv (.int .i64 s.l.at')), .s (.pv (.bool s.l.g)), .zc, .s (.sl 1 (s.dv.disk.sectors.map encS)), .s (.sl 2 (s.dv.disk.cache.map encWr)), .s (.pv (.int .i64 s.dv.next)), .zc, .zc]] ∧ σ.slot 5 = .c (.own 76 g) ∧ σ.h.gen 76 = g ∧ σ.h.blk 76 = .row 133 4 ((s.dv.flight).map encRq) ∧ σ.slot 8 = .c (.own 94 u) ∧ σ.h.gen 94 = u ∧ σ.h.blk 94 = .row 36 3 ((s.l.l.take i).map encLn) ∧ σ.slot 80 = vL 3 (s.l.l.map encLn) ∧ σ.slot 81 = vI s.l.l.length ∧ σ.slot 82 = vI i) ?_ ?_ ?_
  · refine ⟨g, σ.h.gen 94 + 1, ?_⟩
    simp -implicitDefEqProofs only [↓aP, aQ, ↓reduceIte, reduceCtorEq, forall_const, implies_true, exists_const, ne_eq, seval, s1, g1, b1, s2, g2, b2, s4, g4, b4, s5, g76, b76, s67, s68, s69, encSd, List.take_zero, List.map_nil]
  · clear s1 g1 b1 s2 g2 b2 s4 g4 b4 s5 g76 b76 s67 s68 s69
    rintro i m σ him hi hlt ⟨g, u, s1, g1, b1, s2, g2, b2, s4, g4, b4, s5, g76, b76, s8, g94, b94, s80, s81, s82⟩
    have l1 : (s.l.l.take i).length ≤ 1000 := by rw [List.length_take]; omega
    have l2 := hlen.2.2.2.2.2.1 _ (List.getElem_mem hi)
    simp -implicitDefEqProofs only [↓aP, aQ, ↓reduceIte, reduceCtorEq, forall_const, implies_true, exists_const, ne_eq, seval, hlt, s1, g1, b1, s2, g2, b2, s4, g4, b4, s5, g76, b76, s8, g94, b94, s80, s81, s82, askIdx_map, hi, encLn, List.length_map, show decide ((220 : Int) < (s.l.l[i].cs.length : Int)) = false by simp; omega, wrapS (show i < 4611686018427387904 by omega)]
    refine ⟨by omega, by omega, ?_⟩
    refine nextR hi him ⟨g, u + 1, ?_⟩
    simp -implicitDefEqProofs only [↓aP, aQ, ↓reduceIte, reduceCtorEq, forall_const, implies_true, exists_const, ne_eq, seval, s1, g1, b1, s2, g2, b2, s4, g4, b4, s5, g76, b76, s8, g94, b94, s80, s81, s82, encSd, take_snoc hi, List.map_append, List.map_cons, List.map_nil, encLn]
  clear s1 g1 b1 s2 g2 b2 s4 g4 b4 s5 g76 b76 s67 s68 s69
  clear hlt
  clear σ m g
  rintro m σ hlt ⟨g, u, s1, g1, b1, s2, g2, b2, s4, g4, b4, s5, g76, b76, s8, g94, b94, s80, s81, s82⟩
  rw [List.take_length] at b94
  simp -implicitDefEqProofs only [↓aP, aQ, ↓reduceIte, reduceCtorEq, forall_const, implies_true, exists_const, ne_eq, seval, hlt, s1, g1, b1, s2, g2, b2, s4, g4, b4, s5, g76, b76, s8, g94, b94, s80, s81, s82, encSd, List.length_map]
  refine shift (sub_cell (p := 4) (tp := 78) (ep := 9) (els := [[.own 94 u, .s (.pv (.int .i64 s.l.at')), .s (.pv (.bool s.l.g)), .zc, .s (.sl 1 (s.dv.disk.sectors.map encS)), .s (.sl 2 (s.dv.disk.cache.map encWr)), .s (.pv (.int .i64 s.dv.next)), .own 76 g, .zc]]) (i := 0) (j := 3) 128 76 1 (by simp -implicitDefEqProofs only [↓aP, aQ, ↓reduceIte, reduceCtorEq, forall_const, implies_true, exists_const, ne_eq, seval, s1, g1, b1, s2, g2, b2, s4, g4, b4, s5, g76, b76, s8, g94, b94, s80, s81, s82]) (by exact Nat.succ_pos _) (by rfl) (by decide) (by decide)) ?_
  refine rangeB s.js.length (fun i σ => ∃ g u v, σ.slot 1 = .c (.ptr 1 1 0 0) ∧ σ.h.gen 1 = 1 ∧ σ.h.blk 1 = .box 68 9 [(encSd s).map AC.s] ∧ σ.slot 2 = .c (.ptr 2 1 0 0) ∧ σ.h.gen 2 = 1 ∧ σ.h.blk 2 = .box 78 9 [[.zc, .s (.pv (.int .i64 0)), .s (.pv (.bool false)), .zc, .zc, .zc, .s (.pv (.int .i64 0)), .zc, .zc]] ∧ σ.slot 4 = .c (.ptr 4 1 0 0) ∧ σ.h.gen 4 = 1 ∧ σ.h.blk 4 = .box 78 9 [[.own 94 u, .s (.pv (.int .i64 s.l.at')), .s (.pv (.bool s.l.g)), .own 128 v, .s (.sl 1 (s.dv.disk.sectors.map encS)), .s (.sl 2 (s.dv.disk.cache.map encWr)), .s (.pv (.int .i64 s.dv.next)), .own 76 g, .zc]] ∧ σ.h.gen 76 = g ∧ σ.h.blk 76 = .row 133 4 ((s.dv.flight).map encRq) ∧ σ.h.gen 94 = u ∧ σ.h.blk 94 = .row 36 3 ((s.l.l).map encLn) ∧ σ.h.gen 128 = v ∧ σ.h.blk 128 = .row 76 1 ((s.js.take i).map encJs) ∧ σ.slot 103 = vL 1 (s.js.map encJs) ∧ σ.slot 104 = vI s.js.length ∧ σ.slot 105 = vI i) ?_ ?_ ?_
  · refine ⟨g, u, σ.h.gen 128 + 1, ?_⟩
    simp -implicitDefEqProofs only [↓aP, aQ, ↓reduceIte, reduceCtorEq, forall_const, implies_true, exists_const, ne_eq, seval, s1, g1, b1, s2, g2, b2, s4, g4, b4, s5, g76, b76, s8, g94, b94, s80, s81, s82, encSd, List.take_zero, List.map_nil]
  · clear s1 g1 b1 s2 g2 b2 s4 g4 b4 s5 g76 b76 s8 g94 b94 s80 s81 s82
    clear hlt
    clear σ m g u
    rintro i m σ him hi hlt ⟨g, u, v, s1, g1, b1, s2, g2, b2, s4, g4, b4, g76, b76, g94, b94, g128, b128, s103, s104, s105⟩
    have l1 : (s.js.take i).length ≤ 1000 := by rw [List.length_take]; omega
    have l2 := hlen.2.2.2.2.1 _ (List.getElem_mem hi)
    simp -implicitDefEqProofs only [↓aP, aQ, ↓reduceIte, reduceCtorEq, forall_const, implies_true, exists_const, ne_eq, seval, hlt, s1, g1, b1, s2, g2, b2, s4, g4, b4, g76, b76, g94, b94, g128, b128, s103, s104, s105, askIdx_map, hi, encJs, List.length_map, show decide ((220 : Int) < (s.js[i].length : Int)) = false by simp; omega]
    refine shift (sub_slot (s := 13) 122 86 5 (by simp -implicitDefEqProofs only [↓aP, aQ, ↓reduceIte, reduceCtorEq, forall_const, implies_true, exists_const, ne_eq, seval]) (by decide)) ?_
    refine rangeB s.js[i].length (fun k σ => ∃ w, σ.slot 1 = .c (.ptr 1 1 0 0) ∧ σ.h.gen 1 = 1 ∧ σ.h.blk 1 = .box 68 9 [(encSd s).map AC.s] ∧ σ.slot 2 = .c (.ptr 2 1 0 0) ∧ σ.h.gen 2 = 1 ∧ σ.h.blk 2 = .box 78 9 [[.zc, .s (.pv (.int .i64 0)), .s (.pv (.bool false)), .zc, .zc, .zc, .s (.pv (.int .i64 0)), .zc, .zc]] ∧ σ.slot 4 = .c (.ptr 4 1 0 0) ∧ σ.h.gen 4 = 1 ∧ σ.h.blk 4 = .box 78 9 [[.own 94 u, .s (.pv (.int .i64 s.l.at')), .s (.pv (.bool s.l.g)), .own 128 v, .s (.sl 1 (s.dv.disk.sectors.map encS)), .s (.sl 2 (s.dv.disk.cache.map encWr)), .s (.pv (.int .i64 s.dv.next)), .own 76 g, .zc]] ∧ σ.h.gen 76 = g ∧ σ.h.blk 76 = .row 133 4 ((s.dv.flight).map encRq) ∧ σ.h.gen 94 = u ∧ σ.h.blk 94 = .row 36 3 ((s.l.l).map encLn) ∧ σ.h.gen 128 = v ∧ σ.h.blk 128 = .row 76 1 ((s.js.take i).map encJs) ∧ σ.slot 103 = vL 1 (s.js.map encJs) ∧ σ.slot 104 = vI s.js.length ∧ σ.slot 105 = vI i ∧ σ.slot 13 = .c (.own 122 w) ∧ σ.h.gen 122 = w ∧ σ.h.blk 122 = .row 86 5 ((s.js[i].take k).map encJb) ∧ σ.slot 113 = vL 5 (s.js[i].map encJb) ∧ σ.slot 114 = vI s.js[i].length ∧ σ.slot 115 = vI k) ?_ ?_ ?_
    · refine ⟨σ.h.gen 122 + 1, ?_⟩
      simp -implicitDefEqProofs only [↓aP, aQ, ↓reduceIte, reduceCtorEq, forall_const, implies_true, exists_const, ne_eq, seval, s1, g1, b1, s2, g2, b2, s4, g4, b4, g76, b76, g94, b94, g128, b128, s103, s104, s105, encSd, List.take_zero, List.map_nil]
    · clear s1 g1 b1 s2 g2 b2 s4 g4 b4 g76 b76 g94 b94 g128 b128 s103 s104 s105
      clear hlt
      rintro k m2 σ him2 hk hlt2 ⟨w, s1, g1, b1, s2, g2, b2, s4, g4, b4, g76, b76, g94, b94, g128, b128, s103, s104, s105, s13, g122, b122, s113, s114, s115⟩
      have l3 : (s.js[i].take k).length ≤ 1000 := by rw [List.length_take]; omega
      simp -implicitDefEqProofs only [↓aP, aQ, ↓reduceIte, reduceCtorEq, forall_const, implies_true, exists_const, ne_eq, seval, hlt2, s1, g1, b1, s2, g2, b2, s4, g4, b4, g76, b76, g94, b94, g128, b128, s103, s104, s105, s13, g122, b122, s113, s114, s115, askIdx_map, hk, encJb, List.length_map, wrapS (show k < 4611686018427387904 by omega)]
      refine ⟨by omega, by omega, ?_⟩
      refine nextR hk him2 ⟨w + 1, ?_⟩
      simp -implicitDefEqProofs only [↓aP, aQ, ↓reduceIte, reduceCtorEq, forall_const, implies_true, exists_const, ne_eq, seval, s1, g1, b1, s2, g2, b2, s4, g4, b4, g76, b76, g94, b94, g128, b128, s103, s104, s105, s13, g122, b122, s113, s114, s115, encSd, take_snoc hk, List.map_append, List.map_cons, List.map_nil, encJb]
    · clear s1 g1 b1 s2 g2 b2 s4 g4 b4 g76 b76 g94 b94 g128 b128 s103 s104 s105
      clear hlt
      rintro m2 σ hlt2 ⟨w, s1, g1, b1, s2, g2, b2, s4, g4, b4, g76, b76, g94, b94, g128, b128, s103, s104, s105, s13, g122, b122, s113, s114, s115⟩
      rw [List.take_length] at b122
      simp -implicitDefEqProofs only [↓aP, aQ, ↓reduceIte, reduceCtorEq, forall_const, implies_true, exists_const, ne_eq, seval, hlt2, s1, g1, b1, s2, g2, b2, s4, g4, b4, g76, b76, g94, b94, g128, b128, s103, s104, s105, s13, g122, b122, s113, s114, s115, encSd, List.length_map, wrapS (show i < 4611686018427387904 by omega)]
      refine ⟨by omega, by omega, ?_⟩
      refine nextR hi him ⟨g, u, v + 1, ?_⟩
      simp -implicitDefEqProofs only [↓aP, aQ, ↓reduceIte, reduceCtorEq, forall_const, implies_true, exists_const, ne_eq, seval, s1, g1, b1, s2, g2, b2, s4, g4, b4, g76, b76, g94, b94, g128, b128, s103, s104, s105, s13, g122, b122, s113, s114, s115, encSd, take_snoc hi, List.map_append, List.map_cons, List.map_nil, encJs]
  clear s1 g1 b1 s2 g2 b2 s4 g4 b4 s5 g76 b76 s8 g94 b94 s80 s81 s82
  clear hlt
  clear σ m g u
  rintro m σ hlt ⟨g, u, v, s1, g1, b1, s2, g2, b2, s4, g4, b4, g76, b76, g94, b94, g128, b128, s103, s104, s105⟩
  rw [List.take_length] at b128
  simp -implicitDefEqProofs only [↓aP, aQ, ↓reduceIte, reduceCtorEq, forall_const, implies_true, exists_const, ne_eq, seval, hlt, s1, g1, b1, s2, g2, b2, s4, g4, b4, g76, b76, g94, b94, g128, b128, s103, s104, s105, encSd, List.length_map]
  refine shift (sub_cell (p := 4) (tp := 78) (ep := 9) (els := [[.own 94 u, .s (.pv (.int .i64 s.l.at')), .s (.pv (.bool s.l.g)), .own 128 v, .s (.sl 1 (s.dv.disk.sectors.map encS)), .s (.sl 2 (s.dv.disk.cache.map encWr)), .s (.pv (.int .i64 s.dv.next)), .own 76 g, .zc]]) (i := 0) (j := 8) 142 86 5 (by simp -implicitDefEqProofs only [↓aP, aQ, ↓reduceIte, reduceCtorEq, forall_const, implies_true, exists_const, ne_eq, seval, s1, g1, b1, s2, g2, b2, s4, g4, b4, g76, b76, g94, b94, g128, b128, s103, s104, s105]) (by exact Nat.succ_pos _) (by rfl) (by decide) (by decide)) ?_
  refine rangeB s.out.length (fun i σ => ∃ g u v o, σ.slot 1 = .c (.ptr 1 1 0 0) ∧ σ.h.gen 1 = 1 ∧ σ.h.blk 1 = .box 68 9 [(encSd s).map AC.s] ∧ σ.slot 2 = .c (.ptr 2 1 0 0) ∧ σ.h.gen 2 = 1 ∧ σ.h.blk 2 = .box 78 9 [[.zc, .s (.pv (.int .i64 0)), .s (.pv (.bool false)), .zc, .zc, .zc, .s (.pv (.int .i64 0)), .zc, .zc]] ∧ σ.slot 4 = .c (.ptr 4 1 0 0) ∧ σ.h.gen 4 = 1 ∧ σ.h.blk 4 = .box 78 9 [[.own 94 u, .s (.pv (.int .i64 s.l.at')), .s (.pv (.bool s.l.g)), .own 128 v, .s (.sl 1 (s.dv.disk.sectors.map encS)), .s (.sl 2 (s.dv.disk.cache.map encWr)), .s (.pv (.int .i64 s.dv.next)), .own 76 g, .own 142 o]] ∧ σ.h.gen 76 = g ∧ σ.h.blk 76 = .row 133 4 ((s.dv.flight).map encRq) ∧ σ.h.gen 94 = u ∧ σ.h.blk 94 = .row 36 3 ((s.l.l).map encLn) ∧ σ.h.gen 128 = v ∧ σ.h.blk 128 = .row 76 1 ((s.js).map encJs) ∧ σ.h.gen 142 = o ∧ σ.h.blk 142 = .row 86 5 ((s.out.take i).map encJb) ∧ σ.slot 132 = vL 5 (s.out.map encJb) ∧ σ.slot 133 = vI s.out.length ∧ σ.slot 134 = vI i) ?_ ?_ ?_
  · refine ⟨g, u, v, σ.h.gen 142 + 1, ?_⟩
    simp -implicitDefEqProofs only [↓aP, aQ, ↓reduceIte, reduceCtorEq, forall_const, implies_true, exists_const, ne_eq, seval, s1, g1, b1, s2, g2, b2, s4, g4, b4, g76, b76, g94, b94, g128, b128, s103, s104, s105, encSd, List.take_zero, List.map_nil]
  · clear s1 g1 b1 s2 g2 b2 s4 g4 b4 g76 b76 g94 b94 g128 b128 s103 s104 s105
    clear hlt
    clear σ m g u v
    rintro i m σ him hi hlt ⟨g, u, v, o, s1, g1, b1, s2, g2, b2, s4, g4, b4, g76, b76, g94, b94, g128, b128, g142, b142, s132, s133, s134⟩
    have l1 : (s.out.take i).length ≤ 1000 := by rw [List.length_take]; omega
    simp -implicitDefEqProofs only [↓aP, aQ, ↓reduceIte, reduceCtorEq, forall_const, implies_true, exists_const, ne_eq, seval, hlt, s1, g1, b1, s2, g2, b2, s4, g4, b4, g76, b76, g94, b94, g128, b128, g142, b142, s132, s133, s134, askIdx_map, hi, encJb, List.length_map, wrapS (show i < 4611686018427387904 by omega)]
    refine ⟨by omega, by omega, ?_⟩
    refine nextR hi him ⟨g, u, v, o + 1, ?_⟩
    simp -implicitDefEqProofs only [↓aP, aQ, ↓reduceIte, reduceCtorEq, forall_const, implies_true, exists_const, ne_eq, seval, s1, g1, b1, s2, g2, b2, s4, g4, b4, g76, b76, g94, b94, g128, b128, g142, b142, s132, s133, s134, encSd, take_snoc hi, List.map_append, List.map_cons, List.map_nil, encJb]
  clear s1 g1 b1 s2 g2 b2 s4 g4 b4 g76 b76 g94 b94 g128 b128 s103 s104 s105
  clear hlt
  clear σ m g u v
  rintro m σ hlt ⟨g, u, v, o, s1, g1, b1, s2, g2, b2, s4, g4, b4, g76, b76, g94, b94, g128, b128, g142, b142, s132, s133, s134⟩
  rw [List.take_length] at b142
  simp -implicitDefEqProofs only [↓aP, aQ, ↓reduceIte, reduceCtorEq, forall_const, implies_true, exists_const, ne_eq, seval, hlt, s1, g1, b1, s2, g2, b2, s4, g4, b4, g76, b76, g94, b94, g128, b128, g142, b142, s132, s133, s134, encSd, List.length_map]
end Go.Proofs.Ytfmbfgoofiojcaa
