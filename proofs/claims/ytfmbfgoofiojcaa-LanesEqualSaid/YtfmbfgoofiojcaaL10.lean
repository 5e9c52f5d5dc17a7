/- THE STATEMENT LanesPush: its walk. -/
import Derived.Test.YtfmbfgoofiojcaaL9
import Derived.Test.YtfmbfgoofiojcaaAm19
import Derived.OpenShut
namespace Go.Proofs.Ytfmbfgoofiojcaa
open Go.RowKit Lk Go.ChangeShapes Go.WideShapes
set_option linter.unusedVariables false
set_option linter.unusedSimpArgs false
set_option maxRecDepth 10000
theorem refI_ok {x : Ls} (h : x.l.length ≤ 20) (hs : ∀ y ∈ x.l, y.cs.length ≤ 220) : refI x = (x, true) := by
  have h1 : ∀ y ∈ x.l, shortB y = true := fun y hy => by have := hs y hy; simp [shortB]; omega
  unfold refI
  rw [if_pos (by omega), takeWhile_all h1, List.all_eq_true.2 h1]
theorem refI_yes {x : Ls} (h : (refI x).2 = true) : refI x = (x, true) ∧ x.l.length ≤ 20 ∧ ∀ y ∈ x.l, y.cs.length ≤ 220 := by
  unfold refI at h
  split at h
  · rename_i h1
    simp only at h
    rw [List.all_eq_true] at h
    have h2 : ∀ y ∈ x.l, y.cs.length ≤ 220 := fun y hy => by have := h y hy; simp [shortB] at this; omega
    exact ⟨refI_ok (by omega) h2, by omega, h2⟩
  · simp at h
theorem right_new (ws : List Int) : right ⟨ws.map fresh, 0, false⟩ = okNew ws := by
  rw [Bool.eq_iff_iff, right_iff]
  unfold okNew
  simp only [Bool.and_eq_true, decide_eq_true_eq, List.all_eq_true, List.length_map]
  constructor
  · rintro ⟨h1, h2⟩
    refine ⟨by omega, fun w hw => ?_⟩
    obtain ⟨k, hk, rfl⟩ := List.getElem_of_mem hw
    have := h2 k hk
    rw [List.getElem_map] at this
    exact (okL_iff.1 this).1
  · rintro ⟨h1, h2⟩
    refine ⟨by omega, fun k hk => ?_⟩
    rw [List.getElem_map]
    exact okL_iff.2 ⟨h2 _ (List.getElem_mem hk), ⟨Int.le_refl 0, by unfold most fresh; simp⟩, by simp [fresh], by simp [fresh]⟩
theorem newI_cases (ws : List Int) : (okNew ws = true ∧ newI ws = (⟨ws.map fresh, 0, false⟩, 0)) ∨ (okNew ws = false ∧ newI ws = (⟨[], 0, false⟩, 1)) := by
  cases h : okNew ws
  · exact .inr ⟨rfl, by unfold newI; simp [h]⟩
  · exact .inl ⟨rfl, by unfold newI; simp [h]⟩
def badP (x : Ls) (lane cost : Int) : Prop := right x = false ∨ lane < 0 ∨ (x.l.length : Int) ≤ lane ∨ okC cost = false
theorem push_bad {x : Ls} {lane cost : Int} (h : badP x lane cost) : pushI x lane cost = (x, 1) := if_pos h
theorem push_full {x : Ls} {k : Nat} {cost : Int} (h : ¬ badP x k cost) (hk : k < x.l.length) (h2 : x.l[k].cs.length = 200) : pushI x k cost = (x, 7) := by
  unfold badP at h
  unfold pushI
  rw [if_neg h]
  simp only [Int.toNat_natCast, List.getElem?_eq_getElem hk]
  rw [if_pos h2]
theorem push_ok {x : Ls} {k : Nat} {cost : Int} (h : ¬ badP x k cost) (hk : k < x.l.length) (h2 : x.l[k].cs.length ≠ 200) : pushI x k cost = (⟨x.l.set k ⟨x.l[k].w, x.l[k].d, x.l[k].cs ++ [cost]⟩, x.at', x.g⟩, 0) := by
  unfold badP at h
  unfold pushI
  rw [if_neg h]
  simp only [Int.toNat_natCast, List.getElem?_eq_getElem hk]
  rw [if_neg h2]
theorem push_short (x : Ls) (lane cost : Int) (h : x.l.length ≤ 20) (hs : ∀ y ∈ x.l, y.cs.length ≤ 220) : (pushI x lane cost).1.l.length ≤ 20 ∧ ∀ y ∈ (pushI x lane cost).1.l, y.cs.length ≤ 220 := by
  by_cases hb : badP x lane cost
  · rw [push_bad hb]; exact ⟨h, hs⟩
  · have hr : right x = true := by
      cases h : right x
      · exact absurd (.inl h) hb
      · rfl
    obtain ⟨k, rfl⟩ : ∃ k : Nat, lane = k := ⟨lane.toNat, by unfold badP at hb; omega⟩
    have hk : k < x.l.length := by unfold badP at hb; omega
    have h2 := (okL_iff.1 (right_get hr hk)).2.2.1
    by_cases hf : x.l[k].cs.length = 200
    · rw [push_full hb hk hf]; exact ⟨h, hs⟩
    · rw [push_ok hb hk hf]
      refine ⟨by simpa using h, fun y hy => ?_⟩
      rcases List.mem_or_eq_of_mem_set hy with hy | rfl
      · exact hs y hy
      · simp; omega
theorem small_of {x : Ls} (h : x.l.length ≤ 40) (hs : ∀ y ∈ x.l, y.cs.length ≤ 220) : Small x := ⟨by omega, fun y hy => by have := hs y hy; omega⟩
theorem fresh_short (ws : List Int) : ∀ y ∈ ws.map fresh, y.cs.length ≤ 220 := by
  intro y hy
  obtain ⟨w, _, rfl⟩ := List.mem_map.1 hy
  simp [fresh]


theorem lawPush_spec (ws : List Int) (x : Ls) (lane cost : Int) : Spec Try.prog 3 [rL 1 (ws.map encI), .agg (encLs x), rI lane, rI cost] (.val (rB true)) := by
  refine spec_val mixed fn3 (by simp) ?_
  unfold ac3
  simp -implicitDefEqProofs only [↓aP, aQ, ↓reduceIte, Nat.reduceEqDiff, Nat.reduceAdd, Nat.reduceSub, Nat.reduceMul, Nat.reduceLT, Nat.reduceLeDiff, reduceCtorEq, Nat.reduceBEq, forall_const, implies_true, exists_const, ne_eq, Int.reduceAdd, Int.reduceSub, Int.reduceMul, Int.reduceBEq, Int.reduceEq, Int.reduceLT, Int.reduceLE, Int.reduceToNat, Int.reduceNeg, Int.reduceBNe, encLs]
  refine ask (ref_spec x) ?_
  cases hok : (refI x).2
  · simp -implicitDefEqProofs only [↓aP, aQ, ↓reduceIte, Nat.reduceEqDiff, Nat.reduceAdd, Nat.reduceSub, Nat.reduceMul, Nat.reduceLT, Nat.reduceLeDiff, reduceCtorEq, Nat.reduceBEq, forall_const, implies_true, exists_const, ne_eq, Int.reduceAdd, Int.reduceSub, Int.reduceMul, Int.reduceBEq, Int.reduceEq, Int.reduceLT, Int.reduceLE, Int.reduceToNat, Int.reduceNeg, Int.reduceBNe, encF, encLs, hok]
    repeat' ((first | ((first | with_reducible refine fork ?_ ?_ | with_reducible refine gcase ?_ ?_ | with_reducible refine gcaseD ?_ ?_) <;> intro hc <;> (have hp := hc) <;> (try simp only [aB] at hp)) | (have hc := True.intro; first | with_reducible refine askM (by omega) ?_ | with_reducible refine And.intro (by first | omega | decide +kernel) ?_ | refine ask (awake_spec) ?_ | fail)) <;> (try simp -implicitDefEqProofs only [↓aP, aQ, ↓reduceIte, Nat.reduceEqDiff, Nat.reduceAdd, Nat.reduceSub, Nat.reduceMul, Nat.reduceLT, Nat.reduceLeDiff, reduceCtorEq, Nat.reduceBEq, forall_const, implies_true, exists_const, ne_eq, Int.reduceAdd, Int.reduceSub, Int.reduceMul, Int.reduceBEq, Int.reduceEq, Int.reduceLT, Int.reduceLE, Int.reduceToNat, Int.reduceNeg, Int.reduceBNe, hc, encF, encLs, hok]))
  obtain ⟨e1, hx20, hx220⟩ := refI_yes hok
  rw [e1]
  simp -implicitDefEqProofs only [↓aP, aQ, ↓reduceIte, Nat.reduceEqDiff, Nat.reduceAdd, Nat.reduceSub, Nat.reduceMul, Nat.reduceLT, Nat.reduceLeDiff, reduceCtorEq, Nat.reduceBEq, forall_const, implies_true, exists_const, ne_eq, Int.reduceAdd, Int.reduceSub, Int.reduceMul, Int.reduceBEq, Int.reduceEq, Int.reduceLT, Int.reduceLE, Int.reduceToNat, Int.reduceNeg, Int.reduceBNe, encF, encLs]
  by_cases h40 : ws.length ≤ 40
  case neg =>
    have d : decide ((40 : Int) < (ws.length : Int)) = true := by simp; omega
    simp -implicitDefEqProofs only [↓aP, aQ, ↓reduceIte, Nat.reduceEqDiff, Nat.reduceAdd, Nat.reduceSub, Nat.reduceMul, Nat.reduceLT, Nat.reduceLeDiff, reduceCtorEq, Nat.reduceBEq, forall_const, implies_true, exists_const, ne_eq, Int.reduceAdd, Int.reduceSub, Int.reduceMul, Int.reduceBEq, Int.reduceEq, Int.reduceLT, Int.reduceLE, Int.reduceToNat, Int.reduceNeg, Int.reduceBNe, d, List.length_map]
    repeat' ((first | ((first | with_reducible refine fork ?_ ?_ | with_reducible refine gcase ?_ ?_ | with_reducible refine gcaseD ?_ ?_) <;> intro hc <;> (have hp := hc) <;> (try simp only [aB] at hp)) | (have hc := True.intro; first | with_reducible refine askM (by omega) ?_ | with_reducible refine And.intro (by first | omega | decide +kernel) ?_ | refine ask (awake_spec) ?_ | fail)) <;> (try simp -implicitDefEqProofs only [↓aP, aQ, ↓reduceIte, Nat.reduceEqDiff, Nat.reduceAdd, Nat.reduceSub, Nat.reduceMul, Nat.reduceLT, Nat.reduceLeDiff, reduceCtorEq, Nat.reduceBEq, forall_const, implies_true, exists_const, ne_eq, Int.reduceAdd, Int.reduceSub, Int.reduceMul, Int.reduceBEq, Int.reduceEq, Int.reduceLT, Int.reduceLE, Int.reduceToNat, Int.reduceNeg, Int.reduceBNe, hc, d]))
  have d40 : decide ((40 : Int) < (ws.length : Int)) = false := by simp; omega
  have hsx : Small x := small_of (by omega) hx220
  simp -implicitDefEqProofs only [↓aP, aQ, ↓reduceIte, Nat.reduceEqDiff, Nat.reduceAdd, Nat.reduceSub, Nat.reduceMul, Nat.reduceLT, Nat.reduceLeDiff, reduceCtorEq, Nat.reduceBEq, forall_const, implies_true, exists_const, ne_eq, Int.reduceAdd, Int.reduceSub, Int.reduceMul, Int.reduceBEq, Int.reduceEq, Int.reduceLT, Int.reduceLE, Int.reduceToNat, Int.reduceNeg, Int.reduceBNe, d40, List.length_map]
  refine ask (lNew_spec ws (by omega)) ?_
  have hN : refI (newI ws).1 = ((newI ws).1, true) := by
    rcases newI_cases ws with ⟨h1, h2⟩ | ⟨h1, h2⟩
    · rw [h2]
      unfold okNew at h1
      simp only [Bool.and_eq_true, decide_eq_true_eq] at h1
      exact refI_ok (by simp; omega) (fresh_short ws)
    · rw [h2]; exact refI_ok (by simp) (by simp)
  have hrs := ref_spec (newI ws).1
  rw [hN] at hrs
  obtain ⟨N, hNe⟩ : ∃ N, newI ws = N := ⟨_, rfl⟩
  rw [hNe] at hrs hN
  rw [hNe]
  simp -implicitDefEqProofs only [↓aP, aQ, ↓reduceIte, Nat.reduceEqDiff, Nat.reduceAdd, Nat.reduceSub, Nat.reduceMul, Nat.reduceLT, Nat.reduceLeDiff, reduceCtorEq, Nat.reduceBEq, forall_const, implies_true, exists_const, ne_eq, Int.reduceAdd, Int.reduceSub, Int.reduceMul, Int.reduceBEq, Int.reduceEq, Int.reduceLT, Int.reduceLE, Int.reduceToNat, Int.reduceNeg, Int.reduceBNe, encR, encLs]
  refine ask hrs ?_
  simp -implicitDefEqProofs only [↓aP, aQ, ↓reduceIte, Nat.reduceEqDiff, Nat.reduceAdd, Nat.reduceSub, Nat.reduceMul, Nat.reduceLT, Nat.reduceLeDiff, reduceCtorEq, Nat.reduceBEq, forall_const, implies_true, exists_const, ne_eq, Int.reduceAdd, Int.reduceSub, Int.reduceMul, Int.reduceBEq, Int.reduceEq, Int.reduceLT, Int.reduceLE, Int.reduceToNat, Int.reduceNeg, Int.reduceBNe, encF, encLs]
  refine shift (sub_cell (p := 15) (i := 0) (j := 0) 61 36 3 rfl (by exact Nat.succ_pos _) (by rfl) (by decide) (by decide)) ?_
  refine rangeB ws.length (fun i σ => ∃ g, σ.slot 2 = vI lane ∧ σ.slot 3 = vI cost ∧ σ.slot 5 = .c (.ptr 5 1 0 0) ∧ σ.h.gen 5 = 1 ∧ σ.h.blk 5 = .box 25 3 [(encLs x).map AC.s] ∧ σ.slot 9 = .c (.ptr 9 1 0 0) ∧ σ.h.gen 9 = 1 ∧ σ.h.blk 9 = .box 28 3 [(encLs x).map AC.s] ∧ σ.slot 11 = .c (.ptr 11 1 0 0) ∧ σ.h.gen 11 = 1 ∧ σ.h.blk 11 = .box 25 3 [(encLs N.1).map AC.s] ∧ σ.slot 12 = vI N.2 ∧ σ.slot 13 = .c (.ptr 13 1 0 0) ∧ σ.h.gen 13 = 1 ∧ σ.h.blk 13 = .box 28 3 [(encLs N.1).map AC.s] ∧ σ.slot 15 = .c (.ptr 15 1 0 0) ∧ σ.h.gen 15 = 1 ∧ σ.h.blk 15 = .box 28 3 [[.own 61 g, .s (.pv (.int .i64 0)), .s (.pv (.bool false))]] ∧ σ.slot 50 = vL 1 (ws.map encI) ∧ σ.slot 51 = vI ws.length ∧ σ.slot 52 = vI i ∧ σ.h.gen 61 = g ∧ σ.h.blk 61 = .row 36 3 (((ws.take i).map fresh).map encLn)) ?_ ?_ ?_
  · simp -implicitDefEqProofs only [↓aP, aQ, ↓reduceIte, Nat.reduceEqDiff, Nat.reduceAdd, Nat.reduceSub, Nat.reduceMul, Nat.reduceLT, Nat.reduceLeDiff, reduceCtorEq, Nat.reduceBEq, forall_const, implies_true, exists_const, ne_eq, Int.reduceAdd, Int.reduceSub, Int.reduceMul, Int.reduceBEq, Int.reduceEq, Int.reduceLT, Int.reduceLE, Int.reduceToNat, Int.reduceNeg, Int.reduceBNe, encLs]
    exact ⟨1, by simp⟩
  · rintro i m σ him hi hlt ⟨g, s2, s3, s5, g5, b5, s9, g9, b9, s11, g11, b11, s12, s13, g13, b13, s15, g15, b15, s50, s51, s52, g61, b61⟩
    simp -implicitDefEqProofs only [↓aP, aQ, ↓reduceIte, Nat.reduceEqDiff, Nat.reduceAdd, Nat.reduceSub, Nat.reduceMul, Nat.reduceLT, Nat.reduceLeDiff, reduceCtorEq, Nat.reduceBEq, forall_const, implies_true, exists_const, ne_eq, Int.reduceAdd, Int.reduceSub, Int.reduceMul, Int.reduceBEq, Int.reduceEq, Int.reduceLT, Int.reduceLE, Int.reduceToNat, Int.reduceNeg, Int.reduceBNe, hlt, s2, s3, s5, g5, b5, s9, g9, b9, s11, g11, b11, s12, s13, g13, b13, s15, g15, b15, s50, s51, s52, g61, b61, askIdx_map, hi, encI]
    have e9 : (List.take i ws).length ≤ 40 := by rw [List.length_take]; omega
    refine ⟨by omega, by omega, ?_⟩
    refine nextR hi him ⟨g + 1, ?_⟩
    simp -implicitDefEqProofs only [↓aP, aQ, ↓reduceIte, Nat.reduceEqDiff, Nat.reduceAdd, Nat.reduceSub, Nat.reduceMul, Nat.reduceLT, Nat.reduceLeDiff, reduceCtorEq, Nat.reduceBEq, forall_const, implies_true, exists_const, ne_eq, Int.reduceAdd, Int.reduceSub, Int.reduceMul, Int.reduceBEq, Int.reduceEq, Int.reduceLT, Int.reduceLE, Int.reduceToNat, Int.reduceNeg, Int.reduceBNe, s2, s3, s5, g5, b5, s9, g9, b9, s11, g11, b11, s12, s13, g13, b13, s15, g15, b15, s50, s51, s52, g61, b61, take_snoc hi, List.map_append, encLn, fresh, wrapS (show i < 4611686018427387904 by omega)]
  · rintro m σ hlt ⟨g, s2, s3, s5, g5, b5, s9, g9, b9, s11, g11, b11, s12, s13, g13, b13, s15, g15, b15, s50, s51, s52, g61, b61⟩
    rw [List.take_length] at b61
    simp -implicitDefEqProofs only [↓aP, aQ, ↓reduceIte, Nat.reduceEqDiff, Nat.reduceAdd, Nat.reduceSub, Nat.reduceMul, Nat.reduceLT, Nat.reduceLeDiff, reduceCtorEq, Nat.reduceBEq, forall_const, implies_true, exists_const, ne_eq, Int.reduceAdd, Int.reduceSub, Int.reduceMul, Int.reduceBEq, Int.reduceEq, Int.reduceLT, Int.reduceLE, Int.reduceToNat, Int.reduceNeg, Int.reduceBNe, hlt, s2, s3, s5, g5, b5, s9, g9, b9, s11, g11, b11, s12, s13, g13, b13, s15, g15, b15, s50, s51, s52, g61, b61, encLs]
    have hW : Small ⟨ws.map fresh, 0, false⟩ := small_of (by simpa using h40) (fresh_short ws)
    have hrw := rRight_spec ⟨ws.map fresh, 0, false⟩ hW
    have hNs : Small N.1 := by
      rw [← hNe]
      rcases newI_cases ws with ⟨_, h2⟩ | ⟨_, h2⟩
      · rw [h2]; exact hW
      · rw [h2]; exact small_of (by simp) (by simp)
    have hsm := rSame_spec N.1 ⟨ws.map fresh, 0, false⟩ hNs hW
    rw [right_new] at hrw
    have hNc : (okNew ws = true ∧ N = (⟨ws.map fresh, 0, false⟩, 0)) ∨ (okNew ws = false ∧ N = (⟨[], 0, false⟩, 1)) := by rw [← hNe]; exact newI_cases ws
    refine ask hrw ?_
    have hP := push_short x lane cost hx20 hx220
    have hPr : refI (pushI x lane cost).1 = ((pushI x lane cost).1, true) := refI_ok hP.1 hP.2
    have hPs : Small (pushI x lane cost).1 := small_of (by omega) hP.2
    have hrp := ref_spec (pushI x lane cost).1
    rw [hPr] at hrp
    have hsp := rSame_spec x (pushI x lane cost).1 hsx hPs
    have hpu := lPush_spec x lane cost hsx
    have hbadP := fun h => push_bad (x := x) (lane := lane) (cost := cost) h
    obtain ⟨P, hPe⟩ : ∃ P, pushI x lane cost = P := ⟨_, rfl⟩
    rw [hPe] at hrp hsp hpu hPs
    rcases hNc with ⟨o1, rfl⟩ | ⟨o1, rfl⟩
    case' inl =>
      rw [o1]
      simp -implicitDefEqProofs only [↓aP, aQ, ↓reduceIte, Nat.reduceEqDiff, Nat.reduceAdd, Nat.reduceSub, Nat.reduceMul, Nat.reduceLT, Nat.reduceLeDiff, reduceCtorEq, Nat.reduceBEq, forall_const, implies_true, exists_const, ne_eq, Int.reduceAdd, Int.reduceSub, Int.reduceMul, Int.reduceBEq, Int.reduceEq, Int.reduceLT, Int.reduceLE, Int.reduceToNat, Int.reduceNeg, Int.reduceBNe, s2, s3, s5, g5, b5, s9, g9, b9, s11, g11, b11, s12, s13, g13, b13, s15, g15, b15, s50, s51, s52, g61, b61, encLs]
      rw [show decide ((⟨ws.map fresh, 0, false⟩ : Ls) = ⟨ws.map fresh, 0, false⟩) = true from decide_eq_true rfl] at hsm
      refine ask hsm ?_
      simp -implicitDefEqProofs only [↓aP, aQ, ↓reduceIte, Nat.reduceEqDiff, Nat.reduceAdd, Nat.reduceSub, Nat.reduceMul, Nat.reduceLT, Nat.reduceLeDiff, reduceCtorEq, Nat.reduceBEq, forall_const, implies_true, exists_const, ne_eq, Int.reduceAdd, Int.reduceSub, Int.reduceMul, Int.reduceBEq, Int.reduceEq, Int.reduceLT, Int.reduceLE, Int.reduceToNat, Int.reduceNeg, Int.reduceBNe, s2, s3, s5, g5, b5, s9, g9, b9, s11, g11, b11, s12, s13, g13, b13, s15, g15, b15, s50, s51, s52, g61, b61, encLs]
    case' inr =>
      rw [o1]
      simp -implicitDefEqProofs only [↓aP, aQ, ↓reduceIte, Nat.reduceEqDiff, Nat.reduceAdd, Nat.reduceSub, Nat.reduceMul, Nat.reduceLT, Nat.reduceLeDiff, reduceCtorEq, Nat.reduceBEq, forall_const, implies_true, exists_const, ne_eq, Int.reduceAdd, Int.reduceSub, Int.reduceMul, Int.reduceBEq, Int.reduceEq, Int.reduceLT, Int.reduceLE, Int.reduceToNat, Int.reduceNeg, Int.reduceBNe, s2, s3, s5, g5, b5, s9, g9, b9, s11, g11, b11, s12, s13, g13, b13, s15, g15, b15, s50, s51, s52, g61, b61, encLs]
    all_goals
      refine ask hpu ?_
      simp -implicitDefEqProofs only [↓aP, aQ, ↓reduceIte, Nat.reduceEqDiff, Nat.reduceAdd, Nat.reduceSub, Nat.reduceMul, Nat.reduceLT, Nat.reduceLeDiff, reduceCtorEq, Nat.reduceBEq, forall_const, implies_true, exists_const, ne_eq, Int.reduceAdd, Int.reduceSub, Int.reduceMul, Int.reduceBEq, Int.reduceEq, Int.reduceLT, Int.reduceLE, Int.reduceToNat, Int.reduceNeg, Int.reduceBNe, s2, s3, s5, g5, b5, s9, g9, b9, s11, g11, b11, s12, s13, g13, b13, s15, g15, b15, s50, s51, s52, g61, b61, encR, encLs]
      refine ask hrp ?_
      simp -implicitDefEqProofs only [↓aP, aQ, ↓reduceIte, Nat.reduceEqDiff, Nat.reduceAdd, Nat.reduceSub, Nat.reduceMul, Nat.reduceLT, Nat.reduceLeDiff, reduceCtorEq, Nat.reduceBEq, forall_const, implies_true, exists_const, ne_eq, Int.reduceAdd, Int.reduceSub, Int.reduceMul, Int.reduceBEq, Int.reduceEq, Int.reduceLT, Int.reduceLE, Int.reduceToNat, Int.reduceNeg, Int.reduceBNe, s2, s3, s5, g5, b5, s9, g9, b9, s11, g11, b11, s12, s13, g13, b13, s15, g15, b15, s50, s51, s52, g61, b61, encF, encLs]
      refine ask (rRight_spec x hsx) ?_
      simp -implicitDefEqProofs only [↓aP, aQ, ↓reduceIte, Nat.reduceEqDiff, Nat.reduceAdd, Nat.reduceSub, Nat.reduceMul, Nat.reduceLT, Nat.reduceLeDiff, reduceCtorEq, Nat.reduceBEq, forall_const, implies_true, exists_const, ne_eq, Int.reduceAdd, Int.reduceSub, Int.reduceMul, Int.reduceBEq, Int.reduceEq, Int.reduceLT, Int.reduceLE, Int.reduceToNat, Int.reduceNeg, Int.reduceBNe, s2, s3, s5, g5, b5, s9, g9, b9, s11, g11, b11, s12, s13, g13, b13, s15, g15, b15, s50, s51, s52, g61, b61, encF, encLs]
      refine ask (lRight_spec x hsx) ?_
      simp -implicitDefEqProofs only [↓aP, aQ, ↓reduceIte, Nat.reduceEqDiff, Nat.reduceAdd, Nat.reduceSub, Nat.reduceMul, Nat.reduceLT, Nat.reduceLeDiff, reduceCtorEq, Nat.reduceBEq, forall_const, implies_true, exists_const, ne_eq, Int.reduceAdd, Int.reduceSub, Int.reduceMul, Int.reduceBEq, Int.reduceEq, Int.reduceLT, Int.reduceLE, Int.reduceToNat, Int.reduceNeg, Int.reduceBNe, s2, s3, s5, g5, b5, s9, g9, b9, s11, g11, b11, s12, s13, g13, b13, s15, g15, b15, s50, s51, s52, g61, b61, encF, encLs]
    all_goals
      by_cases hb : badP x lane cost
      case pos =>
        obtain rfl : P = (x, 1) := by rw [← hPe, push_bad hb]
        rw [show decide (x = (x, (1 : Int)).1) = true from decide_eq_true rfl] at hsp
        repeat' ((first | ((first | with_reducible refine fork ?_ ?_ | with_reducible refine gcase ?_ ?_ | with_reducible refine gcaseD ?_ ?_) <;> intro hc <;> (have hp := hc) <;> (try simp only [aB] at hp)) | (have hc := True.intro; first | with_reducible refine askM (by omega) ?_ | with_reducible refine And.intro (by first | omega | decide +kernel) ?_ | refine ask (hsp) ?_ | refine ask (awake_spec) ?_ | fail)) <;> (try simp -implicitDefEqProofs only [↓aP, aQ, ↓reduceIte, Nat.reduceEqDiff, Nat.reduceAdd, Nat.reduceSub, Nat.reduceMul, Nat.reduceLT, Nat.reduceLeDiff, reduceCtorEq, Nat.reduceBEq, forall_const, implies_true, exists_const, ne_eq, Int.reduceAdd, Int.reduceSub, Int.reduceMul, Int.reduceBEq, Int.reduceEq, Int.reduceLT, Int.reduceLE, Int.reduceToNat, Int.reduceNeg, Int.reduceBNe, hc, s2, s3, s5, g5, b5, s9, g9, b9, s11, g11, b11, s12, s13, g13, b13, s15, g15, b15, s50, s51, s52, g61, b61, encLs]))
        all_goals (exfalso; unfold badP okC at hb; rcases hb with h | h | h | h <;> first | omega | (simp only [decide_eq_false_iff_not] at h; omega) | simp_all)
      case neg =>
        have hr : right x = true := by
          cases h : right x
          · exact absurd (.inl h) hb
          · rfl
        obtain ⟨k, rfl⟩ : ∃ k : Nat, lane = k := ⟨lane.toNat, by unfold badP at hb; omega⟩
        have hk : k < x.l.length := by unfold badP at hb; omega
        have hcost : 1 ≤ cost ∧ cost ≤ 8 := by
          cases h : okC cost
          · exact absurd (.inr (.inr (.inr h))) hb
          · simpa [okC] using h
        have c1 : decide ((k : Int) < 0) = false := by simp
        have c2 : decide ((x.l.length : Int) ≤ (k : Int)) = false := by simp; omega
        have c3 : decide (cost < 1) = false := by simp; omega
        have c4 : decide ((8 : Int) < cost) = false := by simp; omega
        simp -implicitDefEqProofs only [↓aP, aQ, ↓reduceIte, Nat.reduceEqDiff, Nat.reduceAdd, Nat.reduceSub, Nat.reduceMul, Nat.reduceLT, Nat.reduceLeDiff, reduceCtorEq, Nat.reduceBEq, forall_const, implies_true, exists_const, ne_eq, Int.reduceAdd, Int.reduceSub, Int.reduceMul, Int.reduceBEq, Int.reduceEq, Int.reduceLT, Int.reduceLE, Int.reduceToNat, Int.reduceNeg, Int.reduceBNe, hr, c1, c2, c3, c4, s2, s3, s5, g5, b5, s9, g9, b9, s11, g11, b11, s12, s13, g13, b13, s15, g15, b15, s50, s51, s52, g61, b61, encLs, askIdx_map, hk, encLn]
        by_cases h2 : x.l[k].cs.length = 200
        case pos =>
          obtain rfl : P = (x, 7) := by rw [← hPe, push_full hb hk h2]
          rw [show decide (x = (x, (7 : Int)).1) = true from decide_eq_true rfl] at hsp
          have c5 : ((x.l[k].cs.length : Int) == 200) = true := by rw [h2]; rfl
          simp -implicitDefEqProofs only [↓aP, aQ, ↓reduceIte, Nat.reduceEqDiff, Nat.reduceAdd, Nat.reduceSub, Nat.reduceMul, Nat.reduceLT, Nat.reduceLeDiff, reduceCtorEq, Nat.reduceBEq, forall_const, implies_true, exists_const, ne_eq, Int.reduceAdd, Int.reduceSub, Int.reduceMul, Int.reduceBEq, Int.reduceEq, Int.reduceLT, Int.reduceLE, Int.reduceToNat, Int.reduceNeg, Int.reduceBNe, c5, s2, s3, s5, g5, b5, s9, g9, b9, s11, g11, b11, s12, s13, g13, b13, s15, g15, b15, s50, s51, s52, g61, b61, encLs]
          refine ask hsp ?_
          simp -implicitDefEqProofs only [↓aP, aQ, ↓reduceIte, Nat.reduceEqDiff, Nat.reduceAdd, Nat.reduceSub, Nat.reduceMul, Nat.reduceLT, Nat.reduceLeDiff, reduceCtorEq, Nat.reduceBEq, forall_const, implies_true, exists_const, ne_eq, Int.reduceAdd, Int.reduceSub, Int.reduceMul, Int.reduceBEq, Int.reduceEq, Int.reduceLT, Int.reduceLE, Int.reduceToNat, Int.reduceNeg, Int.reduceBNe, s2, s3, s5, g5, b5, s9, g9, b9, s11, g11, b11, s12, s13, g13, b13, s15, g15, b15, s50, s51, s52, g61, b61, encLs]
          refine ask awake_spec ?_
          simp -implicitDefEqProofs only [↓aP, aQ, ↓reduceIte, Nat.reduceEqDiff, Nat.reduceAdd, Nat.reduceSub, Nat.reduceMul, Nat.reduceLT, Nat.reduceLeDiff, reduceCtorEq, Nat.reduceBEq, forall_const, implies_true, exists_const, ne_eq, Int.reduceAdd, Int.reduceSub, Int.reduceMul, Int.reduceBEq, Int.reduceEq, Int.reduceLT, Int.reduceLE, Int.reduceToNat, Int.reduceNeg, Int.reduceBNe]
        case neg =>
          have c5 : ((x.l[k].cs.length : Int) == 200) = false := by rw [beq_eq_false_iff_ne]; omega
          obtain ⟨z, hz⟩ : ∃ z : Ln, z = ⟨x.l[k].w, x.l[k].d, x.l[k].cs ++ [cost]⟩ := ⟨_, rfl⟩
          obtain rfl : P = (⟨x.l.set k z, x.at', x.g⟩, 0) := by rw [← hPe, push_ok hb hk h2, hz]
          have hlen := hx220 _ (List.getElem_mem hk)
          obtain ⟨GA, hGA⟩ : ∃ G, σ.h.gen 20 = G := ⟨_, rfl⟩
          obtain ⟨GB, hGB⟩ : ∃ G, σ.h.gen 23 = G := ⟨_, rfl⟩
          simp -implicitDefEqProofs only [↓aP, aQ, ↓reduceIte, Nat.reduceEqDiff, Nat.reduceAdd, Nat.reduceSub, Nat.reduceMul, Nat.reduceLT, Nat.reduceLeDiff, reduceCtorEq, Nat.reduceBEq, forall_const, implies_true, exists_const, ne_eq, Int.reduceAdd, Int.reduceSub, Int.reduceMul, Int.reduceBEq, Int.reduceEq, Int.reduceLT, Int.reduceLE, Int.reduceToNat, Int.reduceNeg, Int.reduceBNe, c5, s2, s3, s5, g5, b5, s9, g9, b9, s11, g11, b11, s12, s13, g13, b13, s15, g15, b15, s50, s51, s52, g61, b61, encLs]
          refine shift (sub_cell (p := 23) (i := 0) (j := 0) 192 36 3 rfl (by exact Nat.succ_pos _) (by rfl) (by decide) (by decide)) ?_
          refine rangeB x.l.length (fun i σ => ∃ g, σ.slot 2 = vI k ∧ σ.slot 3 = vI cost ∧ σ.slot 19 = vI 0 ∧ σ.slot 20 = .c (.ptr 20 (GA + 1) 0 0) ∧ σ.h.gen 20 = GA + 1 ∧ σ.h.blk 20 = .box 28 3 [(encLs ⟨x.l.set k z, x.at', x.g⟩).map AC.s] ∧ σ.slot 23 = .c (.ptr 23 (GB + 1) 0 0) ∧ σ.h.gen 23 = GB + 1 ∧ σ.h.blk 23 = .box 28 3 [[.own 192 g, .s (.pv (.int .i64 x.at')), .s (.pv (.bool x.g))]] ∧ σ.slot 170 = vL 3 (x.l.map encLn) ∧ σ.slot 171 = vI x.l.length ∧ σ.slot 172 = vI i ∧ σ.h.gen 192 = g ∧ σ.h.blk 192 = .row 36 3 (((x.l.set k z).take i).map encLn)) ?_ ?_ ?_
          · simp -implicitDefEqProofs only [↓aP, aQ, ↓reduceIte, Nat.reduceEqDiff, Nat.reduceAdd, Nat.reduceSub, Nat.reduceMul, Nat.reduceLT, Nat.reduceLeDiff, reduceCtorEq, Nat.reduceBEq, forall_const, implies_true, exists_const, ne_eq, Int.reduceAdd, Int.reduceSub, Int.reduceMul, Int.reduceBEq, Int.reduceEq, Int.reduceLT, Int.reduceLE, Int.reduceToNat, Int.reduceNeg, Int.reduceBNe, encLs, s2, s3, s5, g5, b5, s9, g9, b9, s11, g11, b11, s12, s13, g13, b13, s15, g15, b15, s50, s51, s52, g61, b61, hGA, hGB]
            exact ⟨σ.h.gen 192 + 1, by simp⟩
          · rintro i m σ him hi hlt2 ⟨g, s2, s3, s19, s20, g20, b20, s23, g23, b23, s170, s171, s172, g192, b192⟩
            have hi2 : i < (x.l.set k z).length := by simpa using hi
            have e9 : (List.take i (x.l.set k z)).length ≤ 20 := by rw [List.length_take, List.length_set]; omega
            by_cases e : i = k
            case pos =>
              subst e
              simp -implicitDefEqProofs only [↓aP, aQ, ↓reduceIte, Nat.reduceEqDiff, Nat.reduceAdd, Nat.reduceSub, Nat.reduceMul, Nat.reduceLT, Nat.reduceLeDiff, reduceCtorEq, Nat.reduceBEq, forall_const, implies_true, exists_const, ne_eq, Int.reduceAdd, Int.reduceSub, Int.reduceMul, Int.reduceBEq, Int.reduceEq, Int.reduceLT, Int.reduceLE, Int.reduceToNat, Int.reduceNeg, Int.reduceBNe, hlt2, s2, s3, s19, s20, g20, b20, s23, g23, b23, s170, s171, s172, g192, b192, askIdx_map, hi, encLn]
              refine ⟨by omega, by omega, by omega, by omega, by omega, by omega, ?_⟩
              refine nextR hi him ⟨g + 1, ?_⟩
              simp -implicitDefEqProofs only [↓aP, aQ, ↓reduceIte, Nat.reduceEqDiff, Nat.reduceAdd, Nat.reduceSub, Nat.reduceMul, Nat.reduceLT, Nat.reduceLeDiff, reduceCtorEq, Nat.reduceBEq, forall_const, implies_true, exists_const, ne_eq, Int.reduceAdd, Int.reduceSub, Int.reduceMul, Int.reduceBEq, Int.reduceEq, Int.reduceLT, Int.reduceLE, Int.reduceToNat, Int.reduceNeg, Int.reduceBNe, s2, s3, s19, s20, g20, b20, s23, g23, b23, s170, s171, s172, g192, b192, take_snoc hi2, List.map_append, List.getElem_set_self, wrapS (show i < 4611686018427387904 by omega)]
              rw [hz]
              simp [encLn, encI]
            case neg =>
              have c6 : ((i : Int) == (k : Int)) = false := by rw [beq_eq_false_iff_ne]; omega
              simp -implicitDefEqProofs only [↓aP, aQ, ↓reduceIte, Nat.reduceEqDiff, Nat.reduceAdd, Nat.reduceSub, Nat.reduceMul, Nat.reduceLT, Nat.reduceLeDiff, reduceCtorEq, Nat.reduceBEq, forall_const, implies_true, exists_const, ne_eq, Int.reduceAdd, Int.reduceSub, Int.reduceMul, Int.reduceBEq, Int.reduceEq, Int.reduceLT, Int.reduceLE, Int.reduceToNat, Int.reduceNeg, Int.reduceBNe, hlt2, s2, s3, s19, s20, g20, b20, s23, g23, b23, s170, s171, s172, g192, b192, askIdx_map, hi, encLn, c6]
              refine ⟨by omega, by omega, ?_⟩
              refine nextR hi him ⟨g + 1, ?_⟩
              simp -implicitDefEqProofs only [↓aP, aQ, ↓reduceIte, Nat.reduceEqDiff, Nat.reduceAdd, Nat.reduceSub, Nat.reduceMul, Nat.reduceLT, Nat.reduceLeDiff, reduceCtorEq, Nat.reduceBEq, forall_const, implies_true, exists_const, ne_eq, Int.reduceAdd, Int.reduceSub, Int.reduceMul, Int.reduceBEq, Int.reduceEq, Int.reduceLT, Int.reduceLE, Int.reduceToNat, Int.reduceNeg, Int.reduceBNe, s2, s3, s19, s20, g20, b20, s23, g23, b23, s170, s171, s172, g192, b192, take_snoc hi2, List.map_append, encLn, List.getElem_set_ne (show k ≠ i from fun h => e h.symm), wrapS (show i < 4611686018427387904 by omega)]
          · rintro m σ hlt2 ⟨g, s2, s3, s19, s20, g20, b20, s23, g23, b23, s170, s171, s172, g192, b192⟩
            rw [show List.take x.l.length (x.l.set k z) = x.l.set k z from List.take_of_length_le (by simp)] at b192
            simp -implicitDefEqProofs only [↓aP, aQ, ↓reduceIte, Nat.reduceEqDiff, Nat.reduceAdd, Nat.reduceSub, Nat.reduceMul, Nat.reduceLT, Nat.reduceLeDiff, reduceCtorEq, Nat.reduceBEq, forall_const, implies_true, exists_const, ne_eq, Int.reduceAdd, Int.reduceSub, Int.reduceMul, Int.reduceBEq, Int.reduceEq, Int.reduceLT, Int.reduceLE, Int.reduceToNat, Int.reduceNeg, Int.reduceBNe, hlt2, s2, s3, s19, s20, g20, b20, s23, g23, b23, s170, s171, s172, g192, b192, encLs]
            have hR := rSame_spec ⟨x.l.set k z, x.at', x.g⟩ ⟨x.l.set k z, x.at', x.g⟩ hPs hPs
            rw [decide_eq_true rfl] at hR
            refine ask hR ?_
            simp -implicitDefEqProofs only [↓aP, aQ, ↓reduceIte, Nat.reduceEqDiff, Nat.reduceAdd, Nat.reduceSub, Nat.reduceMul, Nat.reduceLT, Nat.reduceLeDiff, reduceCtorEq, Nat.reduceBEq, forall_const, implies_true, exists_const, ne_eq, Int.reduceAdd, Int.reduceSub, Int.reduceMul, Int.reduceBEq, Int.reduceEq, Int.reduceLT, Int.reduceLE, Int.reduceToNat, Int.reduceNeg, Int.reduceBNe, s2, s3, s19, s20, g20, b20, s23, g23, b23, s170, s171, s172, g192, b192, encLs]
            refine ask awake_spec ?_
            simp -implicitDefEqProofs only [↓aP, aQ, ↓reduceIte, Nat.reduceEqDiff, Nat.reduceAdd, Nat.reduceSub, Nat.reduceMul, Nat.reduceLT, Nat.reduceLeDiff, reduceCtorEq, Nat.reduceBEq, forall_const, implies_true, exists_const, ne_eq, Int.reduceAdd, Int.reduceSub, Int.reduceMul, Int.reduceBEq, Int.reduceEq, Int.reduceLT, Int.reduceLE, Int.reduceToNat, Int.reduceNeg, Int.reduceBNe]
theorem opens_ln {H : Type} {enc : TypeId × Value → H} {w : World} {spare : Nat → Bool} {held : Bool} : Opens Try.prog enc w spare held 56 3 (fun ys => ∃ x : Ln, ys = encLn x) := by
  have h := opens_struct (enc := enc) (w := w) (spare := spare) (held := held) Try.underlying56 (by kernel_rfl) (.cons rfl (opens_int Try.underlying3 (by kernel_rfl)) (.cons rfl (opens_int Try.underlying3 (by kernel_rfl)) (.cons rfl (opens_slice Try.underlying22 (by kernel_rfl) (by decide) (opens_int Try.underlying3 (by kernel_rfl))) (.nil 3))))
  refine ⟨h.1, fun fuel cs x hx => ?_⟩
  obtain ⟨ys, ⟨_, _, rfl, ⟨n1, rfl, _⟩, _, _, rfl, ⟨n2, rfl, _⟩, _, _, rfl, ⟨els, rfl, he, _⟩, rfl⟩, h2, h3⟩ := h.2 _ _ _ hx
  obtain ⟨l, rfl⟩ := all_of_mem (f := encI) (fun y hy => by obtain ⟨n, e, _⟩ := he y hy; exact ⟨n, e⟩)
  exact ⟨_, ⟨⟨n1, n2, l⟩, rfl⟩, h2, h3⟩
theorem opens_ls {H : Type} {enc : TypeId × Value → H} {w : World} {spare : Nat → Bool} {held : Bool} : Opens Try.prog enc w spare held 25 3 (fun ys => ∃ x : Ls, ys = encLs x ∧ x.l.length ≤ maxLen) := by
  have h := opens_struct (enc := enc) (w := w) (spare := spare) (held := held) Try.underlying25 (by kernel_rfl) (.cons rfl (opens_slice Try.underlying23 (by kernel_rfl) (by decide) opens_ln) (.cons rfl (opens_int Try.underlying3 (by kernel_rfl)) (.cons rfl (opens_bool Try.underlying4 (by kernel_rfl)) (.nil 3))))
  refine ⟨h.1, fun fuel cs x hx => ?_⟩
  obtain ⟨ys, ⟨_, _, rfl, ⟨els, rfl, he, hm⟩, _, _, rfl, ⟨n2, rfl, _⟩, _, _, rfl, ⟨b, rfl⟩, rfl⟩, h2, h3⟩ := h.2 _ _ _ hx
  obtain ⟨l, rfl⟩ := all_of_mem (f := encLn) (fun y hy => he y hy)
  exact ⟨_, ⟨⟨l, n2, b⟩, rfl, by simpa using hm⟩, h2, h3⟩
set_option maxRecDepth 100000 in
theorem open_ls {H : Type} {enc : TypeId × Value → H} {w : World} {spare : Nat → Bool} {held : Bool} {r : Reach} {b0 : Nat} {v : Value} {d : DataW H} {p : List MemPlace} 
    (hv : Value.okWide Try.prog w r b0 25 v) (h : DataW.Trod enc Try.prog w 0 spare held 25 v d p) : ∃ x : Ls, RepT (RepS w fun _ => False) (.agg (encLs x)) v := by
  obtain ⟨ys, ⟨x, rfl, _⟩, h2⟩ := open_more opens_ls Try.underlying25 hv h
  exact ⟨x, h2⟩
theorem open_ns {H : Type} {enc : TypeId × Value → H} {w : World} {spare : Nat → Bool} {held : Bool} {r : Reach} {b0 : Nat} {v : Value} {d : DataW H} {p : List MemPlace} 
    (hv : Value.okWide Try.prog w r b0 22 v) (h : DataW.Trod enc Try.prog w 0 spare held 22 v d p) : ∃ l : List Int, RepT (RepS w fun _ => False) (rL 1 (l.map encI)) v := by
  obtain ⟨y, ⟨els, e1, e2, e3⟩, h2⟩ := open_one (opens_slice Try.underlying22 (by kernel_rfl) (by decide) (opens_int Try.underlying3 (by kernel_rfl))) (Go.Proofs.Ytfmbfgoofiojcaa.slice_cells Try.underlying22 hv) h
  simp only [List.cons.injEq, and_true] at e1
  subst e1
  obtain ⟨l, rfl⟩ := all_of_mem (f := encI) (fun y hy => by obtain ⟨n, e, _⟩ := e2 y hy; exact ⟨n, e⟩)
  exact ⟨l, h2⟩
theorem lanesPush_walk {w : World} (v0 : Value) (a0 : ∃ l : List Int, RepT (RepS w fun _ => False) (rL 1 (l.map encI)) v0) (v1 : Value) (a1 : ∃ x : Ls, RepT (RepS w fun _ => False) (.agg (encLs x)) v1) (a : Int) (ha : (Lit.int .i64 a).wf = true) (b : Int) (hb : (Lit.int .i64 b).wf = true) :
    Calls Try.prog 3 #[v0, v1, .int .i64 a, .int .i64 b] w fun e w' => e = .returned (.bool true) ∧ Below w.heap.size w w' := by
  obtain ⟨l, h0⟩ := a0
  obtain ⟨x, h1⟩ := a1
  exact (lawPush_spec l x a b).plain (us := [v0, v1, .int .i64 a, .int .i64 b]) (.cons h0 (.cons h1 (.cons (.pv rfl) (.cons (.pv rfl) .nil))))
end Go.Proofs.Ytfmbfgoofiojcaa
