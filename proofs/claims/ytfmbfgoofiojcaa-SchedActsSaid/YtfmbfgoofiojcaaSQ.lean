/- layer 6: the law SchedActs. -/
import Derived.Test.YtfmbfgoofiojcaaSP
import Derived.Test.YtfmbfgoofiojcaaS9
import Derived.Test.YtfmbfgoofiojcaaLC
import Derived.Test.YtfmbfgoofiojcaaSub
import Derived.Test.YtfmbfgoofiojcaaSL
import Derived.Test.YtfmbfgoofiojcaaSM
import Derived.Test.YtfmbfgoofiojcaaAm19
namespace Go.Proofs.Ytfmbfgoofiojcaa
open Go.RowKit Lk
set_option linter.unusedVariables false
set_option linter.unusedSimpArgs false
theorem sub_sim {σ : St} {p tp ep i j : Nat} {els : List (List AC)} {x : SC} (y : SC) (hb : σ.h.blk p = .box tp ep els) (hi : i < els.length) (hj : els[i][j]? = some (.s x)) (hs : Sim x y) :
    Sub σ ⟨σ.slot, σ.h.set p (σ.h.gen p) (.box tp ep (els.set i (els[i].set j (.s y))))⟩ := by
  intro O w0 n β a w r
  have hv : σ.h.view p = .mem false tp ep els := by unfold Hp.view; rw [hb]; rfl
  have hB := r.toRelH.blks p
  unfold RepB at hB
  rw [hv] at hB
  simp only at hB
  obtain ⟨h1, h2, ⟨h3, _⟩ | ⟨b, cap, cur, h3, h4, h5, h6⟩⟩ := hB
  · simp at h3
  obtain ⟨hjl, hje⟩ := List.getElem?_eq_some_iff.1 hj
  obtain ⟨k, hk, hset, hget⟩ := flat_set els i j (.s y) hi hjl
  rw [hj] at hget
  obtain ⟨u, hu, hzu⟩ := h5.get hget
  have t : Turn O σ.h β w w p (σ.h.gen p) (.box tp ep (els.set i (els[i].set j (.s y)))) (some b) (β p).2 :=
    ⟨Nat.le_refl _, rfl, rfl, rfl, fun _ _ _ => rfl, fun q hq => .inr ⟨by rw [hv]; rfl, by rw [h3]; exact hq⟩, .inr ⟨rfl, false, tp, ep, els, _, hv, rfl, by rw [← h3]⟩⟩
  refine ⟨_, t.rel r ?_⟩
  unfold RepB
  rw [Hp.view_at]
  simp only [LB.view]
  refine ⟨h1, fun x hx => ?_, .inr ⟨b, cap, cur, by rw [upd_at], h4, ?_, fun hr => by simp at hr⟩⟩
  · rcases List.mem_or_eq_of_mem_set hx with hx | rfl
    · exact h2 x hx
    · rw [List.length_set]; exact h2 _ (List.getElem_mem hi)
  · rw [hset, List.length_set]
    have c7 : RL (RepA σ.h β w (Mine O σ.h β)) (els.flatten.set k (.s y)) (cur.toList.take els.flatten.length) := by
      have hz : RepA σ.h β w (Mine O σ.h β) (.s y) u := Sim.rep hs hzu
      have := h5.set (x := .s y) (u := u) hz k
      have e1 : (cur.toList.take els.flatten.length).set k u = cur.toList.take els.flatten.length := by
        apply List.ext_getElem?
        intro q
        rw [List.getElem?_set]
        split
        · rename_i hq
          subst hq
          split
          · exact hu.symm
          · rename_i hlt
            rw [List.getElem?_eq_none (by omega)]
        · rfl
      rw [e1] at this
      exact this
    exact c7.mono (fun x u hx => t.repA r.toRelH hx)
structure Act6 where
  kind : Int
  n : Int
  j : Jb
def encA6 (a : Act6) : List SC := [.pv (.int .i64 a.kind), .pv (.int .i64 a.n), .pv (.int .i64 a.j.who), .pv (.int .i64 a.j.kind), .pv (.int .i64 a.j.page), .pv (.string a.j.data), .pv (.int .i64 a.j.tries)]
theorem new_no (d : Dv) (hd : rightV d = true) (hf : d.flight = []) {ws : List Int} (h : okNew ws = false) : Sc.newS d ws = (Sc.zS, 1) := by
  have e : newI ws = (⟨[], 0, false⟩, 1) := by unfold newI; rw [if_neg (by rw [h]; decide)]
  unfold Sc.newS
  rw [if_neg (by rw [hd, hf]; simp), if_pos (by rw [e]; decide), e]



set_option maxRecDepth 100000 in
set_option maxHeartbeats 4000000 in
theorem law_acts6 (ws : List Int) (acts : List Act6) (hw : ws.length ≤ 9223372036854775807) (hl : acts.length ≤ 9223372036854775807) : Spec Try.prog 10 [rL 1 (ws.map encI), rL 7 (acts.map encA6)] (.val (rB true)) := by
  refine spec_val mixed fn10 (by simp) ?_
  unfold ac10
  have cN : Spec Try.prog 26 [] (.val (.agg (encDv nV))) := newV_spec
  rw [encDv] at cN
  by_cases h20 : 20 < ws.length
  · simp -implicitDefEqProofs only [↓aP, aQ, ↓reduceIte, reduceCtorEq, forall_const, implies_true, exists_const, ne_eq, seval, List.length_map, show decide ((20 : Int) < (ws.length : Int)) = true by simp; omega]
    refine ask awake6_spec ?_
    simp -implicitDefEqProofs only [↓aP, aQ, ↓reduceIte, reduceCtorEq, forall_const, implies_true, exists_const, ne_eq, seval]
  by_cases h60 : 60 < acts.length
  · simp -implicitDefEqProofs only [↓aP, aQ, ↓reduceIte, reduceCtorEq, forall_const, implies_true, exists_const, ne_eq, seval, List.length_map, show decide ((20 : Int) < (ws.length : Int)) = false by simp; omega, show decide ((60 : Int) < (acts.length : Int)) = true by simp; omega]
    refine ask awake6_spec ?_
    simp -implicitDefEqProofs only [↓aP, aQ, ↓reduceIte, reduceCtorEq, forall_const, implies_true, exists_const, ne_eq, seval]
  have c0 := snewS_spec nV ws (by omega)
  have hno : okNew ws = false → Sc.newS nV ws = (Sc.zS, 1) := new_no nV Sc.nV_right rfl
  have hyes : okNew ws = true → (Sc.newS nV ws).1 = ⟨⟨ws.map fresh, 0, false⟩, List.replicate ws.length [], nV, []⟩ ∧ (Sc.newS nV ws).2 = 0 ∧ Sc.Rs (Sc.newS nV ws).1 := fun h => by
    obtain ⟨n1, n2⟩ := Sc.new_ok (d := nV) (ws := ws) Sc.nV_right rfl h
    exact ⟨by rw [n1], by rw [n1], n2⟩
  obtain ⟨sN, hs0⟩ : ∃ sN, sN = (Sc.newS nV ws).1 := ⟨_, rfl⟩
  obtain ⟨e0, he0⟩ : ∃ e0, e0 = (Sc.newS nV ws).2 := ⟨_, rfl⟩
  rw [encSi, ← hs0, ← he0] at c0
  simp only [encDv, encSd] at c0
  simp -implicitDefEqProofs only [↓aP, aQ, ↓reduceIte, reduceCtorEq, forall_const, implies_true, exists_const, ne_eq, seval, List.length_map, show decide ((20 : Int) < (ws.length : Int)) = false by simp; omega, show decide ((60 : Int) < (acts.length : Int)) = false by simp; omega]
  refine ask cN ?_
  simp -implicitDefEqProofs only [↓aP, aQ, ↓reduceIte, reduceCtorEq, forall_const, implies_true, exists_const, ne_eq, seval]
  refine ask c0 ?_
  simp -implicitDefEqProofs only [↓aP, aQ, ↓reduceIte, reduceCtorEq, forall_const, implies_true, exists_const, ne_eq, seval, List.length_map]
  refine shift (sub_cell (p := 7) (i := 0) (j := 0) 56 36 3 rfl (by exact Nat.succ_pos _) (by rfl) (by decide) (by decide)) ?_
  refine rangeB ws.length (fun i σ => ∃ g, σ.slot 0 = vL 1 (ws.map encI) ∧ σ.slot 1 = vL 7 (acts.map encA6) ∧ σ.slot 5 = .c (.ptr 5 1 0 0) ∧ σ.h.gen 5 = 1 ∧ σ.h.blk 5 = .box 68 9 [(encSd sN).map AC.s] ∧ σ.slot 6 = vI e0 ∧ σ.slot 7 = .c (.ptr 7 1 0 0) ∧ σ.h.gen 7 = 1 ∧ σ.h.blk 7 = .box 28 3 [[.own 56 g, .s (.pv (.int .i64 0)), .s (.pv (.bool false))]] ∧ σ.h.gen 56 = g ∧ σ.h.blk 56 = .row 36 3 (((ws.map fresh).take i).map encLn) ∧ σ.slot 45 = vL 1 (ws.map encI) ∧ σ.slot 46 = vI ws.length ∧ σ.slot 47 = vI i) ?_ ?_ ?_
  · simp -implicitDefEqProofs only [↓aP, aQ, ↓reduceIte, reduceCtorEq, forall_const, implies_true, exists_const, ne_eq, seval, encSd, List.take_zero, List.map_nil]
    exact ⟨1, rfl, rfl⟩
  · rintro i m σ him hi hlt ⟨g, s0, s1, s5, g5, b5, s6, s7, g7, b7, g56, b56, s45, s46, s47⟩
    have hi2 : i < (ws.map fresh).length := by rw [List.length_map]; exact hi
    have ew : (ws.map fresh)[i] = fresh ws[i] := List.getElem_map _
    have l1 : ((ws.map fresh).take i).length ≤ 1000 := by rw [List.length_take, List.length_map]; omega
    simp -implicitDefEqProofs only [↓aP, aQ, ↓reduceIte, reduceCtorEq, forall_const, implies_true, exists_const, ne_eq, seval, hlt, s0, s1, s5, g5, b5, s6, s7, g7, b7, g56, b56, s45, s46, s47, askIdx_map, hi, encI, List.length_map, wrapS (show i < 4611686018427387904 by omega)]
    refine ⟨by omega, by omega, ?_⟩
    refine nextR hi him ⟨g + 1, ?_⟩
    simp -implicitDefEqProofs only [↓aP, aQ, ↓reduceIte, reduceCtorEq, forall_const, implies_true, exists_const, ne_eq, seval, s0, s1, s5, g5, b5, s6, s7, g7, b7, g56, b56, s45, s46, s47, encSd, take_snoc hi2, ew, fresh, encLn, List.map_append, List.map_cons, List.map_nil]
  rintro m σ hlt ⟨g, s0, s1, s5, g5, b5, s6, s7, g7, b7, g56, b56, s45, s46, s47⟩
  rw [show ws.length = (ws.map fresh).length by rw [List.length_map], List.take_length] at b56
  have cR := rRight_spec ⟨ws.map fresh, 0, false⟩ ⟨by rw [List.length_map]; omega, fun y hy => by
    obtain ⟨z, _, rfl⟩ := List.mem_map.1 hy
    exact Nat.zero_lt_succ _⟩
  rw [right_new, encLs] at cR
  simp -implicitDefEqProofs only [↓aP, aQ, ↓reduceIte, reduceCtorEq, forall_const, implies_true, exists_const, ne_eq, seval, hlt, s0, s1, s5, g5, b5, s6, s7, g7, b7, g56, b56, s45, s46, s47, encSd, List.length_map]
  refine ask cR ?_
  cases hok : okNew ws
  · have hz := hno hok
    rw [hz] at hs0 he0
    subst hs0
    subst he0
    simp -implicitDefEqProofs only [↓aP, aQ, ↓reduceIte, reduceCtorEq, forall_const, implies_true, exists_const, ne_eq, seval, s0, s1, s5, g5, b5, s6, s7, g7, b7, g56, b56, s45, s46, s47, encSd, Sc.zS, List.map_nil]
    refine ask awake6_spec ?_
    simp -implicitDefEqProofs only [↓aP, aQ, ↓reduceIte, reduceCtorEq, forall_const, implies_true, exists_const, ne_eq, seval]
  obtain ⟨y1, y2, y3⟩ := hyes hok
  rw [← he0] at y2
  rw [← hs0] at y1 y3
  subst y2
  simp -implicitDefEqProofs only [↓aP, aQ, ↓reduceIte, reduceCtorEq, forall_const, implies_true, exists_const, ne_eq, seval, s0, s1, s5, g5, b5, s6, s7, g7, b7, g56, b56, s45, s46, s47, encSd, List.length_map]
  refine ⟨by omega, by omega, ?_⟩
  refine ask cN ?_
  simp -implicitDefEqProofs only [↓aP, aQ, ↓reduceIte, reduceCtorEq, forall_const, implies_true, exists_const, ne_eq, seval, s0, s1, s5, g5, b5, s6, s7, g7, b7, g56, b56, s45, s46, s47, encSd, bne_self_eq_false, List.length_map]
  refine ⟨by decide +kernel, ?_⟩
  obtain ⟨GA, hGA⟩ : ∃ n, σ.h.gen 10 = n := ⟨_, rfl⟩
  refine shift (sub_melt (p := 10) (tp := 78) (ep := 9) (els := [[.own 56 g, .s (.pv (.int .i64 0)), .s (.pv (.bool false)), .own 76 (σ.h.gen 76 + 1), .s (.sl 1 (nV.disk.sectors.map encS)), .s (.sl 2 (nV.disk.cache.map encWr)), .s (.pv (.int .i64 0)), .zc, .zc]]) (i := 0) (j := 0) (l := 56) (ty := 36) (e := 3) (g := g) (xs := (ws.map fresh).map encLn) (by simp -implicitDefEqProofs only [↓aP, aQ, ↓reduceIte, reduceCtorEq, forall_const, implies_true, exists_const, ne_eq, seval, s0, s1, s5, g5, b5, s6, s7, g7, b7, g56, b56, s45, s46, s47]) (by exact Nat.succ_pos _) (by rfl) (by simp -implicitDefEqProofs only [↓aP, aQ, ↓reduceIte, reduceCtorEq, forall_const, implies_true, exists_const, ne_eq, seval, s0, s1, s5, g5, b5, s6, s7, g7, b7, g56, b56, s45, s46, s47]) (by simp -implicitDefEqProofs only [↓aP, aQ, ↓reduceIte, reduceCtorEq, forall_const, implies_true, exists_const, ne_eq, seval, s0, s1, s5, g5, b5, s6, s7, g7, b7, g56, b56, s45, s46, s47]) (by decide)) ?_
  refine shift (sub_melt (p := 10) (tp := 78) (ep := 9) (els := [[.s (.sl 3 ((ws.map fresh).map encLn)), .s (.pv (.int .i64 0)), .s (.pv (.bool false)), .own 76 (σ.h.gen 76 + 1), .s (.sl 1 (nV.disk.sectors.map encS)), .s (.sl 2 (nV.disk.cache.map encWr)), .s (.pv (.int .i64 0)), .zc, .zc]]) (i := 0) (j := 3) (l := 76) (ty := 76) (e := 1) (g := σ.h.gen 76 + 1) (xs := List.replicate ws.length [.sl 1 []]) (by simp -implicitDefEqProofs only [↓aP, aQ, ↓reduceIte, reduceCtorEq, forall_const, implies_true, exists_const, ne_eq, seval, s0, s1, s5, g5, b5, s6, s7, g7, b7, g56, b56, s45, s46, s47]) (by exact Nat.succ_pos _) (by rfl) (by simp -implicitDefEqProofs only [↓aP, aQ, ↓reduceIte, reduceCtorEq, forall_const, implies_true, exists_const, ne_eq, seval, s0, s1, s5, g5, b5, s6, s7, g7, b7, g56, b56, s45, s46, s47]) (by simp -implicitDefEqProofs only [↓aP, aQ, ↓reduceIte, reduceCtorEq, forall_const, implies_true, exists_const, ne_eq, seval, s0, s1, s5, g5, b5, s6, s7, g7, b7, g56, b56, s45, s46, s47]) (by decide)) ?_
  refine shift (sub_sim (p := 10) (tp := 78) (ep := 9) (els := [[.s (.sl 3 ((ws.map fresh).map encLn)), .s (.pv (.int .i64 0)), .s (.pv (.bool false)), .s (.sl 1 (List.replicate ws.length [.sl 1 []])), .s (.sl 1 (nV.disk.sectors.map encS)), .s (.sl 2 (nV.disk.cache.map encWr)), .s (.pv (.int .i64 0)), .zc, .zc]]) (i := 0) (j := 3) (.sl 1 ((List.replicate ws.length ([] : List Jb)).map encJs)) (by simp -implicitDefEqProofs only [↓aP, aQ, ↓reduceIte, reduceCtorEq, forall_const, implies_true, exists_const, ne_eq, seval, s0, s1, s5, g5, b5, s6, s7, g7, b7, g56, b56, s45, s46, s47]) (by exact Nat.succ_pos _) (by rfl) (sim_rep _)) ?_
  refine shift (sub_cnil (p := 10) (tp := 78) (ep := 9) (els := [[.s (.sl 3 ((ws.map fresh).map encLn)), .s (.pv (.int .i64 0)), .s (.pv (.bool false)), .s (.sl 1 ((List.replicate ws.length ([] : List Jb)).map encJs)), .s (.sl 1 (nV.disk.sectors.map encS)), .s (.sl 2 (nV.disk.cache.map encWr)), .s (.pv (.int .i64 0)), .zc, .zc]]) (i := 0) (j := 7) 4 (by simp -implicitDefEqProofs only [↓aP, aQ, ↓reduceIte, reduceCtorEq, forall_const, implies_true, exists_const, ne_eq, seval, s0, s1, s5, g5, b5, s6, s7, g7, b7, g56, b56, s45, s46, s47]) (by exact Nat.succ_pos _) (by rfl) (by decide)) ?_
  refine shift (sub_cnil (p := 10) (tp := 78) (ep := 9) (els := [[.s (.sl 3 ((ws.map fresh).map encLn)), .s (.pv (.int .i64 0)), .s (.pv (.bool false)), .s (.sl 1 ((List.replicate ws.length ([] : List Jb)).map encJs)), .s (.sl 1 (nV.disk.sectors.map encS)), .s (.sl 2 (nV.disk.cache.map encWr)), .s (.pv (.int .i64 0)), .s (.sl 4 []), .zc]]) (i := 0) (j := 8) 5 (by simp -implicitDefEqProofs only [↓aP, aQ, ↓reduceIte, reduceCtorEq, forall_const, implies_true, exists_const, ne_eq, seval, s0, s1, s5, g5, b5, s6, s7, g7, b7, g56, b56, s45, s46, s47]) (by exact Nat.succ_pos _) (by rfl) (by decide)) ?_
  refine rangeB acts.length (fun i σ => ∃ s h, Sc.Rs s ∧ σ.slot 5 = .c (.ptr 5 1 0 0) ∧ σ.h.gen 5 = 1 ∧ σ.h.blk 5 = .box 68 9 [(encSd s).map AC.s] ∧ σ.slot 10 = .c (.ptr 10 h 0 0) ∧ σ.h.gen 10 = h ∧ σ.h.blk 10 = .box 78 9 [(encSd s).map AC.s] ∧ σ.slot 83 = vL 7 (acts.map encA6) ∧ σ.slot 84 = vI acts.length ∧ σ.slot 85 = vI i) ?_ ?_ ?_
  · subst y1
    refine ⟨_, GA + 1, y3, ?_⟩
    simp -implicitDefEqProofs only [↓aP, aQ, ↓reduceIte, reduceCtorEq, forall_const, implies_true, exists_const, ne_eq, seval, s0, s1, s5, g5, b5, s6, s7, g7, b7, g56, b56, s45, s46, s47, encSd, hGA, show nV.flight = [] from rfl, show nV.next = 0 from rfl, List.map_nil]
    all_goals (trace_state; sorry)
  · clear s0 s1 s5 g5 b5 s6 s7 g7 b7 g56 b56 s45 s46 s47
    clear hlt hGA
    rintro i m σ him hi hlt ⟨s, h, hr, s5, g5, b5, s10, g10, b10, s83, s84, s85⟩
    have wi := wrapS (show i < 4611686018427387904 by omega)
    have kn : ∀ x : Int, acts[i].kind ≠ x → (acts[i].kind == x) = false := fun x h => beq_eq_false_iff_ne.2 h
    by_cases hd : 100 < acts[i].j.data.size
    · simp -implicitDefEqProofs only [↓aP, aQ, ↓reduceIte, reduceCtorEq, forall_const, implies_true, exists_const, ne_eq, seval, hlt, s5, g5, b5, s10, g10, b10, s83, s84, s85, askIdx_map, hi, encA6, show decide ((100 : Int) < (acts[i].j.data.size : Int)) = true by simp; omega]
      refine ask awake6_spec ?_
      simp -implicitDefEqProofs only [↓aP, aQ, ↓reduceIte, reduceCtorEq, forall_const, implies_true, exists_const, ne_eq, seval]
    have hd' : decide ((100 : Int) < (acts[i].j.data.size : Int)) = false := by simp; omega
    by_cases k0 : acts[i].kind = 0
    · have c1 := sask_spec s acts[i].j (rs_shs2 hr)
      have c2 := rAsk6_spec s acts[i].j hr
      have ha := Sc.rs_ask hr acts[i].j
      rw [encSi] at c1 c2
      generalize (Sc.askS s acts[i].j).1 = t at c1 c2 ha
      generalize (Sc.askS s acts[i].j).2 = e at c1 c2
      have c7 := ref6_spec t ha
      have c8 := rSame6_spec t ha
      have c9 := sright_spec t (rs_shs2 ha)
      rw [Sc.rs_iff.2 ha] at c9
      simp only [encSd, encJb] at c1 c2 c7 c8 c9
      simp -implicitDefEqProofs only [↓aP, aQ, ↓reduceIte, reduceCtorEq, forall_const, implies_true, exists_const, ne_eq, seval, hlt, s5, g5, b5, s10, g10, b10, s83, s84, s85, askIdx_map, hi, encA6, hd', k0, encSd]
      refine ask c1 ?_
      simp -implicitDefEqProofs only [↓aP, aQ, ↓reduceIte, reduceCtorEq, forall_const, implies_true, exists_const, ne_eq, seval, s5, g5, b5, s10, g10, b10, s83, s84, s85, encSd]
      refine ask c2 ?_
      simp -implicitDefEqProofs only [↓aP, aQ, ↓reduceIte, reduceCtorEq, forall_const, implies_true, exists_const, ne_eq, seval, s5, g5, b5, s10, g10, b10, s83, s84, s85, encSd, bne_self_eq_false]
      refine ⟨by decide +kernel, ?_⟩
      refine ask c7 ?_
      simp -implicitDefEqProofs only [↓aP, aQ, ↓reduceIte, reduceCtorEq, forall_const, implies_true, exists_const, ne_eq, seval, s5, g5, b5, s10, g10, b10, s83, s84, s85, encSd]
      refine ask c8 ?_
      simp -implicitDefEqProofs only [↓aP, aQ, ↓reduceIte, reduceCtorEq, forall_const, implies_true, exists_const, ne_eq, seval, s5, g5, b5, s10, g10, b10, s83, s84, s85, encSd]
      refine ask c9 ?_
      simp -implicitDefEqProofs only [↓aP, aQ, ↓reduceIte, reduceCtorEq, forall_const, implies_true, exists_const, ne_eq, seval, s5, g5, b5, s10, g10, b10, s83, s84, s85, encSd, wi]
      refine nextR hi him ⟨t, h, ha, ?_⟩
      simp -implicitDefEqProofs only [↓aP, aQ, ↓reduceIte, reduceCtorEq, forall_const, implies_true, exists_const, ne_eq, seval, s5, g5, b5, s10, g10, b10, s83, s84, s85, encSd]
    by_cases k1 : acts[i].kind = 1
    · have c1 := spump_spec s (rs_shs2 hr)
      have c2 := rPump6_spec s hr
      have ha := Sc.rs_pump hr
      generalize Sc.pumpS s = t at c1 c2 ha
      have c7 := ref6_spec t ha
      have c8 := rSame6_spec t ha
      have c9 := sright_spec t (rs_shs2 ha)
      rw [Sc.rs_iff.2 ha] at c9
      simp only [encSd] at c1 c2 c7 c8 c9
      simp -implicitDefEqProofs only [↓aP, aQ, ↓reduceIte, reduceCtorEq, forall_const, implies_true, exists_const, ne_eq, seval, hlt, s5, g5, b5, s10, g10, b10, s83, s84, s85, askIdx_map, hi, encA6, hd', k1, show ((1 : Int) == 0) = false by decide, encSd]
      refine ask c1 ?_
      simp -implicitDefEqProofs only [↓aP, aQ, ↓reduceIte, reduceCtorEq, forall_const, implies_true, exists_const, ne_eq, seval, s5, g5, b5, s10, g10, b10, s83, s84, s85, encSd]
      refine ask c2 ?_
      simp -implicitDefEqProofs only [↓aP, aQ, ↓reduceIte, reduceCtorEq, forall_const, implies_true, exists_const, ne_eq, seval, s5, g5, b5, s10, g10, b10, s83, s84, s85, encSd]
      refine ⟨by decide +kernel, ?_⟩
      refine ask c7 ?_
      simp -implicitDefEqProofs only [↓aP, aQ, ↓reduceIte, reduceCtorEq, forall_const, implies_true, exists_const, ne_eq, seval, s5, g5, b5, s10, g10, b10, s83, s84, s85, encSd]
      refine ask c8 ?_
      simp -implicitDefEqProofs only [↓aP, aQ, ↓reduceIte, reduceCtorEq, forall_const, implies_true, exists_const, ne_eq, seval, s5, g5, b5, s10, g10, b10, s83, s84, s85, encSd]
      refine ask c9 ?_
      simp -implicitDefEqProofs only [↓aP, aQ, ↓reduceIte, reduceCtorEq, forall_const, implies_true, exists_const, ne_eq, seval, s5, g5, b5, s10, g10, b10, s83, s84, s85, encSd, wi]
      refine nextR hi him ⟨t, h, ha, ?_⟩
      simp -implicitDefEqProofs only [↓aP, aQ, ↓reduceIte, reduceCtorEq, forall_const, implies_true, exists_const, ne_eq, seval, s5, g5, b5, s10, g10, b10, s83, s84, s85, encSd]
    by_cases k2 : acts[i].kind = 2
    · have c1 := sdone_spec s acts[i].n false (rs_shs2 hr)
      have c2 := rDone6_spec s acts[i].n false hr
      have ha := Sc.rs_done hr acts[i].n false
      rw [encDn] at c1 c2
      generalize (Sc.doneS s acts[i].n false).1 = t at c1 c2 ha
      generalize (Sc.doneS s acts[i].n false).2.1 = j at c1 c2
      generalize (Sc.doneS s acts[i].n false).2.2.1 = e at c1 c2
      generalize (Sc.doneS s acts[i].n false).2.2.2 = T at c1 c2
      have c7 := ref6_spec t ha
      have c8 := rSame6_spec t ha
      have c9 := sright_spec t (rs_shs2 ha)
      rw [Sc.rs_iff.2 ha] at c9
      simp only [encSd, encJb] at c1 c2 c7 c8 c9
      simp -implicitDefEqProofs only [↓aP, aQ, ↓reduceIte, reduceCtorEq, forall_const, implies_true, exists_const, ne_eq, seval, hlt, s5, g5, b5, s10, g10, b10, s83, s84, s85, askIdx_map, hi, encA6, hd', k2, show ((2 : Int) == 0) = false by decide, show ((2 : Int) == 1) = false by decide, show ((2 : Int) == 3) = false by decide, encSd]
      refine ask c1 ?_
      simp -implicitDefEqProofs only [↓aP, aQ, ↓reduceIte, reduceCtorEq, forall_const, implies_true, exists_const, ne_eq, seval, s5, g5, b5, s10, g10, b10, s83, s84, s85, encSd]
      refine ask c2 ?_
      simp -implicitDefEqProofs only [↓aP, aQ, ↓reduceIte, reduceCtorEq, forall_const, implies_true, exists_const, ne_eq, seval, s5, g5, b5, s10, g10, b10, s83, s84, s85, encSd]
      refine askEq (eq_rjb j) ?_
      simp -implicitDefEqProofs only [↓aP, aQ, ↓reduceIte, reduceCtorEq, forall_const, implies_true, exists_const, ne_eq, seval, s5, g5, b5, s10, g10, b10, s83, s84, s85, encSd, bne_self_eq_false]
      refine ⟨by decide +kernel, ?_⟩
      refine ask c7 ?_
      simp -implicitDefEqProofs only [↓aP, aQ, ↓reduceIte, reduceCtorEq, forall_const, implies_true, exists_const, ne_eq, seval, s5, g5, b5, s10, g10, b10, s83, s84, s85, encSd]
      refine ask c8 ?_
      simp -implicitDefEqProofs only [↓aP, aQ, ↓reduceIte, reduceCtorEq, forall_const, implies_true, exists_const, ne_eq, seval, s5, g5, b5, s10, g10, b10, s83, s84, s85, encSd]
      refine ask c9 ?_
      simp -implicitDefEqProofs only [↓aP, aQ, ↓reduceIte, reduceCtorEq, forall_const, implies_true, exists_const, ne_eq, seval, s5, g5, b5, s10, g10, b10, s83, s84, s85, encSd, wi]
      refine nextR hi him ⟨t, h, ha, ?_⟩
      simp -implicitDefEqProofs only [↓aP, aQ, ↓reduceIte, reduceCtorEq, forall_const, implies_true, exists_const, ne_eq, seval, s5, g5, b5, s10, g10, b10, s83, s84, s85, encSd]
    by_cases k3 : acts[i].kind = 3
    · have c1 := sdone_spec s acts[i].n true (rs_shs2 hr)
      have c2 := rDone6_spec s acts[i].n true hr
      have ha := Sc.rs_done hr acts[i].n true
      rw [encDn] at c1 c2
      generalize (Sc.doneS s acts[i].n true).1 = t at c1 c2 ha
      generalize (Sc.doneS s acts[i].n true).2.1 = j at c1 c2
      generalize (Sc.doneS s acts[i].n true).2.2.1 = e at c1 c2
      generalize (Sc.doneS s acts[i].n true).2.2.2 = T at c1 c2
      have c7 := ref6_spec t ha
      have c8 := rSame6_spec t ha
      have c9 := sright_spec t (rs_shs2 ha)
      rw [Sc.rs_iff.2 ha] at c9
      simp only [encSd, encJb] at c1 c2 c7 c8 c9
      simp -implicitDefEqProofs only [↓aP, aQ, ↓reduceIte, reduceCtorEq, forall_const, implies_true, exists_const, ne_eq, seval, hlt, s5, g5, b5, s10, g10, b10, s83, s84, s85, askIdx_map, hi, encA6, hd', k3, show ((3 : Int) == 0) = false by decide, show ((3 : Int) == 1) = false by decide, show ((3 : Int) == 2) = false by decide, encSd]
      refine ask c1 ?_
      simp -implicitDefEqProofs only [↓aP, aQ, ↓reduceIte, reduceCtorEq, forall_const, implies_true, exists_const, ne_eq, seval, s5, g5, b5, s10, g10, b10, s83, s84, s85, encSd]
      refine ask c2 ?_
      simp -implicitDefEqProofs only [↓aP, aQ, ↓reduceIte, reduceCtorEq, forall_const, implies_true, exists_const, ne_eq, seval, s5, g5, b5, s10, g10, b10, s83, s84, s85, encSd]
      refine askEq (eq_rjb j) ?_
      simp -implicitDefEqProofs only [↓aP, aQ, ↓reduceIte, reduceCtorEq, forall_const, implies_true, exists_const, ne_eq, seval, s5, g5, b5, s10, g10, b10, s83, s84, s85, encSd, bne_self_eq_false]
      refine ⟨by decide +kernel, ?_⟩
      refine ask c7 ?_
      simp -implicitDefEqProofs only [↓aP, aQ, ↓reduceIte, reduceCtorEq, forall_const, implies_true, exists_const, ne_eq, seval, s5, g5, b5, s10, g10, b10, s83, s84, s85, encSd]
      refine ask c8 ?_
      simp -implicitDefEqProofs only [↓aP, aQ, ↓reduceIte, reduceCtorEq, forall_const, implies_true, exists_const, ne_eq, seval, s5, g5, b5, s10, g10, b10, s83, s84, s85, encSd]
      refine ask c9 ?_
      simp -implicitDefEqProofs only [↓aP, aQ, ↓reduceIte, reduceCtorEq, forall_const, implies_true, exists_const, ne_eq, seval, s5, g5, b5, s10, g10, b10, s83, s84, s85, encSd, wi]
      refine nextR hi him ⟨t, h, ha, ?_⟩
      simp -implicitDefEqProofs only [↓aP, aQ, ↓reduceIte, reduceCtorEq, forall_const, implies_true, exists_const, ne_eq, seval, s5, g5, b5, s10, g10, b10, s83, s84, s85, encSd]
    by_cases k4 : acts[i].kind = 4
    · obtain ⟨K, hK⟩ : ∃ K : Nat, min (max acts[i].n 0) 200 = (K : Int) := ⟨(min (max acts[i].n 0) 200).toNat, by omega⟩
      have hK2 : K ≤ 200 := by omega
      simp -implicitDefEqProofs only [↓aP, aQ, ↓reduceIte, reduceCtorEq, forall_const, implies_true, exists_const, ne_eq, seval, hlt, s5, g5, b5, s10, g10, b10, s83, s84, s85, askIdx_map, hi, encA6, hd', k4, show ((4 : Int) == 0) = false by decide, show ((4 : Int) == 1) = false by decide, show ((4 : Int) == 2) = false by decide, show ((4 : Int) == 3) = false by decide, hK]
      refine shift (sub_slot (s := 25) 178 3 1 (by simp -implicitDefEqProofs only [↓aP, aQ, ↓reduceIte, reduceCtorEq, forall_const, implies_true, exists_const, ne_eq, seval]) (by decide)) ?_
      refine rangeB K (fun q σ => ∃ g, σ.slot 5 = .c (.ptr 5 1 0 0) ∧ σ.h.gen 5 = 1 ∧ σ.h.blk 5 = .box 68 9 [(encSd s).map AC.s] ∧ σ.slot 10 = .c (.ptr 10 h 0 0) ∧ σ.h.gen 10 = h ∧ σ.h.blk 10 = .box 78 9 [(encSd s).map AC.s] ∧ σ.slot 83 = vL 7 (acts.map encA6) ∧ σ.slot 84 = vI acts.length ∧ σ.slot 85 = vI i ∧ σ.slot 25 = .c (.own 178 g) ∧ σ.h.gen 178 = g ∧ σ.h.blk 178 = .row 3 1 (((List.range q).map (fun x : Nat => (x : Int))).map encI) ∧ σ.slot 171 = vI K ∧ σ.slot 172 = vI q) ?_ ?_ ?_
      · refine ⟨σ.h.gen 178 + 1, ?_⟩
        simp -implicitDefEqProofs only [↓aP, aQ, ↓reduceIte, reduceCtorEq, forall_const, implies_true, exists_const, ne_eq, seval, s5, g5, b5, s10, g10, b10, s83, s84, s85, encSd, List.range_zero, List.map_nil]
      · clear s5 g5 b5 s10 g10 b10 s83 s84 s85
        rintro q m2 σ hqm hq hlt2 ⟨g, s5, g5, b5, s10, g10, b10, s83, s84, s85, s25, g178, b178, s171, s172⟩
        simp -implicitDefEqProofs only [↓aP, aQ, ↓reduceIte, reduceCtorEq, forall_const, implies_true, exists_const, ne_eq, seval, hlt2, s5, g5, b5, s10, g10, b10, s83, s84, s85, s25, g178, b178, s171, s172, List.length_map, List.length_range, encI, wrapS (show q < 4611686018427387904 by omega)]
        refine ⟨by omega, by omega, ?_⟩
        refine nextR hq hqm ⟨g + 1, ?_⟩
        simp -implicitDefEqProofs only [↓aP, aQ, ↓reduceIte, reduceCtorEq, forall_const, implies_true, exists_const, ne_eq, seval, s5, g5, b5, s10, g10, b10, s83, s84, s85, s25, g178, b178, s171, s172, encSd, List.range_succ, List.map_append, List.map_cons, List.map_nil, encI]
      · clear s5 g5 b5 s10 g10 b10 s83 s84 s85
        rintro m2 σ hlt2 ⟨g, s5, g5, b5, s10, g10, b10, s83, s84, s85, s25, g178, b178, s171, s172⟩
        have hkl : ((List.range K).map (fun x : Nat => (x : Int))).length < 4611686018427387904 := by rw [List.length_map, List.length_range]; omega
        have c1 := scrash_spec s ((List.range K).map (fun x : Nat => (x : Int))) hr hkl
        have c2 := rCrash6_spec s ((List.range K).map (fun x : Nat => (x : Int))) hr hkl
        have ha := (Sc.rs_crash hr ((List.range K).map (fun x : Nat => (x : Int)))).1
        generalize Sc.crashS s ((List.range K).map (fun x : Nat => (x : Int))) = t at c1 c2 ha
        generalize (List.range K).map (fun x : Nat => (x : Int)) = L at c1 c2 b178
        have c7 := ref6_spec t ha
        have c8 := rSame6_spec t ha
        have c9 := sright_spec t (rs_shs2 ha)
        rw [Sc.rs_iff.2 ha] at c9
        simp only [encSd] at c1 c2 c7 c8 c9
        simp -implicitDefEqProofs only [↓aP, aQ, ↓reduceIte, reduceCtorEq, forall_const, implies_true, exists_const, ne_eq, seval, hlt2, s5, g5, b5, s10, g10, b10, s83, s84, s85, s25, g178, b178, s171, s172, encSd]
        refine ask c1 ?_
        simp -implicitDefEqProofs only [↓aP, aQ, ↓reduceIte, reduceCtorEq, forall_const, implies_true, exists_const, ne_eq, seval, s5, g5, b5, s10, g10, b10, s83, s84, s85, s25, g178, b178, s171, s172, encSd]
        refine ask c2 ?_
        simp -implicitDefEqProofs only [↓aP, aQ, ↓reduceIte, reduceCtorEq, forall_const, implies_true, exists_const, ne_eq, seval, s5, g5, b5, s10, g10, b10, s83, s84, s85, s25, g178, b178, s171, s172, encSd]
        refine ⟨by decide +kernel, ?_⟩
        refine ask c7 ?_
        simp -implicitDefEqProofs only [↓aP, aQ, ↓reduceIte, reduceCtorEq, forall_const, implies_true, exists_const, ne_eq, seval, s5, g5, b5, s10, g10, b10, s83, s84, s85, s25, g178, b178, s171, s172, encSd]
        refine ask c8 ?_
        simp -implicitDefEqProofs only [↓aP, aQ, ↓reduceIte, reduceCtorEq, forall_const, implies_true, exists_const, ne_eq, seval, s5, g5, b5, s10, g10, b10, s83, s84, s85, s25, g178, b178, s171, s172, encSd]
        refine ask c9 ?_
        simp -implicitDefEqProofs only [↓aP, aQ, ↓reduceIte, reduceCtorEq, forall_const, implies_true, exists_const, ne_eq, seval, s5, g5, b5, s10, g10, b10, s83, s84, s85, s25, g178, b178, s171, s172, encSd, wi]
        refine nextR hi him ⟨t, h, ha, ?_⟩
        simp -implicitDefEqProofs only [↓aP, aQ, ↓reduceIte, reduceCtorEq, forall_const, implies_true, exists_const, ne_eq, seval, s5, g5, b5, s10, g10, b10, s83, s84, s85, s25, g178, b178, s171, s172, encSd]
    obtain ⟨t, ht⟩ : ∃ t, t = s := ⟨_, rfl⟩
    subst ht
    have ha := hr
    have c7 := ref6_spec t ha
    have c8 := rSame6_spec t ha
    have c9 := sright_spec t (rs_shs2 ha)
    rw [Sc.rs_iff.2 ha] at c9
    simp only [encSd] at c7 c8 c9
    simp -implicitDefEqProofs only [↓aP, aQ, ↓reduceIte, reduceCtorEq, forall_const, implies_true, exists_const, ne_eq, seval, hlt, s5, g5, b5, s10, g10, b10, s83, s84, s85, askIdx_map, hi, encA6, hd', kn 0 k0, kn 1 k1, kn 2 k2, kn 3 k3, kn 4 k4, encSd]
    refine ask c7 ?_
    simp -implicitDefEqProofs only [↓aP, aQ, ↓reduceIte, reduceCtorEq, forall_const, implies_true, exists_const, ne_eq, seval, s5, g5, b5, s10, g10, b10, s83, s84, s85, encSd]
    refine ask c8 ?_
    simp -implicitDefEqProofs only [↓aP, aQ, ↓reduceIte, reduceCtorEq, forall_const, implies_true, exists_const, ne_eq, seval, s5, g5, b5, s10, g10, b10, s83, s84, s85, encSd]
    refine ask c9 ?_
    simp -implicitDefEqProofs only [↓aP, aQ, ↓reduceIte, reduceCtorEq, forall_const, implies_true, exists_const, ne_eq, seval, s5, g5, b5, s10, g10, b10, s83, s84, s85, encSd, wi]
    refine nextR hi him ⟨t, h, ha, ?_⟩
    simp -implicitDefEqProofs only [↓aP, aQ, ↓reduceIte, reduceCtorEq, forall_const, implies_true, exists_const, ne_eq, seval, s5, g5, b5, s10, g10, b10, s83, s84, s85, encSd]
  · rintro m σ hlt ⟨s, h, hr, s5, g5, b5, s10, g10, b10, s83, s84, s85⟩
    simp -implicitDefEqProofs only [↓aP, aQ, ↓reduceIte, reduceCtorEq, forall_const, implies_true, exists_const, ne_eq, seval, hlt, s5, g5, b5, s10, g10, b10, s83, s84, s85]
    refine ask awake6_spec ?_
    simp -implicitDefEqProofs only [↓aP, aQ, ↓reduceIte, reduceCtorEq, forall_const, implies_true, exists_const, ne_eq, seval]
end Go.Proofs.Ytfmbfgoofiojcaa
namespace Go.Proofs.Ytfmbfgoofiojcaa
open Go.RowKit Go.ChangeShapes Go.WideShapes
set_option linter.unusedVariables false
theorem opens_a6 {H : Type} {enc : TypeId × Value → H} {w : World} {spare : Nat → Bool} {held : Bool} : Opens Try.prog enc w spare held 82 7 (fun ys => ∃ x : Act6, ys = encA6 x) := by
  have hj : Opens Try.prog enc w spare held 80 5 (fun ys => ∃ x : Jb, ys = encJb x) := by
    have h := opens_struct (enc := enc) (w := w) (spare := spare) (held := held) Try.underlying80 (by kernel_rfl) (.cons rfl (opens_int Try.underlying3 (by kernel_rfl)) (.cons rfl (opens_int Try.underlying3 (by kernel_rfl)) (.cons rfl (opens_int Try.underlying3 (by kernel_rfl)) (.cons rfl (opens_str Try.underlying9 (by kernel_rfl)) (.cons rfl (opens_int Try.underlying3 (by kernel_rfl)) (.nil _))))))
    refine ⟨h.1, fun fuel cs x hx => ?_⟩
    obtain ⟨ys, ⟨_, _, rfl, ⟨n1, rfl, _⟩, _, _, rfl, ⟨n2, rfl, _⟩, _, _, rfl, ⟨n3, rfl, _⟩, _, _, rfl, ⟨s, rfl, _⟩, _, _, rfl, ⟨n4, rfl, _⟩, rfl⟩, h2, h3⟩ := h.2 _ _ _ hx
    exact ⟨_, ⟨⟨n1, n2, n3, s, n4⟩, rfl⟩, h2, h3⟩
  have h := opens_struct (enc := enc) (w := w) (spare := spare) (held := held) Try.underlying82 (by kernel_rfl) (.cons rfl (opens_int Try.underlying3 (by kernel_rfl)) (.cons rfl (opens_int Try.underlying3 (by kernel_rfl)) (.cons rfl hj (.nil _))))
  refine ⟨h.1, fun fuel cs x hx => ?_⟩
  obtain ⟨ys, ⟨_, _, rfl, ⟨n1, rfl, _⟩, _, _, rfl, ⟨n2, rfl, _⟩, _, _, rfl, ⟨j, rfl⟩, rfl⟩, h2, h3⟩ := h.2 _ _ _ hx
  exact ⟨_, ⟨⟨n1, n2, j⟩, rfl⟩, h2, h3⟩
set_option maxRecDepth 100000 in
theorem open_a6 {H : Type} {enc : TypeId × Value → H} {w : World} {spare : Nat → Bool} {held : Bool} {r : Reach} {b0 : Nat} {v : Value} {d : DataW H} {p : List MemPlace} 
    (hv : Value.okWide Try.prog w r b0 57 v) (h : DataW.Trod enc Try.prog w 0 spare held 57 v d p) : ∃ A : List Act6, A.length ≤ maxLen ∧ RepT (RepS w fun _ => False) (rL 7 (A.map encA6)) v := by
  obtain ⟨y, ⟨els, e1, e2, e3⟩, h2⟩ := open_one (opens_slice Try.underlying57 (by kernel_rfl) (by decide) opens_a6) (slice_cells Try.underlying57 hv) h
  simp only [List.cons.injEq, and_true] at e1
  subst e1
  obtain ⟨A, rfl⟩ := all_of_mem (f := encA6) (fun y hy => e2 y hy)
  exact ⟨A, by simpa using e3, h2⟩
set_option maxRecDepth 100000 in
theorem open_i6 {H : Type} {enc : TypeId × Value → H} {w : World} {spare : Nat → Bool} {held : Bool} {r : Reach} {b0 : Nat} {v : Value} {d : DataW H} {p : List MemPlace} 
    (hv : Value.okWide Try.prog w r b0 22 v) (h : DataW.Trod enc Try.prog w 0 spare held 22 v d p) : ∃ A : List Int, A.length ≤ maxLen ∧ RepT (RepS w fun _ => False) (rL 1 (A.map encI)) v := by
  obtain ⟨y, ⟨els, e1, e2, e3⟩, h2⟩ := open_one (opens_slice Try.underlying22 (by kernel_rfl) (by decide) (opens_int Try.underlying3 (by kernel_rfl))) (slice_cells Try.underlying22 hv) h
  simp only [List.cons.injEq, and_true] at e1
  subst e1
  obtain ⟨A, rfl⟩ := all_of_mem (f := encI) (fun y hy => by obtain ⟨n, hn, _⟩ := e2 y hy; exact ⟨n, hn⟩)
  exact ⟨A, by simpa using e3, h2⟩
theorem schedActs_walk {w : World} (v0 : Value) (a0 : ∃ A : List Int, A.length ≤ maxLen ∧ RepT (RepS w fun _ => False) (rL 1 (A.map encI)) v0) (v1 : Value) (a1 : ∃ A : List Act6, A.length ≤ maxLen ∧ RepT (RepS w fun _ => False) (rL 7 (A.map encA6)) v1) :
    Calls Try.prog 10 #[v0, v1] w fun e w' => e = .returned (.bool true) ∧ Below w.heap.size w w' := by
  obtain ⟨A, hA, h0⟩ := a0
  obtain ⟨B, hB, h1⟩ := a1
  exact (law_acts6 A B (by unfold maxLen at hA; omega) (by unfold maxLen at hB; omega)).plain (us := [v0, v1]) (.cons h0 (.cons h1 .nil))
end Go.Proofs.Ytfmbfgoofiojcaa
