/- layer 21: the law HistoryChecks: its walk. -/
import Derived.Test.YtbpipdgkkdifgaaH11
namespace Go.Proofs.Ytbpipdgkkdifgaa
open Go.RowKit Ok Ss Hi
set_option linter.unusedVariables false
set_option linter.unusedSimpArgs false
theorem fields_re : Try.prog.underlying 43 = some (.struct (Try.prog.fieldsOf 43)) := by kernel_rfl
theorem held_re : Try.prog.stoodInHeld 43 = false := by kernel_rfl
set_option maxRecDepth 100000 in
theorem eq_re (x : Ev) : EqRun Try.prog 43 [.int .i64 x.who, .int .i64 x.op.kind, .int .i64 x.op.id, .string x.op.body, .int .i64 x.r.e, .int .i64 x.r.p.id, .int .i64 x.r.p.ver, .string x.r.p.body, .int .i64 x.began, .int .i64 x.done, .int .i64 x.ended]
    [.int .i64 x.who, .int .i64 x.op.kind, .int .i64 x.op.id, .string x.op.body, .int .i64 x.r.e, .int .i64 x.r.p.id, .int .i64 x.r.p.ver, .string x.r.p.body, .int .i64 x.began, .int .i64 x.done, .int .i64 x.ended] true := by
  intro w
  rw [run_eql_struct, run_equalIn_agg w 9999 _ _ _ fields_re held_re]
  go_simp
theorem goM_len : ∀ {l : List Ev} {m : List Pg} {i : Nat}, (goM m i l).1.length ≤ m.length + l.length
  | [], m, i => by simp [goM]
  | e :: es, m, i => by
    rw [goM_cons]
    split
    · have := goM_len (l := es) (m := m) (i := i + 1); simp only [List.length_cons]; omega
    split
    · have := goM_len (l := es) (m := (doM m e.op).1) (i := i + 1)
      have := doM_len (l := m) (o := e.op)
      simp only [List.length_cons]; omega
    · simp
theorem check_len {m : List Pg} {l : List Ev} : (checkM m l).1.length ≤ m.length + l.length := by
  unfold checkM
  split
  · simp
  split
  · simp
  split
  · simp
  · have := goM_len (l := sortD l) (m := m) (i := 0)
    rw [sortD_len] at this
    exact this

set_option maxHeartbeats 1000000 in
theorem lawChecks_spec (m : List Pg) (l : List Ev) (hm : m.length ≤ 9223372036854775807) (hl : l.length ≤ 9223372036854775807) : Spec Try.prog 3 [.agg (encMap m), rL 11 (l.map encEv)] (.val (rB true)) := by
  refine spec_val mixed fn3 (by simp) ?_
  unfold ac3
  simp -implicitDefEqProofs only [↓aP, aQ, ↓reduceIte, Nat.reduceEqDiff, Nat.reduceAdd, Nat.reduceSub, Nat.reduceMul, Nat.reduceLT, Nat.reduceLeDiff, reduceCtorEq, Nat.reduceBEq, forall_const, implies_true, exists_const, ne_eq, Int.reduceAdd, Int.reduceSub, Int.reduceMul, Int.reduceBEq, Int.reduceEq, Int.reduceLT, Int.reduceLE, Int.reduceToNat, Int.reduceNeg, Int.reduceBNe, encMap]
  refine ask (small_spec l hl) ?_
  cases hs : smallE l
  · simp -implicitDefEqProofs only [↓aP, aQ, ↓reduceIte, Nat.reduceEqDiff, Nat.reduceAdd, Nat.reduceSub, Nat.reduceMul, Nat.reduceLT, Nat.reduceLeDiff, reduceCtorEq, Nat.reduceBEq, forall_const, implies_true, exists_const, ne_eq, Int.reduceAdd, Int.reduceSub, Int.reduceMul, Int.reduceBEq, Int.reduceEq, Int.reduceLT, Int.reduceLE, Int.reduceToNat, Int.reduceNeg, Int.reduceBNe]
    refine ask awake_spec ?_
    simp -implicitDefEqProofs only [↓aP, aQ, ↓reduceIte, Nat.reduceEqDiff, Nat.reduceAdd, Nat.reduceSub, Nat.reduceMul, Nat.reduceLT, Nat.reduceLeDiff, reduceCtorEq, Nat.reduceBEq, forall_const, implies_true, exists_const, ne_eq, Int.reduceAdd, Int.reduceSub, Int.reduceMul, Int.reduceBEq, Int.reduceEq, Int.reduceLT, Int.reduceLE, Int.reduceToNat, Int.reduceNeg, Int.reduceBNe]
  simp -implicitDefEqProofs only [↓aP, aQ, ↓reduceIte, Nat.reduceEqDiff, Nat.reduceAdd, Nat.reduceSub, Nat.reduceMul, Nat.reduceLT, Nat.reduceLeDiff, reduceCtorEq, Nat.reduceBEq, forall_const, implies_true, exists_const, ne_eq, Int.reduceAdd, Int.reduceSub, Int.reduceMul, Int.reduceBEq, Int.reduceEq, Int.reduceLT, Int.reduceLE, Int.reduceToNat, Int.reduceNeg, Int.reduceBNe, encMap]
  refine ask (pages_spec m hm) ?_
  cases hp : smallM m
  · simp -implicitDefEqProofs only [↓aP, aQ, ↓reduceIte, Nat.reduceEqDiff, Nat.reduceAdd, Nat.reduceSub, Nat.reduceMul, Nat.reduceLT, Nat.reduceLeDiff, reduceCtorEq, Nat.reduceBEq, forall_const, implies_true, exists_const, ne_eq, Int.reduceAdd, Int.reduceSub, Int.reduceMul, Int.reduceBEq, Int.reduceEq, Int.reduceLT, Int.reduceLE, Int.reduceToNat, Int.reduceNeg, Int.reduceBNe]
    refine ask awake_spec ?_
    simp -implicitDefEqProofs only [↓aP, aQ, ↓reduceIte, Nat.reduceEqDiff, Nat.reduceAdd, Nat.reduceSub, Nat.reduceMul, Nat.reduceLT, Nat.reduceLeDiff, reduceCtorEq, Nat.reduceBEq, forall_const, implies_true, exists_const, ne_eq, Int.reduceAdd, Int.reduceSub, Int.reduceMul, Int.reduceBEq, Int.reduceEq, Int.reduceLT, Int.reduceLE, Int.reduceToNat, Int.reduceNeg, Int.reduceBNe]
  have hl6 := smallE_len hs
  have hm4 := small_len hp
  simp -implicitDefEqProofs only [↓aP, aQ, ↓reduceIte, Nat.reduceEqDiff, Nat.reduceAdd, Nat.reduceSub, Nat.reduceMul, Nat.reduceLT, Nat.reduceLeDiff, reduceCtorEq, Nat.reduceBEq, forall_const, implies_true, exists_const, ne_eq, Int.reduceAdd, Int.reduceSub, Int.reduceMul, Int.reduceBEq, Int.reduceEq, Int.reduceLT, Int.reduceLE, Int.reduceToNat, Int.reduceNeg, Int.reduceBNe]
  refine ask (events_spec l (by omega)) ?_
  simp -implicitDefEqProofs only [↓aP, aQ, ↓reduceIte, Nat.reduceEqDiff, Nat.reduceAdd, Nat.reduceSub, Nat.reduceMul, Nat.reduceLT, Nat.reduceLeDiff, reduceCtorEq, Nat.reduceBEq, forall_const, implies_true, exists_const, ne_eq, Int.reduceAdd, Int.reduceSub, Int.reduceMul, Int.reduceBEq, Int.reduceEq, Int.reduceLT, Int.reduceLE, Int.reduceToNat, Int.reduceNeg, Int.reduceBNe, encMap]
  have h1 := hCheck_spec m l (by omega) (by omega)
  have h2 := rCheck_spec m l (by omega) (by omega)
  have hnl := check_len (m := m) (l := l)
  obtain ⟨n, a, e, hx⟩ : ∃ n a e, checkM m l = (n, a, e) := ⟨_, _, _, rfl⟩
  rw [hx] at h1 h2 hnl
  simp only at hnl
  refine ask h1 ?_
  simp -implicitDefEqProofs only [↓aP, aQ, ↓reduceIte, Nat.reduceEqDiff, Nat.reduceAdd, Nat.reduceSub, Nat.reduceMul, Nat.reduceLT, Nat.reduceLeDiff, reduceCtorEq, Nat.reduceBEq, forall_const, implies_true, exists_const, ne_eq, Int.reduceAdd, Int.reduceSub, Int.reduceMul, Int.reduceBEq, Int.reduceEq, Int.reduceLT, Int.reduceLE, Int.reduceToNat, Int.reduceNeg, Int.reduceBNe, encCk, encMap]
  refine ask h2 ?_
  simp -implicitDefEqProofs only [↓aP, aQ, ↓reduceIte, Nat.reduceEqDiff, Nat.reduceAdd, Nat.reduceSub, Nat.reduceMul, Nat.reduceLT, Nat.reduceLeDiff, reduceCtorEq, Nat.reduceBEq, forall_const, implies_true, exists_const, ne_eq, Int.reduceAdd, Int.reduceSub, Int.reduceMul, Int.reduceBEq, Int.reduceEq, Int.reduceLT, Int.reduceLE, Int.reduceToNat, Int.reduceNeg, Int.reduceBNe, encCk2, encMap]
  refine ask (hSort_spec l (by omega)) ?_
  simp -implicitDefEqProofs only [↓aP, aQ, ↓reduceIte, Nat.reduceEqDiff, Nat.reduceAdd, Nat.reduceSub, Nat.reduceMul, Nat.reduceLT, Nat.reduceLeDiff, reduceCtorEq, Nat.reduceBEq, forall_const, implies_true, exists_const, ne_eq, Int.reduceAdd, Int.reduceSub, Int.reduceMul, Int.reduceBEq, Int.reduceEq, Int.reduceLT, Int.reduceLE, Int.reduceToNat, Int.reduceNeg, Int.reduceBNe]
  refine ask (events_spec (sortD l) (by rw [sortD_len]; omega)) ?_
  simp -implicitDefEqProofs only [↓aP, aQ, ↓reduceIte, Nat.reduceEqDiff, Nat.reduceAdd, Nat.reduceSub, Nat.reduceMul, Nat.reduceLT, Nat.reduceLeDiff, reduceCtorEq, Nat.reduceBEq, forall_const, implies_true, exists_const, ne_eq, Int.reduceAdd, Int.reduceSub, Int.reduceMul, Int.reduceBEq, Int.reduceEq, Int.reduceLT, Int.reduceLE, Int.reduceToNat, Int.reduceNeg, Int.reduceBNe]
  refine ask (rSort_spec l (by omega)) ?_
  have hsl := sortD_len (l := l)
  obtain ⟨S, hS⟩ : ∃ S, S = sortD l := ⟨_, rfl⟩
  rw [← hS] at hsl ⊢
  simp -implicitDefEqProofs only [↓aP, aQ, ↓reduceIte, Nat.reduceEqDiff, Nat.reduceAdd, Nat.reduceSub, Nat.reduceMul, Nat.reduceLT, Nat.reduceLeDiff, reduceCtorEq, Nat.reduceBEq, forall_const, implies_true, exists_const, ne_eq, Int.reduceAdd, Int.reduceSub, Int.reduceMul, Int.reduceBEq, Int.reduceEq, Int.reduceLT, Int.reduceLE, Int.reduceToNat, Int.reduceNeg, Int.reduceBNe, List.length_map, bne_self_eq_false]
  refine rangeB S.length (fun i σ => σ.slot 1 = vL 11 (l.map encEv) ∧ σ.slot 5 = .c (.own 25 1) ∧ σ.h.gen 25 = 1 ∧ σ.h.blk 25 = .ice (.sl 11 (l.map encEv)) ∧ σ.slot 6 = .c (.ptr 6 1 0 0) ∧ σ.h.gen 6 = 1 ∧ σ.h.blk 6 = .box 24 1 [(encMap n).map AC.s] ∧ σ.slot 7 = vI a ∧ σ.slot 8 = vI e ∧ σ.slot 9 = .c (.s (.sl 3 (n.map encPg))) ∧ σ.slot 10 = vI a ∧ σ.slot 11 = vI e ∧ σ.slot 12 = .c (.own 43 1) ∧ σ.h.gen 43 = 1 ∧ σ.h.blk 43 = .row tRe 11 (S.map encEv) ∧ σ.slot 13 = .c (.own 45 1) ∧ σ.h.gen 45 = 1 ∧ σ.h.blk 45 = .row tRe 11 (S.map encEv) ∧ σ.slot 52 = vI S.length ∧ σ.slot 53 = vI i) ?_ ?_ ?_
  · simp -implicitDefEqProofs only [↓aP, aQ, ↓reduceIte, Nat.reduceEqDiff, Nat.reduceAdd, Nat.reduceSub, Nat.reduceMul, Nat.reduceLT, Nat.reduceLeDiff, reduceCtorEq, Nat.reduceBEq, forall_const, implies_true, exists_const, ne_eq, Int.reduceAdd, Int.reduceSub, Int.reduceMul, Int.reduceBEq, Int.reduceEq, Int.reduceLT, Int.reduceLE, Int.reduceToNat, Int.reduceNeg, Int.reduceBNe, encMap]
  · rintro i k σ him hi hlt ⟨s1, s5, g25, b25, s6, g6, b6, s7, s8, s9, s10, s11, s12, g43, b43, s13, g45, b45, s52, s53⟩
    simp -implicitDefEqProofs only [↓aP, aQ, ↓reduceIte, Nat.reduceEqDiff, Nat.reduceAdd, Nat.reduceSub, Nat.reduceMul, Nat.reduceLT, Nat.reduceLeDiff, reduceCtorEq, Nat.reduceBEq, forall_const, implies_true, exists_const, ne_eq, Int.reduceAdd, Int.reduceSub, Int.reduceMul, Int.reduceBEq, Int.reduceEq, Int.reduceLT, Int.reduceLE, Int.reduceToNat, Int.reduceNeg, Int.reduceBNe, hlt, s1, s5, g25, b25, s6, g6, b6, s7, s8, s9, s10, s11, s12, g43, b43, s13, g45, b45, s52, s53, askIdx_map, hi, encEv]
    refine askEq (eq_re S[i]) ?_
    simp -implicitDefEqProofs only [↓aP, aQ, ↓reduceIte, Nat.reduceEqDiff, Nat.reduceAdd, Nat.reduceSub, Nat.reduceMul, Nat.reduceLT, Nat.reduceLeDiff, reduceCtorEq, Nat.reduceBEq, forall_const, implies_true, exists_const, ne_eq, Int.reduceAdd, Int.reduceSub, Int.reduceMul, Int.reduceBEq, Int.reduceEq, Int.reduceLT, Int.reduceLE, Int.reduceToNat, Int.reduceNeg, Int.reduceBNe, s1, s5, g25, b25, s6, g6, b6, s7, s8, s9, s10, s11, s12, g43, b43, s13, g45, b45, s52, s53, wrapS (show i < 4611686018427387904 by omega)]
    refine ⟨by decide +kernel, ?_⟩
    refine nextR hi him ?_
    simp -implicitDefEqProofs only [↓aP, aQ, ↓reduceIte, Nat.reduceEqDiff, Nat.reduceAdd, Nat.reduceSub, Nat.reduceMul, Nat.reduceLT, Nat.reduceLeDiff, reduceCtorEq, Nat.reduceBEq, forall_const, implies_true, exists_const, ne_eq, Int.reduceAdd, Int.reduceSub, Int.reduceMul, Int.reduceBEq, Int.reduceEq, Int.reduceLT, Int.reduceLE, Int.reduceToNat, Int.reduceNeg, Int.reduceBNe, s1, s5, g25, b25, s6, g6, b6, s7, s8, s9, s10, s11, s12, g43, b43, s13, g45, b45, s52, s53]
  · rintro k σ hlt ⟨s1, s5, g25, b25, s6, g6, b6, s7, s8, s9, s10, s11, s12, g43, b43, s13, g45, b45, s52, s53⟩
    simp -implicitDefEqProofs only [↓aP, aQ, ↓reduceIte, Nat.reduceEqDiff, Nat.reduceAdd, Nat.reduceSub, Nat.reduceMul, Nat.reduceLT, Nat.reduceLeDiff, reduceCtorEq, Nat.reduceBEq, forall_const, implies_true, exists_const, ne_eq, Int.reduceAdd, Int.reduceSub, Int.reduceMul, Int.reduceBEq, Int.reduceEq, Int.reduceLT, Int.reduceLE, Int.reduceToNat, Int.reduceNeg, Int.reduceBNe, hlt, s1, s5, g25, b25, s6, g6, b6, s7, s8, s9, s10, s11, s12, g43, b43, s13, g45, b45, s52, s53, encMap]
    refine ask (rSame_spec n (by omega)) ?_
    simp -implicitDefEqProofs only [↓aP, aQ, ↓reduceIte, Nat.reduceEqDiff, Nat.reduceAdd, Nat.reduceSub, Nat.reduceMul, Nat.reduceLT, Nat.reduceLeDiff, reduceCtorEq, Nat.reduceBEq, forall_const, implies_true, exists_const, ne_eq, Int.reduceAdd, Int.reduceSub, Int.reduceMul, Int.reduceBEq, Int.reduceEq, Int.reduceLT, Int.reduceLE, Int.reduceToNat, Int.reduceNeg, Int.reduceBNe, s1, s5, g25, b25, s6, g6, b6, s7, s8, s9, s10, s11, s12, g43, b43, s13, g45, b45, s52, s53, beq_self_eq_true]
    refine ask (apart_spec l (by omega)) ?_
    simp -implicitDefEqProofs only [↓aP, aQ, ↓reduceIte, Nat.reduceEqDiff, Nat.reduceAdd, Nat.reduceSub, Nat.reduceMul, Nat.reduceLT, Nat.reduceLeDiff, reduceCtorEq, Nat.reduceBEq, forall_const, implies_true, exists_const, ne_eq, Int.reduceAdd, Int.reduceSub, Int.reduceMul, Int.reduceBEq, Int.reduceEq, Int.reduceLT, Int.reduceLE, Int.reduceToNat, Int.reduceNeg, Int.reduceBNe, s1, s5, g25, b25, s6, g6, b6, s7, s8, s9, s10, s11, s12, g43, b43, s13, g45, b45, s52, s53]
    refine ask (rApart_spec l (by omega)) ?_
    simp -implicitDefEqProofs only [↓aP, aQ, ↓reduceIte, Nat.reduceEqDiff, Nat.reduceAdd, Nat.reduceSub, Nat.reduceMul, Nat.reduceLT, Nat.reduceLeDiff, reduceCtorEq, Nat.reduceBEq, forall_const, implies_true, exists_const, ne_eq, Int.reduceAdd, Int.reduceSub, Int.reduceMul, Int.reduceBEq, Int.reduceEq, Int.reduceLT, Int.reduceLE, Int.reduceToNat, Int.reduceNeg, Int.reduceBNe, s1, s5, g25, b25, s6, g6, b6, s7, s8, s9, s10, s11, s12, g43, b43, s13, g45, b45, s52, s53, beq_self_eq_true]
    refine ask awake_spec ?_
    simp -implicitDefEqProofs only [↓aP, aQ, ↓reduceIte, Nat.reduceEqDiff, Nat.reduceAdd, Nat.reduceSub, Nat.reduceMul, Nat.reduceLT, Nat.reduceLeDiff, reduceCtorEq, Nat.reduceBEq, forall_const, implies_true, exists_const, ne_eq, Int.reduceAdd, Int.reduceSub, Int.reduceMul, Int.reduceBEq, Int.reduceEq, Int.reduceLT, Int.reduceLE, Int.reduceToNat, Int.reduceNeg, Int.reduceBNe]
theorem opens_rs {H : Type} {enc : TypeId × Value → H} {w : World} {spare : Nat → Bool} {held : Bool} : Opens Try.prog enc w spare held 49 4 (fun ys => ∃ x : Rs, ys = encRs x) := by
  have h := opens_struct (enc := enc) (w := w) (spare := spare) (held := held) Try.underlying49 (by kernel_rfl) (.cons rfl (opens_int Try.underlying31 (by kernel_rfl)) (.cons rfl opens_pg (.nil _)))
  refine ⟨h.1, fun fuel cs x hx => ?_⟩
  obtain ⟨ys, ⟨a, b, rfl, ⟨n, rfl, hn⟩, a2, b2, rfl, ⟨p, rfl⟩, rfl⟩, h2, h3⟩ := h.2 _ _ _ hx
  exact ⟨_, ⟨⟨n, p⟩, rfl⟩, h2, h3⟩
theorem opens_ev {H : Type} {enc : TypeId × Value → H} {w : World} {spare : Nat → Bool} {held : Bool} : Opens Try.prog enc w spare held 52 11 (fun ys => ∃ x : Ev, ys = encEv x) := by
  have h := opens_struct (enc := enc) (w := w) (spare := spare) (held := held) Try.underlying52 (by kernel_rfl) (.cons rfl (opens_int Try.underlying3 (by kernel_rfl)) (.cons rfl opens_op (.cons rfl opens_rs (.cons rfl (opens_int Try.underlying3 (by kernel_rfl)) (.cons rfl (opens_int Try.underlying3 (by kernel_rfl)) (.cons rfl (opens_int Try.underlying3 (by kernel_rfl)) (.nil _)))))))
  refine ⟨h.1, fun fuel cs x hx => ?_⟩
  obtain ⟨ys, ⟨a, b, rfl, ⟨n, rfl, hn⟩, a2, b2, rfl, ⟨o, rfl⟩, a3, b3, rfl, ⟨r, rfl⟩, a4, b4, rfl, ⟨n4, rfl, hn4⟩, a5, b5, rfl, ⟨n5, rfl, hn5⟩, a6, b6, rfl, ⟨n6, rfl, hn6⟩, rfl⟩, h2, h3⟩ := h.2 _ _ _ hx
  exact ⟨_, ⟨⟨n, o, r, n4, n5, n6⟩, rfl⟩, h2, h3⟩
set_option maxRecDepth 100000 in
theorem open_evs {H : Type} {enc : TypeId × Value → H} {w : World} {spare : Nat → Bool} {held : Bool} {r : Reach} {b0 : Nat} {v : Value} {d : DataW H} {p : List MemPlace}
    (hv : Value.okWide Try.prog w r b0 25 v) (h : DataW.Trod enc Try.prog w 0 spare held 25 v d p) : ∃ l : List Ev, l.length ≤ maxLen ∧ RepT (RepS w fun _ => False) (rL 11 (l.map encEv)) v := by
  obtain ⟨y, ⟨els, e1, e2, e3⟩, h2⟩ := open_one (opens_slice Try.underlying25 (by kernel_rfl) (by decide) opens_ev) (slice_cells Try.underlying25 hv) h
  simp only [List.cons.injEq, and_true] at e1
  subst e1
  obtain ⟨l, rfl⟩ := all_of_mem (f := encEv) e2
  exact ⟨l, by simpa using e3, h2⟩
theorem historyChecks_walk {w : World} (v0 : Value) (a0 : ∃ l : List Pg, l.length ≤ maxLen ∧ RepT (RepS w fun _ => False) (.agg (encMap l)) v0) (v1 : Value) (a1 : ∃ l : List Ev, l.length ≤ maxLen ∧ RepT (RepS w fun _ => False) (rL 11 (l.map encEv)) v1) :
    Calls Try.prog 3 #[v0, v1] w fun e w' => e = .returned (.bool true) ∧ Below w.heap.size w w' := by
  obtain ⟨m, hm, h0⟩ := a0
  obtain ⟨l, hl, h1⟩ := a1
  unfold maxLen at hm hl
  exact (lawChecks_spec m l hm hl).plain (us := [v0, v1]) (.cons h0 (.cons h1 .nil))
end Go.Proofs.Ytbpipdgkkdifgaa
