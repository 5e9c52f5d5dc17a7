/- layer 21: the laws HistoryTurned and HistoryAny: their walks. -/
import Derived.Test.YtbpipdgkkdifgaaH13
namespace Go.Proofs.Ytbpipdgkkdifgaa
open Go.RowKit Ok Ss Hi
set_option linter.unusedVariables false
set_option linter.unusedSimpArgs false
namespace Hi
theorem write_e8 {l : List Pg} {i : Nat} {b : ByteArray} : (writeM l i b).2.e ≠ 8 := by
  unfold writeM
  split
  · simp
  split
  · simp
  · simp
theorem do_e8 {l : List Pg} {o : Opr} : (doM l o).2.e ≠ 8 := by
  unfold doM
  split
  · simp
  split
  · split <;> simp
  split
  · simp
  split
  · exact write_e8
  split <;> simp
def keyE (e : Ev) : Int × Int × Int × Int := (e.who, e.began, e.done, e.ended)
theorem apart_key {l l' : List Ev} (h : l.map keyE = l'.map keyE) : apart l = apart l' := by
  have key : ∀ {l l' : List Ev}, l.map keyE = l'.map keyE → apart l = true → apart l' = true := by
    intro l l' h ha
    rw [apart_iff] at ha ⊢
    obtain ⟨h1, h2⟩ := ha
    have e1 : ∀ l : List Ev, (∀ e ∈ l, e.began < e.done ∧ e.done < e.ended) ↔ ∀ q ∈ l.map keyE, q.2.1 < q.2.2.1 ∧ q.2.2.1 < q.2.2.2 := by
      intro l; simp [keyE]
    have e2 : ∀ l : List Ev, l.Pairwise sep ↔ (l.map keyE).Pairwise fun a b => a.2.2.1 ≠ b.2.2.1 ∧ (a.1 = b.1 → a.2.2.2 < b.2.1 ∨ b.2.2.2 < a.2.1) := by
      intro l; rw [List.pairwise_map]; rfl
    rw [e1, e2, ← h, ← e1, ← e2]
    exact ⟨h1, h2⟩
  cases e : apart l
  · cases e' : apart l'
    · rfl
    · rw [key h.symm e'] at e; cases e
  · exact (key h e).symm
theorem set_key {l : List Ev} {k : Nat} {e : Ev} (hk : k < l.length) (h : keyE e = keyE l[k]) : (l.set k e).map keyE = l.map keyE := by
  rw [List.map_set, h]
  refine List.ext_getElem (by simp) fun i h1 h2 => ?_
  rw [List.getElem_set]
  split
  · rename_i e; subst e; simp
  · rfl
theorem sort_set {l : List Ev} {k : Nat} {e : Ev} (hk : k < l.length) (h : keyE e = keyE l[k]) (hs : l.Pairwise fun a b => a.done < b.done) : sortD (l.set k e) = l.set k e := by
  refine sort_self ?_
  have e2 : ∀ l : List Ev, (l.Pairwise fun a b => a.done < b.done) ↔ (l.map keyE).Pairwise fun a b => a.2.2.1 < b.2.2.1 := by
    intro l; rw [List.pairwise_map]; rfl
  rw [e2, set_key hk h, ← e2]
  exact hs
/-- the first that can't -/
theorem goM_turn {k : Nat} {l : List Ev} {m : List Pg} {e : Ev} (hk : k < l.length) (h0 : (goM m 0 l).2.2 = 0) (hop : e.op = l[k].op) (h1 : bad8 l[k] = true → e.r ≠ ⟨8, zP⟩ ∧ e.r.e = 8) (h2 : bad8 l[k] = false → l[k].r.e ≠ 8 → e.r ≠ ⟨8, zP⟩) (h3 : e.r ≠ l[k].r) :
    (goM m 0 (l.set k e)).2 = (k, 2) := by
  have hl : l.set k e = l.take k ++ e :: l.drop (k + 1) := by rw [List.set_eq_take_append_cons_drop, if_pos hk]
  have hl0 : l = l.take k ++ l[k] :: l.drop (k + 1) := by rw [← List.drop_eq_getElem_cons hk, List.take_append_drop]
  have hg := goM_append (a := l.take k) (b := l[k] :: l.drop (k + 1)) (m := m) (i := 0)
  rw [← hl0] at hg
  have hz : (goM m 0 (l.take k)).2.2 = 0 := by
    by_cases q : (goM m 0 (l.take k)).2.2 = 0
    · exact q
    · rw [if_neg q] at hg; rw [hg] at h0; exact h0
  rw [if_pos hz, goM_cons] at hg
  rw [hl, goM_append, if_pos hz, goM_cons]
  have hb : bad8 e = false := by
    unfold bad8
    rw [decide_eq_false_iff_not]
    cases q : bad8 l[k]
    · rw [if_neg (by rw [q]; simp)] at hg
      by_cases q2 : (doM (goM m 0 (l.take k)).1 l[k].op).2 = l[k].r
      · exact h2 q (by rw [← q2]; exact do_e8)
      · rw [if_neg q2] at hg; rw [hg] at h0; simp at h0
    · exact (h1 q).1
  rw [if_neg (by rw [hb]; simp), if_neg ?_]
  · simp; omega
  · rw [hop]
    cases q : bad8 l[k]
    · rw [if_neg (by rw [q]; simp)] at hg
      by_cases q2 : (doM (goM m 0 (l.take k)).1 l[k].op).2 = l[k].r
      · rw [q2]; exact fun h => h3 h.symm
      · rw [if_neg q2] at hg; rw [hg] at h0; simp at h0
    · intro h
      exact do_e8 (by rw [h]; exact (h1 q).2)
def turnE (e : Ev) (v : Int) : Ev := ⟨e.who, e.op, ⟨e.r.e, ⟨e.r.p.id, v, e.r.p.body⟩⟩, e.began, e.done, e.ended⟩
theorem wrap_ne {v b : Int} (h : 1 ≤ b ∧ b ≤ 256) : IntKind.i64.wrap (v + b) ≠ v := by
  unfold IntKind.wrap
  simp [IntKind.bits, IntKind.signed]
  omega
theorem turned {m : List Pg} {l : List Ev} (h : (checkM m l).2.2 = 0) {k : Nat} (hk : k < (sortD l).length) {b : Int} (hb : 1 ≤ b ∧ b ≤ 256) :
    (checkM m ((sortD l).set k (turnE (sortD l)[k] (IntKind.i64.wrap ((sortD l)[k].r.p.ver + b))))).2 = (k, 2) := by
  obtain ⟨h1, h2, h3, h4⟩ : l.length ≤ 400 ∧ rightM m = true ∧ apart l = true ∧ checkM m l = goM m 0 (sortD l) := by
    rcases check_cases (m := m) (l := l) with ⟨_, h⟩ | ⟨h1, _⟩
    · exact h
    · exact (h1 h).elim
  rw [h4] at h
  have hs := sort_strict h3
  have ha : apart (sortD l) = true := by rw [apart_perm (sortD_perm l)]; exact h3
  have hlen := sortD_len (l := l)
  have hw := wrap_ne (v := (sortD l)[k].r.p.ver) hb
  have hkey : keyE (turnE (sortD l)[k] (IntKind.i64.wrap ((sortD l)[k].r.p.ver + b))) = keyE (sortD l)[k] := rfl
  rw [check_of (by simp; omega) h2 (by rw [apart_key (set_key hk hkey)]; exact ha), sort_set hk hkey hs]
  refine goM_turn hk h rfl ?_ ?_ ?_
  · intro q
    unfold bad8 at q
    rw [decide_eq_true_iff] at q
    have qv : (sortD l)[k].r.p.ver = 0 := by rw [q]; rfl
    refine ⟨fun e => ?_, by show (sortD l)[k].r.e = 8; rw [q]⟩
    have : IntKind.i64.wrap ((sortD l)[k].r.p.ver + b) = 0 := congrArg (fun r : Rs => r.p.ver) e
    rw [this, qv] at hw
    exact hw rfl
  · intro _ q e
    exact q (congrArg (fun r : Rs => r.e) e)
  · intro e
    exact hw (congrArg (fun r : Rs => r.p.ver) e)
/-- as the law turns the events -/
def twist (l : List Ev) (k : Nat) : List Ev := (l.take (k + 1)).reverse ++ (l.drop (k + 1)).reverse
theorem twist_len {l : List Ev} {k : Nat} : (twist l k).length = l.length := by unfold twist; simp; omega
theorem twist_perm {l : List Ev} {k : Nat} : (twist l k).Perm l := by
  unfold twist
  refine (List.Perm.append (List.reverse_perm _) (List.reverse_perm _)).trans ?_
  rw [List.take_append_drop]
theorem twist_at {l : List Ev} {k i : Nat} (hk : k < l.length) (hi : i < l.length) : (twist l k)[i]'(by rw [twist_len]; exact hi) = l[(l.length - i + k) % l.length]'(Nat.mod_lt _ (by omega)) := by
  have e : ∀ j, j < l.length → (l.length - i + k = j ∨ l.length - i + k = l.length + j) → (l.length - i + k) % l.length = j := by
    intro j hj h
    rcases h with h | h
    · rw [h, Nat.mod_eq_of_lt hj]
    · rw [h, Nat.add_mod_left, Nat.mod_eq_of_lt hj]
  unfold twist
  by_cases h : i ≤ k
  · have e1 := e (k - i) (by omega) (by omega)
    simp only [e1]
    rw [List.getElem_append_left (by simp; omega), List.getElem_reverse]
    simp only [List.getElem_take, List.length_take]
    congr 1; omega
  · have e1 := e (l.length - i + k) (by omega) (.inl rfl)
    simp only [e1]
    rw [List.getElem_append_right (by simp; omega), List.getElem_reverse]
    simp only [List.getElem_drop, List.length_drop, List.length_reverse, List.length_take]
    congr 1; omega
end Hi
set_option maxHeartbeats 1000000 in
theorem lawTurned_spec (m : List Pg) (l : List Ev) (u b : Int) (hu : 0 ≤ u ∧ u ≤ 255) (hb : 0 ≤ b ∧ b ≤ 255) (hm : m.length ≤ 9223372036854775807) (hl : l.length ≤ 9223372036854775807) : Spec Try.prog 5 [.agg (encMap m), rL 11 (l.map encEv), .c (.pv (.int .u8 u)), .c (.pv (.int .u8 b))] (.val (rB true)) := by
  refine spec_val mixed fn5 (by simp) ?_
  unfold ac5
  simp -implicitDefEqProofs only [↓aP, aQ, ↓reduceIte, Nat.reduceEqDiff, Nat.reduceAdd, Nat.reduceSub, Nat.reduceMul, Nat.reduceLT, Nat.reduceLeDiff, reduceCtorEq, Nat.reduceBEq, forall_const, implies_true, exists_const, ne_eq, Int.reduceAdd, Int.reduceSub, Int.reduceMul, Int.reduceBEq, Int.reduceEq, Int.reduceLT, Int.reduceLE, Int.reduceToNat, Int.reduceNeg, Int.reduceBNe, encMap]
  refine ask (small_spec l hl) ?_
  cases hs : smallE l
  · simp -implicitDefEqProofs only [↓aP, aQ, ↓reduceIte, Nat.reduceEqDiff, Nat.reduceAdd, Nat.reduceSub, Nat.reduceMul, Nat.reduceLT, Nat.reduceLeDiff, reduceCtorEq, Nat.reduceBEq, forall_const, implies_true, exists_const, ne_eq, Int.reduceAdd, Int.reduceSub, Int.reduceMul, Int.reduceBEq, Int.reduceEq, Int.reduceLT, Int.reduceLE, Int.reduceToNat, Int.reduceNeg, Int.reduceBNe]
    refine ask awake_spec ?_
    simp -implicitDefEqProofs only [↓aP, aQ, ↓reduceIte, Nat.reduceEqDiff, Nat.reduceAdd, Nat.reduceSub, Nat.reduceMul, Nat.reduceLT, Nat.reduceLeDiff, reduceCtorEq, Nat.reduceBEq, forall_const, implies_true, exists_const, ne_eq, Int.reduceAdd, Int.reduceSub, Int.reduceMul, Int.reduceBEq, Int.reduceEq, Int.reduceLT, Int.reduceLE, Int.reduceToNat, Int.reduceNeg, Int.reduceBNe]
  simp -implicitDefEqProofs only [↓aP, aQ, ↓reduceIte, Nat.reduceEqDiff, Nat.reduceAdd, Nat.reduceSub, Nat.reduceMul, Nat.reduceLT, Nat.reduceLeDiff, reduceCtorEq, Nat.reduceBEq, forall_const, implies_true, exists_const, ne_eq, Int.reduceAdd, Int.reduceSub, Int.reduceMul, Int.reduceBEq, Int.reduceEq, Int.reduceLT, Int.reduceLE, Int.reduceToNat, Int.reduceNeg, Int.reduceBNe, encMap]
  refine ask (pages_spec m hm) ?_
  cases hp : smallM m
  · simp -implicitDefEqProofs only [↓aP, aQ, ↓reduceIte, Nat.reduceEqDiff, Nat.reduceAdd, Nat.reduceSub, Nat.reduceMul, Nat.reduceLT, Nat.reduceLeDiff, reduceCtorEq, Nat.reduceBEq, forall_const, implies_true, exists_const, ne_eq, Int.reduceAdd, Int.reduceSub, Int.reduceMul, Int.reduceBEq, Int.reduceEq, Int.reduceLT, Int.reduceLE, Int.reduceToNat, Int.reduceNeg, Int.reduceBNe]
    refine ask awake_spec ?_
    simp -implicitDefEqProofs only [↓aP, aQ, ↓reduceIte, Nat.reduceEqDiff, Nat.reduceAdd, Nat.reduceSub, Nat.reduceMul, Nat.reduceLT, Nat.reduceLeDiff, reduceCtorEq, Nat.reduceBEq, forall_const, implies_true, exists_const, ne_eq, Int.reduceAdd, Int.reduceSub, Int.reduceMul, Int.reduceBEq, Int.reduceEq, Int.reduceLT, Int.reduceLE, Int.reduceToNat, Int.reduceNeg, Int.reduceBNe]
  have hl6 := smallE_len hs
  have hm4 := small_len hp
  by_cases h0 : l.length = 0
  · simp -implicitDefEqProofs only [↓aP, aQ, ↓reduceIte, Nat.reduceEqDiff, Nat.reduceAdd, Nat.reduceSub, Nat.reduceMul, Nat.reduceLT, Nat.reduceLeDiff, reduceCtorEq, Nat.reduceBEq, forall_const, implies_true, exists_const, ne_eq, Int.reduceAdd, Int.reduceSub, Int.reduceMul, Int.reduceBEq, Int.reduceEq, Int.reduceLT, Int.reduceLE, Int.reduceToNat, Int.reduceNeg, Int.reduceBNe, List.length_map, show ((l.length : Int) == 0) = true by rw [h0]; rfl]
    refine ask awake_spec ?_
    simp -implicitDefEqProofs only [↓aP, aQ, ↓reduceIte, Nat.reduceEqDiff, Nat.reduceAdd, Nat.reduceSub, Nat.reduceMul, Nat.reduceLT, Nat.reduceLeDiff, reduceCtorEq, Nat.reduceBEq, forall_const, implies_true, exists_const, ne_eq, Int.reduceAdd, Int.reduceSub, Int.reduceMul, Int.reduceBEq, Int.reduceEq, Int.reduceLT, Int.reduceLE, Int.reduceToNat, Int.reduceNeg, Int.reduceBNe]
  simp -implicitDefEqProofs only [↓aP, aQ, ↓reduceIte, Nat.reduceEqDiff, Nat.reduceAdd, Nat.reduceSub, Nat.reduceMul, Nat.reduceLT, Nat.reduceLeDiff, reduceCtorEq, Nat.reduceBEq, forall_const, implies_true, exists_const, ne_eq, Int.reduceAdd, Int.reduceSub, Int.reduceMul, Int.reduceBEq, Int.reduceEq, Int.reduceLT, Int.reduceLE, Int.reduceToNat, Int.reduceNeg, Int.reduceBNe, encMap, List.length_map, show ((l.length : Int) == 0) = false by rw [beq_eq_false_iff_ne]; omega]
  have h1 := hCheck_spec m l (by omega) (by omega)
  have htn := fun h k hk b hb => turned (m := m) (l := l) h (k := k) hk (b := b) hb
  obtain ⟨n, a, e, hx⟩ : ∃ n a e, checkM m l = (n, a, e) := ⟨_, _, _, rfl⟩
  rw [hx] at h1 htn
  simp only at htn
  refine ask h1 ?_
  simp -implicitDefEqProofs only [↓aP, aQ, ↓reduceIte, Nat.reduceEqDiff, Nat.reduceAdd, Nat.reduceSub, Nat.reduceMul, Nat.reduceLT, Nat.reduceLeDiff, reduceCtorEq, Nat.reduceBEq, forall_const, implies_true, exists_const, ne_eq, Int.reduceAdd, Int.reduceSub, Int.reduceMul, Int.reduceBEq, Int.reduceEq, Int.reduceLT, Int.reduceLE, Int.reduceToNat, Int.reduceNeg, Int.reduceBNe, encCk, encMap]
  by_cases he : e ≠ 0
  · simp -implicitDefEqProofs only [↓aP, aQ, ↓reduceIte, Nat.reduceEqDiff, Nat.reduceAdd, Nat.reduceSub, Nat.reduceMul, Nat.reduceLT, Nat.reduceLeDiff, reduceCtorEq, Nat.reduceBEq, forall_const, implies_true, exists_const, ne_eq, Int.reduceAdd, Int.reduceSub, Int.reduceMul, Int.reduceBEq, Int.reduceEq, Int.reduceLT, Int.reduceLE, Int.reduceToNat, Int.reduceNeg, Int.reduceBNe, show (e != 0) = true by simpa using he]
    refine ask awake_spec ?_
    simp -implicitDefEqProofs only [↓aP, aQ, ↓reduceIte, Nat.reduceEqDiff, Nat.reduceAdd, Nat.reduceSub, Nat.reduceMul, Nat.reduceLT, Nat.reduceLeDiff, reduceCtorEq, Nat.reduceBEq, forall_const, implies_true, exists_const, ne_eq, Int.reduceAdd, Int.reduceSub, Int.reduceMul, Int.reduceBEq, Int.reduceEq, Int.reduceLT, Int.reduceLE, Int.reduceToNat, Int.reduceNeg, Int.reduceBNe]
  have he : e = 0 := Decidable.not_not.1 he
  subst he
  simp -implicitDefEqProofs only [↓aP, aQ, ↓reduceIte, Nat.reduceEqDiff, Nat.reduceAdd, Nat.reduceSub, Nat.reduceMul, Nat.reduceLT, Nat.reduceLeDiff, reduceCtorEq, Nat.reduceBEq, forall_const, implies_true, exists_const, ne_eq, Int.reduceAdd, Int.reduceSub, Int.reduceMul, Int.reduceBEq, Int.reduceEq, Int.reduceLT, Int.reduceLE, Int.reduceToNat, Int.reduceNeg, Int.reduceBNe, bne_self_eq_false]
  refine ask (hSort_spec l (by omega)) ?_
  have hsl := sortD_len (l := l)
  obtain ⟨S, hS⟩ : ∃ S, S = sortD l := ⟨_, rfl⟩
  rw [← hS] at hsl htn ⊢
  obtain ⟨k, hk, hkl⟩ : ∃ k : Nat, (IntKind.i64.wrap u).tmod (l.length : Int) = (k : Int) ∧ k < S.length := by
    rw [wrapI (by omega)]
    have h0 := Int.tmod_nonneg (l.length : Int) hu.1
    have h2 := Int.tmod_lt_of_pos u (b := (l.length : Int)) (by omega)
    exact ⟨(u.tmod (l.length : Int)).toNat, by omega, by omega⟩
  have w1 : IntKind.i64.wrap (1 + IntKind.i64.wrap b) = 1 + b := by rw [wrapI (x := b) (by omega), wrapI (by omega)]
  obtain ⟨v, hv⟩ : ∃ v, v = IntKind.i64.wrap (S[k].r.p.ver + (1 + b)) := ⟨_, rfl⟩
  have ht := htn rfl k hkl (1 + b) (by omega)
  rw [← hv] at ht
  obtain ⟨p, hp1⟩ : ∃ p, p = (checkM m (S.set k (turnE S[k] v))).1 := ⟨_, rfl⟩
  have c1 : checkM m (S.set k (turnE S[k] v)) = (p, k, 2) := Prod.ext hp1.symm ht
  have g1 := hCheck_spec m (S.set k (turnE S[k] v)) (by omega) (by simp; omega)
  rw [c1] at g1
  have hset : (S.map encEv).set k [.pv (.int .i64 S[k].who), .pv (.int .i64 S[k].op.kind), .pv (.int .i64 S[k].op.id), .pv (.string S[k].op.body), .pv (.int .i64 S[k].r.e), .pv (.int .i64 S[k].r.p.id), .pv (.int .i64 v), .pv (.string S[k].r.p.body), .pv (.int .i64 S[k].began), .pv (.int .i64 S[k].done), .pv (.int .i64 S[k].ended)] = (S.set k (turnE S[k] v)).map encEv := by rw [List.map_set]; rfl
  have hkl2 : k < l.length := by omega
  simp -implicitDefEqProofs only [↓aP, aQ, ↓reduceIte, Nat.reduceEqDiff, Nat.reduceAdd, Nat.reduceSub, Nat.reduceMul, Nat.reduceLT, Nat.reduceLeDiff, reduceCtorEq, Nat.reduceBEq, forall_const, implies_true, exists_const, ne_eq, Int.reduceAdd, Int.reduceSub, Int.reduceMul, Int.reduceBEq, Int.reduceEq, Int.reduceLT, Int.reduceLE, Int.reduceToNat, Int.reduceNeg, Int.reduceBNe, List.length_map, List.nil_append, hsl, bne_self_eq_false, hk, askIdx_map, hkl2, encEv, w1, ← hv, hset]
  refine ⟨by omega, by omega, by omega, ?_⟩
  refine ask g1 ?_
  simp -implicitDefEqProofs only [↓aP, aQ, ↓reduceIte, Nat.reduceEqDiff, Nat.reduceAdd, Nat.reduceSub, Nat.reduceMul, Nat.reduceLT, Nat.reduceLeDiff, reduceCtorEq, Nat.reduceBEq, forall_const, implies_true, exists_const, ne_eq, Int.reduceAdd, Int.reduceSub, Int.reduceMul, Int.reduceBEq, Int.reduceEq, Int.reduceLT, Int.reduceLE, Int.reduceToNat, Int.reduceNeg, Int.reduceBNe, encCk, encMap, beq_self_eq_true]
  refine ask awake_spec ?_
  simp -implicitDefEqProofs only [↓aP, aQ, ↓reduceIte, Nat.reduceEqDiff, Nat.reduceAdd, Nat.reduceSub, Nat.reduceMul, Nat.reduceLT, Nat.reduceLeDiff, reduceCtorEq, Nat.reduceBEq, forall_const, implies_true, exists_const, ne_eq, Int.reduceAdd, Int.reduceSub, Int.reduceMul, Int.reduceBEq, Int.reduceEq, Int.reduceLT, Int.reduceLE, Int.reduceToNat, Int.reduceNeg, Int.reduceBNe]
theorem historyTurned_walk {w : World} (v0 : Value) (a0 : ∃ l : List Pg, l.length ≤ maxLen ∧ RepT (RepS w fun _ => False) (.agg (encMap l)) v0) (v1 : Value) (a1 : ∃ l : List Ev, l.length ≤ maxLen ∧ RepT (RepS w fun _ => False) (rL 11 (l.map encEv)) v1) (u : Int) (hu : (Lit.int .u8 u).wf = true) (b : Int) (hb : (Lit.int .u8 b).wf = true) :
    Calls Try.prog 5 #[v0, v1, .int .u8 u, .int .u8 b] w fun e w' => e = .returned (.bool true) ∧ Below w.heap.size w w' := by
  obtain ⟨m, hm, h0⟩ := a0
  obtain ⟨l, hl, h1⟩ := a1
  unfold maxLen at hm hl
  exact (lawTurned_spec m l u b (u8_of hu) (u8_of hb) hm hl).plain (us := [v0, v1, .int .u8 u, .int .u8 b]) (.cons h0 (.cons h1 (.cons (.pv rfl) (.cons (.pv rfl) .nil))))

set_option maxHeartbeats 1000000 in
theorem lawAny_spec (m : List Pg) (l : List Ev) (u : Int) (hu : 0 ≤ u ∧ u ≤ 255) (hm : m.length ≤ 9223372036854775807) (hl : l.length ≤ 9223372036854775807) : Spec Try.prog 6 [.agg (encMap m), rL 11 (l.map encEv), .c (.pv (.int .u8 u))] (.val (rB true)) := by
  refine spec_val mixed fn6 (by simp) ?_
  unfold ac6
  simp -implicitDefEqProofs only [↓aP, aQ, ↓reduceIte, Nat.reduceEqDiff, Nat.reduceAdd, Nat.reduceSub, Nat.reduceMul, Nat.reduceLT, Nat.reduceLeDiff, reduceCtorEq, Nat.reduceBEq, forall_const, implies_true, exists_const, ne_eq, Int.reduceAdd, Int.reduceSub, Int.reduceMul, Int.reduceBEq, Int.reduceEq, Int.reduceLT, Int.reduceLE, Int.reduceToNat, Int.reduceNeg, Int.reduceBNe, encMap]
  refine ask (small_spec l hl) ?_
  cases hs : smallE l
  · simp -implicitDefEqProofs only [↓aP, aQ, ↓reduceIte, Nat.reduceEqDiff, Nat.reduceAdd, Nat.reduceSub, Nat.reduceMul, Nat.reduceLT, Nat.reduceLeDiff, reduceCtorEq, Nat.reduceBEq, forall_const, implies_true, exists_const, ne_eq, Int.reduceAdd, Int.reduceSub, Int.reduceMul, Int.reduceBEq, Int.reduceEq, Int.reduceLT, Int.reduceLE, Int.reduceToNat, Int.reduceNeg, Int.reduceBNe]
    refine ask awake_spec ?_
    simp -implicitDefEqProofs only [↓aP, aQ, ↓reduceIte, Nat.reduceEqDiff, Nat.reduceAdd, Nat.reduceSub, Nat.reduceMul, Nat.reduceLT, Nat.reduceLeDiff, reduceCtorEq, Nat.reduceBEq, forall_const, implies_true, exists_const, ne_eq, Int.reduceAdd, Int.reduceSub, Int.reduceMul, Int.reduceBEq, Int.reduceEq, Int.reduceLT, Int.reduceLE, Int.reduceToNat, Int.reduceNeg, Int.reduceBNe]
  simp -implicitDefEqProofs only [↓aP, aQ, ↓reduceIte, Nat.reduceEqDiff, Nat.reduceAdd, Nat.reduceSub, Nat.reduceMul, Nat.reduceLT, Nat.reduceLeDiff, reduceCtorEq, Nat.reduceBEq, forall_const, implies_true, exists_const, ne_eq, Int.reduceAdd, Int.reduceSub, Int.reduceMul, Int.reduceBEq, Int.reduceEq, Int.reduceLT, Int.reduceLE, Int.reduceToNat, Int.reduceNeg, Int.reduceBNe, encMap]
  refine ask (pages_spec m hm) ?_
  cases hp : smallM m
  · simp -implicitDefEqProofs only [↓aP, aQ, ↓reduceIte, Nat.reduceEqDiff, Nat.reduceAdd, Nat.reduceSub, Nat.reduceMul, Nat.reduceLT, Nat.reduceLeDiff, reduceCtorEq, Nat.reduceBEq, forall_const, implies_true, exists_const, ne_eq, Int.reduceAdd, Int.reduceSub, Int.reduceMul, Int.reduceBEq, Int.reduceEq, Int.reduceLT, Int.reduceLE, Int.reduceToNat, Int.reduceNeg, Int.reduceBNe]
    refine ask awake_spec ?_
    simp -implicitDefEqProofs only [↓aP, aQ, ↓reduceIte, Nat.reduceEqDiff, Nat.reduceAdd, Nat.reduceSub, Nat.reduceMul, Nat.reduceLT, Nat.reduceLeDiff, reduceCtorEq, Nat.reduceBEq, forall_const, implies_true, exists_const, ne_eq, Int.reduceAdd, Int.reduceSub, Int.reduceMul, Int.reduceBEq, Int.reduceEq, Int.reduceLT, Int.reduceLE, Int.reduceToNat, Int.reduceNeg, Int.reduceBNe]
  have hl6 := smallE_len hs
  have hm4 := small_len hp
  by_cases h0 : l.length = 0
  · simp -implicitDefEqProofs only [↓aP, aQ, ↓reduceIte, Nat.reduceEqDiff, Nat.reduceAdd, Nat.reduceSub, Nat.reduceMul, Nat.reduceLT, Nat.reduceLeDiff, reduceCtorEq, Nat.reduceBEq, forall_const, implies_true, exists_const, ne_eq, Int.reduceAdd, Int.reduceSub, Int.reduceMul, Int.reduceBEq, Int.reduceEq, Int.reduceLT, Int.reduceLE, Int.reduceToNat, Int.reduceNeg, Int.reduceBNe, List.length_map, show ((l.length : Int) == 0) = true by rw [h0]; rfl]
    refine ask awake_spec ?_
    simp -implicitDefEqProofs only [↓aP, aQ, ↓reduceIte, Nat.reduceEqDiff, Nat.reduceAdd, Nat.reduceSub, Nat.reduceMul, Nat.reduceLT, Nat.reduceLeDiff, reduceCtorEq, Nat.reduceBEq, forall_const, implies_true, exists_const, ne_eq, Int.reduceAdd, Int.reduceSub, Int.reduceMul, Int.reduceBEq, Int.reduceEq, Int.reduceLT, Int.reduceLE, Int.reduceToNat, Int.reduceNeg, Int.reduceBNe]
  obtain ⟨k, hk, hkl⟩ : ∃ k : Nat, (IntKind.i64.wrap u).tmod (l.length : Int) = (k : Int) ∧ k < l.length := by
    rw [wrapI (by omega)]
    have h0 := Int.tmod_nonneg (l.length : Int) hu.1
    have h2 := Int.tmod_lt_of_pos u (b := (l.length : Int)) (by omega)
    exact ⟨(u.tmod (l.length : Int)).toNat, by omega, by omega⟩
  simp -implicitDefEqProofs only [↓aP, aQ, ↓reduceIte, Nat.reduceEqDiff, Nat.reduceAdd, Nat.reduceSub, Nat.reduceMul, Nat.reduceLT, Nat.reduceLeDiff, reduceCtorEq, Nat.reduceBEq, forall_const, implies_true, exists_const, ne_eq, Int.reduceAdd, Int.reduceSub, Int.reduceMul, Int.reduceBEq, Int.reduceEq, Int.reduceLT, Int.reduceLE, Int.reduceToNat, Int.reduceNeg, Int.reduceBNe, encMap, List.length_map, show ((l.length : Int) == 0) = false by rw [beq_eq_false_iff_ne]; omega, hk]
  refine ⟨by omega, ?_⟩
  refine shift (sub_slot (s := 8) 54 tEv 11 rfl (by exact Nat.succ_pos _)) ?_
  refine rangeB l.length (fun i σ => ∃ g, σ.slot 1 = vL 11 (l.map encEv) ∧ σ.slot 3 = .c (.ptr 3 1 0 0) ∧ σ.h.gen 3 = 1 ∧ σ.h.blk 3 = .box 24 1 [(encMap m).map AC.s] ∧ σ.slot 7 = vI k ∧ σ.slot 8 = .c (.own 54 g) ∧ σ.h.gen 54 = g ∧ σ.h.blk 54 = .row tEv 11 (((twist l k).take i).map encEv) ∧ σ.slot 36 = vI l.length ∧ σ.slot 37 = vI i) ?_ ?_ ?_
  · simp -implicitDefEqProofs only [↓aP, aQ, ↓reduceIte, Nat.reduceEqDiff, Nat.reduceAdd, Nat.reduceSub, Nat.reduceMul, Nat.reduceLT, Nat.reduceLeDiff, reduceCtorEq, Nat.reduceBEq, forall_const, implies_true, exists_const, ne_eq, Int.reduceAdd, Int.reduceSub, Int.reduceMul, Int.reduceBEq, Int.reduceEq, Int.reduceLT, Int.reduceLE, Int.reduceToNat, Int.reduceNeg, Int.reduceBNe, encMap, List.take_zero, List.map_nil]
    exact ⟨_, rfl, rfl⟩
  · rintro i n σ him hi hlt ⟨g, s1, s3, g3, b3, s7, s8, g54, b54, s36, s37⟩
    have w1 : IntKind.i64.wrap ((l.length : Int) - (i : Int)) = ((l.length - i : Nat) : Int) := subI (by omega) (by omega)
    have w2 : IntKind.i64.wrap (((l.length - i : Nat) : Int) + (k : Int)) = ((l.length - i + k : Nat) : Int) := natI (by omega)
    have w3 : ((l.length - i + k : Nat) : Int).tmod (l.length : Int) = (((l.length - i + k) % l.length : Nat) : Int) := by
      rw [Int.tmod_eq_emod_of_nonneg (by omega)]; omega
    have hj : (l.length - i + k) % l.length < l.length := Nat.mod_lt _ (by omega)
    have hat := twist_at hkl hi
    obtain ⟨j, hjj⟩ : ∃ j, j = (l.length - i + k) % l.length := ⟨_, rfl⟩
    rw [← hjj] at w3 hj
    simp only [← hjj] at hat
    have hit : i < (twist l k).length := by rw [twist_len]; exact hi
    simp -implicitDefEqProofs only [↓aP, aQ, ↓reduceIte, Nat.reduceEqDiff, Nat.reduceAdd, Nat.reduceSub, Nat.reduceMul, Nat.reduceLT, Nat.reduceLeDiff, reduceCtorEq, Nat.reduceBEq, forall_const, implies_true, exists_const, ne_eq, Int.reduceAdd, Int.reduceSub, Int.reduceMul, Int.reduceBEq, Int.reduceEq, Int.reduceLT, Int.reduceLE, Int.reduceToNat, Int.reduceNeg, Int.reduceBNe, hlt, s1, s3, g3, b3, s7, s8, g54, b54, s36, s37, List.length_map, w1, w2, w3, askIdx_map, hj, encEv]
    have htl : (List.take i (twist l k)).length = i := by simp; omega
    refine ⟨by omega, by omega, by omega, ?_⟩
    refine nextR hi him ⟨g + 1, ?_⟩
    simp -implicitDefEqProofs only [↓aP, aQ, ↓reduceIte, Nat.reduceEqDiff, Nat.reduceAdd, Nat.reduceSub, Nat.reduceMul, Nat.reduceLT, Nat.reduceLeDiff, reduceCtorEq, Nat.reduceBEq, forall_const, implies_true, exists_const, ne_eq, Int.reduceAdd, Int.reduceSub, Int.reduceMul, Int.reduceBEq, Int.reduceEq, Int.reduceLT, Int.reduceLE, Int.reduceToNat, Int.reduceNeg, Int.reduceBNe, s1, s3, g3, b3, s7, s8, g54, b54, s36, s37, wrapS (show i < 4611686018427387904 by omega), take_snoc hit, hat, List.map_append, encEv, encMap]
  · rintro n σ hlt ⟨g, s1, s3, g3, b3, s7, s8, g54, b54, s36, s37⟩
    rw [List.take_of_length_le (by rw [twist_len]; exact Nat.le_refl _)] at b54
    have g1 := hCheck_spec m l (by omega) (by omega)
    have g2 := hCheck_spec m (twist l k) (by omega) (by rw [twist_len]; omega)
    have ga := apart_spec (twist l k) (by rw [twist_len]; omega)
    rw [check_perm twist_perm] at g2
    rw [apart_perm twist_perm] at ga
    have hnl := check_len (m := m) (l := l)
    obtain ⟨x, a, e, hx⟩ : ∃ x a e, checkM m l = (x, a, e) := ⟨_, _, _, rfl⟩
    rw [hx] at g1 g2 hnl
    simp only at hnl
    simp -implicitDefEqProofs only [↓aP, aQ, ↓reduceIte, Nat.reduceEqDiff, Nat.reduceAdd, Nat.reduceSub, Nat.reduceMul, Nat.reduceLT, Nat.reduceLeDiff, reduceCtorEq, Nat.reduceBEq, forall_const, implies_true, exists_const, ne_eq, Int.reduceAdd, Int.reduceSub, Int.reduceMul, Int.reduceBEq, Int.reduceEq, Int.reduceLT, Int.reduceLE, Int.reduceToNat, Int.reduceNeg, Int.reduceBNe, hlt, s1, s3, g3, b3, s7, s8, g54, b54, s36, s37, List.length_map, encMap]
    refine ask g1 ?_
    simp -implicitDefEqProofs only [↓aP, aQ, ↓reduceIte, Nat.reduceEqDiff, Nat.reduceAdd, Nat.reduceSub, Nat.reduceMul, Nat.reduceLT, Nat.reduceLeDiff, reduceCtorEq, Nat.reduceBEq, forall_const, implies_true, exists_const, ne_eq, Int.reduceAdd, Int.reduceSub, Int.reduceMul, Int.reduceBEq, Int.reduceEq, Int.reduceLT, Int.reduceLE, Int.reduceToNat, Int.reduceNeg, Int.reduceBNe, s1, s3, g3, b3, s7, s8, g54, b54, s36, s37, encCk, encMap]
    refine ask g2 ?_
    simp -implicitDefEqProofs only [↓aP, aQ, ↓reduceIte, Nat.reduceEqDiff, Nat.reduceAdd, Nat.reduceSub, Nat.reduceMul, Nat.reduceLT, Nat.reduceLeDiff, reduceCtorEq, Nat.reduceBEq, forall_const, implies_true, exists_const, ne_eq, Int.reduceAdd, Int.reduceSub, Int.reduceMul, Int.reduceBEq, Int.reduceEq, Int.reduceLT, Int.reduceLE, Int.reduceToNat, Int.reduceNeg, Int.reduceBNe, s1, s3, g3, b3, s7, s8, g54, b54, s36, s37, encCk, encMap]
    refine ask (rSame_spec x (by omega)) ?_
    simp -implicitDefEqProofs only [↓aP, aQ, ↓reduceIte, Nat.reduceEqDiff, Nat.reduceAdd, Nat.reduceSub, Nat.reduceMul, Nat.reduceLT, Nat.reduceLeDiff, reduceCtorEq, Nat.reduceBEq, forall_const, implies_true, exists_const, ne_eq, Int.reduceAdd, Int.reduceSub, Int.reduceMul, Int.reduceBEq, Int.reduceEq, Int.reduceLT, Int.reduceLE, Int.reduceToNat, Int.reduceNeg, Int.reduceBNe, s1, s3, g3, b3, s7, s8, g54, b54, s36, s37, beq_self_eq_true]
    refine ask (apart_spec l (by omega)) ?_
    simp -implicitDefEqProofs only [↓aP, aQ, ↓reduceIte, Nat.reduceEqDiff, Nat.reduceAdd, Nat.reduceSub, Nat.reduceMul, Nat.reduceLT, Nat.reduceLeDiff, reduceCtorEq, Nat.reduceBEq, forall_const, implies_true, exists_const, ne_eq, Int.reduceAdd, Int.reduceSub, Int.reduceMul, Int.reduceBEq, Int.reduceEq, Int.reduceLT, Int.reduceLE, Int.reduceToNat, Int.reduceNeg, Int.reduceBNe, s1, s3, g3, b3, s7, s8, g54, b54, s36, s37]
    refine ask ga ?_
    simp -implicitDefEqProofs only [↓aP, aQ, ↓reduceIte, Nat.reduceEqDiff, Nat.reduceAdd, Nat.reduceSub, Nat.reduceMul, Nat.reduceLT, Nat.reduceLeDiff, reduceCtorEq, Nat.reduceBEq, forall_const, implies_true, exists_const, ne_eq, Int.reduceAdd, Int.reduceSub, Int.reduceMul, Int.reduceBEq, Int.reduceEq, Int.reduceLT, Int.reduceLE, Int.reduceToNat, Int.reduceNeg, Int.reduceBNe, s1, s3, g3, b3, s7, s8, g54, b54, s36, s37, beq_self_eq_true]
    refine ask awake_spec ?_
    simp -implicitDefEqProofs only [↓aP, aQ, ↓reduceIte, Nat.reduceEqDiff, Nat.reduceAdd, Nat.reduceSub, Nat.reduceMul, Nat.reduceLT, Nat.reduceLeDiff, reduceCtorEq, Nat.reduceBEq, forall_const, implies_true, exists_const, ne_eq, Int.reduceAdd, Int.reduceSub, Int.reduceMul, Int.reduceBEq, Int.reduceEq, Int.reduceLT, Int.reduceLE, Int.reduceToNat, Int.reduceNeg, Int.reduceBNe]
theorem historyAny_walk {w : World} (v0 : Value) (a0 : ∃ l : List Pg, l.length ≤ maxLen ∧ RepT (RepS w fun _ => False) (.agg (encMap l)) v0) (v1 : Value) (a1 : ∃ l : List Ev, l.length ≤ maxLen ∧ RepT (RepS w fun _ => False) (rL 11 (l.map encEv)) v1) (u : Int) (hu : (Lit.int .u8 u).wf = true) :
    Calls Try.prog 6 #[v0, v1, .int .u8 u] w fun e w' => e = .returned (.bool true) ∧ Below w.heap.size w w' := by
  obtain ⟨m, hm, h0⟩ := a0
  obtain ⟨l, hl, h1⟩ := a1
  unfold maxLen at hm hl
  exact (lawAny_spec m l u (u8_of hu) hm hl).plain (us := [v0, v1, .int .u8 u]) (.cons h0 (.cons h1 (.cons (.pv rfl) .nil)))
end Go.Proofs.Ytbpipdgkkdifgaa
