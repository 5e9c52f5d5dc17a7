/- layer 18: the law OpsPages: its walk. -/
import Derived.Test.YtpcahlanjffilaaO9
import Derived.Test.YtpcahlanjffilaaO14
namespace Go.Proofs.Ytpcahlanjffilaa
open Go.RowKit Ok Go.ChangeShapes Go.WideShapes
set_option linter.unusedVariables false
set_option linter.unusedSimpArgs false
theorem toL_loop (a : ByteArray) : ∀ (n i : Nat) (r : List UInt8), a.size - i = n → ByteArray.toList.loop a i r = r.reverse ++ (a.data.toList.drop i)
  | n, i, r, h => by
    unfold ByteArray.toList.loop
    split
    · rename_i hlt
      rw [toL_loop a (n - 1) (i + 1) _ (by omega)]
      have h1 : i < a.data.toList.length := by simpa using hlt
      rw [List.drop_eq_getElem_cons h1]
      have h2 : i < a.data.size := by simpa using hlt
      have : a.get! i = a.data.toList[i] := by
        simp only [ByteArray.get!, Array.getElem_toList]
        exact getElem!_pos a.data i h2
      simp [this]
    · rename_i hge
      have : a.data.toList.drop i = [] := List.drop_eq_nil_of_le (by simp; omega)
      rw [this]; simp
termination_by n i => a.size - i
theorem toL (a : ByteArray) : a.toList = a.data.toList := by
  unfold ByteArray.toList
  rw [toL_loop a a.size 0 [] (by omega)]; simp
theorem toL_inj {a b : ByteArray} (h : a.toList = b.toList) : a = b := by
  rw [toL, toL] at h
  cases a with | mk x => cases b with | mk y => cases x; cases y; simp at h; rw [h]
def newO (p : Pg) : Opr := ⟨1, p.id, ⟨#[]⟩⟩
def wrO (p : Pg) : Opr := ⟨3, p.id, p.body⟩
theorem ops_snoc {m : List Pg} {i : Nat} (hi : i < m.length) : (m.take (i + 1)).flatMap opsOf = (m.take i).flatMap opsOf ++ (newO m[i] :: List.replicate (m[i].ver - 1).toNat (wrO m[i])) := by
  rw [take_snoc hi, List.flatMap_append]
  simp [opsOf, newO, wrO]
def okV (p : Pg) : Prop := p.ver ≤ 50 ∧ (p.ver = 1 → p.body = ⟨#[]⟩)
theorem ops_len {m : List Pg} (h : ∀ p ∈ m, okV p ∧ 1 ≤ p.ver) : (m.flatMap opsOf).length ≤ 50 * m.length := by
  induction m with
  | nil => simp
  | cons p ps ih =>
    have h1 := ih (fun q hq => h q (by simp [hq]))
    obtain ⟨⟨h2, _⟩, h3⟩ := h p (by simp)
    simp only [List.flatMap_cons, List.length_append, opsOf, List.length_cons, List.length_replicate]
    omega



theorem lawPages_spec (m : List Pg) (hm : m.length ≤ 9223372036854775807) : Spec Try.prog 9 [.agg (encMap m)] (.val (rB true)) := by
  refine spec_val mixed fn9 (by simp) ?_
  unfold ac9
  simp -implicitDefEqProofs only [↓aP, aQ, ↓reduceIte, Nat.reduceEqDiff, Nat.reduceAdd, Nat.reduceSub, Nat.reduceMul, Nat.reduceLT, Nat.reduceLeDiff, reduceCtorEq, Nat.reduceBEq, forall_const, implies_true, exists_const, ne_eq, Int.reduceAdd, Int.reduceSub, Int.reduceMul, Int.reduceBEq, Int.reduceEq, Int.reduceLT, Int.reduceLE, Int.reduceToNat, Int.reduceNeg, Int.reduceBNe, encMap]
  refine ask (small_spec m hm) ?_
  cases hs : smallM m
  · simp -implicitDefEqProofs only [↓aP, aQ, ↓reduceIte, Nat.reduceEqDiff, Nat.reduceAdd, Nat.reduceSub, Nat.reduceMul, Nat.reduceLT, Nat.reduceLeDiff, reduceCtorEq, Nat.reduceBEq, forall_const, implies_true, exists_const, ne_eq, Int.reduceAdd, Int.reduceSub, Int.reduceMul, Int.reduceBEq, Int.reduceEq, Int.reduceLT, Int.reduceLE, Int.reduceToNat, Int.reduceNeg, Int.reduceBNe]
    refine ask awake_spec ?_
    simp -implicitDefEqProofs only [↓aP, aQ, ↓reduceIte, Nat.reduceEqDiff, Nat.reduceAdd, Nat.reduceSub, Nat.reduceMul, Nat.reduceLT, Nat.reduceLeDiff, reduceCtorEq, Nat.reduceBEq, forall_const, implies_true, exists_const, ne_eq, Int.reduceAdd, Int.reduceSub, Int.reduceMul, Int.reduceBEq, Int.reduceEq, Int.reduceLT, Int.reduceLE, Int.reduceToNat, Int.reduceNeg, Int.reduceBNe]
  have hl := small_len hs
  simp -implicitDefEqProofs only [↓aP, aQ, ↓reduceIte, Nat.reduceEqDiff, Nat.reduceAdd, Nat.reduceSub, Nat.reduceMul, Nat.reduceLT, Nat.reduceLeDiff, reduceCtorEq, Nat.reduceBEq, forall_const, implies_true, exists_const, ne_eq, Int.reduceAdd, Int.reduceSub, Int.reduceMul, Int.reduceBEq, Int.reduceEq, Int.reduceLT, Int.reduceLE, Int.reduceToNat, Int.reduceNeg, Int.reduceBNe, encMap]
  refine ask (rRight_spec m (by omega)) ?_
  cases hr : rightM m
  · simp -implicitDefEqProofs only [↓aP, aQ, ↓reduceIte, Nat.reduceEqDiff, Nat.reduceAdd, Nat.reduceSub, Nat.reduceMul, Nat.reduceLT, Nat.reduceLeDiff, reduceCtorEq, Nat.reduceBEq, forall_const, implies_true, exists_const, ne_eq, Int.reduceAdd, Int.reduceSub, Int.reduceMul, Int.reduceBEq, Int.reduceEq, Int.reduceLT, Int.reduceLE, Int.reduceToNat, Int.reduceNeg, Int.reduceBNe]
    refine ask awake_spec ?_
    simp -implicitDefEqProofs only [↓aP, aQ, ↓reduceIte, Nat.reduceEqDiff, Nat.reduceAdd, Nat.reduceSub, Nat.reduceMul, Nat.reduceLT, Nat.reduceLeDiff, reduceCtorEq, Nat.reduceBEq, forall_const, implies_true, exists_const, ne_eq, Int.reduceAdd, Int.reduceSub, Int.reduceMul, Int.reduceBEq, Int.reduceEq, Int.reduceLT, Int.reduceLE, Int.reduceToNat, Int.reduceNeg, Int.reduceBNe]
  obtain ⟨hok, hmo⟩ := right_iff.1 hr
  have h16 := right_len hr
  simp -implicitDefEqProofs only [↓aP, aQ, ↓reduceIte, Nat.reduceEqDiff, Nat.reduceAdd, Nat.reduceSub, Nat.reduceMul, Nat.reduceLT, Nat.reduceLeDiff, reduceCtorEq, Nat.reduceBEq, forall_const, implies_true, exists_const, ne_eq, Int.reduceAdd, Int.reduceSub, Int.reduceMul, Int.reduceBEq, Int.reduceEq, Int.reduceLT, Int.reduceLE, Int.reduceToNat, Int.reduceNeg, Int.reduceBNe, encMap]
  refine shift (sub_slot (s := 3) 46 26 3 rfl (by exact Nat.succ_pos _)) ?_
  refine rangeB m.length (fun i σ => (∀ p ∈ m.take i, okV p) ∧ ∃ g, σ.slot 1 = .c (.ptr 1 1 0 0) ∧ σ.h.gen 1 = 1 ∧ σ.h.blk 1 = .box 24 1 [(encMap m).map AC.s] ∧ σ.slot 3 = .c (.own 46 g) ∧ σ.h.gen 46 = g ∧ σ.h.blk 46 = .row 26 3 (((m.take i).flatMap opsOf).map encOp) ∧ σ.slot 21 = vL 3 (m.map encPg) ∧ σ.slot 22 = vI m.length ∧ σ.slot 23 = vI i) ?_ ?_ ?_
  · simp -implicitDefEqProofs only [↓aP, aQ, ↓reduceIte, Nat.reduceEqDiff, Nat.reduceAdd, Nat.reduceSub, Nat.reduceMul, Nat.reduceLT, Nat.reduceLeDiff, reduceCtorEq, Nat.reduceBEq, forall_const, implies_true, exists_const, ne_eq, Int.reduceAdd, Int.reduceSub, Int.reduceMul, Int.reduceBEq, Int.reduceEq, Int.reduceLT, Int.reduceLE, Int.reduceToNat, Int.reduceNeg, Int.reduceBNe, encMap]
    simp
  · rintro i k σ him hi hlt ⟨hv, g, s1, g1, b1, s3, g46, b46, s21, s22, s23⟩
    have hpi := okP_iff.1 (hok _ (List.getElem_mem hi))
    have hLl : ((m.take i).flatMap opsOf).length ≤ 50 * 16 := by
      have h1 := ops_len (m := m.take i) (fun p hp => ⟨hv p hp, (okP_iff.1 (hok p (List.mem_of_mem_take hp))).2.2.1⟩)
      rw [List.length_take] at h1
      omega
    simp -implicitDefEqProofs only [↓aP, aQ, ↓reduceIte, Nat.reduceEqDiff, Nat.reduceAdd, Nat.reduceSub, Nat.reduceMul, Nat.reduceLT, Nat.reduceLeDiff, reduceCtorEq, Nat.reduceBEq, forall_const, implies_true, exists_const, ne_eq, Int.reduceAdd, Int.reduceSub, Int.reduceMul, Int.reduceBEq, Int.reduceEq, Int.reduceLT, Int.reduceLE, Int.reduceToNat, Int.reduceNeg, Int.reduceBNe, hlt, s1, g1, b1, s3, g46, b46, s21, s22, s23, askIdx_map, hi, encPg]
    by_cases h50 : 50 < m[i].ver
    · simp -implicitDefEqProofs only [↓aP, aQ, ↓reduceIte, Nat.reduceEqDiff, Nat.reduceAdd, Nat.reduceSub, Nat.reduceMul, Nat.reduceLT, Nat.reduceLeDiff, reduceCtorEq, Nat.reduceBEq, forall_const, implies_true, exists_const, ne_eq, Int.reduceAdd, Int.reduceSub, Int.reduceMul, Int.reduceBEq, Int.reduceEq, Int.reduceLT, Int.reduceLE, Int.reduceToNat, Int.reduceNeg, Int.reduceBNe, show decide ((50 : Int) < m[i].ver) = true by simp; omega]
      refine ask awake_spec ?_
      simp -implicitDefEqProofs only [↓aP, aQ, ↓reduceIte, Nat.reduceEqDiff, Nat.reduceAdd, Nat.reduceSub, Nat.reduceMul, Nat.reduceLT, Nat.reduceLeDiff, reduceCtorEq, Nat.reduceBEq, forall_const, implies_true, exists_const, ne_eq, Int.reduceAdd, Int.reduceSub, Int.reduceMul, Int.reduceBEq, Int.reduceEq, Int.reduceLT, Int.reduceLE, Int.reduceToNat, Int.reduceNeg, Int.reduceBNe]
    simp -implicitDefEqProofs only [↓aP, aQ, ↓reduceIte, Nat.reduceEqDiff, Nat.reduceAdd, Nat.reduceSub, Nat.reduceMul, Nat.reduceLT, Nat.reduceLeDiff, reduceCtorEq, Nat.reduceBEq, forall_const, implies_true, exists_const, ne_eq, Int.reduceAdd, Int.reduceSub, Int.reduceMul, Int.reduceBEq, Int.reduceEq, Int.reduceLT, Int.reduceLE, Int.reduceToNat, Int.reduceNeg, Int.reduceBNe, show decide ((50 : Int) < m[i].ver) = false by simp; omega, s1, g1, b1, s3, g46, b46, s21, s22, s23]
    obtain ⟨GA, hGA⟩ : ∃ G, σ.h.gen 5 = G := ⟨_, rfl⟩
    have body : ∀ K : Prop, ((m[i].ver == 1) = true → (!(m[i].body.toList == ByteArray.toList ⟨#[]⟩)) = true → K) → ((m[i].ver == 1) = true → (!(m[i].body.toList == ByteArray.toList ⟨#[]⟩)) = false → okV m[i] → K) → ((m[i].ver == 1) = false → okV m[i] → K) → K := by
      intro K k1 k2 k3
      cases hv1 : (m[i].ver == 1)
      · exact k3 hv1 ⟨by omega, fun e => by simp [e] at hv1⟩
      · cases hb : (m[i].body.toList == ByteArray.toList ⟨#[]⟩)
        · exact k1 hv1 (by rw [hb]; rfl)
        · exact k2 hv1 (by rw [hb]; rfl) ⟨by omega, fun _ => toL_inj (by simpa using hb)⟩
    refine body _ (fun c1 c2 => ?_) (fun c1 c2 hvi => ?_) (fun c1 hvi => ?_)
    · simp -implicitDefEqProofs only [↓aP, aQ, ↓reduceIte, Nat.reduceEqDiff, Nat.reduceAdd, Nat.reduceSub, Nat.reduceMul, Nat.reduceLT, Nat.reduceLeDiff, reduceCtorEq, Nat.reduceBEq, forall_const, implies_true, exists_const, ne_eq, Int.reduceAdd, Int.reduceSub, Int.reduceMul, Int.reduceBEq, Int.reduceEq, Int.reduceLT, Int.reduceLE, Int.reduceToNat, Int.reduceNeg, Int.reduceBNe, c1, c2, s1, g1, b1, s3, g46, b46, s21, s22, s23, encPg]
      refine ask awake_spec ?_
      simp -implicitDefEqProofs only [↓aP, aQ, ↓reduceIte, Nat.reduceEqDiff, Nat.reduceAdd, Nat.reduceSub, Nat.reduceMul, Nat.reduceLT, Nat.reduceLeDiff, reduceCtorEq, Nat.reduceBEq, forall_const, implies_true, exists_const, ne_eq, Int.reduceAdd, Int.reduceSub, Int.reduceMul, Int.reduceBEq, Int.reduceEq, Int.reduceLT, Int.reduceLE, Int.reduceToNat, Int.reduceNeg, Int.reduceBNe]
    case' refine_2 => simp -implicitDefEqProofs only [↓aP, aQ, ↓reduceIte, Nat.reduceEqDiff, Nat.reduceAdd, Nat.reduceSub, Nat.reduceMul, Nat.reduceLT, Nat.reduceLeDiff, reduceCtorEq, Nat.reduceBEq, forall_const, implies_true, exists_const, ne_eq, Int.reduceAdd, Int.reduceSub, Int.reduceMul, Int.reduceBEq, Int.reduceEq, Int.reduceLT, Int.reduceLE, Int.reduceToNat, Int.reduceNeg, Int.reduceBNe, c1, c2, s1, g1, b1, s3, g46, b46, s21, s22, s23, encPg, List.length_map, hGA, show IntKind.i64.wrap (m[i].ver - 1) = m[i].ver - 1 from wrapI (by omega)]
    case' refine_3 => simp -implicitDefEqProofs only [↓aP, aQ, ↓reduceIte, Nat.reduceEqDiff, Nat.reduceAdd, Nat.reduceSub, Nat.reduceMul, Nat.reduceLT, Nat.reduceLeDiff, reduceCtorEq, Nat.reduceBEq, forall_const, implies_true, exists_const, ne_eq, Int.reduceAdd, Int.reduceSub, Int.reduceMul, Int.reduceBEq, Int.reduceEq, Int.reduceLT, Int.reduceLE, Int.reduceToNat, Int.reduceNeg, Int.reduceBNe, c1, s1, g1, b1, s3, g46, b46, s21, s22, s23, encPg, List.length_map, hGA, show IntKind.i64.wrap (m[i].ver - 1) = m[i].ver - 1 from wrapI (by omega)]
    all_goals
      refine ⟨by omega, by omega, ?_⟩
      refine rangeB (m[i].ver - 1).toNat (fun j σ => ∃ g, σ.slot 1 = .c (.ptr 1 1 0 0) ∧ σ.h.gen 1 = 1 ∧ σ.h.blk 1 = .box 24 1 [(encMap m).map AC.s] ∧ σ.slot 3 = .c (.own 46 g) ∧ σ.h.gen 46 = g ∧ σ.h.blk 46 = .row 26 3 (((m.take i).flatMap opsOf ++ (newO m[i] :: List.replicate j (wrO m[i]))).map encOp) ∧ σ.slot 5 = .c (.ptr 5 (GA + 1) 0 0) ∧ σ.h.gen 5 = GA + 1 ∧ σ.h.blk 5 = .box 31 3 [(encPg m[i]).map AC.s] ∧ σ.slot 21 = vL 3 (m.map encPg) ∧ σ.slot 22 = vI m.length ∧ σ.slot 23 = vI i ∧ σ.slot 49 = vI (m[i].ver - 1) ∧ σ.slot 50 = vI j) ?_ ?_ ?_
      · refine ⟨g + 1, ?_⟩
        simp -implicitDefEqProofs only [↓aP, aQ, ↓reduceIte, Nat.reduceEqDiff, Nat.reduceAdd, Nat.reduceSub, Nat.reduceMul, Nat.reduceLT, Nat.reduceLeDiff, reduceCtorEq, Nat.reduceBEq, forall_const, implies_true, exists_const, ne_eq, Int.reduceAdd, Int.reduceSub, Int.reduceMul, Int.reduceBEq, Int.reduceEq, Int.reduceLT, Int.reduceLE, Int.reduceToNat, Int.reduceNeg, Int.reduceBNe, s1, g1, b1, s3, g46, b46, s21, s22, s23, encMap, encPg, hGA]
        rw [List.map_append]
        rfl
      · clear hlt s1 g1 b1 s3 g46 b46 s21 s22 s23 hGA
        rintro j k2 σ hjm hj hlt ⟨g, s1, g1, b1, s3, g46, b46, s5, g5, b5, s21, s22, s23, s49, s50⟩
        have d1 : decide ((j : Int) < m[i].ver - 1) = true := by simp; omega
        simp -implicitDefEqProofs only [↓aP, aQ, ↓reduceIte, Nat.reduceEqDiff, Nat.reduceAdd, Nat.reduceSub, Nat.reduceMul, Nat.reduceLT, Nat.reduceLeDiff, reduceCtorEq, Nat.reduceBEq, forall_const, implies_true, exists_const, ne_eq, Int.reduceAdd, Int.reduceSub, Int.reduceMul, Int.reduceBEq, Int.reduceEq, Int.reduceLT, Int.reduceLE, Int.reduceToNat, Int.reduceNeg, Int.reduceBNe, hlt, s1, g1, b1, s3, g46, b46, s5, g5, b5, s21, s22, s23, s49, s50, d1, encPg, List.length_map, List.length_append, List.length_cons, List.length_replicate, wrapS (show j < 4611686018427387904 by omega)]
        refine ⟨by omega, by omega, ?_⟩
        refine nextR hj hjm ⟨g + 1, ?_⟩
        simp -implicitDefEqProofs only [↓aP, aQ, ↓reduceIte, Nat.reduceEqDiff, Nat.reduceAdd, Nat.reduceSub, Nat.reduceMul, Nat.reduceLT, Nat.reduceLeDiff, reduceCtorEq, Nat.reduceBEq, forall_const, implies_true, exists_const, ne_eq, Int.reduceAdd, Int.reduceSub, Int.reduceMul, Int.reduceBEq, Int.reduceEq, Int.reduceLT, Int.reduceLE, Int.reduceToNat, Int.reduceNeg, Int.reduceBNe, s1, g1, b1, s3, g46, b46, s5, g5, b5, s21, s22, s23, s49, s50, encMap, encPg]
        have e : wrO m[i] :: List.replicate j (wrO m[i]) = List.replicate j (wrO m[i]) ++ [wrO m[i]] := by rw [← List.replicate_succ, List.replicate_succ']
        try rw [e]
        simp [List.map_append, encOp, wrO]
      · clear hlt s1 g1 b1 s3 g46 b46 s21 s22 s23 hGA
        rintro k2 σ hlt ⟨g, s1, g1, b1, s3, g46, b46, s5, g5, b5, s21, s22, s23, s49, s50⟩
        have d1 : decide (((m[i].ver - 1).toNat : Int) < m[i].ver - 1) = false := by simp; omega
        simp -implicitDefEqProofs only [↓aP, aQ, ↓reduceIte, Nat.reduceEqDiff, Nat.reduceAdd, Nat.reduceSub, Nat.reduceMul, Nat.reduceLT, Nat.reduceLeDiff, reduceCtorEq, Nat.reduceBEq, forall_const, implies_true, exists_const, ne_eq, Int.reduceAdd, Int.reduceSub, Int.reduceMul, Int.reduceBEq, Int.reduceEq, Int.reduceLT, Int.reduceLE, Int.reduceToNat, Int.reduceNeg, Int.reduceBNe, hlt, s1, g1, b1, s3, g46, b46, s5, g5, b5, s21, s22, s23, s49, s50, d1, wrapS (show i < 4611686018427387904 by omega)]
        refine nextR hi him ⟨?_, g, ?_⟩
        · rw [take_snoc hi]
          intro p hp
          rcases List.mem_append.1 hp with hp | hp
          · exact hv p hp
          · rw [List.mem_singleton.1 hp]; exact hvi
        · simp -implicitDefEqProofs only [↓aP, aQ, ↓reduceIte, Nat.reduceEqDiff, Nat.reduceAdd, Nat.reduceSub, Nat.reduceMul, Nat.reduceLT, Nat.reduceLeDiff, reduceCtorEq, Nat.reduceBEq, forall_const, implies_true, exists_const, ne_eq, Int.reduceAdd, Int.reduceSub, Int.reduceMul, Int.reduceBEq, Int.reduceEq, Int.reduceLT, Int.reduceLE, Int.reduceToNat, Int.reduceNeg, Int.reduceBNe, s1, g1, b1, s3, g46, b46, s5, g5, b5, s21, s22, s23, s49, s50, encMap]
          rw [ops_snoc hi]
  · rintro k σ hlt ⟨hv, g, s1, g1, b1, s3, g46, b46, s21, s22, s23⟩
    rw [List.take_length] at hv b46
    have hLl : (m.flatMap opsOf).length ≤ 50 * 16 := by
      have h1 := ops_len (m := m) (fun p hp => ⟨hv p hp, (okP_iff.1 (hok p hp)).2.2.1⟩)
      omega
    have hal := oAll_spec [] (m.flatMap opsOf) (by rw [List.length_nil]; omega)
    obtain ⟨a1, a2⟩ := all_pages hr hv
    have hrl := allM_len (l := []) (os := m.flatMap opsOf)
    obtain ⟨L, hL⟩ : ∃ L, L = m.flatMap opsOf := ⟨_, rfl⟩
    rw [← hL] at hal a1 a2 hrl b46 hLl
    obtain ⟨x, rs, hx⟩ : ∃ x rs, allM [] L = (x, rs) := ⟨_, _, rfl⟩
    rw [hx] at hal a1 a2 hrl
    simp only at a1 a2 hrl
    subst a1
    obtain ⟨GA, hGA⟩ : ∃ G, σ.h.gen 6 = G := ⟨_, rfl⟩
    simp -implicitDefEqProofs only [↓aP, aQ, ↓reduceIte, Nat.reduceEqDiff, Nat.reduceAdd, Nat.reduceSub, Nat.reduceMul, Nat.reduceLT, Nat.reduceLeDiff, reduceCtorEq, Nat.reduceBEq, forall_const, implies_true, exists_const, ne_eq, Int.reduceAdd, Int.reduceSub, Int.reduceMul, Int.reduceBEq, Int.reduceEq, Int.reduceLT, Int.reduceLE, Int.reduceToNat, Int.reduceNeg, Int.reduceBNe, hlt, s1, g1, b1, s3, g46, b46, s21, s22, s23, encMap]
    refine askS hal (by simp -implicitDefEqProofs only [↓aP, aQ, ↓reduceIte, Nat.reduceEqDiff, Nat.reduceAdd, Nat.reduceSub, Nat.reduceMul, Nat.reduceLT, Nat.reduceLeDiff, reduceCtorEq, Nat.reduceBEq, forall_const, implies_true, exists_const, ne_eq, Int.reduceAdd, Int.reduceSub, Int.reduceMul, Int.reduceBEq, Int.reduceEq, Int.reduceLT, Int.reduceLE, Int.reduceToNat, Int.reduceNeg, Int.reduceBNe, encMap]) ?_
    simp -implicitDefEqProofs only [↓aP, aQ, ↓reduceIte, Nat.reduceEqDiff, Nat.reduceAdd, Nat.reduceSub, Nat.reduceMul, Nat.reduceLT, Nat.reduceLeDiff, reduceCtorEq, Nat.reduceBEq, forall_const, implies_true, exists_const, ne_eq, Int.reduceAdd, Int.reduceSub, Int.reduceMul, Int.reduceBEq, Int.reduceEq, Int.reduceLT, Int.reduceLE, Int.reduceToNat, Int.reduceNeg, Int.reduceBNe, encAll, encMap, s1, g1, b1, s3, g46, b46, s21, s22, s23, hGA]
    refine rangeB rs.length (fun i σ => σ.slot 1 = .c (.ptr 1 1 0 0) ∧ σ.h.gen 1 = 1 ∧ σ.h.blk 1 = .box 24 1 [(encMap x).map AC.s] ∧ σ.slot 3 = .c (.own 46 g) ∧ σ.h.gen 46 = g ∧ σ.h.blk 46 = .ice (.sl 3 (L.map encOp)) ∧ σ.slot 6 = .c (.ptr 6 (GA + 1) 0 0) ∧ σ.h.gen 6 = GA + 1 ∧ σ.h.blk 6 = .box 24 1 [(encMap x).map AC.s] ∧ σ.slot 7 = vL 4 (rs.map encRs) ∧ σ.slot 68 = vL 4 (rs.map encRs) ∧ σ.slot 69 = vI rs.length ∧ σ.slot 70 = vI i) ?_ ?_ ?_
    · simp -implicitDefEqProofs only [↓aP, aQ, ↓reduceIte, Nat.reduceEqDiff, Nat.reduceAdd, Nat.reduceSub, Nat.reduceMul, Nat.reduceLT, Nat.reduceLeDiff, reduceCtorEq, Nat.reduceBEq, forall_const, implies_true, exists_const, ne_eq, Int.reduceAdd, Int.reduceSub, Int.reduceMul, Int.reduceBEq, Int.reduceEq, Int.reduceLT, Int.reduceLE, Int.reduceToNat, Int.reduceNeg, Int.reduceBNe, s1, g1, b1, s3, g46, b46, s21, s22, s23, encMap, hGA]
    · clear hlt s1 g1 b1 s3 g46 b46 s21 s22 s23 hGA
      rintro i k σ him hi hlt ⟨s1, g1, b1, s3, g46, b46, s6, g6, b6, s7, s68, s69, s70⟩
      have h0 := a2 _ (List.getElem_mem hi)
      simp -implicitDefEqProofs only [↓aP, aQ, ↓reduceIte, Nat.reduceEqDiff, Nat.reduceAdd, Nat.reduceSub, Nat.reduceMul, Nat.reduceLT, Nat.reduceLeDiff, reduceCtorEq, Nat.reduceBEq, forall_const, implies_true, exists_const, ne_eq, Int.reduceAdd, Int.reduceSub, Int.reduceMul, Int.reduceBEq, Int.reduceEq, Int.reduceLT, Int.reduceLE, Int.reduceToNat, Int.reduceNeg, Int.reduceBNe, hlt, s1, g1, b1, s3, g46, b46, s6, g6, b6, s7, s68, s69, s70, askIdx_map, hi, encRs, h0, bne_self_eq_false, wrapS (show i < 4611686018427387904 by omega)]
      refine nextR hi him ?_
      simp -implicitDefEqProofs only [↓aP, aQ, ↓reduceIte, Nat.reduceEqDiff, Nat.reduceAdd, Nat.reduceSub, Nat.reduceMul, Nat.reduceLT, Nat.reduceLeDiff, reduceCtorEq, Nat.reduceBEq, forall_const, implies_true, exists_const, ne_eq, Int.reduceAdd, Int.reduceSub, Int.reduceMul, Int.reduceBEq, Int.reduceEq, Int.reduceLT, Int.reduceLE, Int.reduceToNat, Int.reduceNeg, Int.reduceBNe, s1, g1, b1, s3, g46, b46, s6, g6, b6, s7, s68, s69, s70, encMap]
    · clear hlt s1 g1 b1 s3 g46 b46 s21 s22 s23 hGA
      rintro k σ hlt ⟨s1, g1, b1, s3, g46, b46, s6, g6, b6, s7, s68, s69, s70⟩
      simp -implicitDefEqProofs only [↓aP, aQ, ↓reduceIte, Nat.reduceEqDiff, Nat.reduceAdd, Nat.reduceSub, Nat.reduceMul, Nat.reduceLT, Nat.reduceLeDiff, reduceCtorEq, Nat.reduceBEq, forall_const, implies_true, exists_const, ne_eq, Int.reduceAdd, Int.reduceSub, Int.reduceMul, Int.reduceBEq, Int.reduceEq, Int.reduceLT, Int.reduceLE, Int.reduceToNat, Int.reduceNeg, Int.reduceBNe, hlt, s1, g1, b1, s3, g46, b46, s6, g6, b6, s7, s68, s69, s70, encMap, List.length_map]
      simp -implicitDefEqProofs only [↓aP, aQ, ↓reduceIte, Nat.reduceEqDiff, Nat.reduceAdd, Nat.reduceSub, Nat.reduceMul, Nat.reduceLT, Nat.reduceLeDiff, reduceCtorEq, Nat.reduceBEq, forall_const, implies_true, exists_const, ne_eq, Int.reduceAdd, Int.reduceSub, Int.reduceMul, Int.reduceBEq, Int.reduceEq, Int.reduceLT, Int.reduceLE, Int.reduceToNat, Int.reduceNeg, Int.reduceBNe, s1, g1, b1, s3, g46, b46, s6, g6, b6, s7, s68, s69, s70, encMap, List.length_map, hrl, beq_self_eq_true]
      refine ask (rSame_spec x (by omega)) ?_
      simp -implicitDefEqProofs only [↓aP, aQ, ↓reduceIte, Nat.reduceEqDiff, Nat.reduceAdd, Nat.reduceSub, Nat.reduceMul, Nat.reduceLT, Nat.reduceLeDiff, reduceCtorEq, Nat.reduceBEq, forall_const, implies_true, exists_const, ne_eq, Int.reduceAdd, Int.reduceSub, Int.reduceMul, Int.reduceBEq, Int.reduceEq, Int.reduceLT, Int.reduceLE, Int.reduceToNat, Int.reduceNeg, Int.reduceBNe, s1, g1, b1, s3, g46, b46, s6, g6, b6, s7, s68, s69, s70, encMap]
      refine ask (oRight_spec x (by omega)) ?_
      simp -implicitDefEqProofs only [↓aP, aQ, ↓reduceIte, Nat.reduceEqDiff, Nat.reduceAdd, Nat.reduceSub, Nat.reduceMul, Nat.reduceLT, Nat.reduceLeDiff, reduceCtorEq, Nat.reduceBEq, forall_const, implies_true, exists_const, ne_eq, Int.reduceAdd, Int.reduceSub, Int.reduceMul, Int.reduceBEq, Int.reduceEq, Int.reduceLT, Int.reduceLE, Int.reduceToNat, Int.reduceNeg, Int.reduceBNe, hr]
      refine ask awake_spec ?_
      simp -implicitDefEqProofs only [↓aP, aQ, ↓reduceIte, Nat.reduceEqDiff, Nat.reduceAdd, Nat.reduceSub, Nat.reduceMul, Nat.reduceLT, Nat.reduceLeDiff, reduceCtorEq, Nat.reduceBEq, forall_const, implies_true, exists_const, ne_eq, Int.reduceAdd, Int.reduceSub, Int.reduceMul, Int.reduceBEq, Int.reduceEq, Int.reduceLT, Int.reduceLE, Int.reduceToNat, Int.reduceNeg, Int.reduceBNe]
theorem opsPages_walk {w : World} (v0 : Value) (a0 : ∃ l : List Pg, l.length ≤ maxLen ∧ RepT (RepS w fun _ => False) (.agg (encMap l)) v0) :
    Calls Try.prog 9 #[v0] w fun e w' => e = .returned (.bool true) ∧ Below w.heap.size w w' := by
  obtain ⟨m, hm, h0⟩ := a0
  unfold maxLen at hm
  exact (lawPages_spec m hm).plain (us := [v0]) (.cons h0 .nil)
end Go.Proofs.Ytpcahlanjffilaa
