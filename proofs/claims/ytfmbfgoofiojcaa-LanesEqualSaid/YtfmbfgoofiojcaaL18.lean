/- THE STATEMENT LanesServed: its walk. -/
import Derived.Test.YtfmbfgoofiojcaaL16
import Derived.Test.YtfmbfgoofiojcaaL17
namespace Go.Proofs.Ytfmbfgoofiojcaa
open Go.RowKit Lk Go.ChangeShapes Go.WideShapes
set_option linter.unusedVariables false
set_option linter.unusedSimpArgs false
set_option maxRecDepth 10000
theorem wts_ok {U : List Int} (hU : U8 U) : okNew (wts U) = true := by
  have hUt : U8 (U.take (min U.length 6)) := fun u hu => hU u (List.mem_of_mem_take hu)
  unfold wts
  split
  · decide
  · exact okNew_map hUt (by rw [List.length_take]; omega) (by rw [List.length_take]; omega)
theorem fill_costs {W : List Int} {K : List (List Int)} : ∀ c ∈ costs (fillL W K W.length 0), 150 ≤ c.length := by
  intro c hc
  unfold costs at hc
  obtain ⟨y, hy, rfl⟩ := List.mem_map.1 hc
  obtain ⟨j, hj, rfl⟩ := List.getElem_of_mem hy
  have hj2 : j < W.length := by rw [fill_len] at hj; exact hj
  rw [fill_get]
  simp only [fillC]
  rw [if_pos hj2]
  simp
theorem fill_weights {W : List Int} {K : List (List Int)} {i k : Nat} : weights (fillL W K i k) = W := by
  unfold weights
  apply List.ext_getElem?
  intro j
  rw [List.getElem?_map]
  by_cases hj : j < W.length
  · rw [List.getElem?_eq_getElem (by rw [fill_len]; exact hj), fill_get, List.getElem?_eq_getElem hj]
    simp [List.getElem?_eq_getElem hj]
  · rw [List.getElem?_eq_none (by rw [fill_len]; omega), List.getElem?_eq_none (by omega)]; rfl

def Sv (W : List Int) (i : Nat) (x : Ls) (S : List Int) : Prop := right x = true ∧ weights x = W ∧ x.l.length = W.length ∧ S.length = W.length ∧ (∀ c ∈ costs x, 150 - i ≤ c.length) ∧ (∀ s ∈ S, 0 ≤ s ∧ s ≤ 8 * (i : Int)) ∧
  ∀ j (h : j < S.length) (h' : j < x.l.length), ∃ q : Int, S[j] + x.l[j].d = q * (4 * x.l[j].w)
theorem lawServed_spec (U : List Int) (K : List (List Int)) (st : Int) (hU : U8 U) (hK : ∀ r ∈ K, U8 r) (hst : 0 ≤ st ∧ st ≤ 255) : Spec Try.prog 9 [rL 1 (U.map encU), rL 1 (K.map encRw), .c (.pv (.int .u8 st))] (.val (rB true)) := by
  refine spec_val mixed fn9 (by simp) ?_
  unfold ac9
  simp -implicitDefEqProofs only [↓aP, aQ, ↓reduceIte, Nat.reduceEqDiff, Nat.reduceAdd, Nat.reduceSub, Nat.reduceMul, Nat.reduceLT, Nat.reduceLeDiff, reduceCtorEq, Nat.reduceBEq, forall_const, implies_true, exists_const, ne_eq, Int.reduceAdd, Int.reduceSub, Int.reduceMul, Int.reduceBEq, Int.reduceEq, Int.reduceLT, Int.reduceLE, Int.reduceToNat, Int.reduceNeg, Int.reduceBNe]
  refine ask (filled_spec U K hU hK) ?_
  have hWn := wts_ok hU
  obtain ⟨W, hW⟩ : ∃ W, W = wts U := ⟨_, rfl⟩
  rw [← hW] at hWn ⊢
  have hW6 : 1 ≤ W.length ∧ W.length ≤ 6 := by
    unfold okNew at hWn
    simp only [Bool.and_eq_true, decide_eq_true_eq] at hWn
    exact hWn.1
  obtain ⟨N, hN⟩ : ∃ N : Nat, st.tmod 101 = N := ⟨(st.tmod 101).toNat, by rw [Int.tmod_eq_emod_of_nonneg hst.1]; omega⟩
  have hN100 : N ≤ 100 := by rw [Int.tmod_eq_emod_of_nonneg hst.1] at hN; omega
  simp -implicitDefEqProofs only [↓aP, aQ, ↓reduceIte, Nat.reduceEqDiff, Nat.reduceAdd, Nat.reduceSub, Nat.reduceMul, Nat.reduceLT, Nat.reduceLeDiff, reduceCtorEq, Nat.reduceBEq, forall_const, implies_true, exists_const, ne_eq, Int.reduceAdd, Int.reduceSub, Int.reduceMul, Int.reduceBEq, Int.reduceEq, Int.reduceLT, Int.reduceLE, Int.reduceToNat, Int.reduceNeg, Int.reduceBNe, encFl, encLs, List.length_map, hN]
  refine ⟨by omega, by omega, ?_⟩
  refine rangeB N (fun i σ => ∃ x S, Sv W i x S ∧ σ.slot 7 = .c (.ptr 7 1 0 0) ∧ σ.h.gen 7 = 1 ∧ σ.h.blk 7 = .box 25 3 [(encLs x).map AC.s] ∧ σ.slot 8 = vL 1 (W.map encI) ∧ σ.slot 10 = .c (.own 27 1) ∧ σ.h.gen 27 = 1 ∧ σ.h.blk 27 = .row 3 1 (S.map encI) ∧ σ.slot 29 = .c (.s (.pv (.int .u8 (N : Int)))) ∧ σ.slot 30 = .c (.s (.pv (.int .u8 (i : Int))))) ?_ ?_ ?_
  · refine ⟨fillL W K W.length 0, List.replicate W.length 0, ⟨fill_right hWn hK (by omega), fill_weights, fill_len, by simp, fun c hc => by have := fill_costs c hc; omega, fun s hs => by rw [List.eq_of_mem_replicate hs]; omega, fun j h h' => ⟨0, by rw [fill_get]; simp⟩⟩, ?_⟩
    simp -implicitDefEqProofs only [↓aP, aQ, ↓reduceIte, Nat.reduceEqDiff, Nat.reduceAdd, Nat.reduceSub, Nat.reduceMul, Nat.reduceLT, Nat.reduceLeDiff, reduceCtorEq, Nat.reduceBEq, forall_const, implies_true, exists_const, ne_eq, Int.reduceAdd, Int.reduceSub, Int.reduceMul, Int.reduceBEq, Int.reduceEq, Int.reduceLT, Int.reduceLE, Int.reduceToNat, Int.reduceNeg, Int.reduceBNe, encLs, List.map_replicate, encI]
  · rintro i m σ him hi hlt ⟨x, S, ⟨hrx, hwx, hlx, hSl, hcx, hSb, hq⟩, s7, g7, b7, s8, s10, g27, b27, s29, s30⟩
    obtain ⟨x', k, c, n1, n2, n3, n4, n5, n6, n7, n8, n9⟩ := next_step hrx (by omega) (fun c hc => by have := hcx c hc; omega)
    have hnx := lNext_spec x (right_small hrx)
    rw [n1] at hnx
    have hkS : k < S.length := by omega
    have hkW : k < W.length := by omega
    have hk' : k < x'.l.length := by omega
    have d1 : decide ((k : Int) < 0) = false := by simp
    have d2 : decide ((W.length : Int) ≤ (k : Int)) = false := by simp; omega
    have d3 : ((x'.l.length : Int) != (W.length : Int)) = false := by rw [n5, hlx]; simp
    obtain ⟨sb1, sb2⟩ := hSb _ (List.getElem_mem hkS)
    have hok := right_own n2 n3 hk'
    obtain ⟨p1, ⟨p2, p3⟩, _, _⟩ := okL_iff.1 hok
    have pw := okW_iff.1 p1
    have p39 : x'.l[k].d ≤ 39 := by
      cases hg : x'.g <;> rw [hg] at p3 <;> simp at p3 <;> omega
    have hWk : W[k] = x'.l[k].w := by
      have h1 : (weights x')[k]? = some x'.l[k].w := by unfold weights; rw [List.getElem?_map, List.getElem?_eq_getElem hk']; rfl
      rw [n7, hwx, List.getElem?_eq_getElem hkW] at h1
      simpa using h1
    have hall : ∀ j (h : j < (S.set k (S[k] + c)).length) (h' : j < x'.l.length), ∃ q : Int, (S.set k (S[k] + c))[j] + x'.l[j].d = q * (4 * x'.l[j].w) := by
      intro j h h'
      have hjS : j < S.length := by simpa using h
      have hjx : j < x.l.length := by omega
      obtain ⟨q, hq1⟩ := hq j hjS hjx
      obtain ⟨r, hr⟩ := n9 j
      rw [List.getElem?_eq_getElem h', List.getElem?_eq_getElem hjx] at hr
      simp only [Option.map_some, Option.some.injEq, wd, Prod.mk.injEq] at hr
      refine ⟨q + r, ?_⟩
      rw [List.getElem_set, hr.1, hr.2, Int.add_mul, ← hq1]
      by_cases e : k = j
      · subst e; simp; omega
      · simp [e]; omega
    obtain ⟨q, hqk⟩ := hall k (by simpa using hkS) hk'
    rw [List.getElem_set_self] at hqk
    have w1 : IntKind.i64.wrap (S[k] + c) = S[k] + c := wrapI (by omega)
    have w2 : IntKind.i64.wrap (S[k] + c + x'.l[k].d) = S[k] + c + x'.l[k].d := wrapI (by omega)
    have w3 : IntKind.i64.wrap (W[k] * 4) = W[k] * 4 := wrapI (by rw [hWk]; omega)
    have hdiv : Int.tmod (S[k] + c + x'.l[k].d) (W[k] * 4) = 0 := by
      rw [hqk, hWk, Int.mul_comm x'.l[k].w 4]
      exact Int.mul_tmod_left _ _
    have hge : W[k] * 4 ≤ S[k] + c + x'.l[k].d := by
      rw [hWk]
      have hpos : 0 < q := by
        rcases Int.lt_or_le 0 q with h | h
        · exact h
        · have : q * (4 * x'.l[k].w) ≤ 0 := Int.mul_nonpos_of_nonpos_of_nonneg h (by omega)
          omega
      have : 1 * (4 * x'.l[k].w) ≤ q * (4 * x'.l[k].w) := Int.mul_le_mul_of_nonneg_right (by omega) (by omega)
      omega
    have t1 : decide (x'.l[k].d < 0) = false := by simp; omega
    have t3 : decide (S[k] + c + x'.l[k].d < W[k] * 4) = false := by simp; omega
    have hm4 : ¬ W[k] * 4 = 0 := by rw [hWk]; omega
    have u1 : IntKind.u8.wrap ((i : Int) + 1) = ((i + 1 : Nat) : Int) := by
      unfold IntKind.wrap
      simp [IntKind.bits, IntKind.signed]
      omega
    simp -implicitDefEqProofs only [↓aP, aQ, ↓reduceIte, Nat.reduceEqDiff, Nat.reduceAdd, Nat.reduceSub, Nat.reduceMul, Nat.reduceLT, Nat.reduceLeDiff, reduceCtorEq, Nat.reduceBEq, forall_const, implies_true, exists_const, ne_eq, Int.reduceAdd, Int.reduceSub, Int.reduceMul, Int.reduceBEq, Int.reduceEq, Int.reduceLT, Int.reduceLE, Int.reduceToNat, Int.reduceNeg, Int.reduceBNe, hlt, s7, g7, b7, s8, s10, g27, b27, s29, s30, encLs]
    refine ask hnx ?_
    simp -implicitDefEqProofs only [↓aP, aQ, ↓reduceIte, Nat.reduceEqDiff, Nat.reduceAdd, Nat.reduceSub, Nat.reduceMul, Nat.reduceLT, Nat.reduceLeDiff, reduceCtorEq, Nat.reduceBEq, forall_const, implies_true, exists_const, ne_eq, Int.reduceAdd, Int.reduceSub, Int.reduceMul, Int.reduceBEq, Int.reduceEq, Int.reduceLT, Int.reduceLE, Int.reduceToNat, Int.reduceNeg, Int.reduceBNe, encN, encLs, s7, g7, b7, s8, s10, g27, b27, s29, s30, d1, d2, d3, n3, List.length_map, bne_self_eq_false, askIdx_map, hkS, hkW, hk', encI, encLn, w1]
    simp -implicitDefEqProofs only [↓aP, aQ, ↓reduceIte, Nat.reduceEqDiff, Nat.reduceAdd, Nat.reduceSub, Nat.reduceMul, Nat.reduceLT, Nat.reduceLeDiff, reduceCtorEq, Nat.reduceBEq, forall_const, implies_true, exists_const, ne_eq, Int.reduceAdd, Int.reduceSub, Int.reduceMul, Int.reduceBEq, Int.reduceEq, Int.reduceLT, Int.reduceLE, Int.reduceToNat, Int.reduceNeg, Int.reduceBNe, t1, s7, g7, b7, s8, s10, g27, b27, s29, s30, askIdx_set, hkS, hkW, List.length_set, List.length_map, askIdx_map, encI, w2, w3, hdiv, hm4, t3, bne_self_eq_false]
    refine ⟨by decide +kernel, ?_⟩
    refine nextR hi him ⟨x', S.set k (S[k] + c), ⟨n2, n7.trans hwx, n5.trans hlx, by simpa using hSl, n8 (150 - (i + 1)) (fun c2 hc2 => by have := hcx c2 hc2; omega), fun s hs => ?_, hall⟩, ?_⟩
    · rcases List.mem_or_eq_of_mem_set hs with h | h
      · have := hSb s h; omega
      · rw [h]; omega
    · simp -implicitDefEqProofs only [↓aP, aQ, ↓reduceIte, Nat.reduceEqDiff, Nat.reduceAdd, Nat.reduceSub, Nat.reduceMul, Nat.reduceLT, Nat.reduceLeDiff, reduceCtorEq, Nat.reduceBEq, forall_const, implies_true, exists_const, ne_eq, Int.reduceAdd, Int.reduceSub, Int.reduceMul, Int.reduceBEq, Int.reduceEq, Int.reduceLT, Int.reduceLE, Int.reduceToNat, Int.reduceNeg, Int.reduceBNe, s7, g7, b7, s8, s10, g27, b27, s29, s30, encLs, u1, List.map_set, encI, n3]
  · rintro m σ hlt ⟨x, S, hS, s7, g7, b7, s8, s10, g27, b27, s29, s30⟩
    simp -implicitDefEqProofs only [↓aP, aQ, ↓reduceIte, Nat.reduceEqDiff, Nat.reduceAdd, Nat.reduceSub, Nat.reduceMul, Nat.reduceLT, Nat.reduceLeDiff, reduceCtorEq, Nat.reduceBEq, forall_const, implies_true, exists_const, ne_eq, Int.reduceAdd, Int.reduceSub, Int.reduceMul, Int.reduceBEq, Int.reduceEq, Int.reduceLT, Int.reduceLE, Int.reduceToNat, Int.reduceNeg, Int.reduceBNe, hlt, s7, g7, b7, s8, s10, g27, b27, s29, s30]
    refine ask awake_spec ?_
    simp -implicitDefEqProofs only [↓aP, aQ, ↓reduceIte, Nat.reduceEqDiff, Nat.reduceAdd, Nat.reduceSub, Nat.reduceMul, Nat.reduceLT, Nat.reduceLeDiff, reduceCtorEq, Nat.reduceBEq, forall_const, implies_true, exists_const, ne_eq, Int.reduceAdd, Int.reduceSub, Int.reduceMul, Int.reduceBEq, Int.reduceEq, Int.reduceLT, Int.reduceLE, Int.reduceToNat, Int.reduceNeg, Int.reduceBNe]
theorem opens_us {H : Type} {enc : TypeId × Value → H} {w : World} {spare : Nat → Bool} {held : Bool} : Opens Try.prog enc w spare held 42 1 (fun ys => ∃ r : List Int, ys = encRw r ∧ U8 r ∧ r.length ≤ maxLen) := by
  have h := opens_slice (enc := enc) (w := w) (spare := spare) (held := held) Try.underlying42 (by kernel_rfl) (by decide) (opens_int Try.underlying5 (by kernel_rfl))
  refine ⟨h.1, fun fuel cs x hx => ?_⟩
  obtain ⟨ys, ⟨els, rfl, he, hm⟩, h2, h3⟩ := h.2 _ _ _ hx
  obtain ⟨l, rfl, hl⟩ := all_of_mem2 (f := encU) (p := fun u => 0 ≤ u ∧ u ≤ 255) (fun y hy => by obtain ⟨n, e, hn⟩ := he y hy; exact ⟨n, e, u8_of hn⟩)
  exact ⟨_, ⟨l, rfl, hl, by simpa using hm⟩, h2, h3⟩
set_option maxRecDepth 100000 in
theorem open_uus {H : Type} {enc : TypeId × Value → H} {w : World} {spare : Nat → Bool} {held : Bool} {r : Reach} {b0 : Nat} {v : Value} {d : DataW H} {p : List MemPlace} 
    (hv : Value.okWide Try.prog w r b0 43 v) (h : DataW.Trod enc Try.prog w 0 spare held 43 v d p) : ∃ K : List (List Int), ((∀ r ∈ K, U8 r) ∧ K.length ≤ maxLen ∧ ∀ r ∈ K, r.length ≤ maxLen) ∧ RepT (RepS w fun _ => False) (rL 1 (K.map encRw)) v := by
  obtain ⟨y, ⟨els, e1, e2, e3⟩, h2⟩ := open_one (opens_slice Try.underlying43 (by kernel_rfl) (by decide) opens_us) (Go.Proofs.Ytfmbfgoofiojcaa.slice_cells Try.underlying43 hv) h
  simp only [List.cons.injEq, and_true] at e1
  subst e1
  obtain ⟨K, rfl, hK⟩ := all_of_mem2 (f := encRw) (p := fun r => U8 r ∧ r.length ≤ maxLen) (fun y hy => e2 y hy)
  exact ⟨K, ⟨fun r hr => (hK r hr).1, by simpa using e3, fun r hr => (hK r hr).2⟩, h2⟩
theorem lanesServed_walk {w : World} (v0 : Value) (a0 : ∃ l : List Int, U8 l ∧ RepT (RepS w fun _ => False) (rL 1 (l.map encU)) v0) (v1 : Value) (a1 : ∃ K : List (List Int), ((∀ r ∈ K, U8 r) ∧ K.length ≤ maxLen ∧ ∀ r ∈ K, r.length ≤ maxLen) ∧ RepT (RepS w fun _ => False) (rL 1 (K.map encRw)) v1) (a : Int) (ha : (Lit.int .u8 a).wf = true) :
    Calls Try.prog 9 #[v0, v1, .int .u8 a] w fun e w' => e = .returned (.bool true) ∧ Below w.heap.size w w' := by
  obtain ⟨U, hU, h0⟩ := a0
  obtain ⟨K, hK, h1⟩ := a1
  exact (lawServed_spec U K a hU hK.1 (u8_of ha)).plain (us := [v0, v1, .int .u8 a]) (.cons h0 (.cons h1 (.cons (.pv rfl) .nil)))
end Go.Proofs.Ytfmbfgoofiojcaa
