/- layer 8: what came in; the laws LatchGives, LatchExact. -/
import Derived.Test.YtkiddlkmodclhaaK10
import Derived.Test.YtkiddlkmodclhaaAm19
namespace Go.Proofs.Ytkiddlkmodclhaa
open Go.RowKit La Go.ChangeShapes Go.WideShapes
set_option linter.unusedVariables false
set_option linter.unusedSimpArgs false
theorem opens_wt {H : Type} {enc : TypeId × Value → H} {w : World} {spare : Nat → Bool} {held : Bool} : Opens Try.prog enc w spare held 88 2 (fun ys => ∃ x : Wt, ys = encWt x) := by
  have h := opens_struct (enc := enc) (w := w) (spare := spare) (held := held) Try.underlying88 (by kernel_rfl) (.cons rfl (opens_int Try.underlying3 (by kernel_rfl)) (.cons rfl (opens_bool Try.underlying4 (by kernel_rfl)) (.nil _)))
  refine ⟨h.1, fun fuel cs x hx => ?_⟩
  obtain ⟨ys, ⟨a, b, rfl, ⟨n, rfl, hn⟩, a2, b2, rfl, ⟨n2, rfl⟩, rfl⟩, h2, h3⟩ := h.2 _ _ _ hx
  exact ⟨_, ⟨⟨n, n2⟩, rfl⟩, h2, h3⟩
theorem opens_lt {H : Type} {enc : TypeId × Value → H} {w : World} {spare : Nat → Bool} {held : Bool} : Opens Try.prog enc w spare held 54 3 (fun ys => ∃ x : Lt, ys = encLt x ∧ x.h.length ≤ maxLen ∧ x.q.length ≤ maxLen) := by
  have h := opens_struct (enc := enc) (w := w) (spare := spare) (held := held) Try.underlying54 (by kernel_rfl) (.cons rfl (opens_slice Try.underlying31 (by kernel_rfl) (by decide) (opens_int Try.underlying3 (by kernel_rfl))) (.cons rfl (opens_bool Try.underlying4 (by kernel_rfl)) (.cons rfl (opens_slice Try.underlying52 (by kernel_rfl) (by decide) opens_wt) (.nil _))))
  refine ⟨h.1, fun fuel cs x hx => ?_⟩
  obtain ⟨ys, ⟨a, b, rfl, ⟨els, rfl, he, hm⟩, a2, b2, rfl, ⟨n2, rfl⟩, a3, b3, rfl, ⟨els3, rfl, he3, hm3⟩, rfl⟩, h2, h3⟩ := h.2 _ _ _ hx
  obtain ⟨l, rfl⟩ := all_of_mem (f := encI) (fun y hy => by obtain ⟨n, e, _⟩ := he y hy; exact ⟨n, e⟩)
  obtain ⟨q, rfl⟩ := all_of_mem (f := encWt) he3
  exact ⟨_, ⟨⟨l, n2, q⟩, rfl, by simpa using hm, by simpa using hm3⟩, h2, h3⟩
set_option maxRecDepth 100000 in
theorem open_lt {H : Type} {enc : TypeId × Value → H} {w : World} {spare : Nat → Bool} {held : Bool} {r : Reach} {b0 : Nat} {v : Value} {d : DataW H} {p : List MemPlace} 
    (hv : Value.okWide Try.prog w r b0 54 v) (h : DataW.Trod enc Try.prog w 0 spare held 54 v d p) : ∃ l : Lt, (l.h.length ≤ maxLen ∧ l.q.length ≤ maxLen) ∧ RepT (RepS w fun _ => False) (.agg (encLt l)) v := by
  obtain ⟨ys, ⟨x, rfl, hm⟩, h2⟩ := open_more opens_lt Try.underlying54 hv h
  exact ⟨x, hm, h2⟩
theorem askM_ok {l : Lt} {who : Int} {ex : Bool} (h : (La.askM l who ex).2.2 = 0) : right l = true ∧ okWho who = true ∧ who ∉ whos l ∧ l.h.length + l.q.length ≠ 64 ∧ La.askM l who ex = ((ent l.h l.ex (l.q ++ [⟨who, ex⟩])).1, decide (who ∈ (ent l.h l.ex (l.q ++ [⟨who, ex⟩])).1.h), 0) := by
  unfold La.askM at h ⊢
  split at h
  · cases h
  rename_i h1
  split at h
  · cases h
  rename_i h2
  split at h
  · cases h
  rename_i h3
  rw [if_neg h1, if_neg h2, if_neg h3]
  simp only [not_or, Bool.not_eq_false] at h1
  exact ⟨h1.1, h1.2, h2, h3, rfl⟩
theorem ent_ask {l : Lt} {w : Wt} (h : may l = false) : ent l.h l.ex (l.q ++ [w]) = if l.q = [] ∧ may ⟨l.h, l.ex, [w]⟩ = true then (⟨ins l.h w.who, w.ex, []⟩, [w.who]) else (⟨l.h, l.ex, l.q ++ [w]⟩, []) := by
  obtain ⟨hs, ex, q⟩ := l
  cases q with
  | nil =>
    cases hm : may ⟨hs, ex, [w]⟩
    · rw [if_neg (by simp)]
      exact ent_no hm
    · rw [if_pos ⟨rfl, rfl⟩]
      simp only [List.nil_append]
      rw [ent_yes hm]
      rfl
  | cons a t =>
    rw [if_neg (by simp)]
    refine ent_no ?_
    simpa [may] using h
theorem mem_whos_q {l : Lt} {w : Wt} : w.who ∈ whos ⟨l.h, l.ex, l.q ++ [w]⟩ := by simp [whos]
theorem ins_pos {h : List Int} {x : Int} (hm : h.Pairwise (· < ·)) (hx : x ∉ h) : (ins h x).eraseIdx (pos (ins h x) x) = h := by
  have hs := ins_sorted hm hx
  have hle : (ins h x).Pairwise (· ≤ ·) := hs.imp (fun x => by omega)
  have hin : x ∈ ins h x := mem_ins.2 (.inl rfl)
  have hhas : has (ins h x) x = true := by rw [has_mem hle, decide_eq_true hin]
  obtain ⟨hp, hpe⟩ := has_at hhas
  have hn : (ins h x).Nodup := hs.imp (fun h => by omega)
  have e := filter_erase (fun y => y) (by simpa using hn) hp hpe
  rw [← e]
  unfold ins
  have hno : ∀ t : List Int, (∀ y ∈ t, y ∈ h) → t.filter (fun y => y != x) = t := by
    intro t ht
    rw [List.filter_eq_self]
    intro a ha
    have : a ≠ x := fun e => hx (e ▸ ht a ha)
    simpa using this
  rw [List.filter_append, List.filter_append, hno _ (fun y hy => List.mem_of_mem_take hy), hno _ (fun y hy => List.mem_of_mem_drop hy)]
  simp
theorem ask_drop {l : Lt} {who : Int} {ex : Bool} (h : (La.askM l who ex).2.2 = 0) : dropM (La.askM l who ex).1 who = (l, [], 0) ∧ (La.askM l who ex).1.h.length + (La.askM l who ex).1.q.length ≤ 64 ∧ l.h.length + l.q.length ≤ 64 := by
  obtain ⟨h1, h2, h3, h4, h5⟩ := askM_ok h
  have hpre := pre_ask (ex := ex) h1 h2 h3 h4
  obtain ⟨f1, f2, _⟩ := ent_facts _ _ _ hpre
  have hr := right_iff.2 ⟨f1, f2⟩
  have hlp := right_iff.1 h1
  rw [h5]
  refine ⟨?_, f1.1, hlp.1.1⟩
  simp only
  have hmay := hlp.2
  have ee := ent_ask (w := ⟨who, ex⟩) hmay
  obtain ⟨hs, lx, q⟩ := l
  simp only at ee hr h3 hmay ⊢
  rw [ee] at hr ⊢
  by_cases hq : q = [] ∧ may ⟨hs, lx, [⟨who, ex⟩]⟩ = true
  · rw [if_pos hq] at hr ⊢
    simp only at hr ⊢
    obtain ⟨rfl, hm⟩ := hq
    have hwn : who ∉ hs := fun e => h3 (by simp [whos, e])
    unfold dropM
    simp only
    rw [if_neg (by rw [hr]; simp), if_pos (mem_ins.2 (.inl rfl)), ins_pos hlp.1.2.2.1 hwn]
    have hlx : lx = false := by
      cases lx with
      | false => rfl
      | true =>
        have := hlp.1.2.1 rfl
        simp only at this
        simp [may, this] at hm
    rw [hlx]
    rfl
  · rw [if_neg hq] at hr ⊢
    simp only at hr ⊢
    have hwn : who ∉ hs := fun e => h3 (by simp [whos, e])
    have hnq : who ∉ q.map Wt.who := fun e => h3 (by unfold whos; exact List.mem_append_right _ e)
    have hat : at' ⟨hs, lx, q ++ [⟨who, ex⟩]⟩ who = q.length := by
      unfold at'
      simp only
      rw [List.findIdx_append, if_neg, List.findIdx_cons]
      · simp
      · rw [List.findIdx_lt_length]
        rintro ⟨w, hw, e⟩
        exact hnq (List.mem_map.2 ⟨w, hw, by simpa using e⟩)
    unfold dropM
    rw [if_neg (by rw [hr]; simp), if_neg hwn, hat, if_pos (by simp)]
    simp only
    have he : (q ++ [(⟨who, ex⟩ : Wt)]).eraseIdx q.length = q := by rw [List.eraseIdx_append_of_length_le (Nat.le_refl _)]; simp
    rw [he, ent_no hmay]
theorem law_gives (l : Lt) (who : Int) (ex : Bool) (hl : l.h.length ≤ 9223372036854775807) (hl2 : l.q.length ≤ 9223372036854775807) : Spec Try.prog 11 [.agg (encLt l), rI who, rB ex] (.val (rB true)) := by
  refine spec_val mixed fn11 (by simp) ?_
  unfold ac11
  simp -implicitDefEqProofs only [↓aP, aQ, ↓reduceIte, Nat.reduceEqDiff, Nat.reduceAdd, Nat.reduceSub, Nat.reduceMul, Nat.reduceLT, Nat.reduceLeDiff, reduceCtorEq, Nat.reduceBEq, forall_const, implies_true, exists_const, ne_eq, Int.reduceAdd, Int.reduceSub, Int.reduceMul, Int.reduceBEq, Int.reduceEq, Int.reduceLT, Int.reduceLE, Int.reduceToNat, Int.reduceNeg, Int.reduceBNe, encLt]
  refine ask (lref_spec l (by omega) (by omega)) ?_
  by_cases h80 : 80 < l.h.length ∨ 80 < l.q.length
  · have e : refM l = (⟨l.h, l.ex, []⟩, false) := by unfold refM; rw [if_pos h80]
    simp -implicitDefEqProofs only [↓aP, aQ, ↓reduceIte, Nat.reduceEqDiff, Nat.reduceAdd, Nat.reduceSub, Nat.reduceMul, Nat.reduceLT, Nat.reduceLeDiff, reduceCtorEq, Nat.reduceBEq, forall_const, implies_true, exists_const, ne_eq, Int.reduceAdd, Int.reduceSub, Int.reduceMul, Int.reduceBEq, Int.reduceEq, Int.reduceLT, Int.reduceLE, Int.reduceToNat, Int.reduceNeg, Int.reduceBNe, encRef, e, encLt]
    refine ask awake_spec ?_
    simp -implicitDefEqProofs only [↓aP, aQ, ↓reduceIte, Nat.reduceEqDiff, Nat.reduceAdd, Nat.reduceSub, Nat.reduceMul, Nat.reduceLT, Nat.reduceLeDiff, reduceCtorEq, Nat.reduceBEq, forall_const, implies_true, exists_const, ne_eq, Int.reduceAdd, Int.reduceSub, Int.reduceMul, Int.reduceBEq, Int.reduceEq, Int.reduceLT, Int.reduceLE, Int.reduceToNat, Int.reduceNeg, Int.reduceBNe]
  have e : refM l = (l, true) := by unfold refM; rw [if_neg h80]
  simp -implicitDefEqProofs only [↓aP, aQ, ↓reduceIte, Nat.reduceEqDiff, Nat.reduceAdd, Nat.reduceSub, Nat.reduceMul, Nat.reduceLT, Nat.reduceLeDiff, reduceCtorEq, Nat.reduceBEq, forall_const, implies_true, exists_const, ne_eq, Int.reduceAdd, Int.reduceSub, Int.reduceMul, Int.reduceBEq, Int.reduceEq, Int.reduceLT, Int.reduceLE, Int.reduceToNat, Int.reduceNeg, Int.reduceBNe, encRef, e, encLt]
  refine ask (lAsk_spec l who ex (by omega)) ?_
  by_cases he : (La.askM l who ex).2.2 = 0
  case neg =>
    simp -implicitDefEqProofs only [↓aP, aQ, ↓reduceIte, Nat.reduceEqDiff, Nat.reduceAdd, Nat.reduceSub, Nat.reduceMul, Nat.reduceLT, Nat.reduceLeDiff, reduceCtorEq, Nat.reduceBEq, forall_const, implies_true, exists_const, ne_eq, Int.reduceAdd, Int.reduceSub, Int.reduceMul, Int.reduceBEq, Int.reduceEq, Int.reduceLT, Int.reduceLE, Int.reduceToNat, Int.reduceNeg, Int.reduceBNe, encAsk, encLt, show ((La.askM l who ex).2.2 != 0) = true by simpa using he]
    refine ask awake_spec ?_
    simp -implicitDefEqProofs only [↓aP, aQ, ↓reduceIte, Nat.reduceEqDiff, Nat.reduceAdd, Nat.reduceSub, Nat.reduceMul, Nat.reduceLT, Nat.reduceLeDiff, reduceCtorEq, Nat.reduceBEq, forall_const, implies_true, exists_const, ne_eq, Int.reduceAdd, Int.reduceSub, Int.reduceMul, Int.reduceBEq, Int.reduceEq, Int.reduceLT, Int.reduceLE, Int.reduceToNat, Int.reduceNeg, Int.reduceBNe]
  obtain ⟨d1, d2, d3⟩ := ask_drop he
  simp -implicitDefEqProofs only [↓aP, aQ, ↓reduceIte, Nat.reduceEqDiff, Nat.reduceAdd, Nat.reduceSub, Nat.reduceMul, Nat.reduceLT, Nat.reduceLeDiff, reduceCtorEq, Nat.reduceBEq, forall_const, implies_true, exists_const, ne_eq, Int.reduceAdd, Int.reduceSub, Int.reduceMul, Int.reduceBEq, Int.reduceEq, Int.reduceLT, Int.reduceLE, Int.reduceToNat, Int.reduceNeg, Int.reduceBNe, encAsk, encLt, he, bne_self_eq_false]
  refine ask (by have := lDrop_spec (La.askM l who ex).1 who (by omega); rw [encLt_eq] at this; exact this) ?_
  simp -implicitDefEqProofs only [↓aP, aQ, ↓reduceIte, Nat.reduceEqDiff, Nat.reduceAdd, Nat.reduceSub, Nat.reduceMul, Nat.reduceLT, Nat.reduceLeDiff, reduceCtorEq, Nat.reduceBEq, forall_const, implies_true, exists_const, ne_eq, Int.reduceAdd, Int.reduceSub, Int.reduceMul, Int.reduceBEq, Int.reduceEq, Int.reduceLT, Int.reduceLE, Int.reduceToNat, Int.reduceNeg, Int.reduceBNe, encDrop, d1, encLt]
  refine ask (lref_spec l (by omega) (by omega)) ?_
  simp -implicitDefEqProofs only [↓aP, aQ, ↓reduceIte, Nat.reduceEqDiff, Nat.reduceAdd, Nat.reduceSub, Nat.reduceMul, Nat.reduceLT, Nat.reduceLeDiff, reduceCtorEq, Nat.reduceBEq, forall_const, implies_true, exists_const, ne_eq, Int.reduceAdd, Int.reduceSub, Int.reduceMul, Int.reduceBEq, Int.reduceEq, Int.reduceLT, Int.reduceLE, Int.reduceToNat, Int.reduceNeg, Int.reduceBNe, encRef, e, encLt, List.map_nil, List.length_nil]
  refine ask (rSame_spec l (by omega)) ?_
  simp -implicitDefEqProofs only [↓aP, aQ, ↓reduceIte, Nat.reduceEqDiff, Nat.reduceAdd, Nat.reduceSub, Nat.reduceMul, Nat.reduceLT, Nat.reduceLeDiff, reduceCtorEq, Nat.reduceBEq, forall_const, implies_true, exists_const, ne_eq, Int.reduceAdd, Int.reduceSub, Int.reduceMul, Int.reduceBEq, Int.reduceEq, Int.reduceLT, Int.reduceLE, Int.reduceToNat, Int.reduceNeg, Int.reduceBNe]
  refine ask awake_spec ?_
  simp -implicitDefEqProofs only [↓aP, aQ, ↓reduceIte, Nat.reduceEqDiff, Nat.reduceAdd, Nat.reduceSub, Nat.reduceMul, Nat.reduceLT, Nat.reduceLeDiff, reduceCtorEq, Nat.reduceBEq, forall_const, implies_true, exists_const, ne_eq, Int.reduceAdd, Int.reduceSub, Int.reduceMul, Int.reduceBEq, Int.reduceEq, Int.reduceLT, Int.reduceLE, Int.reduceToNat, Int.reduceNeg, Int.reduceBNe]
theorem latchGives_walk {w : World} (v0 : Value) (a0 : ∃ l : Lt, (l.h.length ≤ maxLen ∧ l.q.length ≤ maxLen) ∧ RepT (RepS w fun _ => False) (.agg (encLt l)) v0) (a : Int) (ha : (Lit.int .i64 a).wf = true) (b : Bool) :
    Calls Try.prog 11 #[v0, .int .i64 a, .bool b] w fun e w' => e = .returned (.bool true) ∧ Below w.heap.size w w' := by
  obtain ⟨m, hm, h0⟩ := a0
  unfold maxLen at hm
  exact (law_gives m a b (by omega) (by omega)).plain (us := [v0, .int .i64 a, .bool b]) (.cons h0 (.cons (.pv rfl) (.cons (.pv rfl) .nil)))
end Go.Proofs.Ytkiddlkmodclhaa
