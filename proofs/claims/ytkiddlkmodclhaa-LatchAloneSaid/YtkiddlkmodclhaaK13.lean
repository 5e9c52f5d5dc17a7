/- layer 8: the law LatchReaders. -/
import Derived.Test.YtkiddlkmodclhaaK11
namespace Go.Proofs.Ytkiddlkmodclhaa
open Go.RowKit La
set_option linter.unusedVariables false
set_option linter.unusedSimpArgs false
namespace La
def rg (n : Nat) : List Int := (List.range n).map fun i : Nat => (i : Int)
def rq (j : Nat) : List Wt := (List.range j).map fun i : Nat => ⟨200 + (i : Int), false⟩
def Qw (j : Nat) : List Wt := ⟨100, true⟩ :: rq j
end La
theorem rg_succ {n : Nat} : rg (n + 1) = rg n ++ [(n : Int)] := by unfold rg; rw [List.range_succ, List.map_append]; rfl
theorem rq_succ {n : Nat} : rq (n + 1) = rq n ++ [⟨200 + (n : Int), false⟩] := by unfold rq; rw [List.range_succ, List.map_append]; rfl
theorem rg_len {n : Nat} : (rg n).length = n := by simp [rg]
theorem rq_len {n : Nat} : (rq n).length = n := by simp [rq]
theorem rg_mem {n : Nat} {x : Int} : x ∈ rg n ↔ 0 ≤ x ∧ x < n := by
  unfold rg
  simp only [List.mem_map, List.mem_range]
  constructor
  · rintro ⟨a, h, rfl⟩; omega
  · rintro ⟨h1, h2⟩; exact ⟨x.toNat, by omega, by omega⟩
theorem rq_mem {n : Nat} {x : Int} : x ∈ (rq n).map Wt.who ↔ 200 ≤ x ∧ x < 200 + n := by
  unfold rq
  simp only [List.map_map, List.mem_map, List.mem_range, Function.comp]
  constructor
  · rintro ⟨a, h, rfl⟩; omega
  · rintro ⟨h1, h2⟩; exact ⟨(x - 200).toNat, by omega, by omega⟩
theorem ask_in {l : Lt} {who : Int} {ex : Bool} (h1 : right l = true) (h2 : okWho who = true) (h3 : who ∉ whos l) (h4 : l.h.length + l.q.length ≠ 64) : La.askM l who ex = ((La.askM l who ex).1, decide (who ∈ (La.askM l who ex).1.h), 0) ∧ right (La.askM l who ex).1 = true ∧ (La.askM l who ex).1 = if l.q = [] ∧ may ⟨l.h, l.ex, [⟨who, ex⟩]⟩ = true then ⟨ins l.h who, ex, []⟩ else ⟨l.h, l.ex, l.q ++ [⟨who, ex⟩]⟩ := by
  have e : La.askM l who ex = ((ent l.h l.ex (l.q ++ [⟨who, ex⟩])).1, decide (who ∈ (ent l.h l.ex (l.q ++ [⟨who, ex⟩])).1.h), 0) := by
    unfold La.askM
    rw [if_neg (by simp [h1, h2]), if_neg h3, if_neg h4]
  obtain ⟨f1, f2, _⟩ := ent_facts _ _ _ (pre_ask (ex := ex) h1 h2 h3 h4)
  rw [e]
  refine ⟨rfl, right_iff.2 ⟨f1, f2⟩, ?_⟩
  rw [ent_ask (right_iff.1 h1).2]
  split <;> rfl
theorem right_empty : right ⟨[], false, []⟩ = true := by decide +kernel
theorem ask1 {i : Nat} (hi : i < 20) (h : right ⟨rg i, false, []⟩ = true) : La.askM ⟨rg i, false, []⟩ i false = (⟨rg (i + 1), false, []⟩, true, 0) ∧ right ⟨rg (i + 1), false, []⟩ = true := by
  have hn : (i : Int) ∉ whos ⟨rg i, false, []⟩ := by
    simp only [whos, List.map_nil, List.append_nil, rg_mem]; omega
  obtain ⟨e1, e2, e3⟩ := ask_in (ex := false) h (by unfold okWho; simp; omega) hn (by simp [rg_len]; omega)
  have em : may ⟨rg i, false, [⟨i, false⟩]⟩ = true := by simp [may]
  have ei : ins (rg i) i = rg (i + 1) := by
    have : ∀ i, i < 20 → ins (rg i) (i : Int) = rg (i + 1) := by decide +kernel
    exact this i hi
  rw [if_pos ⟨rfl, em⟩, ei] at e3
  rw [e3] at e1 e2
  refine ⟨e1.trans ?_, e2⟩
  simp only
  rw [decide_eq_true (rg_mem.2 ⟨by omega, by omega⟩)]
theorem ask2 {n : Nat} (h0 : 0 < n) (hn : n ≤ 20) (h : right ⟨rg n, false, []⟩ = true) : La.askM ⟨rg n, false, []⟩ 100 true = (⟨rg n, false, Qw 0⟩, false, 0) ∧ right ⟨rg n, false, Qw 0⟩ = true := by
  have hno : (100 : Int) ∉ whos ⟨rg n, false, []⟩ := by
    simp only [whos, List.map_nil, List.append_nil, rg_mem]; omega
  obtain ⟨e1, e2, e3⟩ := ask_in (ex := true) h (by decide) hno (by simp [rg_len]; omega)
  have em : may ⟨rg n, false, [⟨100, true⟩]⟩ = false := by simp [may, rg_len]; omega
  rw [if_neg (by simp [em])] at e3
  have e4 : (⟨rg n, false, ([] : List Wt) ++ [⟨100, true⟩]⟩ : Lt) = ⟨rg n, false, Qw 0⟩ := rfl
  rw [e4] at e3
  rw [e3] at e1 e2
  refine ⟨e1.trans ?_, e2⟩
  simp only
  rw [decide_eq_false (by rw [rg_mem]; omega)]
theorem ask3 {n j : Nat} (hn : n ≤ 20) (hj : j < 20) (h : right ⟨rg n, false, Qw j⟩ = true) : La.askM ⟨rg n, false, Qw j⟩ (200 + (j : Int)) false = (⟨rg n, false, Qw (j + 1)⟩, false, 0) ∧ right ⟨rg n, false, Qw (j + 1)⟩ = true := by
  have hno : (200 + (j : Int)) ∉ whos ⟨rg n, false, Qw j⟩ := by
    simp only [whos, Qw, List.map_cons, List.mem_append, List.mem_cons, rg_mem, rq_mem]; omega
  obtain ⟨e1, e2, e3⟩ := ask_in (ex := false) h (by unfold okWho; simp; omega) hno (by simp [Qw, rg_len, rq_len]; omega)
  rw [if_neg (by simp [Qw])] at e3
  have e4 : (⟨rg n, false, Qw j ++ [⟨200 + (j : Int), false⟩]⟩ : Lt) = ⟨rg n, false, Qw (j + 1)⟩ := by simp [Qw, rq_succ]
  simp only [e4] at e3
  rw [e3] at e1 e2
  refine ⟨e1.trans ?_, e2⟩
  simp only
  rw [decide_eq_false (by rw [rg_mem]; omega)]
def Sd (n k i : Nat) : Lt := if i < n then ⟨(rg n).drop i, false, Qw k⟩ else ⟨[100], true, rq k⟩
theorem pos_head {x : Int} {t : List Int} : pos (x :: t) x = 0 := by unfold pos; rw [List.findIdx_cons]; simp
theorem rg_drop {n i : Nat} (hi : i < n) : (rg n).drop i = (i : Int) :: (rg n).drop (i + 1) := by
  have h : i < (rg n).length := by rw [rg_len]; exact hi
  rw [List.drop_eq_getElem_cons h]
  congr 1
  simp [rg]
theorem dropH_right {l : Lt} {who : Int} (h : right l = true) (hw : who ∈ l.h) : dropM l who = ((ent (l.h.eraseIdx (pos l.h who)) false l.q).1, (ent (l.h.eraseIdx (pos l.h who)) false l.q).2, 0) ∧ right (ent (l.h.eraseIdx (pos l.h who)) false l.q).1 = true := by
  obtain ⟨f1, f2, _⟩ := ent_facts _ _ _ (pre_dropH h hw)
  refine ⟨?_, right_iff.2 ⟨f1, f2⟩⟩
  unfold dropM
  rw [if_neg (by rw [h]; simp), if_pos hw]
theorem drop1 {n k i : Nat} (hn : n ≤ 20) (hi : i < n) (h : right (Sd n k i) = true) : dropM (Sd n k i) i = (Sd n k (i + 1), (if i + 1 < n then [] else [100]), 0) ∧ right (Sd n k (i + 1)) = true := by
  have e : Sd n k i = ⟨(i : Int) :: (rg n).drop (i + 1), false, Qw k⟩ := by unfold Sd; rw [if_pos hi, rg_drop hi]
  rw [e] at h ⊢
  obtain ⟨d1, d2⟩ := dropH_right (who := i) h (by simp)
  simp only [pos_head, List.eraseIdx_cons_zero] at d1 d2
  have key : ent ((rg n).drop (i + 1)) false (Qw k) = (Sd n k (i + 1), if i + 1 < n then [] else [100]) := by
    unfold Sd
    by_cases h1 : i + 1 < n
    · rw [if_pos h1, if_pos h1]
      refine ent_no ?_
      simp [may, Qw, rg_len]; omega
    · rw [if_neg h1, if_neg h1]
      have e0 : (rg n).drop (i + 1) = [] := List.drop_of_length_le (by rw [rg_len]; omega)
      rw [e0]
      unfold Qw
      rw [ent_yes (by simp [may])]
      have e1 : ent (ins [] 100) true (rq k) = (⟨[100], true, rq k⟩, []) := by
        refine ent_no ?_
        cases hq : rq k with
        | nil => rfl
        | cons a t => rfl
      simp only [e1]
  rw [key] at d1 d2
  exact ⟨d1, d2⟩
theorem drop2 {k : Nat} (hk : k ≤ 20) (h : right ⟨[100], true, rq k⟩ = true) : (dropM ⟨[100], true, rq k⟩ 100).2.2 = 0 ∧ (dropM ⟨[100], true, rq k⟩ 100).2.1.length = k ∧ (dropM ⟨[100], true, rq k⟩ 100).1.h.length = k ∧ (dropM ⟨[100], true, rq k⟩ 100).1.q.length = 0 := by
  obtain ⟨d1, d2⟩ := dropH_right (who := 100) h (by simp)
  simp only [pos_head, List.eraseIdx_cons_zero] at d1 d2
  rw [d1]
  have hp := pre_dropH (who := 100) h (by simp)
  simp only [pos_head, List.eraseIdx_cons_zero] at hp
  obtain ⟨f1, f2, f3, kk, f4, f5, f6, f7, f8, f9, f10, f11⟩ := ent_facts _ _ _ hp
  have hfull : kk = k := by
    rw [rq_len] at f6
    rcases Nat.lt_or_ge kk k with hlt | hge
    · exfalso
      have hd : (rq k).drop kk = (rq k)[kk]'(by rw [rq_len]; exact hlt) :: (rq k).drop (kk + 1) := List.drop_eq_getElem_cons _
      have hex : ((rq k)[kk]'(by rw [rq_len]; exact hlt)).ex = false := by simp [rq]
      have hmay := f2
      unfold may at hmay
      rw [f4, hd] at hmay
      simp only [Bool.or_eq_false_iff, decide_eq_false_iff_not, hex, Bool.not_false, Bool.and_true, Bool.not_eq_false'] at hmay
      by_cases hk0 : kk = 0
      · subst hk0
        have h0 : ∀ n, n ∉ (ent [] false (rq k)).1.h := fun n hn => by
          have := (f7 n).1 hn
          simp at this
        exact hmay.1 (by rw [List.eq_nil_iff_forall_not_mem.2 h0]; rfl)
      · have hmem : (rq k)[0]'(by rw [rq_len]; omega) ∈ (rq k).take kk := List.mem_take_iff_getElem.2 ⟨0, by rw [rq_len]; omega, rfl⟩
        have e1 := f8 _ hmem
        have e2 : ((rq k)[0]'(by rw [rq_len]; omega)).ex = false := by simp [rq]
        rw [e2, hmay.2] at e1
        cases e1
    · omega
  subst hfull
  have hq : (ent [] false (rq kk)).1.q.length = 0 := by rw [f4, List.length_drop, rq_len]; omega
  refine ⟨rfl, ?_, ?_, hq⟩
  · rw [f5]; simp [rq_len]
  · have := f3.length_eq
    simp only [whos, List.length_append, List.length_map, List.length_nil, rq_len] at this
    simp only at hq ⊢
    omega
end Go.Proofs.Ytkiddlkmodclhaa
