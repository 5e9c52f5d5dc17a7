import Derived.Test.YtcbfhpnmhhnjpaaGreatZ24
set_option linter.unusedVariables false
set_option linter.unusedSimpArgs false
set_option linter.unusedSectionVars false
namespace Go.Proofs.YtcbfhpnmhhnjpaaGreat
open Go.RowKit Dy
def isDue (now age : Int) (a : It) : Bool := decide (a.since ≤ now) && decide (age ≤ now - a.since)
def dueF (l : List It) (now age : Int) : List Int := (l.filter (isDue now age)).map It.page
theorem due_snoc {l : List It} {now age : Int} {i : Nat} (hi : i < l.length) : dueF (l.take (i + 1)) now age = if isDue now age l[i] then dueF (l.take i) now age ++ [l[i].page] else dueF (l.take i) now age := by
  rw [take_snoc hi]
  unfold dueF
  rw [List.filter_append, List.map_append]
  cases h : isDue now age l[i] <;> simp [h]
theorem dDue_spec (l : List It) (now age : Int) (hr : right l = true) (hn : -1000000 ≤ now ∧ now ≤ 9223372036854775807) : Spec Tryz.prog 125 [rL 2 (l.map encIt), rI now, rI age] (.val (rL 1 ((Po.dueI l now age).map encI))) := by
  refine spec_val mixed fn125 (by simp) ?_
  unfold ac125
  have h16 := dy_len hr
  have hs := ((right_iff l).1 hr).since
  simp -implicitDefEqProofs only [↓aP, aR, ↓reduceIte, reduceCtorEq, seval]
  refine ask (dRight_spec l (by omega)) ?_
  simp -implicitDefEqProofs only [↓aP, aR, ↓reduceIte, reduceCtorEq, seval, hr]
  refine fork ?_ ?_ <;> intro hag
  · have h0 : age < 0 := by have := t_dt hag; omega
    have e : Po.dueI l now age = [] := if_pos (.inr h0)
    rw [e]
    simp -implicitDefEqProofs only [↓aP, aR, ↓reduceIte, reduceCtorEq, seval]
  have h0 : 0 ≤ age := by have := t_df hag; omega
  have e : Po.dueI l now age = dueF l now age := if_neg (by rw [hr]; simp; omega)
  rw [e]
  simp -implicitDefEqProofs only [↓aP, aR, ↓reduceIte, reduceCtorEq, seval]
  refine shift (sub_slot (s := 7) 39 3 1 (by simp -implicitDefEqProofs only [↓aP, aR, ↓reduceIte, reduceCtorEq, seval]) (by decide)) ?_
  refine rangeB l.length (fun i σ => ∃ g, σ.slot 1 = vI now ∧ σ.slot 2 = vI age ∧ σ.slot 17 = vL 2 (l.map encIt) ∧ σ.slot 18 = vI l.length ∧ σ.slot 19 = vI i ∧ σ.slot 7 = .c (.own 39 g) ∧ σ.h.gen 39 = g ∧ σ.h.blk 39 = .row 3 1 ((dueF (l.take i) now age).map encI)) ?_ ?_ ?_
  · simp -implicitDefEqProofs only [↓aP, aR, ↓reduceIte, reduceCtorEq, seval]
    exact ⟨1, by simp [dueF]⟩
  · rintro i m σ him hi hlt ⟨g, s1, s2, s17, s18, s19, s7, g39, b39⟩
    have e9 : (dueF (l.take i) now age).length ≤ 16 := by
      unfold dueF; rw [List.length_map]
      have := List.length_filter_le (isDue now age) (l.take i)
      rw [List.length_take] at this; omega
    have hsi := hs l[i] (List.getElem_mem hi)
    have hd := due_snoc (now := now) (age := age) hi
    simp -implicitDefEqProofs only [↓aP, aR, ↓reduceIte, reduceCtorEq, seval, hlt, s1, s2, s17, s18, s19, s7, g39, b39, askIdx_map, hi, encIt]
    repeat' ((first | ((first | with_reducible refine fork ?_ ?_ | with_reducible refine gcase ?_ ?_ | with_reducible refine gcaseD ?_ ?_) <;> intro hc <;> (have hp := hc) <;> (try simp only [aB] at hp)) | (have hc := True.intro; first | with_reducible refine askM (by omega) ?_ | with_reducible refine And.intro (by first | omega | decide +kernel) ?_ | fail)) <;> (try simp -implicitDefEqProofs only [↓aP, aR, ↓reduceIte, reduceCtorEq, seval, hc, s1, s2, s17, s18, s19, s7, g39, b39, encIt, wrapS (show i < 4611686018427387904 by omega), wrapI (show -9223372036854775808 ≤ now - l[i].since ∧ now - l[i].since ≤ 9223372036854775807 by omega)]))
    all_goals first
      | (rw [show isDue now age l[i] = true by unfold isDue; rw [Bool.and_eq_true, decide_eq_true_iff, decide_eq_true_iff]; omega, if_pos rfl] at hd
         refine nextR hi him ?_
         simp -implicitDefEqProofs only [↓aP, aR, ↓reduceIte, reduceCtorEq, seval, s1, s2, s17, s18, s19, s7, g39, b39, hd, List.map_append, encI]
         exact ⟨g + 1, by simp⟩)
      | (rw [show isDue now age l[i] = false by unfold isDue; rw [Bool.and_eq_false_iff, decide_eq_false_iff_not, decide_eq_false_iff_not]; omega, if_neg (by simp)] at hd
         refine nextR hi him ?_
         simp -implicitDefEqProofs only [↓aP, aR, ↓reduceIte, reduceCtorEq, seval, s1, s2, s17, s18, s19, s7, g39, b39, hd]
         exact ⟨g, by simp⟩)
  · rintro m σ hlt ⟨g, s1, s2, s17, s18, s19, s7, g39, b39⟩
    rw [List.take_length] at b39
    simp -implicitDefEqProofs only [↓aP, aR, ↓reduceIte, reduceCtorEq, seval, hlt, s1, s2, s17, s18, s19, s7, g39, b39]
end Go.Proofs.YtcbfhpnmhhnjpaaGreat

namespace Go.Proofs.YtcbfhpnmhhnjpaaGreat
open Go.RowKit
theorem stepsS_le (d : Dk) (p : Pg) : (stepsS d p).length ≤ 10 := by
  have h : ∀ q x, (Jn.planM d q x).1.length ≤ 10 := fun q x => by
    unfold Jn.planM
    split
    · exact Nat.le_refl 10
    · simp
  unfold stepsS
  split
  · split
    · simp
    · exact h _ _
  · exact h _ _
section
variable {D M : List Pg} {W : Int → Int}
theorem age_spec (w : Wk) (h : Gp w D M W) (hd : w.done.length ≤ 1000) (n : Int) : SpecW Tryz.prog 80 (WK w (Po.age w n) (.tup [])) [rI n] := by
  refine spec_w mixed fn80 900 901 (by simp) rfl rfl (by simp) ?_
  unfold ac80
  have hn := h.now
  have hl := Gp.due_len (w := w) (n := n)
  have hl2 := h.dt_len
  simp -implicitDefEqProofs only [↓aP, aR, ↓reduceIte, reduceCtorEq, seval, wk_slot, wk_gen, wk_box, wk_row, wkA]
  refine ask (dDue_spec w.f.dt w.now n h.dyr (by omega)) ?_
  simp -implicitDefEqProofs only [↓aP, aR, ↓reduceIte, reduceCtorEq, seval, wk_slot, wk_gen, wk_box, wk_row, wkA]
  (try with_reducible refine And.intro (by decide +kernel) ?_)
  refine rangeB (Po.dueI w.f.dt w.now n).length (fun i σ => ∃ g, σ.slot 0 = .c (.ptr 900 0 0 0) ∧ σ.slot 21 = vL 1 ((Po.dueI w.f.dt w.now n).map encI) ∧ σ.slot 22 = vI (Po.dueI w.f.dt w.now n).length ∧ σ.slot 23 = vI i ∧ σ.h.gen 900 = 0 ∧ σ.h.gen 901 = g ∧ σ.h.blk 900 = .box tWk 9 [wkA (((Po.dueI w.f.dt w.now n).take i).foldl Po.age1 w) 901 g] ∧ σ.h.blk 901 = .row tJo 3 ((((Po.dueI w.f.dt w.now n).take i).foldl Po.age1 w).done.map encJo)) ?_ ?_ ?_
  · refine ⟨0, ?_⟩
    simp -implicitDefEqProofs only [↓aP, aR, ↓reduceIte, reduceCtorEq, seval, wk_slot, wk_gen, wk_box, wk_row, wkA, List.length_map, List.take_zero, List.foldl_nil]
  · rintro i m σ him hi hlt ⟨g, s0, s21, s22, s23, g900, g901, b900, b901⟩
    have hs : ((Po.dueI w.f.dt w.now n).take (i + 1)).foldl Po.age1 w = Po.age1 (((Po.dueI w.f.dt w.now n).take i).foldl Po.age1 w) (Po.dueI w.f.dt w.now n)[i] := by rw [take_snoc hi, List.foldl_append]; rfl
    obtain ⟨D', g', _, dl, _⟩ := Gp.fold _ ((Po.dueI w.f.dt w.now n).take i) h rfl (fun id hid => h.due_in (List.mem_of_mem_take hid))
    have hlt2 : ((Po.dueI w.f.dt w.now n).take i).length ≤ 16 := by rw [List.length_take]; omega
    generalize ((Po.dueI w.f.dt w.now n).take i).foldl Po.age1 w = x at *
    simp -implicitDefEqProofs only [↓aP, aR, ↓reduceIte, reduceCtorEq, seval, hlt, s0, s21, s22, s23, g900, g901, b900, b901, wkA, askIdx_map, hi, encI]
    refine askWK 901 g (framed_spec x (Po.dueI w.f.dt w.now n)[i] g'.rt) (by simp -implicitDefEqProofs only [↓aP, aR, ↓reduceIte, reduceCtorEq, seval, argS, sOf]) (by simp -implicitDefEqProofs only [↓aP, aR, ↓reduceIte, reduceCtorEq, seval, s0, s21, s22, s23, g900, g901, b900, b901, wkA]) ?_
    simp -implicitDefEqProofs only [↓aP, aR, ↓reduceIte, reduceCtorEq, seval, s0, s21, s22, s23, g900, g901, b900, b901, wkA, encFramed, encPg]
    refine askWK 901 (g + 1) (back_spec x (Po.framed x (Po.dueI w.f.dt w.now n)[i]).1 g'.rt (by omega) (by have := stepsS_le x.d (Po.framed x (Po.dueI w.f.dt w.now n)[i]).1; omega)) (by simp -implicitDefEqProofs only [↓aP, aR, ↓reduceIte, reduceCtorEq, seval, argS, sOf, encPg]) (by simp -implicitDefEqProofs only [↓aP, aR, ↓reduceIte, reduceCtorEq, seval, s0, s21, s22, s23, g900, g901, b900, b901, wkA]) ?_
    simp -implicitDefEqProofs only [↓aP, aR, ↓reduceIte, reduceCtorEq, seval, s0, s21, s22, s23, g900, g901, b900, b901, wkA, wrapS (show i < 4611686018427387904 by omega)]
    refine nextR hi him ?_
    refine ⟨g + 1 + 1, ?_⟩
    rw [hs]
    simp -implicitDefEqProofs only [↓aP, aR, ↓reduceIte, reduceCtorEq, seval, s0, s21, s22, s23, g900, g901, b900, b901, wkA, Po.age1]
  · rintro m σ hlt ⟨g, s0, s21, s22, s23, g900, g901, b900, b901⟩
    rw [List.take_length] at b900 b901
    simp -implicitDefEqProofs only [↓aP, aR, ↓reduceIte, reduceCtorEq, seval, hlt, s0, s21, s22, s23, g900, g901, b900, b901, wkA, wk_fin, sOf]
    exact wk_lb rfl (by decide) g901.symm b901
theorem write_rt {w : Wk} {m : Md} {B : Int} (h : Gp w D m.pg (pinW m.pin)) (hf : Fit m B) (hB : B < 1000000000) {id : Int} (hid : 1 ≤ id ∧ id ≤ 16) (b : ByteArray) (hp : (Po.pinned w id).2 = true) : Rt (Po.turn w (Fm.write w.f id b w.now)).f := by
  have hp0 : m.pin.getD id.toNat 0 ≠ 0 := fun e => by rw [pinned_no h hid e] at hp; cases hp
  obtain ⟨_, k, hk, hc, hfk, e2, hw, hM⟩ := pinned_yes h hf hid hp0
  unfold Po.turn
  rcases h.write hid hk hc hfk e2 hw b with ⟨_, c2⟩ | ⟨_, _, c2⟩ | ⟨_, _, f, ef, g, _⟩
  · rw [if_neg (by rw [c2]; omega)]; exact h.rt
  · rw [if_neg (by rw [c2]; omega)]; exact h.rt
  · rw [ef, if_pos rfl]; exact g.rt
end
theorem act_spec (w : Wk) {D : List Pg} {m : Md} {B : Int} (h : Gp w D m.pg (pinW m.pin)) (hf : Fit m B) (hB : B < 1000000000) (hd : w.done.length ≤ 1000) (a : Pa) (ha : ¬ Po.bad a) : SpecW Tryz.prog 41 (WK w (Po.act w a).1 (encPE (Po.act w a))) [.agg (encPa a)] := by
  refine spec_w mixed fn41 900 901 (by simp) rfl rfl (by simp) ?_
  unfold ac41
  have hbad := ha
  unfold Po.bad at hbad
  have hact : Po.act w a = if a.kind = 1 then Po.fetch w a.id else if a.kind = 2 then Po.create w a.id else if a.kind = 3 then Po.read w a.id else if a.kind = 4 then Po.write w a.id a.body else if a.kind = 5 then ((Po.unpin w a.id).1, zP, (Po.unpin w a.id).2) else
    if a.kind = 6 then ((Po.drop w a.id).1, zP, (Po.drop w a.id).2) else if a.kind = 7 then ((Po.flush w a.id).1, zP, (Po.flush w a.id).2) else (Po.age w a.id, zP, 0) := rfl
  simp -implicitDefEqProofs only [↓aP, aR, ↓reduceIte, reduceCtorEq, seval, wk_slot, wk_gen, wk_box, wk_row, encPa]
  by_cases k1 : a.kind = 1
  · rw [hact, if_pos k1]
    simp -implicitDefEqProofs only [↓aP, aR, ↓reduceIte, reduceCtorEq, seval, wk_slot, wk_gen, wk_box, wk_row, k1]
    refine askWK 901 0 (fetch_spec w h hd a.id) (by simp -implicitDefEqProofs only [↓aP, aR, ↓reduceIte, reduceCtorEq, seval, argS, sOf]) (by simp -implicitDefEqProofs only [↓aP, aR, ↓reduceIte, reduceCtorEq, seval, wk_slot, wk_gen, wk_box, wk_row]) ?_
    simp -implicitDefEqProofs only [↓aP, aR, ↓reduceIte, reduceCtorEq, seval, wk_slot, wk_gen, wk_box, wk_row, wkA, encPE, encPg, wk_fin, sOf]
    (first | exact wk_lb rfl (by decide) rfl rfl | exact ⟨by decide +kernel, wk_lb rfl (by decide) rfl rfl⟩ | exact ⟨rfl, wk_lb rfl (by decide) rfl rfl⟩ | exact ⟨.eq rfl, wk_lb rfl (by decide) rfl rfl⟩ | exact ⟨by decide +kernel, .eq rfl, wk_lb rfl (by decide) rfl rfl⟩)
  have d1 : (a.kind == 1) = false := beq_eq_false_iff_ne.2 k1
  rw [hact, if_neg k1]
  by_cases k2 : a.kind = 2
  · rw [if_pos k2]
    simp -implicitDefEqProofs only [↓aP, aR, ↓reduceIte, reduceCtorEq, seval, wk_slot, wk_gen, wk_box, wk_row, k2]
    refine askWK 901 0 (create_spec w h hd a.id) (by simp -implicitDefEqProofs only [↓aP, aR, ↓reduceIte, reduceCtorEq, seval, argS, sOf]) (by simp -implicitDefEqProofs only [↓aP, aR, ↓reduceIte, reduceCtorEq, seval, wk_slot, wk_gen, wk_box, wk_row]) ?_
    simp -implicitDefEqProofs only [↓aP, aR, ↓reduceIte, reduceCtorEq, seval, wk_slot, wk_gen, wk_box, wk_row, wkA, encPE, encPg, wk_fin, sOf]
    (first | exact wk_lb rfl (by decide) rfl rfl | exact ⟨by decide +kernel, wk_lb rfl (by decide) rfl rfl⟩ | exact ⟨rfl, wk_lb rfl (by decide) rfl rfl⟩ | exact ⟨.eq rfl, wk_lb rfl (by decide) rfl rfl⟩ | exact ⟨by decide +kernel, .eq rfl, wk_lb rfl (by decide) rfl rfl⟩)
  have d2 : (a.kind == 2) = false := beq_eq_false_iff_ne.2 k2
  rw [if_neg k2]
  by_cases k3 : a.kind = 3
  · rw [if_pos k3]
    simp -implicitDefEqProofs only [↓aP, aR, ↓reduceIte, reduceCtorEq, seval, wk_slot, wk_gen, wk_box, wk_row, k3]
    refine askWK 901 0 (pread_spec w a.id h.rt) (by simp -implicitDefEqProofs only [↓aP, aR, ↓reduceIte, reduceCtorEq, seval, argS, sOf]) (by simp -implicitDefEqProofs only [↓aP, aR, ↓reduceIte, reduceCtorEq, seval, wk_slot, wk_gen, wk_box, wk_row]) ?_
    simp -implicitDefEqProofs only [↓aP, aR, ↓reduceIte, reduceCtorEq, seval, wk_slot, wk_gen, wk_box, wk_row, wkA, encPE, encPg, wk_fin, sOf]
    (first | exact wk_lb rfl (by decide) rfl rfl | exact ⟨by decide +kernel, wk_lb rfl (by decide) rfl rfl⟩ | exact ⟨rfl, wk_lb rfl (by decide) rfl rfl⟩ | exact ⟨.eq rfl, wk_lb rfl (by decide) rfl rfl⟩ | exact ⟨by decide +kernel, .eq rfl, wk_lb rfl (by decide) rfl rfl⟩)
  have d3 : (a.kind == 3) = false := beq_eq_false_iff_ne.2 k3
  rw [if_neg k3]
  by_cases k4 : a.kind = 4
  · rw [if_pos k4]
    simp -implicitDefEqProofs only [↓aP, aR, ↓reduceIte, reduceCtorEq, seval, wk_slot, wk_gen, wk_box, wk_row, k4]
    refine askWK 901 0 (pwrite_spec w a.id a.body h.rt (write_rt h hf hB (by omega) a.body)) (by simp -implicitDefEqProofs only [↓aP, aR, ↓reduceIte, reduceCtorEq, seval, argS, sOf]) (by simp -implicitDefEqProofs only [↓aP, aR, ↓reduceIte, reduceCtorEq, seval, wk_slot, wk_gen, wk_box, wk_row]) ?_
    simp -implicitDefEqProofs only [↓aP, aR, ↓reduceIte, reduceCtorEq, seval, wk_slot, wk_gen, wk_box, wk_row, wkA, encPE, encPg, wk_fin, sOf]
    (first | exact wk_lb rfl (by decide) rfl rfl | exact ⟨by decide +kernel, wk_lb rfl (by decide) rfl rfl⟩ | exact ⟨rfl, wk_lb rfl (by decide) rfl rfl⟩ | exact ⟨.eq rfl, wk_lb rfl (by decide) rfl rfl⟩ | exact ⟨by decide +kernel, .eq rfl, wk_lb rfl (by decide) rfl rfl⟩)
  have d4 : (a.kind == 4) = false := beq_eq_false_iff_ne.2 k4
  rw [if_neg k4]
  by_cases k5 : a.kind = 5
  · rw [if_pos k5]
    simp -implicitDefEqProofs only [↓aP, aR, ↓reduceIte, reduceCtorEq, seval, wk_slot, wk_gen, wk_box, wk_row, k5]
    refine askWK 901 0 (unpin_spec w a.id h.rt) (by simp -implicitDefEqProofs only [↓aP, aR, ↓reduceIte, reduceCtorEq, seval, argS, sOf]) (by simp -implicitDefEqProofs only [↓aP, aR, ↓reduceIte, reduceCtorEq, seval, wk_slot, wk_gen, wk_box, wk_row]) ?_
    simp -implicitDefEqProofs only [↓aP, aR, ↓reduceIte, reduceCtorEq, seval, wk_slot, wk_gen, wk_box, wk_row, wkA, encPE, encPg, zP, wk_fin, sOf]
    (first | exact wk_lb rfl (by decide) rfl rfl | exact ⟨by decide +kernel, wk_lb rfl (by decide) rfl rfl⟩ | exact ⟨rfl, wk_lb rfl (by decide) rfl rfl⟩ | exact ⟨.eq rfl, wk_lb rfl (by decide) rfl rfl⟩ | exact ⟨by decide +kernel, .eq rfl, wk_lb rfl (by decide) rfl rfl⟩)
  have d5 : (a.kind == 5) = false := beq_eq_false_iff_ne.2 k5
  rw [if_neg k5]
  by_cases k6 : a.kind = 6
  · rw [if_pos k6]
    simp -implicitDefEqProofs only [↓aP, aR, ↓reduceIte, reduceCtorEq, seval, wk_slot, wk_gen, wk_box, wk_row, k6]
    refine askWK 901 0 (drop_spec w h hd (id := a.id) (by omega)) (by simp -implicitDefEqProofs only [↓aP, aR, ↓reduceIte, reduceCtorEq, seval, argS, sOf]) (by simp -implicitDefEqProofs only [↓aP, aR, ↓reduceIte, reduceCtorEq, seval, wk_slot, wk_gen, wk_box, wk_row]) ?_
    simp -implicitDefEqProofs only [↓aP, aR, ↓reduceIte, reduceCtorEq, seval, wk_slot, wk_gen, wk_box, wk_row, wkA, encPE, encPg, zP, wk_fin, sOf]
    (first | exact wk_lb rfl (by decide) rfl rfl | exact ⟨by decide +kernel, wk_lb rfl (by decide) rfl rfl⟩ | exact ⟨rfl, wk_lb rfl (by decide) rfl rfl⟩ | exact ⟨.eq rfl, wk_lb rfl (by decide) rfl rfl⟩ | exact ⟨by decide +kernel, .eq rfl, wk_lb rfl (by decide) rfl rfl⟩)
  have d6 : (a.kind == 6) = false := beq_eq_false_iff_ne.2 k6
  rw [if_neg k6]
  by_cases k7 : a.kind = 7
  · rw [if_pos k7]
    simp -implicitDefEqProofs only [↓aP, aR, ↓reduceIte, reduceCtorEq, seval, wk_slot, wk_gen, wk_box, wk_row, k7]
    refine askWK 901 0 (flush_spec w h hd (id := a.id) (by omega)) (by simp -implicitDefEqProofs only [↓aP, aR, ↓reduceIte, reduceCtorEq, seval, argS, sOf]) (by simp -implicitDefEqProofs only [↓aP, aR, ↓reduceIte, reduceCtorEq, seval, wk_slot, wk_gen, wk_box, wk_row]) ?_
    simp -implicitDefEqProofs only [↓aP, aR, ↓reduceIte, reduceCtorEq, seval, wk_slot, wk_gen, wk_box, wk_row, wkA, encPE, encPg, zP, wk_fin, sOf]
    (first | exact wk_lb rfl (by decide) rfl rfl | exact ⟨by decide +kernel, wk_lb rfl (by decide) rfl rfl⟩ | exact ⟨rfl, wk_lb rfl (by decide) rfl rfl⟩ | exact ⟨.eq rfl, wk_lb rfl (by decide) rfl rfl⟩ | exact ⟨by decide +kernel, .eq rfl, wk_lb rfl (by decide) rfl rfl⟩)
  have d7 : (a.kind == 7) = false := beq_eq_false_iff_ne.2 k7
  rw [if_neg k7]
  simp -implicitDefEqProofs only [↓aP, aR, ↓reduceIte, reduceCtorEq, seval, wk_slot, wk_gen, wk_box, wk_row, d1, d2, d3, d4, d5, d6, d7]
  refine askWK 901 0 (age_spec w h hd a.id) (by simp -implicitDefEqProofs only [↓aP, aR, ↓reduceIte, reduceCtorEq, seval, argS, sOf]) (by simp -implicitDefEqProofs only [↓aP, aR, ↓reduceIte, reduceCtorEq, seval, wk_slot, wk_gen, wk_box, wk_row]) ?_
  simp -implicitDefEqProofs only [↓aP, aR, ↓reduceIte, reduceCtorEq, seval, wk_slot, wk_gen, wk_box, wk_row, wkA, encPE, encPg, zP, wk_fin, sOf]
  (first | exact wk_lb rfl (by decide) rfl rfl | exact ⟨by decide +kernel, wk_lb rfl (by decide) rfl rfl⟩ | exact ⟨rfl, wk_lb rfl (by decide) rfl rfl⟩ | exact ⟨.eq rfl, wk_lb rfl (by decide) rfl rfl⟩ | exact ⟨by decide +kernel, .eq rfl, wk_lb rfl (by decide) rfl rfl⟩)
end Go.Proofs.YtcbfhpnmhhnjpaaGreat

namespace Go.Proofs.YtcbfhpnmhhnjpaaGreat
open Go.RowKit
def wkZ (w : Wk) : List AC := [.s (.sl 3 (w.f.ck.fr.map encFr)), .s (.pv (.int .i64 w.f.ck.hand)), .s (.sl 2 (w.f.tb.map encSl)), .s (.sl 3 (w.f.pg.map encPg)), .s (.sl 2 (w.f.dt.map encIt)), .s (.sl 1 (w.d.sectors.map encS)), .s (.sl 2 (w.d.cache.map encWr)), .s (.pv (.int .i64 w.now)), .zc]
theorem encPl_eq (p : Pl) : encPl p = [.sl 3 (p.f.ck.fr.map encFr), .pv (.int .i64 p.f.ck.hand), .sl 2 (p.f.tb.map encSl), .sl 3 (p.f.pg.map encPg), .sl 2 (p.f.dt.map encIt), .sl 1 (p.d.sectors.map encS), .sl 2 (p.d.cache.map encWr), .pv (.int .i64 p.now)] := rfl
theorem askZK {P : Program} {f l g d : Nat} {bs : List (TV SC)} (r : Nat) {h : Hp} {w w' : Wk} {ret : TV SC} {xr : List (TV AC)} {us : List (TV SC)} {K : TV AC → List (Nat × Nat × LB) → Prop} (hs : SpecW P f (WK w w' ret) us) (hd : w.done = []) (ha : all? argS xr = some us)
    (hp : g = h.gen l ∧ r ≠ l ∧ h.blk l = .box tWk 9 [wkZ w] ∧ h.blk r ≠ .dead) (hk : K ret.lift [(r, h.gen r + 1, .row tJo 3 (w'.done.map encJo)), (l, g, .box tWk 9 [wkA w' r (h.gen r + 1)])]) : Ask P f bs h d (.c (.ptr l g 0 0) :: xr) K :=
  .inr (askZ r hs ha hp.1 hp.2.1 hp.2.2.1 rfl rfl hp.2.2.2 (by show w.done.map encJo = []; rw [hd]; rfl) (by show 0 < 3; decide) rfl rfl hk)
def encDo (x : Pl × Pg × List Jo × Int) : TV SC := .tup [(true, encPl x.1), (true, encPg x.2.1), (false, [.sl 3 (x.2.2.1.map encJo)]), (false, [.pv (.int .i64 x.2.2.2)])]
theorem do_spec (p : Pl) {m : Md} {B : Int} (h : Ag p m B) (hB : B < 1000000000) (a : Pa) : Spec Tryz.prog 18 [.agg (encPl p), .agg (encPa a)] (.val (encDo (Po.doP p a))) := by
  refine spec_val mixed fn18 (by simp) ?_
  unfold ac18
  obtain ⟨D, g⟩ := h.gp
  by_cases hb : Po.bad a
  · have e : Po.doP p a = (p, zP, [], 1) := if_pos hb
    rw [e]
    unfold Po.bad at hb
    simp -implicitDefEqProofs only [↓aP, aR, ↓reduceIte, reduceCtorEq, seval, encPl_eq, encPa]
    repeat' ((first | ((first | with_reducible refine fork ?_ ?_ | with_reducible refine gcase ?_ ?_ | with_reducible refine gcaseD ?_ ?_) <;> intro hc <;> (have hp := hc) <;> (try simp only [aB] at hp)) | (have hc := True.intro; first | with_reducible refine askM (by omega) ?_ | with_reducible refine And.intro (by first | omega | decide +kernel) ?_ | fail)) <;> (try simp -implicitDefEqProofs only [↓aP, aR, ↓reduceIte, reduceCtorEq, seval, hc, encPl_eq, encPa]))
    all_goals first
      | (exfalso; omega)
      | (simp [tsim, simT, simL, encDo, encPl_eq, encPg, zP]; done)
  · have e : Po.doP p a = (⟨(Po.act (Po.start p) a).1.f, (Po.act (Po.start p) a).1.d, (Po.act (Po.start p) a).1.now⟩, (Po.act (Po.start p) a).2.1, (Po.act (Po.start p) a).1.done, (Po.act (Po.start p) a).2.2) := if_neg hb
    have hs := act_spec (Po.start p) g h.fit hB (by show ([] : List Jo).length ≤ 1000; simp) a hb
    rw [e]
    unfold Po.bad at hb
    simp -implicitDefEqProofs only [↓aP, aR, ↓reduceIte, reduceCtorEq, seval, encPl_eq, encPa]
    repeat' ((first | ((first | with_reducible refine fork ?_ ?_ | with_reducible refine gcase ?_ ?_ | with_reducible refine gcaseD ?_ ?_) <;> intro hc <;> (have hp := hc) <;> (try simp only [aB] at hp)) | (have hc := True.intro; first | with_reducible refine askM (by omega) ?_ | with_reducible refine And.intro (by first | omega | decide +kernel) ?_ | fail)) <;> (try simp -implicitDefEqProofs only [↓aP, aR, ↓reduceIte, reduceCtorEq, seval, hc, encPl_eq, encPa]))
    all_goals try (exfalso; omega)
    all_goals
      refine askZK 2 hs rfl (by simp -implicitDefEqProofs only [↓aP, aR, ↓reduceIte, reduceCtorEq, seval, argS, sOf, encPa]) (by simp -implicitDefEqProofs only [↓aP, aR, ↓reduceIte, reduceCtorEq, seval, wkZ, Po.start]) ?_
      simp -implicitDefEqProofs only [↓aP, aR, ↓reduceIte, reduceCtorEq, seval, wkA, encPE, encPg, encDo, encPl_eq]
      exact (by decide +kernel)
theorem tick_spec (p : Pl) (n : Int) (h : 0 ≤ p.now ∧ p.now ≤ 2147483647) : Spec Tryz.prog 20 [.agg (encPl p), rI n] (.val (.agg (encPl (Po.tick p n)))) := by
  refine spec_val mixed fn20 (by simp) ?_
  unfold ac20
  simp -implicitDefEqProofs only [↓aP, aR, ↓reduceIte, reduceCtorEq, seval, encPl_eq, Po.tick]
  rw [wrapI (show -9223372036854775808 ≤ 2147483647 - p.now ∧ 2147483647 - p.now ≤ 9223372036854775807 by omega), wrapI (by omega)]
theorem open_spec (d : Dk) (n : Int) : Spec Tryz.prog 25 [.agg (encDk d), rI n] (.val (.tup [(true, encPl (Po.openP d n).1), (false, [.pv (.int .i64 (Po.openP d n).2)])])) := by
  refine spec_val mixed fn25 (by simp) ?_
  unfold ac25
  simp -implicitDefEqProofs only [↓aP, aR, ↓reduceIte, reduceCtorEq, seval, encDk]
  refine ask (jget_spec d 1) ?_
  have hf0 : Fm.newF 0 = (⟨⟨[], 0⟩, [], [], []⟩, 1) := rfl
  by_cases hg : (Jn.getM d 1).2 = 0
  · by_cases hc : 0 < d.cache.length
    · have e : Po.openP d n = (⟨(Fm.newF 0).1, ⟨[], []⟩, 0⟩, 1) := if_pos (.inr (.inl hc))
      rw [e]
      simp -implicitDefEqProofs only [↓aP, aR, ↓reduceIte, reduceCtorEq, seval, encDk, hg, hf0, encPl_eq]
      refine fork ?_ ?_ <;> intro hx
      · simp -implicitDefEqProofs only [↓aP, aR, ↓reduceIte, reduceCtorEq, seval, encDk, hg, hf0, encPl_eq]
      · have := t_df hx; omega
    · simp -implicitDefEqProofs only [↓aP, aR, ↓reduceIte, reduceCtorEq, seval, encDk, hg, encPl_eq]
      refine fork ?_ ?_ <;> intro hx
      · have := t_dt hx; omega
      simp -implicitDefEqProofs only [↓aP, aR, ↓reduceIte, reduceCtorEq, seval, encDk, hg, encPl_eq]
      refine ask (fNew_spec n) ?_
      by_cases hn : (Fm.newF n).2 = 0
      · have e : Po.openP d n = (⟨(Fm.newF n).1, Jn.recoverM d, 0⟩, 0) := if_neg (fun x => x.elim (fun y => y hg) (fun y => y.elim hc (fun z => z hn)))
        rw [e]
        simp -implicitDefEqProofs only [↓aP, aR, ↓reduceIte, reduceCtorEq, seval, encDk, encFs, hn, encPl_eq]
        (try with_reducible refine And.intro (by decide +kernel) ?_)
        refine ask (recover_spec d) ?_
        simp -implicitDefEqProofs only [↓aP, aR, ↓reduceIte, reduceCtorEq, seval, encDk, encFs, hn, encPl_eq]
        exact (by decide +kernel)
      · have h1 : (Fm.newF n).2 = 1 := by unfold Fm.newF at hn ⊢; split <;> simp_all
        have e : Po.openP d n = (⟨(Fm.newF 0).1, ⟨[], []⟩, 0⟩, 1) := if_pos (.inr (.inr hn))
        rw [e]
        simp -implicitDefEqProofs only [↓aP, aR, ↓reduceIte, reduceCtorEq, seval, encDk, encFs, h1, hf0, encPl_eq]
  · have e : Po.openP d n = (⟨(Fm.newF 0).1, ⟨[], []⟩, 0⟩, 1) := if_pos (.inl hg)
    have d0 : ((Jn.getM d 1).2 != 0) = true := by simp [hg]
    rw [e]
    simp -implicitDefEqProofs only [↓aP, aR, ↓reduceIte, reduceCtorEq, seval, encDk, hg, d0, hf0, encPl_eq]
end Go.Proofs.YtcbfhpnmhhnjpaaGreat

namespace Go.Proofs.YtcbfhpnmhhnjpaaGreat
open Go.RowKit
def encMd (m : Md) : List SC := (m.pg.map encPg).flatten ++ m.pin.map (fun x => .pv (.int .i64 x)) ++ [.pv (.int .i64 m.n)]
theorem flat3 : ∀ (l : List Pg), ((l.map encPg).flatten).length = 3 * l.length
  | [] => rfl
  | a :: l => by rw [List.map_cons, List.flatten_cons, List.length_append, flat3 l, List.length_cons]; show 3 + _ = _; omega
theorem flat3_drop : ∀ (l : List Pg) (k : Nat), k ≤ l.length → ((l.map encPg).flatten).drop (k * 3) = ((l.drop k).map encPg).flatten
  | l, 0, _ => by simp
  | [], k + 1, h => by simp at h
  | a :: l, k + 1, h => by
    rw [List.map_cons, List.flatten_cons, show (k + 1) * 3 = (encPg a).length + k * 3 by show _ = 3 + _; omega, List.drop_length_add_append, List.drop_succ_cons]
    exact flat3_drop l k (by simpa using h)
theorem patch_map {l : List SC} {o : Nat} {xs : List SC} : patch (l.map AC.s) o (xs.map AC.s) = (patch l o xs).map AC.s := by unfold patch; simp
section
variable {m : Md} (h1 : m.pg.length = 17) (h2 : m.pin.length = 17)
include h1 h2
theorem encMd_len : (encMd m).length = 69 := by unfold encMd; rw [List.length_append, List.length_append, flat3, List.length_map, h1, h2]; rfl
theorem md_pg {k : Nat} (hk : k < 17) : ((encMd m).drop (k * 3)).take 3 = encPg (m.pg.getD k zP) := by
  unfold encMd
  rw [List.append_assoc, List.drop_append_of_le_length (by rw [flat3, h1]; omega), flat3_drop _ _ (by omega), List.drop_eq_getElem_cons (by omega), List.map_cons, List.flatten_cons, List.append_assoc, List.take_append_of_le_length (by show 3 ≤ 3; omega)]
  rw [List.getD_eq_getElem?_getD, List.getElem?_eq_getElem (by omega)]
  rfl
theorem md_pin {k : Nat} (hk : k < 17) : ((encMd m).drop (51 + k)).take 1 = [.pv (.int .i64 (m.pin.getD k 0))] := by
  unfold encMd
  rw [List.append_assoc, show 51 + k = ((m.pg.map encPg).flatten).length + k by rw [flat3, h1], List.drop_length_add_append, List.drop_append_of_le_length (by rw [List.length_map]; omega), List.drop_eq_getElem_cons (by rw [List.length_map]; omega), List.cons_append]
  simp only [List.take_succ_cons, List.take_zero, List.getElem_map]
  rw [List.getD_eq_getElem?_getD, List.getElem?_eq_getElem (by omega)]
  rfl
theorem md_n : ((encMd m).drop 68).take 1 = [.pv (.int .i64 m.n)] := by
  unfold encMd
  rw [show 68 = (((m.pg.map encPg).flatten ++ m.pin.map (fun x => SC.pv (.int .i64 x))).length) + 0 by rw [List.length_append, flat3, List.length_map, h1, h2], List.drop_length_add_append]
  rfl
theorem md_setpg {k : Nat} (hk : k < 17) (p : Pg) : patch (encMd m) (k * 3) (encPg p) = encMd ⟨m.pg.set k p, m.pin, m.n⟩ := by
  have hl := encMd_len h1 h2
  unfold patch
  have hd : (encMd m).drop (k * 3 + (encPg p).length) = ((m.pg.drop (k + 1)).map encPg).flatten ++ (m.pin.map (fun x => SC.pv (.int .i64 x)) ++ [.pv (.int .i64 m.n)]) := by
    unfold encMd
    rw [show k * 3 + (encPg p).length = (k + 1) * 3 by show k * 3 + 3 = _; omega, List.append_assoc, List.drop_append_of_le_length (by rw [flat3, h1]; omega), flat3_drop _ _ (by omega)]
  have ht : (encMd m).take (k * 3) = ((m.pg.take k).map encPg).flatten := by
    unfold encMd
    rw [List.append_assoc, List.take_append_of_le_length (by rw [flat3, h1]; omega)]
    have e : ((m.pg.map encPg).flatten) = ((m.pg.take k).map encPg).flatten ++ ((m.pg.drop k).map encPg).flatten := by rw [← List.flatten_append, ← List.map_append, List.take_append_drop]
    rw [e, List.take_append_of_le_length (by rw [flat3, List.length_take]; omega), List.take_of_length_le (by rw [flat3, List.length_take]; omega)]
  rw [hd, ht]
  unfold encMd
  simp only
  rw [List.set_eq_take_append_cons_drop, if_pos (by omega), List.map_append, List.map_cons, List.flatten_append, List.flatten_cons]
  simp only [List.append_assoc]
theorem md_setpin {k : Nat} (hk : k < 17) (v : Int) : patch (encMd m) (51 + k) [.pv (.int .i64 v)] = encMd ⟨m.pg, m.pin.set k v, m.n⟩ := by
  unfold patch encMd
  have hf : ((m.pg.map encPg).flatten).length = 51 := by rw [flat3, h1]
  simp only [List.append_assoc]
  rw [show 51 + k = ((m.pg.map encPg).flatten).length + k by rw [hf], List.take_length_add_append, show ((m.pg.map encPg).flatten).length + k + [SC.pv (.int .i64 v)].length = ((m.pg.map encPg).flatten).length + (k + 1) by simp; omega, List.drop_length_add_append,
    List.take_append_of_le_length (by rw [List.length_map]; omega), List.drop_append_of_le_length (by rw [List.length_map]; omega), List.map_set, List.set_eq_take_append_cons_drop, if_pos (by rw [List.length_map]; omega)]
  simp only [List.append_assoc, List.cons_append, List.nil_append]
theorem md_pgA {k : Nat} (hk : k < 17) : (((encMd m).map AC.s).drop (k * 3)).take 3 = (encPg (m.pg.getD k zP)).map AC.s := by rw [← List.map_drop, ← List.map_take, md_pg h1 h2 hk]
theorem md_pinA {k : Nat} (hk : k < 17) : (((encMd m).map AC.s).drop (51 + k * 1)).take 1 = [.s (.pv (.int .i64 (m.pin.getD k 0)))] := by rw [← List.map_drop, ← List.map_take, Nat.mul_one, md_pin h1 h2 hk]; rfl
theorem md_nA : (((encMd m).map AC.s).drop 68).take 1 = [.s (.pv (.int .i64 m.n))] := by rw [← List.map_drop, ← List.map_take, md_n h1 h2]; rfl
theorem md_setpgA {k : Nat} (hk : k < 17) (p : Pg) : patch ((encMd m).map AC.s) (k * 3) [.s (.pv (.int .i64 p.id)), .s (.pv (.int .i64 p.ver)), .s (.pv (.string p.body))] = (encMd ⟨m.pg.set k p, m.pin, m.n⟩).map AC.s := by rw [← md_setpg h1 h2 hk p, ← patch_map]; rfl
theorem md_setpinA {k : Nat} (hk : k < 17) (v : Int) : patch ((encMd m).map AC.s) (51 + k * 1) [.s (.pv (.int .i64 v))] = (encMd ⟨m.pg, m.pin.set k v, m.n⟩).map AC.s := by rw [← md_setpin h1 h2 hk v, ← patch_map, Nat.mul_one]; rfl
theorem md_storepg {k : Nat} (hk : k < 17) (p : Pg) : List.take (k * 3) ((encMd m).map AC.s) ++ [.s (.pv (.int .i64 p.id)), .s (.pv (.int .i64 p.ver)), .s (.pv (.string p.body))] ++ List.drop (k * 3 + 3) ((encMd m).map AC.s) = (encMd ⟨m.pg.set k p, m.pin, m.n⟩).map AC.s := md_setpgA h1 h2 hk p
theorem md_storepin {k : Nat} (hk : k < 17) (v : Int) : List.take (51 + k * 1) ((encMd m).map AC.s) ++ [.s (.pv (.int .i64 v))] ++ List.drop (51 + k * 1 + 1) ((encMd m).map AC.s) = (encMd ⟨m.pg, m.pin.set k v, m.n⟩).map AC.s := md_setpinA h1 h2 hk v
end
theorem shA_s {h : Hp} : ∀ (xs : List SC), all? (shA h) (xs.map AC.s) = some xs
  | [] => rfl
  | x :: xs => by rw [List.map_cons]; unfold all?; rw [shA_s xs]; rfl
theorem shB_s {h : Hp} : ∀ (xs : List SC), all? (shB h) (xs.map AC.s) = some xs
  | [] => rfl
  | x :: xs => by rw [List.map_cons]; unfold all?; rw [shB_s xs]; rfl
theorem frz_s {h : Hp} : ∀ (xs : List SC) (ys : List AC), frz h (xs.map AC.s ++ ys) = frz h ys
  | [], _ => rfl
  | x :: xs, ys => frz_s xs ys
theorem frz_s0 {h : Hp} (xs : List SC) : frz h (xs.map AC.s) = [] := by have := frz_s (h := h) xs []; rwa [List.append_nil] at this
theorem encMd_flat (m : Md) : (encMd m).all SC.isPv = true := by
  have h : ∀ l : List Pg, ((l.map encPg).flatten).all SC.isPv = true := fun l => by
    induction l with
    | nil => rfl
    | cons a l ih => rw [List.map_cons, List.flatten_cons, List.all_append, ih]; rfl
  unfold encMd
  rw [List.all_append, List.all_append, h, List.all_map]
  simp [SC.isPv, Function.comp_def]
theorem md_69 {m : Md} (h1 : m.pg.length = 17) (h2 : m.pin.length = 17) : List.take 69 (List.map AC.s (encMd m)) = List.map AC.s (encMd m) := List.take_of_length_le (by rw [List.length_map, encMd_len h1 h2]; omega)
theorem locs_s : ∀ xs : List SC, List.flatMap locs0 (xs.map AC.s) = []
  | [] => rfl
  | x :: xs => by rw [List.map_cons, List.flatMap_cons, locs_s xs]; rfl
theorem md_d69 {m : Md} (h1 : m.pg.length = 17) (h2 : m.pin.length = 17) : List.drop 69 (List.map AC.s (encMd m)) = [] := List.drop_eq_nil_of_le (by rw [List.length_map, encMd_len h1 h2]; omega)
theorem cnt_succ {l : List Int} {i : Nat} (h : 1 ≤ i) : Md.cnt (i + 1) l = Md.cnt i l + if 0 < l.getD i 0 then 1 else 0 := if_neg (by omega)
theorem cnt_le (l : List Int) : ∀ i, 0 ≤ Md.cnt i l ∧ Md.cnt i l ≤ i
  | 0 => by show (0 : Int) ≤ 0 ∧ (0 : Int) ≤ 0; omega
  | i + 1 => by
    have := cnt_le l i
    by_cases h : i = 0
    · rw [show Md.cnt (i + 1) l = 0 from if_pos h]; omega
    · rw [show Md.cnt (i + 1) l = Md.cnt i l + if 0 < l.getD i 0 then 1 else 0 from if_neg h]
      split <;> omega
theorem busy_spec (m : Md) (h1 : m.pg.length = 17) (h2 : m.pin.length = 17) (id : Int) (hid : 1 ≤ id ∧ id ≤ 16) : Spec Tryz.prog 81 [.agg (encMd m), rI id] (.val (rB (m.busy id))) := by
  refine spec_val mixed fn81 (by simp) ?_
  unfold ac81
  simp -implicitDefEqProofs only [↓aP, aR, ↓reduceIte, reduceCtorEq, seval, encMd_len h1 h2, List.length_map]
  refine loopA (fun n σ => ∃ i : Nat, i + n = 17 ∧ 1 ≤ i ∧ σ.slot 1 = vI id ∧ σ.slot 2 = .c (.ptr 2 1 0 0) ∧ σ.h.gen 2 = 1 ∧ σ.h.blk 2 = .box 46 69 [(encMd m).map AC.s] ∧ σ.slot 5 = vI (Md.cnt i m.pin) ∧ σ.slot 6 = vI i) 16 ⟨1, by omega, by omega, ?_⟩ ?_
  · simp -implicitDefEqProofs only [↓aP, aR, ↓reduceIte, reduceCtorEq, seval]
    rfl
  rintro n σ ⟨i, hin, hi1, s1, s2, g2, b2, s5, s6⟩
  have hc := cnt_le m.pin i
  by_cases hi : i < 17
  · have w1 : IntKind.i64.wrap (Md.cnt i m.pin + 1) = Md.cnt i m.pin + 1 := wrapI (by omega)
    simp -implicitDefEqProofs only [↓aP, aR, ↓reduceIte, reduceCtorEq, seval, s1, s2, g2, b2, s5, s6, show decide ((i : Int) < 17) = true by simp; omega]
    refine ⟨by omega, by omega, ?_⟩
    simp -implicitDefEqProofs only [↓aP, aR, ↓reduceIte, reduceCtorEq, seval, s1, s2, g2, b2, s5, s6, md_pinA h1 h2 hi]
    refine fork ?_ ?_ <;> intro hx
    · have hp : 0 < m.pin.getD i 0 := t_dt hx
      simp -implicitDefEqProofs only [↓aP, aR, ↓reduceIte, reduceCtorEq, seval, s1, s2, g2, b2, s5, s6, w1, wrapS (show i < 4611686018427387904 by omega)]
      refine ⟨n - 1, by omega, i + 1, by omega, by omega, ?_⟩
      rw [cnt_succ hi1, if_pos hp]
      simp -implicitDefEqProofs only [↓aP, aR, ↓reduceIte, reduceCtorEq, seval, s1, s2, g2, b2, s5, s6]
    · have hp : ¬ 0 < m.pin.getD i 0 := by have := t_df hx; omega
      simp -implicitDefEqProofs only [↓aP, aR, ↓reduceIte, reduceCtorEq, seval, s1, s2, g2, b2, s5, s6, wrapS (show i < 4611686018427387904 by omega)]
      refine ⟨n - 1, by omega, i + 1, by omega, by omega, ?_⟩
      rw [cnt_succ hi1, if_neg hp, Int.add_zero]
      simp -implicitDefEqProofs only [↓aP, aR, ↓reduceIte, reduceCtorEq, seval, s1, s2, g2, b2, s5, s6]
  · obtain rfl : i = 17 := by omega
    simp -implicitDefEqProofs only [↓aP, aR, ↓reduceIte, reduceCtorEq, seval, s1, s2, g2, b2, s5, s6]
    refine ⟨by omega, by omega, by omega, ?_⟩
    simp -implicitDefEqProofs only [↓aP, aR, ↓reduceIte, reduceCtorEq, seval, s1, s2, g2, b2, s5, s6, md_pinA h1 h2 (k := id.toNat) (by omega), md_nA h1 h2]
    by_cases hp : m.pin.getD id.toNat 0 = 0
    · have e : m.busy id = (Md.cnt 17 m.pin == m.n) := by unfold Md.busy; rw [decide_eq_true hp, Bool.true_and]; rfl
      rw [e]
      simp -implicitDefEqProofs only [↓aP, aR, ↓reduceIte, reduceCtorEq, seval, s1, s2, g2, b2, s5, s6, hp, md_nA h1 h2]
    · have d0 : (m.pin.getD id.toNat 0 == 0) = false := beq_eq_false_iff_ne.2 hp
      have e : m.busy id = false := by unfold Md.busy; rw [decide_eq_false hp, Bool.false_and]
      rw [e]
      simp -implicitDefEqProofs only [↓aP, aR, ↓reduceIte, reduceCtorEq, seval, s1, s2, g2, b2, s5, s6, d0, md_nA h1 h2]
end Go.Proofs.YtcbfhpnmhhnjpaaGreat

namespace Go.Proofs.YtcbfhpnmhhnjpaaGreat
open Go.RowKit
def encMr (x : Md × Pg × Int) : TV SC := .tup [(true, encMd x.1), (true, encPg x.2.1), (false, [.pv (.int .i64 x.2.2)])]
theorem there_spec (m : Md) (h1 : m.pg.length = 17) (h2 : m.pin.length = 17) (hp : ∀ i : Nat, 0 ≤ m.pin.getD i 0 ∧ m.pin.getD i 0 ≤ 2000000000) (kind id : Int) (hk : kind = 1 ∨ kind = 2) (hid : 1 ≤ id ∧ id ≤ 16) : Spec Tryz.prog 42 [.agg (encMd m), rI kind, rI id] (.val (encMr (m.there kind id))) := by
  refine spec_val mixed fn42 (by simp) ?_
  unfold ac42
  have hi : id.toNat < 17 := by omega
  have hpi := hp id.toNat
  have w1 : IntKind.i64.wrap (m.pin.getD id.toNat 0 + 1) = m.pin.getD id.toNat 0 + 1 := wrapI (by omega)
  have hb : ∀ (b : Bool), m.busy id = b → Spec Tryz.prog 81 [.agg (encMd m), rI id] (.val (rB b)) := fun b e => e ▸ busy_spec m h1 h2 id hid
  have hA := md_pgA h1 h2 hi
  have hth : m.there kind id = if kind = 1 ∧ (m.pg.getD id.toNat zP).id = 0 then (m, zP, 3) else if kind = 2 ∧ (m.pg.getD id.toNat zP).id ≠ 0 then (m, zP, 4) else if m.busy id = true then (m, zP, 6) else
    (⟨m.pg.set id.toNat (if kind = 2 then ⟨id, 1, ⟨#[]⟩⟩ else m.pg.getD id.toNat zP), m.pin.set id.toNat (m.pin.getD id.toNat 0 + 1), m.n⟩, if kind = 2 then ⟨id, 1, ⟨#[]⟩⟩ else m.pg.getD id.toNat zP, 0) := rfl
  generalize m.pg.getD id.toNat zP = q at hA hth
  rw [hth]
  have g1 : ∀ q : Pg, (m.pg.set id.toNat q).length = 17 := fun q => by rw [List.length_set]; exact h1
  have g2 : ∀ v : Int, (m.pin.set id.toNat v).length = 17 := fun v => by rw [List.length_set]; exact h2
  rcases hk with rfl | rfl
  · by_cases hz : q.id = 0
    · rw [if_pos ⟨rfl, hz⟩]
      simp -implicitDefEqProofs only [↓aP, aR, ↓reduceIte, reduceCtorEq, seval, encMd_len h1 h2, List.length_map]
      refine ⟨by omega, by omega, ?_⟩
      simp -implicitDefEqProofs only [↓aP, aR, ↓reduceIte, reduceCtorEq, seval, hA, encPg, hz, md_69 h1 h2, encMd_len h1 h2, List.length_map, shA_s, shB_s, frz_s0, List.append_nil, encMr, zP]
      exact ⟨by omega, simL_refl _⟩
    · have d0 : (q.id == 0) = false := beq_eq_false_iff_ne.2 hz
      rw [if_neg (fun x => hz x.2), if_neg (fun x => by have := x.1; omega)]
      cases hbu : m.busy id
      · rw [if_neg (by simp), if_neg (by omega)]
        simp -implicitDefEqProofs only [↓aP, aR, ↓reduceIte, reduceCtorEq, seval, encMd_len h1 h2, List.length_map]
        refine ⟨by omega, by omega, ?_⟩
        simp -implicitDefEqProofs only [↓aP, aR, ↓reduceIte, reduceCtorEq, seval, hA, encPg, d0, md_69 h1 h2, encMd_len h1 h2, List.length_map, shA_s, shB_s, frz_s0, List.append_nil, encMr, zP]
        refine ⟨by omega, ?_⟩
        refine ask (hb _ hbu) ?_
        simp -implicitDefEqProofs only [↓aP, aR, ↓reduceIte, reduceCtorEq, seval, hA, encPg, d0, md_69 h1 h2, encMd_len h1 h2, List.length_map, shA_s, shB_s, frz_s0, List.append_nil, encMr, zP]
        refine ⟨by omega, by omega, by omega, by omega, by omega, by omega, ?_⟩
        rw [md_storepg h1 h2 hi q]
        simp -implicitDefEqProofs only [↓aP, aR, ↓reduceIte, reduceCtorEq, seval, md_pinA (m := ⟨m.pg.set id.toNat q, m.pin, m.n⟩) (g1 q) h2 hi, w1]
        refine ⟨by omega, by omega, by omega, ?_⟩
        rw [md_storepin (m := ⟨m.pg.set id.toNat q, m.pin, m.n⟩) (g1 q) h2 hi]
        simp -implicitDefEqProofs only [↓aP, aR, ↓reduceIte, reduceCtorEq, seval, md_69 (m := ⟨m.pg.set id.toNat q, m.pin.set id.toNat (m.pin.getD id.toNat 0 + 1), m.n⟩) (g1 q) (g2 _), encMd_len (m := ⟨m.pg.set id.toNat q, m.pin.set id.toNat (m.pin.getD id.toNat 0 + 1), m.n⟩) (g1 q) (g2 _), List.length_map, shA_s, shB_s, frz_s0, List.append_nil, locs_s]
        exact ⟨by decide +kernel, simL_refl _⟩
      · rw [if_pos rfl]
        simp -implicitDefEqProofs only [↓aP, aR, ↓reduceIte, reduceCtorEq, seval, encMd_len h1 h2, List.length_map]
        refine ⟨by omega, by omega, ?_⟩
        simp -implicitDefEqProofs only [↓aP, aR, ↓reduceIte, reduceCtorEq, seval, hA, encPg, d0, md_69 h1 h2, encMd_len h1 h2, List.length_map, shA_s, shB_s, frz_s0, List.append_nil, encMr, zP]
        refine ⟨by omega, ?_⟩
        refine ask (hb _ hbu) ?_
        simp -implicitDefEqProofs only [↓aP, aR, ↓reduceIte, reduceCtorEq, seval, hA, encPg, d0, md_69 h1 h2, encMd_len h1 h2, List.length_map, shA_s, shB_s, frz_s0, List.append_nil, encMr, zP]
        exact simL_refl _
  · by_cases hz : q.id = 0
    · have d0 : (q.id != 0) = false := by simp [hz]
      rw [if_neg (fun x => by have := x.1; omega), if_neg (fun x => x.2 hz)]
      cases hbu : m.busy id
      · rw [if_neg (by simp), if_pos rfl]
        simp -implicitDefEqProofs only [↓aP, aR, ↓reduceIte, reduceCtorEq, seval, encMd_len h1 h2, List.length_map]
        refine ⟨by omega, by omega, ?_⟩
        simp -implicitDefEqProofs only [↓aP, aR, ↓reduceIte, reduceCtorEq, seval, hA, encPg, hz, md_69 h1 h2, encMd_len h1 h2, List.length_map, shA_s, shB_s, frz_s0, List.append_nil, encMr, zP]
        refine ⟨by omega, ?_⟩
        refine ask (hb _ hbu) ?_
        simp -implicitDefEqProofs only [↓aP, aR, ↓reduceIte, reduceCtorEq, seval, hA, encPg, md_69 h1 h2, encMd_len h1 h2, List.length_map, shA_s, shB_s, frz_s0, List.append_nil, encMr, zP]
        refine ⟨by omega, by omega, by omega, by omega, by omega, by omega, ?_⟩
        rw [md_storepg h1 h2 hi ⟨id, 1, ⟨#[]⟩⟩]
        simp -implicitDefEqProofs only [↓aP, aR, ↓reduceIte, reduceCtorEq, seval, md_pinA (m := ⟨m.pg.set id.toNat ⟨id, 1, ⟨#[]⟩⟩, m.pin, m.n⟩) (g1 _) h2 hi, w1]
        refine ⟨by omega, by omega, by omega, ?_⟩
        rw [md_storepin (m := ⟨m.pg.set id.toNat ⟨id, 1, ⟨#[]⟩⟩, m.pin, m.n⟩) (g1 _) h2 hi]
        simp -implicitDefEqProofs only [↓aP, aR, ↓reduceIte, reduceCtorEq, seval, md_69 (m := ⟨m.pg.set id.toNat ⟨id, 1, ⟨#[]⟩⟩, m.pin.set id.toNat (m.pin.getD id.toNat 0 + 1), m.n⟩) (g1 _) (g2 _), encMd_len (m := ⟨m.pg.set id.toNat ⟨id, 1, ⟨#[]⟩⟩, m.pin.set id.toNat (m.pin.getD id.toNat 0 + 1), m.n⟩) (g1 _) (g2 _), List.length_map, shA_s, shB_s, frz_s0, List.append_nil, locs_s]
        exact ⟨by decide +kernel, simL_refl _⟩
      · rw [if_pos rfl]
        simp -implicitDefEqProofs only [↓aP, aR, ↓reduceIte, reduceCtorEq, seval, encMd_len h1 h2, List.length_map]
        refine ⟨by omega, by omega, ?_⟩
        simp -implicitDefEqProofs only [↓aP, aR, ↓reduceIte, reduceCtorEq, seval, hA, encPg, hz, md_69 h1 h2, encMd_len h1 h2, List.length_map, shA_s, shB_s, frz_s0, List.append_nil, encMr, zP]
        refine ⟨by omega, ?_⟩
        refine ask (hb _ hbu) ?_
        simp -implicitDefEqProofs only [↓aP, aR, ↓reduceIte, reduceCtorEq, seval, hA, encPg, md_69 h1 h2, encMd_len h1 h2, List.length_map, shA_s, shB_s, frz_s0, List.append_nil, encMr, zP]
        exact simL_refl _
    · have d0 : (q.id != 0) = true := by simp [hz]
      rw [if_neg (fun x => by have := x.1; omega), if_pos ⟨rfl, hz⟩]
      simp -implicitDefEqProofs only [↓aP, aR, ↓reduceIte, reduceCtorEq, seval, encMd_len h1 h2, List.length_map]
      refine ⟨by omega, by omega, ?_⟩
      simp -implicitDefEqProofs only [↓aP, aR, ↓reduceIte, reduceCtorEq, seval, hA, encPg, hz, d0, md_69 h1 h2, encMd_len h1 h2, List.length_map, shA_s, shB_s, frz_s0, List.append_nil, encMr, zP]
      exact ⟨by omega, simL_refl _⟩
end Go.Proofs.YtcbfhpnmhhnjpaaGreat

namespace Go.Proofs.YtcbfhpnmhhnjpaaGreat
open Go.RowKit
theorem there_len (m : Md) (kind id : Int) (h1 : m.pg.length = 17) (h2 : m.pin.length = 17) : (m.there kind id).1.pg.length = 17 ∧ (m.there kind id).1.pin.length = 17 := by
  unfold Md.there
  split; · exact ⟨h1, h2⟩
  split; · exact ⟨h1, h2⟩
  split; · exact ⟨h1, h2⟩
  exact ⟨by show (m.pg.set _ _).length = 17; rw [List.length_set]; exact h1, by show (m.pin.set _ _).length = 17; rw [List.length_set]; exact h2⟩
set_option maxHeartbeats 1000000 in
set_option maxRecDepth 100000 in
theorem rdo_spec (m : Md) (h1 : m.pg.length = 17) (h2 : m.pin.length = 17) (hp : ∀ i : Nat, 0 ≤ m.pin.getD i 0 ∧ m.pin.getD i 0 ≤ 2000000000) (hv : ∀ i : Nat, 1 ≤ i → i ≤ 16 → -2000000000 ≤ (m.pg.getD i zP).ver ∧ (m.pg.getD i zP).ver ≤ 2000000000) (a : Pa) :
    Spec Tryz.prog 19 [.agg (encMd m), rI a.kind, rI a.id, rS a.body] (.val (encMr (m.act a))) := by
  refine spec_val mixed fn19 (by simp) ?_
  unfold ac19
  have hact := Md.act.eq_1 m a
  by_cases hb : Po.bad a
  · rw [hact, if_pos hb]
    unfold Po.bad at hb
    simp -implicitDefEqProofs only [↓aP, aR, ↓reduceIte, reduceCtorEq, seval, encMd_len h1 h2, List.length_map]
    repeat' ((first | ((first | with_reducible refine fork ?_ ?_ | with_reducible refine gcase ?_ ?_ | with_reducible refine gcaseD ?_ ?_) <;> intro hc <;> (have hp := hc) <;> (try simp only [aB] at hp)) | (have hc := True.intro; first | with_reducible refine askM (by omega) ?_ | with_reducible refine And.intro (by first | omega | decide +kernel) ?_ | fail)) <;> (try simp -implicitDefEqProofs only [↓aP, aR, ↓reduceIte, reduceCtorEq, seval, hc, md_69 h1 h2, encMd_len h1 h2, List.length_map, shA_s, shB_s, frz_s0, List.append_nil, encMr, encPg, zP]))
    all_goals first
      | (exfalso; omega)
      | exact simL_refl _
  rw [if_neg hb] at hact
  unfold Po.bad at hb
  by_cases k8 : a.kind = 8
  · rw [hact, if_pos k8]
    simp -implicitDefEqProofs only [↓aP, aR, ↓reduceIte, reduceCtorEq, seval, md_69 h1 h2, encMd_len h1 h2, List.length_map, shA_s, shB_s, frz_s0, List.append_nil, encMr, encPg, zP, k8]
    exact simL_refl _
  rw [if_neg k8] at hact
  have hid : 1 ≤ a.id ∧ a.id ≤ 16 := by omega
  have hi : a.id.toNat < 17 := by omega
  have hA := md_pgA h1 h2 hi
  have hP := md_pinA h1 h2 hi
  have hv := hv a.id.toNat (by omega) (by omega)
  have hpp := hp a.id.toNat
  have dk4 : decide (a.id < 1) = false := by simp; omega
  have dk5 : decide (16 < a.id) = false := by simp; omega
  generalize m.pg.getD a.id.toNat zP = q at hA hact hv
  generalize hpn : m.pin.getD a.id.toNat 0 = pn at hP hact hpp
  rw [hact]
  have hk : a.kind = 1 ∨ a.kind = 2 ∨ a.kind = 3 ∨ a.kind = 4 ∨ a.kind = 5 ∨ a.kind = 6 ∨ a.kind = 7 := by omega
  have g1 : ∀ q : Pg, (m.pg.set a.id.toNat q).length = 17 := fun q => by rw [List.length_set]; exact h1
  have g2 : ∀ v : Int, (m.pin.set a.id.toNat v).length = 17 := fun v => by rw [List.length_set]; exact h2
  have wv : IntKind.i64.wrap (q.ver + 1) = q.ver + 1 := wrapI (by omega)
  have wp : IntKind.i64.wrap (pn - 1) = pn - 1 := wrapI (by omega)
  have hst : List.take (a.id.toNat * 3) ((encMd m).map AC.s) ++ [.s (.pv (.int .i64 q.id)), .s (.pv (.int .i64 (q.ver + 1))), .s (.pv (.string a.body))] ++ List.drop (a.id.toNat * 3 + 3) ((encMd m).map AC.s) = (encMd ⟨m.pg.set a.id.toNat ⟨q.id, q.ver + 1, a.body⟩, m.pin, m.n⟩).map AC.s := md_storepg h1 h2 hi ⟨q.id, q.ver + 1, a.body⟩
  have hz0 : List.take (a.id.toNat * 3) ((encMd m).map AC.s) ++ [.s (.pv (.int .i64 0)), .s (.pv (.int .i64 0)), .s (.pv (.string ⟨#[]⟩))] ++ List.drop (a.id.toNat * 3 + 3) ((encMd m).map AC.s) = (encMd ⟨m.pg.set a.id.toNat zP, m.pin, m.n⟩).map AC.s := md_storepg h1 h2 hi zP
  rcases hk with k | k | k | k | k | k | k
  · obtain ⟨t1, t2⟩ := there_len m 1 a.id h1 h2
    have ht := there_spec m h1 h2 hp 1 a.id (Or.inl rfl) hid
    rw [k, if_neg (by omega), if_neg (by omega), if_neg (by omega), if_neg (by omega), if_neg (by omega), if_neg (by omega)]
    generalize m.there 1 a.id = x at t1 t2 ht
    simp -implicitDefEqProofs only [↓aP, aR, ↓reduceIte, reduceCtorEq, seval, encMd_len h1 h2, List.length_map, k, dk4, dk5]
    refine ⟨by omega, by omega, by omega, ?_⟩
    simp -implicitDefEqProofs only [↓aP, aR, ↓reduceIte, reduceCtorEq, seval, hA, md_69 h1 h2, encMd_len h1 h2, List.length_map, shA_s, shB_s, frz_s0, List.append_nil, encMr, encPg, zP, k]
    refine ask ht ?_
    simp -implicitDefEqProofs only [↓aP, aR, ↓reduceIte, reduceCtorEq, seval, md_69 h1 h2, encMd_len h1 h2, List.length_map, shA_s, shB_s, frz_s0, List.append_nil, encMr, encPg, zP, encMd_flat, md_69 t1 t2, encMd_len t1 t2, locs_s]
    exact simL_refl _
  · obtain ⟨t1, t2⟩ := there_len m 2 a.id h1 h2
    have ht := there_spec m h1 h2 hp 2 a.id (Or.inr rfl) hid
    rw [k, if_neg (by omega), if_neg (by omega), if_neg (by omega), if_neg (by omega), if_neg (by omega), if_neg (by omega)]
    generalize m.there 2 a.id = x at t1 t2 ht
    simp -implicitDefEqProofs only [↓aP, aR, ↓reduceIte, reduceCtorEq, seval, encMd_len h1 h2, List.length_map, k, dk4, dk5]
    refine ⟨by omega, by omega, by omega, ?_⟩
    simp -implicitDefEqProofs only [↓aP, aR, ↓reduceIte, reduceCtorEq, seval, hA, md_69 h1 h2, encMd_len h1 h2, List.length_map, shA_s, shB_s, frz_s0, List.append_nil, encMr, encPg, zP, k]
    refine ask ht ?_
    simp -implicitDefEqProofs only [↓aP, aR, ↓reduceIte, reduceCtorEq, seval, md_69 h1 h2, encMd_len h1 h2, List.length_map, shA_s, shB_s, frz_s0, List.append_nil, encMr, encPg, zP, encMd_flat, md_69 t1 t2, encMd_len t1 t2, locs_s]
    exact simL_refl _
  · by_cases h0 : pn = 0
    · rw [k, if_pos ⟨by omega, by omega, h0⟩]
      simp -implicitDefEqProofs only [↓aP, aR, ↓reduceIte, reduceCtorEq, seval, encMd_len h1 h2, List.length_map, k, dk4, dk5]
      refine ⟨by omega, by omega, by omega, ?_⟩
      simp -implicitDefEqProofs only [↓aP, aR, ↓reduceIte, reduceCtorEq, seval, hA, md_69 h1 h2, encMd_len h1 h2, List.length_map, shA_s, shB_s, frz_s0, List.append_nil, encMr, encPg, zP, k]
      refine ⟨by omega, by omega, by omega, ?_⟩
      simp -implicitDefEqProofs only [↓aP, aR, ↓reduceIte, reduceCtorEq, seval, hP, h0, md_69 h1 h2, encMd_len h1 h2, List.length_map, shA_s, shB_s, frz_s0, List.append_nil, encMr, encPg, zP]
      exact simL_refl _
    · have d0 : (pn == 0) = false := beq_eq_false_iff_ne.2 h0
      rw [k, if_neg (fun x => h0 x.2.2), if_pos rfl]
      simp -implicitDefEqProofs only [↓aP, aR, ↓reduceIte, reduceCtorEq, seval, encMd_len h1 h2, List.length_map, k, dk4, dk5]
      refine ⟨by omega, by omega, by omega, ?_⟩
      simp -implicitDefEqProofs only [↓aP, aR, ↓reduceIte, reduceCtorEq, seval, hA, md_69 h1 h2, encMd_len h1 h2, List.length_map, shA_s, shB_s, frz_s0, List.append_nil, encMr, encPg, zP, k]
      refine ⟨by omega, by omega, by omega, ?_⟩
      simp -implicitDefEqProofs only [↓aP, aR, ↓reduceIte, reduceCtorEq, seval, hP, d0, locs_s, md_69 h1 h2, encMd_len h1 h2, List.length_map, shA_s, shB_s, frz_s0, List.append_nil, encMr, encPg, zP]
      exact ⟨by decide +kernel, simL_refl _⟩
  · by_cases h0 : pn = 0
    · rw [k, if_pos ⟨by omega, by omega, h0⟩]
      simp -implicitDefEqProofs only [↓aP, aR, ↓reduceIte, reduceCtorEq, seval, encMd_len h1 h2, List.length_map, k, dk4, dk5]
      refine ⟨by omega, by omega, by omega, ?_⟩
      simp -implicitDefEqProofs only [↓aP, aR, ↓reduceIte, reduceCtorEq, seval, hA, md_69 h1 h2, encMd_len h1 h2, List.length_map, shA_s, shB_s, frz_s0, List.append_nil, encMr, encPg, zP, k]
      refine ⟨by omega, by omega, by omega, ?_⟩
      simp -implicitDefEqProofs only [↓aP, aR, ↓reduceIte, reduceCtorEq, seval, hP, h0, md_69 h1 h2, encMd_len h1 h2, List.length_map, shA_s, shB_s, frz_s0, List.append_nil, encMr, encPg, zP]
      exact simL_refl _
    · have d0 : (pn == 0) = false := beq_eq_false_iff_ne.2 h0
      rw [k, if_neg (fun x => h0 x.2.2), if_neg (by omega), if_pos rfl]
      simp -implicitDefEqProofs only [↓aP, aR, ↓reduceIte, reduceCtorEq, seval, encMd_len h1 h2, List.length_map, k, dk4, dk5]
      refine ⟨by omega, by omega, by omega, ?_⟩
      simp -implicitDefEqProofs only [↓aP, aR, ↓reduceIte, reduceCtorEq, seval, hA, md_69 h1 h2, encMd_len h1 h2, List.length_map, shA_s, shB_s, frz_s0, List.append_nil, encMr, encPg, zP, k]
      refine ⟨by omega, by omega, by omega, ?_⟩
      simp -implicitDefEqProofs only [↓aP, aR, ↓reduceIte, reduceCtorEq, seval, hP, d0, md_69 h1 h2, encMd_len h1 h2, List.length_map, shA_s, shB_s, frz_s0, List.append_nil, encMr, encPg, zP]
      by_cases hl : 16 < a.body.size
      · rw [if_pos hl]
        simp -implicitDefEqProofs only [↓aP, aR, ↓reduceIte, reduceCtorEq, seval, md_69 h1 h2, encMd_len h1 h2, List.length_map, shA_s, shB_s, frz_s0, List.append_nil, encMr, encPg, zP, show decide (16 < (a.body.size : Int)) = true by simp; omega]
        exact simL_refl _
      · rw [if_neg hl]
        simp -implicitDefEqProofs only [↓aP, aR, ↓reduceIte, reduceCtorEq, seval, md_69 h1 h2, encMd_len h1 h2, List.length_map, shA_s, shB_s, frz_s0, List.append_nil, encMr, encPg, zP, show decide (16 < (a.body.size : Int)) = false by simp; omega, wv]
        refine ⟨by omega, by omega, by omega, ?_⟩
        rw [hst]
        simp -implicitDefEqProofs only [↓aP, aR, ↓reduceIte, reduceCtorEq, seval, md_69 (m := ⟨m.pg.set a.id.toNat ⟨q.id, q.ver + 1, a.body⟩, m.pin, m.n⟩) (g1 _) h2, encMd_len (m := ⟨m.pg.set a.id.toNat ⟨q.id, q.ver + 1, a.body⟩, m.pin, m.n⟩) (g1 _) h2, List.length_map, shA_s, shB_s, frz_s0, List.append_nil, locs_s, encMr, encPg, zP]
        exact ⟨by decide +kernel, simL_refl _⟩
  · by_cases h0 : pn = 0
    · rw [k, if_pos ⟨by omega, by omega, h0⟩]
      simp -implicitDefEqProofs only [↓aP, aR, ↓reduceIte, reduceCtorEq, seval, encMd_len h1 h2, List.length_map, k, dk4, dk5]
      refine ⟨by omega, by omega, by omega, ?_⟩
      simp -implicitDefEqProofs only [↓aP, aR, ↓reduceIte, reduceCtorEq, seval, hA, md_69 h1 h2, encMd_len h1 h2, List.length_map, shA_s, shB_s, frz_s0, List.append_nil, encMr, encPg, zP, k]
      refine ⟨by omega, by omega, by omega, ?_⟩
      simp -implicitDefEqProofs only [↓aP, aR, ↓reduceIte, reduceCtorEq, seval, hP, h0, md_69 h1 h2, encMd_len h1 h2, List.length_map, shA_s, shB_s, frz_s0, List.append_nil, encMr, encPg, zP]
      exact simL_refl _
    · have d0 : (pn == 0) = false := beq_eq_false_iff_ne.2 h0
      rw [k, if_neg (fun x => h0 x.2.2), if_neg (by omega), if_neg (by omega), if_pos rfl]
      simp -implicitDefEqProofs only [↓aP, aR, ↓reduceIte, reduceCtorEq, seval, encMd_len h1 h2, List.length_map, k, dk4, dk5]
      refine ⟨by omega, by omega, by omega, ?_⟩
      simp -implicitDefEqProofs only [↓aP, aR, ↓reduceIte, reduceCtorEq, seval, hA, md_69 h1 h2, encMd_len h1 h2, List.length_map, shA_s, shB_s, frz_s0, List.append_nil, encMr, encPg, zP, k]
      refine ⟨by omega, by omega, by omega, ?_⟩
      simp -implicitDefEqProofs only [↓aP, aR, ↓reduceIte, reduceCtorEq, seval, hP, d0, wp, md_69 h1 h2, encMd_len h1 h2, List.length_map, shA_s, shB_s, frz_s0, List.append_nil, encMr, encPg, zP]
      refine ⟨by omega, by omega, by omega, by omega, by omega, by omega, ?_⟩
      rw [md_storepin h1 h2 hi (pn - 1)]
      simp -implicitDefEqProofs only [↓aP, aR, ↓reduceIte, reduceCtorEq, seval, md_69 (m := ⟨m.pg, m.pin.set a.id.toNat (pn - 1), m.n⟩) h1 (g2 _), encMd_len (m := ⟨m.pg, m.pin.set a.id.toNat (pn - 1), m.n⟩) h1 (g2 _), List.length_map, shA_s, shB_s, frz_s0, List.append_nil, locs_s, encMr, encPg, zP]
      exact simL_refl _
  · by_cases hg : 0 < pn
    · rw [k, if_neg (by omega), if_neg (by omega), if_neg (by omega), if_neg (by omega), if_pos rfl, if_pos hg]
      simp -implicitDefEqProofs only [↓aP, aR, ↓reduceIte, reduceCtorEq, seval, encMd_len h1 h2, List.length_map, k, dk4, dk5]
      refine ⟨by omega, by omega, by omega, ?_⟩
      simp -implicitDefEqProofs only [↓aP, aR, ↓reduceIte, reduceCtorEq, seval, hA, md_69 h1 h2, encMd_len h1 h2, List.length_map, shA_s, shB_s, frz_s0, List.append_nil, encMr, encPg, zP, k]
      refine ⟨by omega, by omega, by omega, ?_⟩
      simp -implicitDefEqProofs only [↓aP, aR, ↓reduceIte, reduceCtorEq, seval, hP, show decide (0 < pn) = true from decide_eq_true hg, md_69 h1 h2, encMd_len h1 h2, List.length_map, shA_s, shB_s, frz_s0, List.append_nil, encMr, encPg, zP]
      exact simL_refl _
    · by_cases hz : q.id = 0
      · rw [k, if_neg (by omega), if_neg (by omega), if_neg (by omega), if_neg (by omega), if_pos rfl, if_neg hg, if_pos hz]
        simp -implicitDefEqProofs only [↓aP, aR, ↓reduceIte, reduceCtorEq, seval, encMd_len h1 h2, List.length_map, k, dk4, dk5]
        refine ⟨by omega, by omega, by omega, ?_⟩
        simp -implicitDefEqProofs only [↓aP, aR, ↓reduceIte, reduceCtorEq, seval, hA, md_69 h1 h2, encMd_len h1 h2, List.length_map, shA_s, shB_s, frz_s0, List.append_nil, encMr, encPg, zP, k]
        refine ⟨by omega, by omega, by omega, ?_⟩
        simp -implicitDefEqProofs only [↓aP, aR, ↓reduceIte, reduceCtorEq, seval, hP, show decide (0 < pn) = false from decide_eq_false hg, hz, md_69 h1 h2, encMd_len h1 h2, List.length_map, shA_s, shB_s, frz_s0, List.append_nil, encMr, encPg, zP]
        exact simL_refl _
      · have d0 : (q.id == 0) = false := beq_eq_false_iff_ne.2 hz
        rw [k, if_neg (by omega), if_neg (by omega), if_neg (by omega), if_neg (by omega), if_pos rfl, if_neg hg, if_neg hz]
        simp -implicitDefEqProofs only [↓aP, aR, ↓reduceIte, reduceCtorEq, seval, encMd_len h1 h2, List.length_map, k, dk4, dk5]
        refine ⟨by omega, by omega, by omega, ?_⟩
        simp -implicitDefEqProofs only [↓aP, aR, ↓reduceIte, reduceCtorEq, seval, hA, md_69 h1 h2, encMd_len h1 h2, List.length_map, shA_s, shB_s, frz_s0, List.append_nil, encMr, encPg, zP, k]
        refine ⟨by omega, by omega, by omega, ?_⟩
        simp -implicitDefEqProofs only [↓aP, aR, ↓reduceIte, reduceCtorEq, seval, hP, show decide (0 < pn) = false from decide_eq_false hg, d0, md_69 h1 h2, encMd_len h1 h2, List.length_map, shA_s, shB_s, frz_s0, List.append_nil, encMr, encPg, zP]
        refine ⟨by omega, by omega, by omega, ?_⟩
        rw [hz0]
        simp -implicitDefEqProofs only [↓aP, aR, ↓reduceIte, reduceCtorEq, seval, md_69 (m := ⟨m.pg.set a.id.toNat zP, m.pin, m.n⟩) (g1 _) h2, encMd_len (m := ⟨m.pg.set a.id.toNat zP, m.pin, m.n⟩) (g1 _) h2, List.length_map, shA_s, shB_s, frz_s0, List.append_nil, locs_s, encMr, encPg]
        first | exact simL_refl _ | exact ⟨by decide +kernel, simL_refl _⟩
  · by_cases hz : q.id = 0
    · rw [k, if_neg (by omega), if_neg (by omega), if_neg (by omega), if_neg (by omega), if_neg (by omega), if_pos rfl, if_pos hz]
      simp -implicitDefEqProofs only [↓aP, aR, ↓reduceIte, reduceCtorEq, seval, encMd_len h1 h2, List.length_map, k, dk4, dk5]
      refine ⟨by omega, by omega, by omega, ?_⟩
      simp -implicitDefEqProofs only [↓aP, aR, ↓reduceIte, reduceCtorEq, seval, hA, md_69 h1 h2, encMd_len h1 h2, List.length_map, shA_s, shB_s, frz_s0, List.append_nil, encMr, encPg, zP, k, hz]
      exact simL_refl _
    · have d0 : (q.id == 0) = false := beq_eq_false_iff_ne.2 hz
      rw [k, if_neg (by omega), if_neg (by omega), if_neg (by omega), if_neg (by omega), if_neg (by omega), if_pos rfl, if_neg hz]
      simp -implicitDefEqProofs only [↓aP, aR, ↓reduceIte, reduceCtorEq, seval, encMd_len h1 h2, List.length_map, k, dk4, dk5]
      refine ⟨by omega, by omega, by omega, ?_⟩
      simp -implicitDefEqProofs only [↓aP, aR, ↓reduceIte, reduceCtorEq, seval, hA, md_69 h1 h2, encMd_len h1 h2, List.length_map, shA_s, shB_s, frz_s0, List.append_nil, encMr, encPg, zP, k, d0]
      exact simL_refl _
end Go.Proofs.YtcbfhpnmhhnjpaaGreat

