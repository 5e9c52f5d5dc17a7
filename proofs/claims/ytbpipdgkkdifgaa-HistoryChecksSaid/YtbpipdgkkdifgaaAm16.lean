/- AN ABSTRACT MACHINE over the model, sixteen: regions that draw. No condition. -/
import Derived.Test.YtbpipdgkkdifgaaAm15
namespace Go.Proofs.Ytbpipdgkkdifgaa
open Go.RowKit
set_option linter.unusedVariables false

theorem maskOf_bit {acc : List Nat} {i : Nat} : ∀ {ds : List Nat}, (maskOf acc ds).testBit i = true → ∃ d ∈ ds, d = i ∨ (acc.getD d 0).testBit i = true := by
  intro ds
  induction ds with
  | nil => intro h; simp [maskOf] at h
  | cons d ds ih =>
    intro h
    simp only [maskOf, Nat.testBit_or, Bool.or_eq_true, Nat.testBit_two_pow, decide_eq_true_eq] at h
    rcases h with (h | h) | h
    · obtain ⟨e, he, h2⟩ := ih h
      exact ⟨e, by simp [he], h2⟩
    · exact ⟨d, by simp, .inl h⟩
    · exact ⟨d, by simp, .inr h⟩
theorem masks_spec : ∀ (ds : List (List Nat)) (acc : List Nat), (masks ds acc).length = acc.length + ds.length ∧ (∀ j, j < acc.length → (masks ds acc)[j]? = acc[j]?) ∧
    ∀ j (h : j < ds.length), (masks ds acc)[acc.length + j]? = some (maskOf ((masks ds acc).take (acc.length + j)) ds[j]) := by
  intro ds
  induction ds with
  | nil => intro acc; exact ⟨by simp [masks], fun j _ => rfl, fun j h => by simp at h⟩
  | cons d ds ih =>
    intro acc
    obtain ⟨h1, h2, h3⟩ := ih (acc ++ [maskOf acc d])
    simp only [List.length_append, List.length_singleton] at h1 h2 h3
    refine ⟨by simp only [masks, h1, List.length_cons]; omega, fun j hj => ?_, fun j hj => ?_⟩
    · simp only [masks]
      rw [h2 j (by omega), List.getElem?_append_left hj]
    · simp only [masks]
      cases j with
      | zero =>
        rw [Nat.add_zero, h2 acc.length (by omega)]
        simp only [List.getElem_cons_zero]
        rw [List.getElem?_append_right (Nat.le_refl _), Nat.sub_self]
        simp only [List.getElem?_cons_zero]
        congr 2
        apply List.ext_getElem?
        intro k
        rw [List.getElem?_take]
        split
        · rw [h2 k (by omega), List.getElem?_append_left (by omega)]
        · rw [List.getElem?_eq_none (by omega)]
      | succ j =>
        have := h3 j (by simpa using hj)
        rw [show acc.length + 1 + j = acc.length + (j + 1) by omega] at this
        simpa using this
theorem mask_closed {deps : List (List Nat)} {S : Nat → Prop} (hS : ∀ j, S j → ∀ d ∈ deps.getD j [], S d) : ∀ (j i : Nat), (∀ d ∈ deps.getD j [], S d) → ((masks deps []).getD j 0).testBit i = true → S i := by
  intro j
  induction j using Nat.strongRecOn with
  | _ j ih =>
    intro i hd hb
    obtain ⟨h1, _, h3⟩ := masks_spec deps []
    simp only [List.length_nil, Nat.zero_add] at h1 h3
    by_cases hj : j < deps.length
    · have h4 := h3 j hj
      rw [List.getD_eq_getElem?_getD, h4, Option.getD_some] at hb
      obtain ⟨d, hdm, h5⟩ := maskOf_bit hb
      have hdd : d ∈ deps.getD j [] := by rw [List.getD_eq_getElem?_getD, List.getElem?_eq_getElem hj]; exact hdm
      rcases h5 with rfl | h5
      · exact hd _ hdd
      · by_cases hdj : d < j
        · refine ih d hdj i (hS d (hd d hdd)) ?_
          rw [List.getD_eq_getElem?_getD, List.getElem?_take, if_pos hdj] at h5
          rw [List.getD_eq_getElem?_getD]
          exact h5
        · rw [List.getD_eq_getElem?_getD, List.getElem?_take, if_neg hdj] at h5
          simp at h5
    · rw [List.getD_eq_getElem?_getD, List.getElem?_eq_none (by omega)] at hb
      simp at hb
theorem meets_false {a b : List Nat} (h : meets a b = false) : ∀ x ∈ a, x ∉ b := by
  unfold meets at h
  rw [List.any_eq_false] at h
  intro x hx hb
  exact h x hx (by simpa using hb)
section
variable {P : Program} {O : Nat → Prop} {w0 : Base} {n : Nat} {β : Env} {a : Act} {w : World}
/-- what holds of the entries and what hangs on what -/
structure Fine (deps : List (List Nat)) (es : List Ent) : Prop where
  len : deps.length = es.length
  up : ∀ j, ∀ d ∈ deps.getD j [], d < j
  ord : ∀ i j (hi : i < es.length) (hj : j < es.length), i < j → conf es[i].fp es[j].fp = true → ((masks deps []).getD j 0).testBit i = true
theorem chk_fine {deps : List (List Nat)} {es : List Ent} (hl : deps.length = es.length) (h : chk deps (es.map Ent.fp) = true) : Fine deps es := by
  unfold chk at h
  simp only [Bool.and_eq_true, List.all_eq_true, List.mem_range, decide_eq_true_eq, List.length_map, Bool.or_eq_true, Bool.not_eq_true'] at h
  obtain ⟨h1, h2⟩ := h
  refine ⟨hl, fun j d hd => ?_, fun i j hi hj hij hc => ?_⟩
  · by_cases hj : j < deps.length
    · exact h1 j hj d hd
    · rw [List.getD_eq_getElem?_getD, List.getElem?_eq_none (by omega)] at hd
      simp at hd
  · have := h2 j hj i hij
    have e1 : (es.map Ent.fp).getD i ([], []) = es[i].fp := by
      rw [List.getD_eq_getElem?_getD, List.getElem?_map, List.getElem?_eq_getElem hi]; rfl
    have e2 : (es.map Ent.fp).getD j ([], []) = es[j].fp := by
      rw [List.getD_eq_getElem?_getD, List.getElem?_map, List.getElem?_eq_getElem hj]; rfl
    rw [e1, e2] at this
    rcases this with h3 | h3
    · rw [hc] at h3; simp at h3
    · exact h3
/-- an entry does the same where another order has been kept -/
theorem AStep.same {q : ROp} {σ σ' : St} {e : Ent} (h : AStep P q σ e) (hs : ∀ t, 2 * t ∈ e.rd → σ'.slot t = σ.slot t) (hl : ∀ l, 2 * l + 1 ∈ e.rd → σ'.h.gen l = σ.h.gen l ∧ σ'.h.blk l = σ.h.blk l) : AStep P q σ' e := by
  obtain ⟨h1, h2, h3⟩ := h
  have hslot : ∀ t ∈ q.slots, σ'.slot t = σ.slot t := fun t ht => hs t (h2 t ht)
  have hg : ∀ {yes no : Prop}, grd q.guard σ' yes no = grd q.guard σ yes no := by
    intro yes no
    unfold grd
    cases hq : q.guard with
    | none => rfl
    | some p =>
      obtain ⟨t, want⟩ := p
      have : σ'.slot t = σ.slot t := hslot t (by unfold ROp.slots; rw [hq]; simp)
      simp only [this]
  refine ⟨h1, h2, ?_⟩
  rw [hg, hg]
  rcases h3 with ⟨k1, L, k2, k3, k4⟩ | k
  · refine .inl ⟨k1, L, k2, k3, ?_⟩
    have hh : σ'.h.only L = σ.h.only L := Hp.only_congr (fun l hl2 => hl l (k3 l hl2))
    rw [hh, aeff_ev (ev' := σ.ev) (fun x hx => ?_)]
    · exact k4
    · cases x with
      | k y => rfl
      | t i => exact hslot i (List.mem_append_left _ (List.mem_flatMap.2 ⟨_, hx, by simp [Opd.slots]⟩))
  · exact .inr k
/-- as many as are not listed -/
def unl (n : Nat) (listed : Array Bool) : Nat := ((List.range n).filter fun i => !listed.getD i false).length
theorem unl_set {n i : Nat} {listed : Array Bool} (hi : i < n) (hs : listed.size = n) (h : listed.getD i false = false) : unl n (listed.setIfInBounds i true) + 1 ≤ unl n listed := by
  unfold unl
  have e : ∀ j, (!(listed.setIfInBounds i true).getD j false) = ((!listed.getD j false) && (j != i)) := by
    intro j
    by_cases hj : j = i
    · subst hj
      simp [Array.getD_eq_getD_getElem?, hs, hi]
    · have : (j != i) = true := by simpa using hj
      rw [this, Bool.and_true]
      simp [Array.getD_eq_getD_getElem?, show ¬ i = j from fun h => hj h.symm]
  simp only [e]
  have hmem : i ∈ (List.range n).filter fun j => !listed.getD j false := by
    rw [List.mem_filter]; exact ⟨List.mem_range.2 hi, by rw [h]; rfl⟩
  have hnd : ((List.range n).filter fun j => !listed.getD j false).Nodup := List.nodup_range.filter _
  have e2 : ((List.range n).filter fun j => (!listed.getD j false) && (j != i)) = (((List.range n).filter fun j => !listed.getD j false).erase i) := by
    rw [hnd.erase_eq_filter, List.filter_filter]
    congr 1
    funext j
    rw [Bool.and_comm]
  rw [e2, List.length_erase_of_mem hmem]
  have := List.length_pos_of_mem hmem
  omega
theorem draw_any {ops : Array Oper} {qs : List ROp} (hc : compOps P n ops = some qs) {Q : Exit → Act → World → Prop} {es : List Ent} {σ0 : St} (hle : es.length = qs.length) (hF : Fine (qs.map ROp.deps) es)
    (hst : ∀ i (h : i < qs.length) (h' : i < es.length), AStep P qs[i] (runE (es.take i) σ0) es[i]) (hQ : ∀ β a w, Rel O w0 n (runE es σ0) β a w → Q .normal a w) :
    ∀ (fuel : Nat) (listed : Array Bool) (β : Env) (a : Act) (w : World), listed.size = ops.size → unl ops.size listed ≤ fuel → (∀ j, listed.getD j false = true → ∀ d ∈ (qs.map ROp.deps).getD j [], listed.getD d false = true) →
      Rel O w0 n (runSel (fun j => listed.getD j false) es 0 σ0) β a w → wpAny P .any ops Q fuel listed a w := by
  obtain ⟨hlq, hget⟩ := compOps_get hc
  -- where all is listed the end is reached
  have fin : ∀ (listed : Array Bool) (β : Env) (a : Act) (w : World), listed.size = ops.size → (∀ j, j < ops.size → listed.getD j false = true) → Rel O w0 n (runSel (fun j => listed.getD j false) es 0 σ0) β a w → Q .normal a w := by
    intro listed β a w hs hall r
    refine hQ β a w ?_
    have : runSel (fun j => listed.getD j false) es 0 σ0 = runE es σ0 := by
      have h1 := runSel_take es 0 es.length σ0
      rw [List.take_length] at h1
      rw [← h1]
      refine runSel_congr es 0 σ0 (fun j _ hj => ?_)
      rw [hall j (by omega)]
      simp; omega
    rw [← this]; exact r
  -- where nothing is ready all is listed
  have prog : ∀ (listed : Array Bool), listed.size = ops.size → Region.ready .any ops listed = [] → ∀ j, j < ops.size → listed.getD j false = true := by
    intro listed hs hr j
    induction j using Nat.strongRecOn with
    | _ j ih =>
      intro hj
      cases hb : listed.getD j false with
      | true => rfl
      | false =>
        exfalso
        have : j ∈ Region.ready .any ops listed := by
          unfold Region.ready
          rw [List.mem_filter]
          refine ⟨List.mem_range.2 hj, ?_⟩
          have hb2 : listed.getD j true = false := by
            rw [Array.getD_eq_getD_getElem?] at hb ⊢
            rw [Array.getElem?_eq_getElem (by omega)] at hb ⊢
            simpa using hb
          rw [hb2, Array.getElem?_eq_getElem hj]
          simp only [Bool.not_false, Option.map_some, Option.getD_some, Bool.true_and]
          rw [Array.all_eq_true_iff_forall_mem]
          intro ed hed
          cases hbd : Region.binds .any ed with
          | false => rfl
          | true =>
            simp only [Bool.not_true, Bool.false_or]
            obtain ⟨q, h1, h2⟩ := hget j ops[j] (Array.getElem?_eq_getElem hj)
            obtain ⟨_, _, _, h3, _⟩ := compOp_dst h2
            have hd : ed.on ∈ (qs.map ROp.deps).getD j [] := by
              rw [List.getD_eq_getElem?_getD, List.getElem?_map, h1]
              simp only [Option.map_some, Option.getD_some, h3]
              unfold depsOf
              exact List.mem_map_of_mem (List.mem_filter.2 ⟨by simpa using hed, hbd⟩)
            have hlt := hF.up j _ hd
            exact ih _ hlt (by omega)
        rw [hr] at this
        simp at this
  intro fuel
  induction fuel with
  | zero =>
    intro listed β a w hs hu hcl r
    have hall : ∀ j, j < ops.size → listed.getD j false = true := by
      intro j hj
      cases hb : listed.getD j false with
      | true => rfl
      | false =>
        have : j ∈ (List.range ops.size).filter fun i => !listed.getD i false := by
          rw [List.mem_filter]; exact ⟨List.mem_range.2 hj, by rw [hb]; rfl⟩
        have := List.length_pos_of_mem this
        unfold unl at hu
        omega
    refine ⟨?_, fin listed β a w hs hall r⟩
    unfold Region.ready
    rw [List.filter_eq_nil_iff]
    intro j hj
    have hj2 := List.mem_range.1 hj
    have := hall j hj2
    have h3 : listed.getD j true = true := by
      rw [Array.getD_eq_getD_getElem?] at this ⊢
      rw [Array.getElem?_eq_getElem (by omega)] at this ⊢
      simpa using this
    rw [h3]; simp
  | succ fuel ih =>
    intro listed β a w hs hu hcl r
    refine ⟨fun hr => fin listed β a w hs (prog listed hs hr) r, fun i hi => ?_⟩
    unfold Region.ready at hi
    rw [List.mem_filter] at hi
    obtain ⟨hi1, hi2⟩ := hi
    have hio := List.mem_range.1 hi1
    simp only [Bool.and_eq_true, Bool.not_eq_true'] at hi2
    obtain ⟨hnl, hdeps⟩ := hi2
    have hnl2 : listed.getD i false = false := by
      rw [Array.getD_eq_getD_getElem?] at hnl ⊢
      rw [Array.getElem?_eq_getElem (by omega)] at hnl ⊢
      simpa using hnl
    obtain ⟨q, h1, h2⟩ := hget i ops[i] (Array.getElem?_eq_getElem hio)
    obtain ⟨h3, h4⟩ := List.getElem?_eq_some_iff.1 h1
    have hie : i < es.length := by omega
    obtain ⟨_, _, _, hqd, _⟩ := compOp_dst h2
    have hdi : ∀ d ∈ (qs.map ROp.deps).getD i [], listed.getD d false = true := by
      intro d hd
      rw [List.getD_eq_getElem?_getD, List.getElem?_map, h1] at hd
      simp only [Option.map_some, Option.getD_some, hqd] at hd
      unfold depsOf at hd
      obtain ⟨ed, hed, rfl⟩ := List.mem_map.1 hd
      obtain ⟨hed1, hed2⟩ := List.mem_filter.1 hed
      rw [Array.getElem?_eq_getElem hio] at hdeps
      simp only [Option.map_some, Option.getD_some, Array.all_eq_true_iff_forall_mem] at hdeps
      have := hdeps ed (by simpa using hed1)
      rw [hed2] at this
      simpa using this
    -- what is met before it, and behind it
    have before : ∀ j (hj : j < es.length), j < i → conf es[j].fp es[i].fp = true → listed.getD j false = true := by
      intro j hj hji hcf
      exact mask_closed (S := fun j => listed.getD j false = true) hcl i j hdi (hF.ord j i hj hie hji hcf)
    have behind : ∀ j (hj : j < es.length), i < j → conf es[i].fp es[j].fp = true → listed.getD j false = false := by
      intro j hj hij hcf
      cases hb : listed.getD j false with
      | false => rfl
      | true =>
        have h9 : listed.getD i false = true := mask_closed (S := fun j => listed.getD j false = true) hcl j i (hcl j hb) (hF.ord i j hie hj hij hcf)
        rw [hnl2] at h9
        simp at h9
    have sel : ∀ x, x ∈ es[i].rd → ∀ j (hj : j < es.length), x ∈ wrs es[j].dst es[j].ws → listed.getD (0 + j) false = decide (0 + j < 0 + i) := by
      intro x hx j hj hw
      rw [Nat.zero_add, Nat.zero_add]
      rcases Nat.lt_trichotomy j i with h | h | h
      · rw [before j hj h (by
          unfold conf
          have : meets es[j].fp.2 es[i].fp.1 = true := List.any_eq_true.2 ⟨x, hw, by simpa [Ent.fp] using hx⟩
          rw [this]; rfl)]
        simp [h]
      · subst h; rw [hnl2]; simp
      · rw [behind j hj h (by
          unfold conf
          have : meets es[i].fp.1 es[j].fp.2 = true := List.any_eq_true.2 ⟨x, hx, by simpa [Ent.fp] using hw⟩
          rw [this]; simp)]
        simp; omega
    have htext := hst i h3 hie
    rw [h4, ← runSel_take es 0 i σ0] at htext
    have hstep : AStep P q (runSel (fun j => listed.getD j false) es 0 σ0) es[i] := htext.same
      (fun t ht => runSel_slot es 0 σ0 σ0 rfl (fun j hj hw => sel _ ht j hj hw))
      (fun l hl => runSel_loc es 0 σ0 σ0 ⟨rfl, rfl⟩ (fun j hj hw => sel _ hl j hj hw))
    have hnext : runSel (fun j => (listed.setIfInBounds i true).getD j false) es 0 σ0 = (runSel (fun j => listed.getD j false) es 0 σ0).ent es[i] := by
      have h5 := runSel_add (s := fun j => listed.getD j false) es 0 i σ0 hie (by rw [Nat.zero_add]; exact hnl2) (fun j hj hij hsj x hx hxj => by
        rw [Nat.zero_add] at hsj
        have := behind j hj hij (by
          unfold conf
          have : meets es[i].fp.2 es[j].fp.2 = true := List.any_eq_true.2 ⟨x, hx, by simpa [Ent.fp] using hxj⟩
          rw [this]; simp)
        rw [this] at hsj
        simp at hsj)
      rw [← h5]
      refine runSel_congr es 0 σ0 (fun j _ hj => ?_)
      rw [Nat.zero_add] at hj ⊢
      by_cases hji : j = i
      · subst hji; simp [Array.getD_eq_getD_getElem?, hs, hio]
      · have e1 : (j == i) = false := by simpa using hji
        rw [e1, Bool.or_false]
        simp [Array.getD_eq_getD_getElem?, show ¬ i = j from fun h => hji h.symm]
    obtain ⟨s1, s2, s3⟩ := hstep
    refine step_op (Array.getElem?_eq_getElem hio) h2 r (v := es[i].v) (ws := es[i].ws) ?_ (fun a' w' β' hr => ?_)
    · rcases s3 with ⟨k1, L, k2, k3, k4⟩ | k
      · exact .inl ⟨k1, aeff_le (Hp.only_le _ L) (Hp.only_gen _ k2) k4⟩
      · exact .inr k
    · refine ih (listed.setIfInBounds i true) β' a' w' (by simpa using hs) ?_ ?_ ?_
      · have := unl_set hio hs hnl2
        omega
      · intro j hj d hd
        have hor : ∀ k, (listed.setIfInBounds i true).getD k false = (listed.getD k false || k == i) := by
          intro k
          by_cases hki : k = i
          · subst hki; simp [Array.getD_eq_getD_getElem?, hs, hio]
          · have e1 : (k == i) = false := by simpa using hki
            rw [e1, Bool.or_false]
            simp [Array.getD_eq_getD_getElem?, show ¬ i = k from fun h => hki h.symm]
        rw [hor] at hj ⊢
        simp only [Bool.or_eq_true, beq_iff_eq] at hj ⊢
        rcases hj with hj | rfl
        · exact .inl (hcl j hj d hd)
        · exact .inl (hdi d hd)
      · rw [hnext]
        unfold St.ent
        rw [s1]
        exact hr
theorem draw_ok {id : Nat} {ops : Array Oper} {qs : List ROp} {σ : St} (hc : compOps P n ops = some qs) (hm : P.follows .mixedOrders = true) {Q : Exit → Act → World → Prop} {K : St → Prop} (hK : ∀ σ β a w, K σ → Rel O w0 n σ β a w → Q .normal a w)
    (r : Rel O w0 n σ β a w) (hs : wdraw P qs σ [] (fun σ' fps => chk (qs.map ROp.deps) fps = true ∧ K σ')) : (Code.region id ops true).wp P Q a w := by
  obtain ⟨es, h1, h2, h3, h4⟩ := wdraw_ex qs σ [] hs
  obtain ⟨hlq, _⟩ := compOps_get hc
  rw [List.nil_append] at h3
  refine wp_region_any hm ?_
  have hrs : Rel O w0 n σ β a { w with drawn := w.drawn + 1 } := r.world ((Below.refl _ _).drew)
  have h0 : runSel (fun j => (Array.replicate ops.size false).getD j false) es 0 σ = σ := by
    have := runSel_take es 0 0 σ
    rw [List.take_zero] at this
    have e : runE [] σ = σ := rfl
    rw [e] at this
    rw [← this]
    rw [this]
    refine (runSel_congr es 0 σ (fun j _ _ => ?_)).trans this
    simp [Array.getD_eq_getD_getElem?, Array.getElem?_replicate]
    split <;> rfl
  refine draw_any hc h1 (chk_fine (by simp [h1]) h3) h2 (fun β a w hr => hK _ β a w h4 hr) ops.size _ β a _ (by simp) ?_ ?_ (by rw [h0]; exact hrs)
  · unfold unl
    refine Nat.le_trans (List.length_filter_le _ _) (by simp)
  · intro j hj
    simp [Array.getD_eq_getD_getElem?, Array.getElem?_replicate] at hj
    split at hj <;> simp at hj
end
end Go.Proofs.Ytbpipdgkkdifgaa
