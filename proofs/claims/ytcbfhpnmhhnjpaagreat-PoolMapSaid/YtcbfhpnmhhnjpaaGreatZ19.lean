import Derived.Test.YtcbfhpnmhhnjpaaGreatZ18
set_option linter.unusedVariables false
set_option linter.unusedSimpArgs false
namespace Go.Proofs.YtcbfhpnmhhnjpaaGreat
open Go.RowKit
theorem right_cases (f : Fs) : Fm.right f = (Ck.right f.ck.fr f.ck.hand && (Ta.right f.tb && (Dy.right f.dt && ((f.pg.length == f.ck.fr.length) && ((List.range f.pg.length).all (Fm.okAt f) && (((Ta.pgs f.tb).length == Fm.taken f.pg) && f.dt.all fun i => (Ta.find f.tb i.page).2)))))) := by
  unfold Fm.right
  simp only [Bool.and_assoc]
theorem taken_snoc {l : List Pg} {i : Nat} (h : i < l.length) : Fm.taken (l.take (i + 1)) = Fm.taken (l.take i) + (if l[i].id = 0 then 0 else 1) := by
  unfold Fm.taken
  rw [take_snoc h, List.countP_append]
  by_cases e : l[i].id = 0 <;> simp [e]
theorem taken_le {l : List Pg} {i : Nat} : Fm.taken (l.take i) ≤ l.length := by
  unfold Fm.taken
  exact Nat.le_trans (List.countP_le_length) (by simp; omega)
set_option maxRecDepth 100000 in
theorem fRight_spec (f : Fs) (hl : f.ck.fr.length < 4611686018427387904 ∧ f.dt.length < 4611686018427387904) : Spec Tryz.prog 21 [.agg (encFs f)] (.val (rB (Fm.right f))) := by
  refine spec_val mixed fn21 (by simp) ?_
  unfold ac21
  have hrc := right_cases f
  simp -implicitDefEqProofs only [↓aP, aR, ↓reduceIte, reduceCtorEq, seval, encFs]
  refine ask (by have := cRight_spec f.ck hl.1; rw [encClk] at this; exact this) ?_
  cases r1 : Ck.right f.ck.fr f.ck.hand
  · rw [r1, Bool.false_and] at hrc
    simp -implicitDefEqProofs only [↓aP, aR, ↓reduceIte, reduceCtorEq, seval, hrc]
  rw [r1, Bool.true_and] at hrc
  obtain ⟨h8, _, _, _⟩ := right_fr r1
  simp -implicitDefEqProofs only [↓aP, aR, ↓reduceIte, reduceCtorEq, seval, encFs]
  refine ask (by have := tRight_spec f.tb; rw [encTa] at this; exact this) ?_
  cases r2 : Ta.right f.tb
  · rw [r2, Bool.false_and] at hrc
    simp -implicitDefEqProofs only [↓aP, aR, ↓reduceIte, reduceCtorEq, seval, hrc]
  rw [r2, Bool.true_and] at hrc
  simp -implicitDefEqProofs only [↓aP, aR, ↓reduceIte, reduceCtorEq, seval, encFs]
  refine ask (dRight_spec f.dt hl.2) ?_
  cases r3 : Dy.right f.dt
  · rw [r3, Bool.false_and] at hrc
    simp -implicitDefEqProofs only [↓aP, aR, ↓reduceIte, reduceCtorEq, seval, hrc]
  rw [r3, Bool.true_and] at hrc
  have hd := dy_len r3
  simp -implicitDefEqProofs only [↓aP, aR, ↓reduceIte, reduceCtorEq, seval, encFs, List.length_map]
  by_cases r4 : f.pg.length = f.ck.fr.length
  case neg =>
    rw [show (f.pg.length == f.ck.fr.length) = false from beq_eq_false_iff_ne.2 r4, Bool.false_and] at hrc
    simp -implicitDefEqProofs only [↓aP, aR, ↓reduceIte, reduceCtorEq, seval, show ((f.pg.length : Int) != (f.ck.fr.length : Int)) = true by rw [bne_iff_ne]; omega, hrc]
  rw [show (f.pg.length == f.ck.fr.length) = true from beq_iff_eq.2 r4, Bool.true_and] at hrc
  simp -implicitDefEqProofs only [↓aP, aR, ↓reduceIte, reduceCtorEq, seval, show ((f.pg.length : Int) != (f.ck.fr.length : Int)) = false by rw [bne_eq_false_iff_eq]; omega]
  refine rangeB f.pg.length (fun i σ => (∀ j, j < i → Fm.okAt f j = true) ∧ σ.slot 1 = .c (.ptr 1 1 0 0) ∧ σ.h.gen 1 = 1 ∧ σ.h.blk 1 = .box 34 5 [(encFs f).map AC.s] ∧ σ.slot 3 = vI (Fm.taken (f.pg.take i)) ∧ σ.slot 37 = vL 3 (f.pg.map encPg) ∧ σ.slot 38 = vI f.pg.length ∧ σ.slot 39 = vI i) ?_ ?_ ?_
  · simp -implicitDefEqProofs only [↓aP, aR, ↓reduceIte, reduceCtorEq, seval, encFs, List.take_zero, Fm.taken, List.countP_nil]
    simp
  · rintro i m σ him hi hlt ⟨hok, s1, g1, b1, s3, s37, s38, s39⟩
    have hos := okAt_spec f i (by omega) hi
    rw [encFs] at hos
    simp -implicitDefEqProofs only [↓aP, aR, ↓reduceIte, reduceCtorEq, seval, hlt, s1, g1, b1, s3, s37, s38, s39, askIdx_map, hi, encPg, encFs]
    refine ask hos ?_
    cases ho : Fm.okAt f i
    · have : (List.range f.pg.length).all (Fm.okAt f) = false := by
        rw [List.all_eq_false]; exact ⟨i, List.mem_range.2 hi, by simp [ho]⟩
      rw [this, Bool.false_and] at hrc
      simp -implicitDefEqProofs only [↓aP, aR, ↓reduceIte, reduceCtorEq, seval, hrc]
    have hok2 : ∀ j, j < i + 1 → Fm.okAt f j = true := fun j hj => by
      by_cases e : j = i
      · rw [e]; exact ho
      · exact hok j (by omega)
    have hts := taken_snoc hi
    have htl := taken_le (l := f.pg) (i := i)
    by_cases hz : f.pg[i].id = 0
    · rw [if_pos hz] at hts
      simp -implicitDefEqProofs only [↓aP, aR, ↓reduceIte, reduceCtorEq, seval, s1, g1, b1, s3, s37, s38, s39, hz, bne_self_eq_false, wrapS (show i < 4611686018427387904 by omega)]
      refine nextR hi him ⟨hok2, ?_⟩
      simp -implicitDefEqProofs only [↓aP, aR, ↓reduceIte, reduceCtorEq, seval, s1, g1, b1, s3, s37, s38, s39, encFs, hts, Nat.add_zero]
    · rw [if_neg hz] at hts
      simp -implicitDefEqProofs only [↓aP, aR, ↓reduceIte, reduceCtorEq, seval, s1, g1, b1, s3, s37, s38, s39, show (f.pg[i].id != 0) = true from bne_iff_ne.2 hz, wrapS (show i < 4611686018427387904 by omega), show IntKind.i64.wrap ((Fm.taken (f.pg.take i) : Int) + 1) = ((Fm.taken (f.pg.take i) + 1 : Nat) : Int) by rw [wrapI (by omega)]; omega]
      refine nextR hi him ⟨hok2, ?_⟩
      simp -implicitDefEqProofs only [↓aP, aR, ↓reduceIte, reduceCtorEq, seval, s1, g1, b1, s3, s37, s38, s39, encFs, hts]
  · rintro m σ hlt ⟨hok, s1, g1, b1, s3, s37, s38, s39⟩
    rw [List.take_length] at s3
    have r5 : (List.range f.pg.length).all (Fm.okAt f) = true := by rw [List.all_eq_true]; intro x hx; exact hok x (List.mem_range.1 hx)
    rw [r5, Bool.true_and] at hrc
    simp -implicitDefEqProofs only [↓aP, aR, ↓reduceIte, reduceCtorEq, seval, hlt, s1, g1, b1, s3, s37, s38, s39, encFs]
    refine ask (by have := tPages_spec f.tb; rw [encTa] at this; exact this) ?_
    have hpl : (Ta.pages f.tb).length = (Ta.pgs f.tb).length := by unfold Ta.pages; rw [if_pos r2, srt_len]
    by_cases r6 : (Ta.pgs f.tb).length = Fm.taken f.pg
    case neg =>
      rw [show ((Ta.pgs f.tb).length == Fm.taken f.pg) = false from beq_eq_false_iff_ne.2 r6, Bool.false_and] at hrc
      simp -implicitDefEqProofs only [↓aP, aR, ↓reduceIte, reduceCtorEq, seval, List.length_map, s3, hpl, show (((Ta.pgs f.tb).length : Int) != (Fm.taken f.pg : Int)) = true by rw [bne_iff_ne]; omega, hrc]
    rw [show ((Ta.pgs f.tb).length == Fm.taken f.pg) = true from beq_iff_eq.2 r6, Bool.true_and] at hrc
    simp -implicitDefEqProofs only [↓aP, aR, ↓reduceIte, reduceCtorEq, seval, List.length_map, s1, g1, b1, s3, s37, s38, s39, encFs, hpl, show (((Ta.pgs f.tb).length : Int) != (Fm.taken f.pg : Int)) = false by rw [bne_eq_false_iff_eq]; omega]
    refine rangeB f.dt.length (fun i σ => (∀ x ∈ f.dt.take i, (Ta.find f.tb x.page).2 = true) ∧ σ.slot 1 = .c (.ptr 1 1 0 0) ∧ σ.h.gen 1 = 1 ∧ σ.h.blk 1 = .box 34 5 [(encFs f).map AC.s] ∧ σ.slot 61 = vL 2 (f.dt.map encIt) ∧ σ.slot 62 = vI f.dt.length ∧ σ.slot 63 = vI i) ?_ ?_ ?_
    · simp -implicitDefEqProofs only [↓aP, aR, ↓reduceIte, reduceCtorEq, seval, s1, g1, b1, s3, s37, s38, s39, encFs]
      simp
    · clear hlt s1 g1 b1 s3 s37 s38 s39
      rintro i m σ him hi hlt ⟨hok2, s1, g1, b1, s61, s62, s63⟩
      simp -implicitDefEqProofs only [↓aP, aR, ↓reduceIte, reduceCtorEq, seval, hlt, s1, g1, b1, s61, s62, s63, askIdx_map, hi, encIt, encFs]
      refine ask (by have := tFind_spec f.tb f.dt[i].page; rw [encTa] at this; exact this) ?_
      cases ho : (Ta.find f.tb f.dt[i].page).2
      · have : (f.dt.all fun i => (Ta.find f.tb i.page).2) = false := by
          rw [List.all_eq_false]; exact ⟨f.dt[i], List.getElem_mem hi, by simp [ho]⟩
        rw [this] at hrc
        simp -implicitDefEqProofs only [↓aP, aR, ↓reduceIte, reduceCtorEq, seval, encSlot, ho, hrc]
      · simp -implicitDefEqProofs only [↓aP, aR, ↓reduceIte, reduceCtorEq, seval, encSlot, ho, s1, g1, b1, s61, s62, s63, wrapS (show i < 4611686018427387904 by omega)]
        refine nextR hi him ⟨?_, ?_⟩
        · rw [take_snoc hi]
          intro x hx
          rcases List.mem_append.1 hx with h | h
          · exact hok2 x h
          · rw [List.mem_singleton.1 h]; exact ho
        · simp -implicitDefEqProofs only [↓aP, aR, ↓reduceIte, reduceCtorEq, seval, s1, g1, b1, s61, s62, s63, encFs]
    · clear hlt s1 g1 b1 s3 s37 s38 s39
      rintro m σ hlt ⟨hok2, s1, g1, b1, s61, s62, s63⟩
      rw [List.take_length] at hok2
      rw [List.all_eq_true.2 hok2] at hrc
      simp -implicitDefEqProofs only [↓aP, aR, ↓reduceIte, reduceCtorEq, seval, hlt, s1, g1, b1, s61, s62, s63, hrc]
end Go.Proofs.YtcbfhpnmhhnjpaaGreat

namespace Go.Proofs.YtcbfhpnmhhnjpaaGreat
open Go.RowKit
theorem nodup_sub_le : ∀ {l m : List Int}, l.Nodup → (∀ x ∈ l, x ∈ m) → l.length ≤ m.length
  | [], _, _, _ => Nat.zero_le _
  | x :: l, m, hn, hs => by
    rw [List.nodup_cons] at hn
    have hx := hs x (by simp)
    have := nodup_sub_le (m := m.erase x) hn.2 (fun y hy => (List.mem_erase_of_ne (fun e : y = x => hn.1 (by rw [← e]; exact hy))).2 (hs y (by simp [hy])))
    rw [List.length_erase_of_mem hx] at this
    have hpos : 0 < m.length := List.length_pos_of_mem hx
    rw [List.length_cons]; omega
theorem sub_all {l m : List Int} (hn : l.Nodup) (hs : ∀ x ∈ l, x ∈ m) (hlen : m.length ≤ l.length) : ∀ y ∈ m, y ∈ l := fun y hy => by
  refine Decidable.byContradiction fun hno => ?_
  have := nodup_sub_le (m := m.erase y) hn (fun x hx => (List.mem_erase_of_ne (fun e : x = y => hno (by rw [← e]; exact hx))).2 (hs x hx))
  rw [List.length_erase_of_mem hy] at this
  have hpos : 0 < m.length := List.length_pos_of_mem hy
  omega
theorem find_true {t : List Sl} {p x : Int} (h : Ta.find t p = (x, true)) : Ta.isP p = true ∧ 0 ≤ Ta.seek t p ∧ (Ta.at' t (Ta.seek t p).toNat).p = p ∧ x = (Ta.at' t (Ta.seek t p).toNat).f := by
  unfold Ta.find at h
  split at h
  · rename_i hc
    have hs := hc.2
    unfold Ta.slot at hs h
    split at hs
    · rename_i hp
      rw [if_pos hp] at h
      simp only [decide_eq_true_eq] at hs
      simp only [Prod.mk.injEq, and_true] at h
      exact ⟨hp, hs.1, hs.2, h.symm⟩
    · simp at hs
  · simp at h
theorem find_mem {t : List Sl} {p x : Int} (hr : Ta.right t = true) (h : Ta.find t p = (x, true)) : p ∈ Ta.pgs t := by
  obtain ⟨hp, h0, h1, _⟩ := find_true h
  have hl := (Ta.right_iff.1 hr).1
  have hk : (Ta.seek t p).toNat < t.length := by
    rcases Ta.seek_range (t := t) (p := p) with e | ⟨i, hi, e, _⟩
    · omega
    · have := @Ta.pl_lt p i
      rw [e]; omega
  rw [Ta.at_get hk] at h1
  unfold Ta.pgs
  rw [List.mem_map]
  refine ⟨t[(Ta.seek t p).toNat], List.mem_filter.2 ⟨List.getElem_mem hk, ?_⟩, h1⟩
  unfold Ta.isP at hp
  rw [decide_eq_true_iff] at hp
  unfold Ta.free
  rw [h1, show (p == 0) = false from beq_eq_false_iff_ne.2 (by omega)]; rfl
structure Rt (f : Fs) : Prop where
  clock : Ck.right f.ck.fr f.ck.hand = true
  table : Ta.right f.tb = true
  dirty : Dy.right f.dt = true
  same : f.pg.length = f.ck.fr.length
  all : ∀ k, k < f.pg.length → Fm.okAt f k = true
  many : (Ta.pgs f.tb).length = Fm.taken f.pg
  items : ∀ i ∈ f.dt, (Ta.find f.tb i.page).2 = true
theorem rt_iff {f : Fs} : Fm.right f = true ↔ Rt f := by
  rw [right_cases]
  simp only [Bool.and_eq_true, beq_iff_eq, List.all_eq_true, List.mem_range]
  exact ⟨fun ⟨a, b, c, d, e, g, h⟩ => ⟨a, b, c, d, e, g, h⟩, fun ⟨a, b, c, d, e, g, h⟩ => ⟨a, b, c, d, e, g, h⟩⟩
theorem rt_at {f : Fs} (h : Rt f) {k : Nat} (hk : k < f.pg.length) (hz : f.pg[k].id ≠ 0) : (f.ck.fr[k]'(by have := h.same; omega)).page = f.pg[k].id ∧ okPg f.pg[k] = true ∧ Ta.find f.tb f.pg[k].id = ((k : Int), true) := by
  have hc : k < f.ck.fr.length := by have := h.same; omega
  have ho := h.all k hk
  unfold Fm.okAt at ho
  rw [fr_getD hc, pg_getD hk] at ho
  split at ho
  · rw [Bool.and_eq_true, decide_eq_true_iff] at ho
    exact absurd (by rw [ho.1]; rfl) hz
  · simp only [Bool.and_eq_true, beq_iff_eq] at ho
    obtain ⟨⟨a, b⟩, c, d⟩ := ho
    refine ⟨a, b, ?_⟩
    rw [← a]
    exact Prod.ext d c
def idsL (l : List Pg) : List Int := (l.map Pg.id).filter fun x => x != 0
theorem ids_len (l : List Pg) : (idsL l).length = Fm.taken l := by
  unfold idsL Fm.taken
  rw [← List.countP_eq_length_filter, List.countP_map]; rfl
theorem ids_nodup : ∀ (l : List Pg) (g : Int → Int) (o : Int), (∀ k (h : k < l.length), l[k].id ≠ 0 → g l[k].id = (k : Int) + o) → (idsL l).Nodup
  | [], _, _, _ => List.nodup_nil
  | p :: l, g, o, h => by
    have ih := ids_nodup l g (o + 1) (fun k hk hz => by have := h (k + 1) (by simp; omega) (by simpa using hz); simp at this; omega)
    unfold idsL at ih ⊢
    rw [List.map_cons]
    by_cases e : p.id = 0
    · rw [List.filter_cons_of_neg (by simp [e])]; exact ih
    · rw [List.filter_cons_of_pos (by simp [e]), List.nodup_cons]
      refine ⟨fun hm => ?_, ih⟩
      obtain ⟨hm, _⟩ := List.mem_filter.1 hm
      obtain ⟨q, hq, e2⟩ := List.mem_map.1 hm
      obtain ⟨j, hj, e3⟩ := List.mem_iff_getElem.1 hq
      have h1 := h 0 (by simp) (by simpa using e)
      have h2 := h (j + 1) (by simp; omega) (by simp; rw [e3, e2]; exact e)
      simp at h1 h2
      rw [e3, e2] at h2
      omega
theorem rt_found {f : Fs} (h : Rt f) {id x : Int} (hf : Ta.find f.tb id = (x, true)) : ∃ k : Nat, ∃ hk : k < f.pg.length, x = k ∧ f.pg[k].id = id ∧ id ≠ 0 := by
  have hm := find_mem h.table hf
  have hn := ids_nodup f.pg (fun y => (Ta.find f.tb y).1) 0 (fun k hk hz => by rw [(rt_at h hk hz).2.2]; simp)
  have hs : ∀ y ∈ idsL f.pg, y ∈ Ta.pgs f.tb := fun y hy => by
    unfold idsL at hy
    obtain ⟨hy, hz⟩ := List.mem_filter.1 hy
    obtain ⟨q, hq, e⟩ := List.mem_map.1 hy
    obtain ⟨k, hk, e2⟩ := List.mem_iff_getElem.1 hq
    have hz2 : f.pg[k].id ≠ 0 := by rw [e2, e]; simpa using hz
    have := find_mem h.table (rt_at h hk hz2).2.2
    rwa [e2, e] at this
  have hlen : (Ta.pgs f.tb).length ≤ (idsL f.pg).length := by
    rw [ids_len, ← h.many]; exact Nat.le_refl _
  have hi := sub_all hn hs hlen id hm
  unfold idsL at hi
  obtain ⟨hi, hz⟩ := List.mem_filter.1 hi
  obtain ⟨q, hq, e⟩ := List.mem_map.1 hi
  obtain ⟨k, hk, e2⟩ := List.mem_iff_getElem.1 hq
  have e3 : f.pg[k].id = id := by rw [e2, e]
  have hz2 : id ≠ 0 := by simpa using hz
  have h3 := (rt_at h hk (by rw [e3]; exact hz2)).2.2
  rw [e3, hf] at h3
  exact ⟨k, hk, congrArg Prod.fst h3, e3, hz2⟩
end Go.Proofs.YtcbfhpnmhhnjpaaGreat

namespace Go.Proofs.YtcbfhpnmhhnjpaaGreat
open Go.RowKit
def Sh (f : Fs) : Prop := f.ck.fr.length < 4611686018427387904 ∧ f.dt.length < 4611686018427387904
theorem fFind_spec (f : Fs) (id : Int) (hl : Sh f) : Spec Tryz.prog 139 [.agg (encFs f), rI id] (.val (encSlot (Fm.find f id))) := by
  refine spec_val mixed fn139 (by simp) ?_
  unfold ac139
  simp -implicitDefEqProofs only [↓aP, aR, ↓reduceIte, reduceCtorEq, seval, encFs, encSlot]
  refine ask (by have := fRight_spec f hl; rw [encFs] at this; exact this) ?_
  cases hr : Fm.right f
  · have e : Fm.find f id = (0, false) := by unfold Fm.find; rw [if_neg (by simp [hr])]
    simp -implicitDefEqProofs only [↓aP, aR, ↓reduceIte, reduceCtorEq, seval, e]
  · have e : Fm.find f id = Ta.find f.tb id := by unfold Fm.find; rw [if_pos hr]
    simp -implicitDefEqProofs only [↓aP, aR, ↓reduceIte, reduceCtorEq, seval, encFs]
    refine ask (by have := tFind_spec f.tb id; rw [encTa] at this; exact this) ?_
    simp -implicitDefEqProofs only [↓aP, aR, ↓reduceIte, reduceCtorEq, seval, encSlot, e]
theorem flocate_spec (f : Fs) (id : Int) (hl : Sh f) : Spec Tryz.prog 140 [.agg (encFs f), rI id] (.val (.tup [(false, [.pv (.int .i64 (Fm.locate f id).1)]), (false, [.pv (.int .i64 (Fm.locate f id).2)])])) := by
  refine spec_val mixed fn140 (by simp) ?_
  unfold ac140
  simp -implicitDefEqProofs only [↓aP, aR, ↓reduceIte, reduceCtorEq, seval, encFs]
  refine ask (by have := fRight_spec f hl; rw [encFs] at this; exact this) ?_
  cases hr : Fm.right f
  · have e : Fm.locate f id = (0, 1) := by unfold Fm.locate; rw [if_pos hr]
    simp -implicitDefEqProofs only [↓aP, aR, ↓reduceIte, reduceCtorEq, seval, e]
  · simp -implicitDefEqProofs only [↓aP, aR, ↓reduceIte, reduceCtorEq, seval, encFs]
    refine ask (by have := tFind_spec f.tb id; rw [encTa] at this; exact this) ?_
    cases hf : (Ta.find f.tb id).2
    · have e : Fm.locate f id = (0, 3) := by unfold Fm.locate; rw [if_neg (by simp [hr]), if_pos hf]
      simp -implicitDefEqProofs only [↓aP, aR, ↓reduceIte, reduceCtorEq, seval, encSlot, hf, e]
    · have e : Fm.locate f id = ((Ta.find f.tb id).1, 0) := by unfold Fm.locate; rw [if_neg (by simp [hr]), if_neg (by simp [hf])]
      simp -implicitDefEqProofs only [↓aP, aR, ↓reduceIte, reduceCtorEq, seval, encSlot, hf, e]
theorem at_found {f : Fs} {id : Int} (h : (Fm.locate f id).2 = 0) : ∃ k : Nat, (Fm.locate f id).1 = k ∧ k < f.ck.fr.length ∧ k < f.pg.length ∧ Fm.right f = true ∧ Ta.find f.tb id = ((k : Int), true) ∧ (f.pg.getD k zP).id = id ∧ id ≠ 0 := by
  unfold Fm.locate at h ⊢
  split at h
  · simp at h
  rename_i h1
  split at h
  · simp at h
  rename_i h2
  rw [if_neg h1, if_neg h2]
  have hr : Fm.right f = true := by simpa using h1
  have hf : Ta.find f.tb id = ((Ta.find f.tb id).1, true) := Prod.ext rfl (by simpa using h2)
  have ht := rt_iff.1 hr
  obtain ⟨k, hk, e1, e2, e3⟩ := rt_found ht hf
  exact ⟨k, e1, by have := ht.same; omega, hk, hr, by rw [hf, e1], by rw [pg_getD hk]; exact e2, e3⟩
set_option maxRecDepth 100000 in
theorem fNew_spec (n : Int) : Spec Tryz.prog 54 [rI n] (.val (.tup [(true, encFs (Fm.newF n).1), (false, [.pv (.int .i64 (Fm.newF n).2)])])) := by
  refine spec_val mixed fn54 (by simp) ?_
  unfold ac54
  by_cases h1 : n < 1
  · have e : Fm.newF n = (⟨⟨[], 0⟩, [], [], []⟩, 1) := by unfold Fm.newF; rw [if_neg (by omega)]
    simp -implicitDefEqProofs only [↓aP, aR, ↓reduceIte, reduceCtorEq, seval, decide_eq_true h1, e, encFs, List.map_nil]
  by_cases h2 : 8 < n
  · have e : Fm.newF n = (⟨⟨[], 0⟩, [], [], []⟩, 1) := by unfold Fm.newF; rw [if_neg (by omega)]
    simp -implicitDefEqProofs only [↓aP, aR, ↓reduceIte, reduceCtorEq, seval, decide_eq_false h1, decide_eq_true h2, e, encFs, List.map_nil]
  have e : Fm.newF n = (⟨⟨List.replicate n.toNat zF, 0⟩, List.replicate 16 Ta.z, List.replicate n.toNat zP, []⟩, 0) := by unfold Fm.newF; rw [if_pos (by omega)]
  simp -implicitDefEqProofs only [↓aP, aR, ↓reduceIte, reduceCtorEq, seval, decide_eq_false h1, decide_eq_false h2, e, encFs]
  refine ⟨by omega, by omega, by omega, ?_⟩
  refine ask tNew_spec ?_
  simp -implicitDefEqProofs only [↓aP, aR, ↓reduceIte, reduceCtorEq, seval, encTa, List.map_replicate]
  refine ⟨by omega, by omega, by omega, by decide +kernel, ?_, ?_⟩
  · exact Sim.refl _
  · exact Sim.refl _
theorem fmark_spec (f : Fs) (id now : Int) (hl : Sh f) : Spec Tryz.prog 145 [.agg (encFs f), rI id, rI now] (.val (.tup [(true, encFs (Fm.mark f id now).1), (false, [.pv (.int .i64 (Fm.mark f id now).2)])])) := by
  refine spec_val mixed fn145 (by simp) ?_
  unfold ac145
  simp -implicitDefEqProofs only [↓aP, aR, ↓reduceIte, reduceCtorEq, seval, encFs]
  refine ask (dMark_spec f.dt id now hl.2) ?_
  simp -implicitDefEqProofs only [↓aP, aR, ↓reduceIte, reduceCtorEq, seval, encLs, encFs, Fm.mark]
theorem fempty_spec (f : Fs) (k : Nat) (h1 : k < f.ck.fr.length) (h2 : k < f.pg.length) (hs : f.ck.fr.length ≤ 1000000 ∧ f.pg.length ≤ 1000000) (hl : Sh f) : Spec Tryz.prog 146 [.agg (encFs f), rI (k : Int)] (.val (.agg (encFs (Fm.empty f k)))) := by
  refine spec_val mixed fn146 (by simp) ?_
  unfold ac146
  have e := pg_getD h2
  simp -implicitDefEqProofs only [↓aP, aR, ↓reduceIte, reduceCtorEq, seval, encFs, askIdx_map, h2, encPg]
  refine ask (by have := lay_spec f k zF zP h1 h2 hs; rw [encFs] at this; exact this) ?_
  simp -implicitDefEqProofs only [↓aP, aR, ↓reduceIte, reduceCtorEq, seval, encFs, Fm.lay]
  refine ask (by have := tDel_spec f.tb f.pg[k].id; rw [encTa] at this; exact this) ?_
  simp -implicitDefEqProofs only [↓aP, aR, ↓reduceIte, reduceCtorEq, seval, encPut, encTa, encFs]
  refine ask (dClean_spec f.dt f.pg[k].id hl.2) ?_
  simp -implicitDefEqProofs only [↓aP, aR, ↓reduceIte, reduceCtorEq, seval, encLs, encFs, Fm.empty, e]
set_option maxRecDepth 100000 in
theorem funpin_spec (f : Fs) (id : Int) (hl : Sh f) : Spec Tryz.prog 120 [.agg (encFs f), rI id] (.val (.tup [(true, encFs (Fm.unpin f id).1), (false, [.pv (.int .i64 (Fm.unpin f id).2)])])) := by
  refine spec_val mixed fn120 (by simp) ?_
  unfold ac120
  simp -implicitDefEqProofs only [↓aP, aR, ↓reduceIte, reduceCtorEq, seval, encFs]
  refine ask (by have := flocate_spec f id hl; rw [encFs] at this; exact this) ?_
  by_cases h0 : (Fm.locate f id).2 = 0
  case neg =>
    have e : Fm.unpin f id = (f, (Fm.locate f id).2) := by unfold Fm.unpin; rw [if_pos h0]
    simp -implicitDefEqProofs only [↓aP, aR, ↓reduceIte, reduceCtorEq, seval, show ((Fm.locate f id).2 != 0) = true from bne_iff_ne.2 h0, e, encFs]
  obtain ⟨k, e1, k1, k2, hr, _, _, _⟩ := at_found h0
  have ht := rt_iff.1 hr
  obtain ⟨c8, _, _, cg⟩ := right_fr ht.clock
  have hs := ht.same
  have g1 := fr_getD k1
  have g2 := pg_getD k2
  have cgk := cg _ (List.getElem_mem k1)
  unfold Ck.good at cgk
  rw [decide_eq_true_iff] at cgk
  simp -implicitDefEqProofs only [↓aP, aR, ↓reduceIte, reduceCtorEq, seval, h0, bne_self_eq_false, e1, askIdx_map, k1, k2, encFr, encPg, encFs]
  by_cases hp : f.ck.fr[k].pins = 0
  · have e : Fm.unpin f id = (f, 12) := by unfold Fm.unpin; rw [if_neg (by simp [h0]), e1, if_pos (by rw [Int.toNat_natCast, g1]; exact hp)]
    simp -implicitDefEqProofs only [↓aP, aR, ↓reduceIte, reduceCtorEq, seval, hp, beq_self_eq_true, e, encFs]
  · have e : Fm.unpin f id = (Fm.lay f k ⟨f.ck.fr[k].page, f.ck.fr[k].pins - 1, f.ck.fr[k].used⟩ f.pg[k], 0) := by unfold Fm.unpin; rw [if_neg (by simp [h0]), e1, Int.toNat_natCast, g1, g2, if_neg hp]
    simp -implicitDefEqProofs only [↓aP, aR, ↓reduceIte, reduceCtorEq, seval, show (f.ck.fr[k].pins == 0) = false from beq_eq_false_iff_ne.2 hp, e, encFs, askIdx_map, k1, k2, encPg, show IntKind.i64.wrap (f.ck.fr[k].pins - 1) = f.ck.fr[k].pins - 1 from wrapI (by omega)]
    refine ask (by have := lay_spec f k ⟨f.ck.fr[k].page, f.ck.fr[k].pins - 1, f.ck.fr[k].used⟩ f.pg[k] k1 k2 (by omega); rw [encFs, encFr, encPg] at this; exact this) ?_
    simp -implicitDefEqProofs only [↓aP, aR, ↓reduceIte, reduceCtorEq, seval, encFs]
    decide +kernel
end Go.Proofs.YtcbfhpnmhhnjpaaGreat

namespace Go.Proofs.YtcbfhpnmhhnjpaaGreat
open Go.RowKit
theorem sweep_at {c : Clk} (h : (sweepC c).2.2 = true) : ∃ k : Nat, (sweepC c).2.1 = k ∧ k < c.fr.length ∧ (sweepC c).1.fr.length = c.fr.length := by
  unfold sweepC at h ⊢
  split at h
  · rename_i hr
    obtain ⟨_, h0, h1, _⟩ := right_fr hr
    split at h
    · rename_i N e
      rw [if_pos hr]
      simp only [e]
      exact ⟨_, rfl, Nat.mod_lt _ (by omega), Ck.after_length _ _ _⟩
    · simp at h
  · simp at h
def encRoom (x : Fs × Pg × Bool × Int) : TV SC := .tup [(true, encFs x.1), (true, encPg x.2.1), (false, [.pv (.bool x.2.2.1)]), (false, [.pv (.int .i64 x.2.2.2)])]
set_option maxRecDepth 100000 in
theorem froom_spec (f : Fs) (hl : Sh f) : Spec Tryz.prog 169 [.agg (encFs f)] (.val (encRoom (Fm.room f))) := by
  refine spec_val mixed fn169 (by simp) ?_
  unfold ac169
  simp -implicitDefEqProofs only [↓aP, aR, ↓reduceIte, reduceCtorEq, seval, encFs, encRoom]
  refine ask (by have := fRight_spec f hl; rw [encFs] at this; exact this) ?_
  cases hr : Fm.right f
  · have e : Fm.room f = (f, zP, false, 1) := by unfold Fm.room; rw [if_pos hr]
    simp -implicitDefEqProofs only [↓aP, aR, ↓reduceIte, reduceCtorEq, seval, e, encFs, encPg, zP]
  have ht := rt_iff.1 hr
  obtain ⟨c8, _, _, cg⟩ := right_fr ht.clock
  have hs := ht.same
  simp -implicitDefEqProofs only [↓aP, aR, ↓reduceIte, reduceCtorEq, seval, encFs]
  refine ask (by have := ff_spec f hl.1; rw [encFs] at this; exact this) ?_
  by_cases hf : 0 ≤ Fm.ff f
  · have e : Fm.room f = (f, zP, false, 0) := by unfold Fm.room; rw [if_neg (by simp [hr]), if_pos hf]
    simp -implicitDefEqProofs only [↓aP, aR, ↓reduceIte, reduceCtorEq, seval, decide_eq_true hf, e, encFs, encPg, zP]
  simp -implicitDefEqProofs only [↓aP, aR, ↓reduceIte, reduceCtorEq, seval, decide_eq_false hf, encFs]
  refine ask (by have := csweep_spec f.ck hl.1; rw [encClk] at this; exact this) ?_
  cases hw : (sweepC f.ck).2.2
  · have e : Fm.room f = (f, zP, false, 6) := by unfold Fm.room; rw [if_neg (by simp [hr]), if_neg hf, if_pos hw]
    simp -implicitDefEqProofs only [↓aP, aR, ↓reduceIte, reduceCtorEq, seval, encClk, hw, e, encFs, encPg, zP]
  obtain ⟨k, e1, k1, k3⟩ := sweep_at hw
  have k2 : k < f.pg.length := by omega
  have g2 := pg_getD k2
  simp -implicitDefEqProofs only [↓aP, aR, ↓reduceIte, reduceCtorEq, seval, encClk, hw, e1, encFs, askIdx_map, k2, encPg]
  refine ask (dSince_spec f.dt f.pg[k].id hl.2) ?_
  cases hd : (sinceI f.dt f.pg[k].id).2
  · have e : Fm.room f = (Fm.empty ⟨(sweepC f.ck).1, f.tb, f.pg, f.dt⟩ k, f.pg[k], false, 0) := by
      unfold Fm.room; rw [if_neg (by simp [hr]), if_neg hf, if_neg (by simp [hw]), e1, Int.toNat_natCast, g2, if_neg (by simp [hd])]
    simp -implicitDefEqProofs only [↓aP, aR, ↓reduceIte, reduceCtorEq, seval, encClk, hd, encFs]
    refine ask (by have := fempty_spec ⟨(sweepC f.ck).1, f.tb, f.pg, f.dt⟩ k (by rw [k3]; exact k1) k2 (⟨by rw [k3]; omega, by show f.pg.length ≤ 1000000; omega⟩) ⟨by rw [k3]; exact hl.1, hl.2⟩; rw [encFs] at this; exact this) ?_
    simp -implicitDefEqProofs only [↓aP, aR, ↓reduceIte, reduceCtorEq, seval, e, encFs, encPg]
    decide +kernel
  · have e : Fm.room f = (⟨(sweepC f.ck).1, f.tb, f.pg, f.dt⟩, f.pg[k], true, 0) := by
      unfold Fm.room; rw [if_neg (by simp [hr]), if_neg hf, if_neg (by simp [hw]), e1, Int.toNat_natCast, g2, if_pos hd]
    simp -implicitDefEqProofs only [↓aP, aR, ↓reduceIte, reduceCtorEq, seval, encClk, hd, e, encFs, encPg]
    decide +kernel
theorem fst_at' {α : Type} {p : α → Bool} {l : List α} (h : ¬ fst? p l < 0) : ∃ k : Nat, fst? p l = k ∧ k < l.length := by
  unfold fst? at h ⊢
  cases e : l.findIdx? p with
  | none => rw [e] at h; exact absurd (by decide : (-1 : Int) < 0) h
  | some k =>
    obtain ⟨hk, _⟩ := List.findIdx?_eq_some_iff_getElem.1 e
    exact ⟨k, rfl, hk⟩
set_option maxRecDepth 100000 in
theorem fload_spec (f : Fs) (p : Pg) (now : Int) (fresh : Bool) (hl : Sh f) : Spec Tryz.prog 144 [.agg (encFs f), .agg (encPg p), rI now, rB fresh] (.val (.tup [(true, encFs (Fm.load f p now fresh).1), (false, [.pv (.int .i64 (Fm.load f p now fresh).2)])])) := by
  refine spec_val mixed fn144 (by simp) ?_
  unfold ac144
  have m1 : (Fm.right f = false ∨ okPg p = false ∨ now < 0 ∨ 2147483647 < now) → Fm.load f p now fresh = (f, 1) := fun h => by unfold Fm.load; rw [if_pos h]
  simp -implicitDefEqProofs only [↓aP, aR, ↓reduceIte, reduceCtorEq, seval, encFs, encPg]
  refine ask (by have := fRight_spec f hl; rw [encFs] at this; exact this) ?_
  cases hr : Fm.right f
  · simp -implicitDefEqProofs only [↓aP, aR, ↓reduceIte, reduceCtorEq, seval, m1 (.inl hr), encFs]
  have ht := rt_iff.1 hr
  obtain ⟨c8, _, _, cg⟩ := right_fr ht.clock
  have hs := ht.same
  simp -implicitDefEqProofs only [↓aP, aR, ↓reduceIte, reduceCtorEq, seval, encPg]
  refine ask (by have := pRight_spec p; rw [encPg] at this; exact this) ?_
  cases ho : okPg p
  · simp -implicitDefEqProofs only [↓aP, aR, ↓reduceIte, reduceCtorEq, seval, m1 (.inr (.inl ho)), encFs]
  by_cases h1 : now < 0
  · simp -implicitDefEqProofs only [↓aP, aR, ↓reduceIte, reduceCtorEq, seval, decide_eq_true h1, m1 (.inr (.inr (.inl h1))), encFs]
  by_cases h2 : 2147483647 < now
  · simp -implicitDefEqProofs only [↓aP, aR, ↓reduceIte, reduceCtorEq, seval, decide_eq_false h1, decide_eq_true h2, m1 (.inr (.inr (.inr h2))), encFs]
  have m0 : ¬ (Fm.right f = false ∨ okPg p = false ∨ now < 0 ∨ 2147483647 < now) := by simp [hr, ho, h1, h2]
  simp -implicitDefEqProofs only [↓aP, aR, ↓reduceIte, reduceCtorEq, seval, decide_eq_false h1, decide_eq_false h2, encFs]
  refine ask (by have := tFind_spec f.tb p.id; rw [encTa] at this; exact this) ?_
  cases hf : (Ta.find f.tb p.id).2
  case true =>
    have e : Fm.load f p now fresh = (f, 4) := by unfold Fm.load; rw [if_neg m0, if_pos hf]
    simp -implicitDefEqProofs only [↓aP, aR, ↓reduceIte, reduceCtorEq, seval, encSlot, hf, e, encFs]
  simp -implicitDefEqProofs only [↓aP, aR, ↓reduceIte, reduceCtorEq, seval, encSlot, hf, encFs]
  refine ask (by have := ff_spec f hl.1; rw [encFs] at this; exact this) ?_
  by_cases hk : Fm.ff f < 0
  · have e : Fm.load f p now fresh = (f, 7) := by unfold Fm.load; rw [if_neg m0, if_neg (by simp [hf]), if_pos hk]
    simp -implicitDefEqProofs only [↓aP, aR, ↓reduceIte, reduceCtorEq, seval, decide_eq_true hk, e, encFs]
  obtain ⟨k, e1, k1⟩ := fst_at' hk
  have e1' : Fm.ff f = k := e1
  simp -implicitDefEqProofs only [↓aP, aR, ↓reduceIte, reduceCtorEq, seval, show decide ((k : Int) < 0) = false by simp, e1', encFs, encPg]
  refine ask (by have := lay_spec f k ⟨p.id, 1, true⟩ p k1 (by omega) (by omega); rw [encFs, encFr, encPg] at this; exact this) ?_
  simp -implicitDefEqProofs only [↓aP, aR, ↓reduceIte, reduceCtorEq, seval, encFs, Fm.lay, encPg]
  refine ask (by have := tPut_spec f.tb p.id k; rw [encTa] at this; exact this) ?_
  have e0 : ∀ b, fresh = b → Fm.load f p now fresh = if b = true then (if (Fm.mark ⟨⟨f.ck.fr.set k ⟨p.id, 1, true⟩, f.ck.hand⟩, (Ta.put f.tb p.id k).1, f.pg.set k p, f.dt⟩ p.id now).2 ≠ 0 then (f, (Fm.mark ⟨⟨f.ck.fr.set k ⟨p.id, 1, true⟩, f.ck.hand⟩, (Ta.put f.tb p.id k).1, f.pg.set k p, f.dt⟩ p.id now).2) else ((Fm.mark ⟨⟨f.ck.fr.set k ⟨p.id, 1, true⟩, f.ck.hand⟩, (Ta.put f.tb p.id k).1, f.pg.set k p, f.dt⟩ p.id now).1, 0)) else (⟨⟨f.ck.fr.set k ⟨p.id, 1, true⟩, f.ck.hand⟩, (Ta.put f.tb p.id k).1, f.pg.set k p, f.dt⟩, 0) := fun b hb => by
    unfold Fm.load; rw [if_neg m0, if_neg (by simp [hf]), if_neg hk, e1', Int.toNat_natCast, hb]
  cases hb : fresh
  · have e := e0 false hb
    rw [if_neg (by decide), hb] at e
    simp -implicitDefEqProofs only [↓aP, aR, ↓reduceIte, reduceCtorEq, seval, encPut, encTa, encFs, e]
  · have e := e0 true hb
    rw [if_pos rfl, hb] at e
    have fm := fmark_spec ⟨⟨f.ck.fr.set k ⟨p.id, 1, true⟩, f.ck.hand⟩, (Ta.put f.tb p.id k).1, f.pg.set k p, f.dt⟩ p.id now ⟨by rw [List.length_set]; exact hl.1, hl.2⟩
    generalize Fm.mark ⟨⟨f.ck.fr.set k ⟨p.id, 1, true⟩, f.ck.hand⟩, (Ta.put f.tb p.id k).1, f.pg.set k p, f.dt⟩ p.id now = M at fm e
    rw [encFs] at fm
    simp -implicitDefEqProofs only [↓aP, aR, ↓reduceIte, reduceCtorEq, seval, encPut, encTa, encFs, encPg]
    refine ask fm ?_
    by_cases hm : M.2 = 0
    · rw [if_neg (by simp [hm])] at e
      simp -implicitDefEqProofs only [↓aP, aR, ↓reduceIte, reduceCtorEq, seval, encFs, hm, bne_self_eq_false, e]
    · rw [if_pos hm] at e
      simp -implicitDefEqProofs only [↓aP, aR, ↓reduceIte, reduceCtorEq, seval, encFs, show (M.2 != 0) = true from bne_iff_ne.2 hm, e]
end Go.Proofs.YtcbfhpnmhhnjpaaGreat

namespace Go.Proofs.YtcbfhpnmhhnjpaaGreat
open Go.RowKit
namespace Fm
def fa (f : Fs) (id : Int) : Fr := f.ck.fr.getD (locate f id).1.toNat zF
def pa (f : Fs) (id : Int) : Pg := f.pg.getD (locate f id).1.toNat zP
def pin (f : Fs) (id : Int) : Fs × Int := if (locate f id).2 ≠ 0 then (f, (locate f id).2) else if (fa f id).pins = 2147483647 then (f, 7) else (lay f (locate f id).1.toNat ⟨(fa f id).page, (fa f id).pins + 1, true⟩ (pa f id), 0)
def drop (f : Fs) (id : Int) : Fs × Int := if (locate f id).2 ≠ 0 then (f, (locate f id).2) else if 0 < (fa f id).pins then (f, 6) else (empty f (locate f id).1.toNat, 0)
def clean (f : Fs) (id : Int) : Fs × Int := if (locate f id).2 ≠ 0 then (f, (locate f id).2) else if (cleanI f.dt id).2 ≠ 0 then (f, 12) else (⟨f.ck, f.tb, f.pg, (cleanI f.dt id).1⟩, 0)
def write (f : Fs) (id : Int) (s : ByteArray) (now : Int) : Fs × Int := if (locate f id).2 ≠ 0 then (f, (locate f id).2) else if (fa f id).pins = 0 then (f, 12) else if 16 < s.size then (f, 5) else if (pa f id).ver = 2147483647 then (f, 7) else
  if (mark f id now).2 ≠ 0 then (f, (mark f id now).2) else (lay (mark f id now).1 (locate f id).1.toNat (fa f id) ⟨id, (pa f id).ver + 1, s⟩, 0)
end Fm
def encF2 (x : Fs × Int) : TV SC := .tup [(true, encFs x.1), (false, [.pv (.int .i64 x.2)])]
set_option maxRecDepth 100000 in
theorem fpin_spec (f : Fs) (id : Int) (hl : Sh f) : Spec Tryz.prog 115 [.agg (encFs f), rI id] (.val (encF2 (Fm.pin f id))) := by
  refine spec_val mixed fn115 (by simp) ?_
  unfold ac115
  simp -implicitDefEqProofs only [↓aP, aR, ↓reduceIte, reduceCtorEq, seval, encFs, encF2]
  refine ask (by have := flocate_spec f id hl; rw [encFs] at this; exact this) ?_
  by_cases h0 : (Fm.locate f id).2 = 0
  case neg =>
    have e : Fm.pin f id = (f, (Fm.locate f id).2) := by unfold Fm.pin; rw [if_pos h0]
    simp -implicitDefEqProofs only [↓aP, aR, ↓reduceIte, reduceCtorEq, seval, show ((Fm.locate f id).2 != 0) = true from bne_iff_ne.2 h0, e, encFs]
  obtain ⟨k, e1, k1, k2, hr, _, _, _⟩ := at_found h0
  have ht := rt_iff.1 hr
  obtain ⟨c8, _, _, cg⟩ := right_fr ht.clock
  have hs := ht.same
  have g1 := fr_getD k1
  have g2 := pg_getD k2
  have cgk := cg _ (List.getElem_mem k1)
  unfold Ck.good at cgk
  rw [decide_eq_true_iff] at cgk
  have q1 : Fm.fa f id = f.ck.fr[k] := by unfold Fm.fa; rw [e1, Int.toNat_natCast, g1]
  have q2 : Fm.pa f id = f.pg[k] := by unfold Fm.pa; rw [e1, Int.toNat_natCast, g2]
  simp -implicitDefEqProofs only [↓aP, aR, ↓reduceIte, reduceCtorEq, seval, h0, bne_self_eq_false, e1, askIdx_map, k1, k2, encFr, encPg, encFs]
  by_cases hp : f.ck.fr[k].pins = 2147483647
  · have e : Fm.pin f id = (f, 7) := by unfold Fm.pin; rw [if_neg (by simp [h0]), q1, if_pos hp]
    simp -implicitDefEqProofs only [↓aP, aR, ↓reduceIte, reduceCtorEq, seval, hp, beq_self_eq_true, e, encFs]
  · have e : Fm.pin f id = (Fm.lay f k ⟨f.ck.fr[k].page, f.ck.fr[k].pins + 1, true⟩ f.pg[k], 0) := by unfold Fm.pin; rw [if_neg (by simp [h0]), q1, q2, e1, Int.toNat_natCast, if_neg hp]
    simp -implicitDefEqProofs only [↓aP, aR, ↓reduceIte, reduceCtorEq, seval, show (f.ck.fr[k].pins == 2147483647) = false from beq_eq_false_iff_ne.2 hp, e, encFs, askIdx_map, k1, k2, encPg, show IntKind.i64.wrap (f.ck.fr[k].pins + 1) = f.ck.fr[k].pins + 1 from wrapI (by omega)]
    refine ask (by have := lay_spec f k ⟨f.ck.fr[k].page, f.ck.fr[k].pins + 1, true⟩ f.pg[k] k1 k2 (by omega); rw [encFs, encFr, encPg] at this; exact this) ?_
    simp -implicitDefEqProofs only [↓aP, aR, ↓reduceIte, reduceCtorEq, seval, encFs]
    all_goals decide +kernel
set_option maxRecDepth 100000 in
theorem fdrop_spec (f : Fs) (id : Int) (hl : Sh f) : Spec Tryz.prog 121 [.agg (encFs f), rI id] (.val (encF2 (Fm.drop f id))) := by
  refine spec_val mixed fn121 (by simp) ?_
  unfold ac121
  simp -implicitDefEqProofs only [↓aP, aR, ↓reduceIte, reduceCtorEq, seval, encFs, encF2]
  refine ask (by have := flocate_spec f id hl; rw [encFs] at this; exact this) ?_
  by_cases h0 : (Fm.locate f id).2 = 0
  case neg =>
    have e : Fm.drop f id = (f, (Fm.locate f id).2) := by unfold Fm.drop; rw [if_pos h0]
    simp -implicitDefEqProofs only [↓aP, aR, ↓reduceIte, reduceCtorEq, seval, show ((Fm.locate f id).2 != 0) = true from bne_iff_ne.2 h0, e, encFs]
  obtain ⟨k, e1, k1, k2, hr, _, _, _⟩ := at_found h0
  have ht := rt_iff.1 hr
  obtain ⟨c8, _, _, cg⟩ := right_fr ht.clock
  have hs := ht.same
  have g1 := fr_getD k1
  have q1 : Fm.fa f id = f.ck.fr[k] := by unfold Fm.fa; rw [e1, Int.toNat_natCast, g1]
  simp -implicitDefEqProofs only [↓aP, aR, ↓reduceIte, reduceCtorEq, seval, h0, bne_self_eq_false, e1, askIdx_map, k1, k2, encFr, encFs]
  by_cases hp : 0 < f.ck.fr[k].pins
  · have e : Fm.drop f id = (f, 6) := by unfold Fm.drop; rw [if_neg (by simp [h0]), q1, if_pos hp]
    simp -implicitDefEqProofs only [↓aP, aR, ↓reduceIte, reduceCtorEq, seval, decide_eq_true hp, e, encFs]
  · have e : Fm.drop f id = (Fm.empty f k, 0) := by unfold Fm.drop; rw [if_neg (by simp [h0]), q1, if_neg hp, e1, Int.toNat_natCast]
    simp -implicitDefEqProofs only [↓aP, aR, ↓reduceIte, reduceCtorEq, seval, decide_eq_false hp, e, encFs]
    refine ask (by have := fempty_spec f k k1 k2 (by omega) hl; rw [encFs] at this; exact this) ?_
    simp -implicitDefEqProofs only [↓aP, aR, ↓reduceIte, reduceCtorEq, seval, encFs]
    all_goals decide +kernel
set_option maxRecDepth 100000 in
theorem fclean_spec (f : Fs) (id : Int) (hl : Sh f) : Spec Tryz.prog 150 [.agg (encFs f), rI id] (.val (encF2 (Fm.clean f id))) := by
  refine spec_val mixed fn150 (by simp) ?_
  unfold ac150
  simp -implicitDefEqProofs only [↓aP, aR, ↓reduceIte, reduceCtorEq, seval, encFs, encF2]
  refine ask (by have := flocate_spec f id hl; rw [encFs] at this; exact this) ?_
  by_cases h0 : (Fm.locate f id).2 = 0
  case neg =>
    have e : Fm.clean f id = (f, (Fm.locate f id).2) := by unfold Fm.clean; rw [if_pos h0]
    simp -implicitDefEqProofs only [↓aP, aR, ↓reduceIte, reduceCtorEq, seval, show ((Fm.locate f id).2 != 0) = true from bne_iff_ne.2 h0, e, encFs]
  simp -implicitDefEqProofs only [↓aP, aR, ↓reduceIte, reduceCtorEq, seval, h0, bne_self_eq_false, encFs]
  refine ask (dClean_spec f.dt id hl.2) ?_
  by_cases hc : (cleanI f.dt id).2 = 0
  · have e : Fm.clean f id = (⟨f.ck, f.tb, f.pg, (cleanI f.dt id).1⟩, 0) := by unfold Fm.clean; rw [if_neg (by simp [h0]), if_neg (by simp [hc])]
    simp -implicitDefEqProofs only [↓aP, aR, ↓reduceIte, reduceCtorEq, seval, encLs, hc, bne_self_eq_false, e, encFs]
  · have e : Fm.clean f id = (f, 12) := by unfold Fm.clean; rw [if_neg (by simp [h0]), if_pos hc]
    simp -implicitDefEqProofs only [↓aP, aR, ↓reduceIte, reduceCtorEq, seval, encLs, show ((cleanI f.dt id).2 != 0) = true from bne_iff_ne.2 hc, e, encFs]
set_option maxRecDepth 100000 in
theorem fwrite_spec (f : Fs) (id : Int) (s : ByteArray) (now : Int) (hl : Sh f) : Spec Tryz.prog 119 [.agg (encFs f), rI id, rS s, rI now] (.val (encF2 (Fm.write f id s now))) := by
  refine spec_val mixed fn119 (by simp) ?_
  unfold ac119
  simp -implicitDefEqProofs only [↓aP, aR, ↓reduceIte, reduceCtorEq, seval, encFs, encF2]
  refine ask (by have := flocate_spec f id hl; rw [encFs] at this; exact this) ?_
  by_cases h0 : (Fm.locate f id).2 = 0
  case neg =>
    have e : Fm.write f id s now = (f, (Fm.locate f id).2) := by unfold Fm.write; rw [if_pos h0]
    simp -implicitDefEqProofs only [↓aP, aR, ↓reduceIte, reduceCtorEq, seval, show ((Fm.locate f id).2 != 0) = true from bne_iff_ne.2 h0, e, encFs]
  obtain ⟨k, e1, k1, k2, hr, _, _, _⟩ := at_found h0
  have ht := rt_iff.1 hr
  obtain ⟨c8, _, _, cg⟩ := right_fr ht.clock
  have hs := ht.same
  have g1 := fr_getD k1
  have g2 := pg_getD k2
  have q1 : Fm.fa f id = f.ck.fr[k] := by unfold Fm.fa; rw [e1, Int.toNat_natCast, g1]
  have q2 : Fm.pa f id = f.pg[k] := by unfold Fm.pa; rw [e1, Int.toNat_natCast, g2]
  have v0 : f.ck.fr[k].pins = 0 → Fm.write f id s now = (f, 12) := fun h => by unfold Fm.write; rw [if_neg (by simp [h0]), q1, if_pos h]
  simp -implicitDefEqProofs only [↓aP, aR, ↓reduceIte, reduceCtorEq, seval, h0, bne_self_eq_false, e1, askIdx_map, k1, k2, encFr, encPg, encFs]
  refine ⟨by decide +kernel, ?_⟩
  by_cases p1 : f.ck.fr[k].pins = 0
  · simp -implicitDefEqProofs only [↓aP, aR, ↓reduceIte, reduceCtorEq, seval, p1, beq_self_eq_true, v0 p1, encFs]
  by_cases p2 : 16 < s.size
  · have e : Fm.write f id s now = (f, 5) := by unfold Fm.write; rw [if_neg (by simp [h0]), q1, if_neg p1, if_pos p2]
    simp -implicitDefEqProofs only [↓aP, aR, ↓reduceIte, reduceCtorEq, seval, show (f.ck.fr[k].pins == 0) = false from beq_eq_false_iff_ne.2 p1, show decide ((16 : Int) < (s.size : Int)) = true by simp; omega, e, encFs]
  by_cases p3 : f.pg[k].ver = 2147483647
  · have e : Fm.write f id s now = (f, 7) := by unfold Fm.write; rw [if_neg (by simp [h0]), q1, q2, if_neg p1, if_neg p2, if_pos p3]
    simp -implicitDefEqProofs only [↓aP, aR, ↓reduceIte, reduceCtorEq, seval, show (f.ck.fr[k].pins == 0) = false from beq_eq_false_iff_ne.2 p1, show decide ((16 : Int) < (s.size : Int)) = false by simp; omega, p3, beq_self_eq_true, e, encFs]
  have e0 : Fm.write f id s now = if (Fm.mark f id now).2 ≠ 0 then (f, (Fm.mark f id now).2) else (Fm.lay (Fm.mark f id now).1 k f.ck.fr[k] ⟨id, f.pg[k].ver + 1, s⟩, 0) := by unfold Fm.write; rw [if_neg (by simp [h0]), q1, q2, if_neg p1, if_neg p2, if_neg p3, e1, Int.toNat_natCast]
  have fm := fmark_spec f id now hl
  have hm1 : (Fm.mark f id now).1.ck = f.ck ∧ (Fm.mark f id now).1.pg = f.pg := ⟨rfl, rfl⟩
  generalize Fm.mark f id now = M at fm e0 hm1
  rw [encFs] at fm
  simp -implicitDefEqProofs only [↓aP, aR, ↓reduceIte, reduceCtorEq, seval, show (f.ck.fr[k].pins == 0) = false from beq_eq_false_iff_ne.2 p1, show decide ((16 : Int) < (s.size : Int)) = false by simp; omega, show (f.pg[k].ver == 2147483647) = false from beq_eq_false_iff_ne.2 p3, encFs]
  refine ask fm ?_
  by_cases hm : M.2 = 0
  · rw [if_neg (by simp [hm])] at e0
    have hok := (rt_at ht k2 (fun hz => by
      have := ht.all k k2
      unfold Fm.okAt at this
      rw [g1, g2] at this
      split at this
      · rw [Bool.and_eq_true, beq_iff_eq] at this; exact p1 this.2
      · simp only [Bool.and_eq_true, beq_iff_eq] at this
        rename_i hne
        exact hne (this.1.1.trans hz))).2.1
    unfold okPg at hok
    rw [decide_eq_true_iff] at hok
    simp -implicitDefEqProofs only [↓aP, aR, ↓reduceIte, reduceCtorEq, seval, encFs, hm, bne_self_eq_false, encPg, encFr, show IntKind.i64.wrap (f.pg[k].ver + 1) = f.pg[k].ver + 1 from wrapI (by omega)]
    refine ask (by have := lay_spec M.1 k f.ck.fr[k] ⟨id, f.pg[k].ver + 1, s⟩ (by rw [hm1.1]; exact k1) (by rw [hm1.2]; exact k2) (by rw [hm1.1, hm1.2]; omega); rw [encFs, encFr, encPg] at this; exact this) ?_
    simp -implicitDefEqProofs only [↓aP, aR, ↓reduceIte, reduceCtorEq, seval, encFs, e0]
    all_goals decide +kernel
  · rw [if_pos hm] at e0
    simp -implicitDefEqProofs only [↓aP, aR, ↓reduceIte, reduceCtorEq, seval, encFs, show (M.2 != 0) = true from bne_iff_ne.2 hm, e0]
end Go.Proofs.YtcbfhpnmhhnjpaaGreat

namespace Go.Proofs.YtcbfhpnmhhnjpaaGreat
open Go.RowKit
structure Wk where
  f : Fs
  d : Dk
  now : Int
  done : List Jo
structure Pl where
  f : Fs
  d : Dk
  now : Int
structure Pa where
  kind : Int
  id : Int
  body : ByteArray
def encPl (p : Pl) : List SC := encFs p.f ++ encDk p.d ++ [.pv (.int .i64 p.now)]
def encPa (a : Pa) : List SC := [.pv (.int .i64 a.kind), .pv (.int .i64 a.id), .pv (.string a.body)]
namespace Po
def dueI (l : List It) (now age : Int) : List Int := if Dy.right l = false ∨ age < 0 then [] else (l.filter fun i => decide (i.since ≤ now) && decide (age ≤ now - i.since)).map It.page
def framed (w : Wk) (id : Int) : Pg × Int × Bool := if (Fm.find w.f id).2 = false then (zP, 0, false) else (w.f.pg.getD (Fm.find w.f id).1.toNat zP, (w.f.ck.fr.getD (Fm.find w.f id).1.toNat zF).pins, true)
def pinned (w : Wk) (id : Int) : Pg × Bool := ((framed w id).1, (framed w id).2.2 && decide (0 < (framed w id).2.1))
def turn (w : Wk) (x : Fs × Int) : Wk := if x.2 = 0 then ⟨x.1, w.d, w.now, w.done⟩ else w
def set (w : Wk) (p : Pg) : Wk := ⟨w.f, (setS w.d p).1, w.now, w.done ++ stepsS w.d p⟩
def del (w : Wk) (id : Int) : Wk := ⟨w.f, (delS w.d id).1, w.now, w.done ++ stepsS w.d ⟨id, 0, ⟨#[]⟩⟩⟩
def back (w : Wk) (p : Pg) : Wk := turn (set w p) (Fm.clean w.f p.id)
def room1 (w : Wk) : Wk := turn w ((Fm.room w.f).1, (Fm.room w.f).2.2.2)
def room : Nat → Wk → Wk × Int
  | 0, w => (w, 0)
  | n + 1, w => if (Fm.room w.f).2.2.2 ≠ 0 ∨ (Fm.room w.f).2.2.1 = false then (room1 w, (Fm.room w.f).2.2.2) else room n (back (room1 w) (Fm.room w.f).2.1)
def load1 (w : Wk) (p : Pg) (fresh : Bool) : Wk × Pg × Int := if (Fm.load w.f p w.now fresh).2 ≠ 0 then (w, zP, (Fm.load w.f p w.now fresh).2) else (turn w (Fm.load w.f p w.now fresh), p, 0)
def load (w : Wk) (p : Pg) (fresh : Bool) : Wk × Pg × Int := if (room (w.f.dt.length + 1) w).2 ≠ 0 then ((room (w.f.dt.length + 1) w).1, zP, (room (w.f.dt.length + 1) w).2) else load1 (room (w.f.dt.length + 1) w).1 p fresh
def fetch (w : Wk) (id : Int) : Wk × Pg × Int := if (framed w id).2.2 = true then (if (Fm.pin w.f id).2 ≠ 0 then (w, zP, (Fm.pin w.f id).2) else (turn w (Fm.pin w.f id), (framed w id).1, 0)) else
  if (getS w.d id).2 ≠ 0 then (w, zP, (getS w.d id).2) else load w (getS w.d id).1 false
def create (w : Wk) (id : Int) : Wk × Pg × Int := if (framed w id).2.2 = true then (w, zP, 4) else if (getS w.d id).2 = 0 then (w, zP, 4) else if (getS w.d id).2 = 3 then load w ⟨id, 1, ⟨#[]⟩⟩ true else (w, zP, (getS w.d id).2)
def read (w : Wk) (id : Int) : Wk × Pg × Int := if (pinned w id).2 = false then (w, zP, 12) else (w, (pinned w id).1, 0)
def write (w : Wk) (id : Int) (b : ByteArray) : Wk × Pg × Int := if (pinned w id).2 = false then (w, zP, 12) else if (Fm.write w.f id b w.now).2 ≠ 0 then (w, zP, (Fm.write w.f id b w.now).2) else read (turn w (Fm.write w.f id b w.now)) id
def unpin (w : Wk) (id : Int) : Wk × Int := if (pinned w id).2 = false then (w, 12) else (turn w (Fm.unpin w.f id), (Fm.unpin w.f id).2)
def drop (w : Wk) (id : Int) : Wk × Int := if 0 < (framed w id).2.1 then (w, 6) else if (framed w id).2.2 = true then ((if (getS w.d id).2 ≠ 3 then del (turn w (Fm.drop w.f id)) id else turn w (Fm.drop w.f id)), 0) else
  if (getS w.d id).2 ≠ 0 then (w, 3) else (del w id, 0)
def flush (w : Wk) (id : Int) : Wk × Int := if (framed w id).2.2 = false then (w, if (getS w.d id).2 ≠ 0 then 3 else 0) else if (sinceI w.f.dt id).2 = true then (back w (framed w id).1, 0) else (w, 0)
def age1 (w : Wk) (id : Int) : Wk := back w (framed w id).1
def age (w : Wk) (n : Int) : Wk := (dueI w.f.dt w.now n).foldl age1 w
def act (w : Wk) (a : Pa) : Wk × Pg × Int :=
  if a.kind = 1 then fetch w a.id else if a.kind = 2 then create w a.id else if a.kind = 3 then read w a.id else if a.kind = 4 then write w a.id a.body else if a.kind = 5 then ((unpin w a.id).1, zP, (unpin w a.id).2) else
  if a.kind = 6 then ((drop w a.id).1, zP, (drop w a.id).2) else if a.kind = 7 then ((flush w a.id).1, zP, (flush w a.id).2) else (age w a.id, zP, 0)
def bad (a : Pa) : Prop := a.kind < 1 ∨ 8 < a.kind ∨ a.kind ≠ 8 ∧ (a.id < 1 ∨ 16 < a.id)
instance (a : Pa) : Decidable (bad a) := by unfold bad; infer_instance
def start (p : Pl) : Wk := ⟨p.f, p.d, p.now, []⟩
def doP (p : Pl) (a : Pa) : Pl × Pg × List Jo × Int := if bad a then (p, zP, [], 1) else
  (⟨(act (start p) a).1.f, (act (start p) a).1.d, (act (start p) a).1.now⟩, (act (start p) a).2.1, (act (start p) a).1.done, (act (start p) a).2.2)
def tick (p : Pl) (n : Int) : Pl := ⟨p.f, p.d, p.now + min (max n 0) (2147483647 - p.now)⟩
def openP (d : Dk) (n : Int) : Pl × Int := if (Jn.getM d 1).2 ≠ 0 ∨ 0 < d.cache.length ∨ (Fm.newF n).2 ≠ 0 then (⟨(Fm.newF 0).1, ⟨[], []⟩, 0⟩, 1) else (⟨(Fm.newF n).1, Jn.recoverM d, 0⟩, 0)
end Po
end Go.Proofs.YtcbfhpnmhhnjpaaGreat

namespace Go.Proofs.YtcbfhpnmhhnjpaaGreat
open Go.RowKit
namespace Ta
theorem pl_ahead {p : Int} {i : Nat} (hi : i < 16) : pl p (ahead p i) = i := by unfold pl ahead; omega
theorem ahead_pl {p : Int} {i n : Nat} (hn : n < 16) (h : pl p n = i) : n = ahead p i := by unfold pl at h; unfold ahead; omega
theorem ahead_lt {p : Int} {i : Nat} : ahead p i < 16 := Nat.mod_lt _ (by decide)
end Ta
end Go.Proofs.YtcbfhpnmhhnjpaaGreat

namespace Go.Proofs.YtcbfhpnmhhnjpaaGreat
open Go.RowKit
namespace Ta
theorem at_set {t : List Sl} {k j : Nat} {x : Sl} (hk : k < t.length) : at' (t.set k x) j = if j = k then x else at' t j := by
  unfold at'
  rw [List.getD_eq_getElem?_getD, List.getD_eq_getElem?_getD, List.getElem?_set]
  by_cases e : k = j
  · rw [if_pos e, if_pos e.symm, if_pos hk]; rfl
  · rw [if_neg e, if_neg (fun h => e h.symm)]
theorem put_ok {t : List Sl} {p f : Int} (h : (put t p f).2 = 0) : right t = true ∧ isP p = true ∧ isF f = true ∧ ∃ i, i < 16 ∧ seek t p = (pl p i : Nat) ∧ free (at' t (pl p i)) = true ∧ (∀ j, j < i → hit t p (pl p j) = false) ∧ put t p f = (t.set (pl p i) ⟨p, f⟩, 0) := by
  unfold put at h ⊢
  split at h
  · cases h
  rename_i h1
  split at h
  · cases h
  rename_i h2
  split at h
  · cases h
  rename_i h3
  rw [if_neg h1, if_neg h2, if_neg h3]
  simp only [not_or, Bool.not_eq_false] at h1
  refine ⟨h1.1, h1.2.1, h1.2.2, ?_⟩
  rcases seek_range (t := t) (p := p) with hr | ⟨i, hi, hr, hh, hno⟩
  · rw [hr] at h3; omega
  · refine ⟨i, hi, hr, ?_, hno, by rw [hr]; rfl⟩
    unfold slot at h2
    rw [if_pos h1.2.1, hr] at h2
    simp only [Int.toNat_natCast, Bool.not_eq_true, decide_eq_false_iff_not] at h2
    unfold hit at hh
    rw [Bool.or_eq_true] at hh
    rcases hh with hh | hh
    · exact absurd ⟨by omega, by simpa using hh⟩ h2
    · exact hh
end Ta
end Go.Proofs.YtcbfhpnmhhnjpaaGreat

namespace Go.Proofs.YtcbfhpnmhhnjpaaGreat
namespace Ta
def QF (h : Nat) (F : Nat → Sl) : List Sl := (List.range 16).map fun k => F ((k + 16 - h) % 16)
theorem qf_len {h : Nat} {F : Nat → Sl} : (QF h F).length = 16 := by simp [QF]
theorem at_qf {h : Nat} {F : Nat → Sl} {k : Nat} (hk : k < 16) : at' (QF h F) k = F ((k + 16 - h) % 16) := by
  rw [at_get (by rw [qf_len]; exact hk)]
  simp [QF]
theorem at_off {h o : Nat} {F : Nat → Sl} (hh : h < 16) (ho : o < 16) : at' (QF h F) ((h + o) % 16) = F o := by
  rw [at_qf (Nat.mod_lt _ (by decide)), show ((h + o) % 16 + 16 - h) % 16 = o by omega]
theorem qf_set {h o : Nat} {F : Nat → Sl} {x : Sl} (hh : h < 16) (ho : o < 16) : (QF h F).set ((h + o) % 16) x = QF h fun j => if j = o then x else F j := by
  refine List.ext_getElem (by simp [qf_len]) (fun k h1 h2 => ?_)
  have hk : k < 16 := by simpa [qf_len] using h2
  rw [List.getElem_set]
  simp only [QF, List.getElem_map, List.getElem_range]
  by_cases e : (h + o) % 16 = k
  · rw [if_pos e, if_pos (by omega)]
  · rw [if_neg e, if_neg (by omega)]
theorem isP_free {s : Sl} (h : isP s.p = true) : free s = false := by
  unfold isP at h
  simp only [decide_eq_true_eq] at h
  unfold free
  rw [Bool.and_eq_false_iff]
  left
  rw [beq_eq_false_iff_ne]
  omega
end Ta
end Go.Proofs.YtcbfhpnmhhnjpaaGreat

namespace Go.Proofs.YtcbfhpnmhhnjpaaGreat
namespace Ta
def W (q : Int) (k0 o : Nat) : Nat := (ahead q k0 + o) % 16
theorem w_off {q : Int} {k0 o : Nat} (hk : k0 < 16) : ahead q ((k0 + o) % 16) = W q k0 o := by unfold W ahead; omega
theorem w_base {q : Int} {k0 : Nat} : ahead q k0 < 16 := ahead_lt
def Ranked (k0 : Nat) (r : Int → Nat) (F : Nat → Sl) : Prop := ∀ o j, o < 16 → j < 16 → free (F o) = false → W (F o).p k0 j < W (F o).p k0 o → free (F j) = false ∧ r (F j).p < r (F o).p
structure Dl (k0 : Nat) (r : Int → Nat) (F : Nat → Sl) (o0 i H : Nat) : Prop where
  a : F o0 = z
  lt : o0 < i
  le : i ≤ 16
  b : ∀ o j, o < 16 → j < 16 → free (F o) = false → W (F o).p k0 j < W (F o).p k0 o → j ≠ o0 → free (F j) = false ∧ r (F j).p < r (F o).p
  c : ∀ o, o < 16 → free (F o) = false → W (F o).p k0 o0 < W (F o).p k0 o → H < r (F o).p
  d : ∀ o, o0 < o → o < i → free (F o) = false → ¬ W (F o).p k0 o0 < W (F o).p k0 o
  e : ∀ o, o < o0 → free (F o) = false → o < W (F o).p k0 o → r (F o).p ≤ H
theorem geo1 {c o0 i o : Nat} (hc : c < 16) (h0 : o0 < i) (hi : i < 16) (ho : o < 16) (h : (c + o0) % 16 < (c + o) % 16) (hn : ¬ (o0 ≤ o ∧ o ≤ i)) : (c + i) % 16 < (c + o) % 16 := by omega
theorem geo2 {c o0 o : Nat} (hc : c < 16) (h0 : o0 < o) (ho : o < 16) (h : o < (c + o) % 16) : (c + o0) % 16 < (c + o) % 16 := by omega
theorem geo3 {c o0 o : Nat} (hc : c < 16) (h0 : o < o0) (ho : o0 < 16) (h : (c + o0) % 16 < (c + o) % 16) : o < (c + o) % 16 := by omega
def mv (F : Nat → Sl) (o0 i : Nat) (j : Nat) : Sl := if j = i then z else if j = o0 then F i else F j
theorem free_z2 : free z = true := rfl
theorem dl_move {k0 : Nat} {r : Int → Nat} {F : Nat → Sl} {o0 i H : Nat} (h : Dl k0 r F o0 i H) (hi : i < 16) (hf : free (F i) = false) (hw : W (F i).p k0 o0 < W (F i).p k0 i) : Dl k0 r (mv F o0 i) i (i + 1) (r (F i).p) := by
  have hlt := h.lt
  have mi : mv F o0 i i = z := by unfold mv; rw [if_pos rfl]
  have m0 : mv F o0 i o0 = F i := by unfold mv; rw [if_neg (by omega), if_pos rfl]
  have mo : ∀ j, j ≠ i → j ≠ o0 → mv F o0 i j = F j := fun j h1 h2 => by unfold mv; rw [if_neg h1, if_neg h2]
  have hH := h.c i hi hf hw
  -- whose way met the old hole, and who is not the mover, has a higher rank than the mover
  have key : ∀ o, o < 16 → o ≠ i → free (F o) = false → W (F o).p k0 o0 < W (F o).p k0 o → r (F i).p < r (F o).p := by
    intro o ho hoi hfo hwo
    have ho0 : o ≠ o0 := fun e => by rw [e] at hwo; omega
    by_cases hb : o0 ≤ o ∧ o ≤ i
    · exact absurd hwo (h.d o (by omega) (by omega) hfo)
    · have := geo1 (w_base (q := (F o).p) (k0 := k0)) hlt hi ho hwo hb
      exact (h.b o i ho hi hfo this (by omega)).2
  refine ⟨mi, by omega, by omega, ?_, ?_, fun o h1 h2 => by omega, ?_⟩
  · intro o j ho hj hfo hwo hji
    by_cases eo : o = i
    · rw [eo, mi] at hfo; cases hfo
    by_cases e0 : o = o0
    · subst e0
      rw [m0] at hfo hwo ⊢
      have hj0 : j ≠ o := fun e => by rw [e] at hwo; omega
      rw [mo j hji hj0]
      exact h.b i j hi hj hf (by omega) hj0
    · rw [mo o eo e0] at hfo hwo ⊢
      by_cases ej : j = o0
      · subst ej
        rw [m0]
        exact ⟨hf, key o ho eo hfo hwo⟩
      · rw [mo j hji ej]
        exact h.b o j ho hj hfo hwo ej
  · intro o ho hfo hwo
    by_cases eo : o = i
    · rw [eo, mi] at hfo; cases hfo
    by_cases e0 : o = o0
    · subst e0
      rw [m0] at hfo hwo ⊢
      omega
    · rw [mo o eo e0] at hfo hwo ⊢
      exact (h.b o i ho hi hfo hwo (by omega)).2
  · intro o ho hfo hwo
    by_cases e0 : o = o0
    · subst e0
      rw [m0]; exact Nat.le_refl _
    · rw [mo o (by omega) e0] at hfo hwo ⊢
      rcases Nat.lt_or_ge o o0 with h1 | h1
      · have := h.e o h1 hfo hwo; omega
      · have := geo2 (w_base (q := (F o).p) (k0 := k0)) (show o0 < o by omega) (by omega) hwo
        exact absurd this (h.d o (by omega) ho hfo)
theorem dl_stay {k0 : Nat} {r : Int → Nat} {F : Nat → Sl} {o0 i H : Nat} (h : Dl k0 r F o0 i H) (hi : i < 16) (hw : ¬ W (F i).p k0 o0 < W (F i).p k0 i) : Dl k0 r F o0 (i + 1) H := by
  have := h.lt
  refine ⟨h.a, by omega, by omega, h.b, h.c, fun o h1 h2 hf => ?_, h.e⟩
  by_cases e : o = i
  · rw [e]; exact hw
  · exact h.d o h1 (by omega) hf
theorem dl_ranked {k0 : Nat} {r : Int → Nat} {F : Nat → Sl} {o0 i H : Nat} (h : Dl k0 r F o0 i H) (he : i = 16 ∨ (i < 16 ∧ free (F i) = true)) : Ranked k0 r F := by
  have hlt := h.lt
  have hle := h.le
  have no : ∀ o, o < 16 → free (F o) = false → ¬ W (F o).p k0 o0 < W (F o).p k0 o := by
    intro o ho hf hw
    have ho0 : o ≠ o0 := fun e => by rw [e] at hw; omega
    by_cases h1 : o0 < o ∧ o < i
    · exact h.d o h1.1 h1.2 hf hw
    · rcases he with e16 | ⟨hi, hfi⟩
      · have hoo : o < o0 := by omega
        have h2 := geo3 (w_base (q := (F o).p) (k0 := k0)) hoo (by omega) hw
        have h3 := h.e o hoo hf h2
        have h4 := h.c o ho hf hw
        omega
      · have hoi : o ≠ i := fun e => by rw [e, hfi] at hf; cases hf
        have h2 := geo1 (w_base (q := (F o).p) (k0 := k0)) hlt hi ho hw (by omega)
        have := (h.b o i ho hi hf h2 (by omega)).1
        rw [hfi] at this; cases this
  intro o j ho hj hf hw
  by_cases e : j = o0
  · subst e; exact absurd hw (no o ho hf)
  · exact h.b o j ho hj hf hw e
def nf (t : List Sl) : List Sl := t.filter fun s => !free s
theorem nf_set {t : List Sl} {k : Nat} {x : Sl} (hk : k < t.length) (h0 : free t[k] = true) (hx : free x = false) : (nf (t.set k x)).Perm (x :: nf t) := by
  have e1 : t.set k x = t.take k ++ x :: t.drop (k + 1) := List.set_eq_take_append_cons_drop.trans (by rw [if_pos hk])
  have e2 : t = t.take k ++ t[k] :: t.drop (k + 1) := by
    rw [← List.drop_eq_getElem_cons]
    exact (List.take_append_drop _ _).symm
  have f2 : nf t = nf (t.take k) ++ nf (t.drop (k + 1)) := by
    conv => lhs; rw [e2]
    unfold nf
    rw [List.filter_append, List.filter_cons_of_neg (by rw [h0]; simp)]
  rw [e1, f2]
  unfold nf
  rw [List.filter_append, List.filter_cons_of_pos (by rw [hx]; rfl)]
  exact List.perm_middle
theorem nf_del {t : List Sl} {k : Nat} (hk : k < t.length) (h0 : free t[k] = false) : (t[k] :: nf (t.set k z)).Perm (nf t) := by
  have h := nf_set (t := t.set k z) (k := k) (x := t[k]) (by simpa using hk) (by simp [free_z2]) h0
  rw [List.set_set, List.set_getElem_self hk] at h
  exact h.symm
theorem nf_move {t : List Sl} {k j : Nat} (hk : k < t.length) (hj : j < t.length) (hkj : k ≠ j) (h0 : free t[k] = true) (hs : free t[j] = false) : (nf ((t.set k t[j]).set j z)).Perm (nf t) := by
  have h1 := nf_set hk h0 hs
  have hj2 : j < (t.set k t[j]).length := by simpa using hj
  have hg : (t.set k t[j])[j] = t[j] := by rw [List.getElem_set, if_neg hkj]
  have h2 := nf_del hj2 (by rw [hg]; exact hs)
  rw [hg] at h2
  exact (h2.trans h1).cons_inv
theorem qf_eq {k0 : Nat} {F : Nat → Sl} {o : Nat} (hk : k0 < 16) (ho : o < 16) : (QF k0 F)[(k0 + o) % 16]'(by rw [qf_len]; omega) = F o := by
  rw [← at_get]; exact at_off hk ho
theorem delL_ranked {k0 : Nat} {r : Int → Nat} (hk : k0 < 16) : ∀ (n i o0 H : Nat) (F : Nat → Sl), n + i = 16 → 1 ≤ i → Dl k0 r F o0 i H → ∃ G, delL k0 n ((k0 + o0) % 16) (QF k0 F) = QF k0 G ∧ Ranked k0 r G ∧ (nf (QF k0 G)).Perm (nf (QF k0 F))
  | 0, i, o0, H, F, hni, h1, h => ⟨F, rfl, dl_ranked h (.inl (by omega)), .refl _⟩
  | n + 1, i, o0, H, F, hni, h1, h => by
    have hi : i < 16 := by omega
    have hlt := h.lt
    have e : (k0 + (15 - n)) % 16 = (k0 + i) % 16 := by omega
    rw [delL, e, at_off hk hi]
    cases hf : free (F i)
    · rw [if_neg (by simp), w_off hk, w_off hk]
      by_cases hw : W (F i).p k0 o0 < W (F i).p k0 i
      · rw [if_pos hw]
        have hx : ((QF k0 F).set ((k0 + o0) % 16) (F i)).set ((k0 + i) % 16) z = QF k0 (mv F o0 i) := by
          rw [qf_set hk (by omega), qf_set hk hi]; rfl
        obtain ⟨G, g1, g2, g3⟩ := delL_ranked hk n (i + 1) i _ _ (by omega) (by omega) (dl_move h hi hf hw)
        rw [hx]
        refine ⟨G, g1, g2, g3.trans ?_⟩
        rw [← hx]
        have hkl : (k0 + o0) % 16 < (QF k0 F).length := by rw [qf_len]; omega
        have hjl : (k0 + i) % 16 < (QF k0 F).length := by rw [qf_len]; omega
        have := nf_move hkl hjl (by omega) (by rw [qf_eq hk (by omega), h.a]; rfl) (by rw [qf_eq hk hi]; exact hf)
        rw [qf_eq hk hi] at this
        exact this
      · rw [if_neg hw]
        exact delL_ranked hk n (i + 1) o0 H F (by omega) (by omega) (dl_stay h hi hw)
    · rw [if_pos rfl]
      exact ⟨F, rfl, dl_ranked h (.inr ⟨hi, hf⟩), .refl _⟩
end Ta
end Go.Proofs.YtcbfhpnmhhnjpaaGreat

