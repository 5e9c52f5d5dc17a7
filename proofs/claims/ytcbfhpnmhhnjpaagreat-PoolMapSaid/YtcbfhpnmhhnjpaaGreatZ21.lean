import Derived.Test.YtcbfhpnmhhnjpaaGreatZ20
set_option linter.unusedVariables false
set_option linter.unusedSimpArgs false
namespace Go.Proofs.YtcbfhpnmhhnjpaaGreat
open Go.RowKit
structure Keeps (w w' : Wk) : Prop where
  run : ∃ l, w'.done = w.done ++ l ∧ w'.d = Jn.runJ w.d l
  now : w'.now = w.now
  len : w'.f.pg.length = w.f.pg.length
theorem Keeps.refl (w : Wk) : Keeps w w := ⟨⟨[], by simp, rfl⟩, rfl, rfl⟩
theorem runJ_append {d : Dk} {a b : List Jo} : Jn.runJ d (a ++ b) = Jn.runJ (Jn.runJ d a) b := by unfold Jn.runJ; rw [List.foldl_append]
theorem Keeps.trans {a b c : Wk} (h : Keeps a b) (h' : Keeps b c) : Keeps a c := by
  obtain ⟨l, e1, e2⟩ := h.run
  obtain ⟨l', e3, e4⟩ := h'.run
  exact ⟨⟨l ++ l', by rw [e3, e1, List.append_assoc], by rw [e4, e2, runJ_append]⟩, h'.now.trans h.now, h'.len.trans h.len⟩
theorem set_run {d : Dk} {p : Pg} (h : okP p = true) : (setS d p).1 = Jn.runJ d (stepsS d p) := by
  have h2 := okP_iff.1 h
  unfold setS stepsS
  rw [if_pos (Or.inl (by omega)), put_ok2 h, if_neg (by simp), if_neg (by simp)]
  rfl
def allPin (f : Fs) : Bool := f.ck.fr.all fun c => decide (0 < c.pins)
def anyFree (f : Fs) : Bool := f.pg.any fun p => p.id == 0
theorem free_not {f : Fs} (h : Rt f) (ha : anyFree f = true) : allPin f = false := by
  unfold anyFree at ha
  rw [List.any_eq_true] at ha
  obtain ⟨p, hp, he⟩ := ha
  obtain ⟨k, hk, rfl⟩ := List.getElem_of_mem hp
  have hc : k < f.ck.fr.length := by have := h.same; omega
  have hz : f.pg[k].id = 0 := by simpa using he
  have hpg := (page_id h hk).2 hz
  have ho := h.all k hk
  unfold Fm.okAt at ho
  rw [fr_getD hc, if_pos hpg] at ho
  rw [Bool.and_eq_true] at ho
  have : f.ck.fr[k].pins = 0 := by simpa using ho.2
  unfold allPin
  rw [List.all_eq_false]
  exact ⟨_, List.getElem_mem hc, by simp [this]⟩
theorem room_c {f : Fs} (h : Rt f) (ha : anyFree f = false) (hp : allPin f = false) :
    ∃ (k : Nat) (hk : k < f.pg.length) (hc : k < f.ck.fr.length), f.pg[k].id ≠ 0 ∧ f.ck.fr[k].pins = 0 ∧ (sweepC f.ck).2.2 = true ∧
      ((sinceI f.dt f.pg[k].id).2 = false ∧ Fm.room f = (Fm.empty ⟨(sweepC f.ck).1, f.tb, f.pg, f.dt⟩ k, f.pg[k], false, 0) ∨
        (sinceI f.dt f.pg[k].id).2 = true ∧ Fm.room f = (⟨(sweepC f.ck).1, f.tb, f.pg, f.dt⟩, f.pg[k], true, 0)) := by
  have hr := rt_iff.2 h
  have hff : ¬ 0 ≤ Fm.ff f := fun hx => by
    have := fst_neg.1 hx
    rw [any_same h] at this
    unfold anyFree at ha
    rw [ha] at this; cases this
  have hw := sweep_some h hp
  obtain ⟨k, e1, hc, e2, hrt⟩ := rt_sweep h hw
  have hk : k < f.pg.length := by have := h.same; omega
  have hz : f.pg[k].id ≠ 0 := fun e => by
    unfold anyFree at ha
    rw [List.any_eq_false] at ha
    exact ha _ (List.getElem_mem hk) (by rw [e]; rfl)
  refine ⟨k, hk, hc, hz, e2, hw, ?_⟩
  cases hd : (sinceI f.dt f.pg[k].id).2
  · left
    refine ⟨rfl, ?_⟩
    unfold Fm.room; rw [if_neg (by simp [hr]), if_neg hff, if_neg (by simp [hw]), e1, Int.toNat_natCast, pg_getD hk, if_neg (by simp [hd])]
  · right
    refine ⟨rfl, ?_⟩
    unfold Fm.room; rw [if_neg (by simp [hr]), if_neg hff, if_neg (by simp [hw]), e1, Int.toNat_natCast, pg_getD hk, if_pos hd]
theorem sweep_len {c : Clk} (hw : (sweepC c).2.2 = true) : (sweepC c).1.fr.length = c.fr.length := by
  have hr : Ck.right c.fr c.hand = true := by
    unfold sweepC at hw
    split at hw
    · rename_i h; exact h
    · exact Bool.noConfusion hw
  cases e : Ck.stop c.fr c.hand.toNat with
  | none => unfold sweepC at hw; rw [if_pos hr, e] at hw; exact Bool.noConfusion hw
  | some N =>
    have es : (sweepC c).1.fr = Ck.after c.fr c.hand.toNat N := by unfold sweepC; rw [if_pos hr, e]
    rw [es, Ck.after_length]
theorem sweep_allPin {f : Fs} (hw : (sweepC f.ck).2.2 = true) {tb pg dt} : allPin ⟨(sweepC f.ck).1, tb, pg, dt⟩ = allPin f := by
  have hl := sweep_len hw
  unfold allPin
  rw [Bool.eq_iff_iff, List.all_eq_true, List.all_eq_true]
  constructor
  · intro h x hx
    obtain ⟨k, hk, rfl⟩ := List.getElem_of_mem hx
    have := h _ (List.getElem_mem (show k < (sweepC f.ck).1.fr.length by omega))
    rw [sweep_pins hw hk] at this
    exact this
  · intro h x hx
    obtain ⟨k, hk, rfl⟩ := List.getElem_of_mem hx
    have hk' : k < (sweepC f.ck).1.fr.length := hk
    show decide (0 < ((sweepC f.ck).1.fr[k]'hk').pins) = true
    rw [sweep_pins hw (show k < f.ck.fr.length by omega)]
    exact h _ (List.getElem_mem _)
namespace Gp
variable {w : Wk} {D M : List Pg} {W : Int → Int}
theorem back_keeps (h : Gp w D M W) {k : Nat} (hk : k < w.f.pg.length) (hz : w.f.pg[k].id ≠ 0) : Keeps w (Po.back w w.f.pg[k]) := by
  obtain ⟨e1, e2, e3, e4⟩ := h.back_eq hk hz
  have hok := (rt_at h.rt hk hz).2.1
  exact ⟨⟨_, e4, by rw [e2, set_run (okP_of hok)]⟩, e3, by rw [e1]⟩
theorem swept (h : Gp w D M W) (hw : (sweepC w.f.ck).2.2 = true) : Gp ⟨⟨(sweepC w.f.ck).1, w.f.tb, w.f.pg, w.f.dt⟩, w.d, w.now, w.done⟩ D M W :=
  ⟨kf_sweep h.kf hw, h.disk, h.len, h.now, h.dnow, h.pages, h.clean⟩
theorem gone (h : Gp w D M W) {k : Nat} (hk : k < w.f.pg.length) (hc : k < w.f.ck.fr.length) (hz : w.f.pg[k].id ≠ 0) (hp : w.f.ck.fr[k].pins = 0) (hd : ¬ hasI w.f.dt w.f.pg[k].id) :
    Gp ⟨Fm.empty w.f k, w.d, w.now, w.done⟩ D M W ∧ (Fm.empty w.f k).dt = w.f.dt ∧ (Fm.empty w.f k).pg = w.f.pg.set k zP := by
  have e1 : (Fm.empty w.f k).dt = w.f.dt := by show (cleanI w.f.dt (w.f.pg.getD k zP).id).1 = _; rw [pg_getD hk, clean_no h.dyr hd]
  refine ⟨⟨kf_empty h.kf hk hz hp, h.disk, h.len, h.now, ?_, ?_, ?_⟩, e1, rfl⟩
  · show ∀ i ∈ (Fm.empty w.f k).dt, _
    rw [e1]; exact h.dnow
  · intro j hj hjz
    have hj2 : j < (w.f.pg.set k zP).length := hj
    have hj3 : j < w.f.pg.length := by simpa using hj2
    have e2 : (Fm.empty w.f k).pg[j]'hj = if k = j then zP else w.f.pg[j] := by show (w.f.pg.set k zP)[j] = _; rw [List.getElem_set]
    have e3 : ((⟨Fm.empty w.f k, w.d, w.now, w.done⟩ : Wk).f.pg[j]'hj) = if k = j then zP else w.f.pg[j] := e2
    rw [e3] at hjz ⊢
    by_cases e : k = j
    · rw [if_pos e] at hjz; exact absurd rfl hjz
    · rw [if_neg e] at hjz ⊢; exact h.pages j hj3 hjz
  · show ∀ q : Nat, 1 ≤ q → q ≤ 16 → ¬ hasI (Fm.empty w.f k).dt q → _
    rw [e1]; exact h.clean
theorem room : ∀ (n : Nat) {w : Wk} {D : List Pg}, Gp w D M W → w.f.dt.length < n →
    ∃ D', Gp (Po.room n w).1 D' M W ∧ Keeps w (Po.room n w).1 ∧ (Po.room n w).1.done.length + 10 * (Po.room n w).1.f.dt.length = w.done.length + 10 * w.f.dt.length ∧
      (∀ p ∈ (Po.room n w).1.f.pg, p = zP ∨ p ∈ w.f.pg) ∧ (allPin w.f = true ∧ Po.room n w = (w, 6) ∧ D' = D ∨ allPin w.f = false ∧ (Po.room n w).2 = 0 ∧ anyFree (Po.room n w).1.f = true)
  | 0, w, D, h, hn => by omega
  | n + 1, w, D, h, hn => by
    cases ha : anyFree w.f
    · cases hp : allPin w.f
      · obtain ⟨k, hk, hc, hz, hpin, hw, hcase⟩ := room_c h.rt ha hp
        have hs := h.swept hw
        rcases hcase with ⟨hd, e⟩ | ⟨hd, e⟩
        · have hnd : ¬ hasI w.f.dt w.f.pg[k].id := fun hi => by rw [(since_iff h.dyr).2 hi] at hd; cases hd
          obtain ⟨g1, g2, g3⟩ := hs.gone (k := k) hk (by show k < (sweepC w.f.ck).1.fr.length; rw [sweep_len hw]; exact hc) hz (by show ((sweepC w.f.ck).1.fr[k]'_).pins = 0; rw [sweep_pins hw hc]; exact hpin) hnd
          have er : Po.room (n + 1) w = (⟨Fm.empty ⟨(sweepC w.f.ck).1, w.f.tb, w.f.pg, w.f.dt⟩ k, w.d, w.now, w.done⟩, 0) := by
            unfold Po.room Po.room1 Po.turn
            rw [e, if_pos (Or.inr rfl)]
            rfl
          rw [er]
          refine ⟨D, g1, ⟨⟨[], by simp, rfl⟩, rfl, ?_⟩, ?_, ?_, .inr ⟨rfl, rfl, ?_⟩⟩
          · show (Fm.empty _ k).pg.length = _
            rw [g3, List.length_set]
          · show w.done.length + 10 * (Fm.empty _ k).dt.length = _
            rw [g2]
          · show ∀ p ∈ (Fm.empty _ k).pg, _
            rw [g3]
            intro p hp
            exact (List.mem_or_eq_of_mem_set hp).symm
          · show anyFree (Fm.empty _ k) = true
            unfold anyFree
            rw [g3, List.any_eq_true]
            exact ⟨zP, List.mem_iff_getElem.2 ⟨k, by rw [List.length_set]; exact hk, by rw [List.getElem_set, if_pos rfl]⟩, rfl⟩
        · have hi : hasI w.f.dt w.f.pg[k].id := (since_iff h.dyr).1 hd
          have hb : Gp (Po.back ⟨⟨(sweepC w.f.ck).1, w.f.tb, w.f.pg, w.f.dt⟩, w.d, w.now, w.done⟩ w.f.pg[k]) (D.set w.f.pg[k].id.toNat w.f.pg[k]) M W := hs.back (k := k) hk hz
          have hbe : (Po.back ⟨⟨(sweepC w.f.ck).1, w.f.tb, w.f.pg, w.f.dt⟩, w.d, w.now, w.done⟩ w.f.pg[k]).f = ⟨(sweepC w.f.ck).1, w.f.tb, w.f.pg, (cleanI w.f.dt w.f.pg[k].id).1⟩ ∧ (Po.back ⟨⟨(sweepC w.f.ck).1, w.f.tb, w.f.pg, w.f.dt⟩, w.d, w.now, w.done⟩ w.f.pg[k]).d = (setS w.d w.f.pg[k]).1 ∧ (Po.back ⟨⟨(sweepC w.f.ck).1, w.f.tb, w.f.pg, w.f.dt⟩, w.d, w.now, w.done⟩ w.f.pg[k]).now = w.now ∧ (Po.back ⟨⟨(sweepC w.f.ck).1, w.f.tb, w.f.pg, w.f.dt⟩, w.d, w.now, w.done⟩ w.f.pg[k]).done = w.done ++ stepsS w.d w.f.pg[k] := hs.back_eq (k := k) hk hz
          obtain ⟨b1, b2, b3, b4⟩ := hbe
          have hkp : Keeps ⟨⟨(sweepC w.f.ck).1, w.f.tb, w.f.pg, w.f.dt⟩, w.d, w.now, w.done⟩ (Po.back ⟨⟨(sweepC w.f.ck).1, w.f.tb, w.f.pg, w.f.dt⟩, w.d, w.now, w.done⟩ w.f.pg[k]) := hs.back_keeps (k := k) hk hz
          have hlen := (clean_yes h.dyr hi).2
          have hok := (rt_at h.rt hk hz).2.1
          obtain ⟨s, es, ks⟩ := h.disk
          have hst : (stepsS w.d w.f.pg[k]).length = 10 := by rw [es, steps_set Jn.h35 ks.ok (okP_of hok)]; rfl
          have er : Po.room (n + 1) w = Po.room n (Po.back ⟨⟨(sweepC w.f.ck).1, w.f.tb, w.f.pg, w.f.dt⟩, w.d, w.now, w.done⟩ w.f.pg[k]) := by
            conv => lhs; unfold Po.room Po.room1 Po.turn
            rw [e, if_neg (by simp)]
            rfl
          have hdt : (Po.back ⟨⟨(sweepC w.f.ck).1, w.f.tb, w.f.pg, w.f.dt⟩, w.d, w.now, w.done⟩ w.f.pg[k]).f.dt.length + 1 = w.f.dt.length := by rw [b1]; exact hlen
          have hap : allPin (Po.back ⟨⟨(sweepC w.f.ck).1, w.f.tb, w.f.pg, w.f.dt⟩, w.d, w.now, w.done⟩ w.f.pg[k]).f = false := by
            rw [b1]
            have := sweep_allPin (f := w.f) hw (tb := w.f.tb) (pg := w.f.pg) (dt := (cleanI w.f.dt w.f.pg[k].id).1)
            rw [hp] at this
            exact this
          obtain ⟨D', r1, r2, r3, r5, r4⟩ := room n hb (by omega)
          rw [er]
          refine ⟨D', r1, Keeps.trans (b := ⟨⟨(sweepC w.f.ck).1, w.f.tb, w.f.pg, w.f.dt⟩, w.d, w.now, w.done⟩) ⟨⟨[], by simp, rfl⟩, rfl, rfl⟩ (hkp.trans r2), ?_, fun p hp => ?_, .inr ⟨rfl, ?_⟩⟩
          · rw [r3, b4, List.length_append]
            omega
          · have := r5 p hp
            rw [b1] at this
            exact this
          · rcases r4 with ⟨q1, _⟩ | ⟨_, q2, q3⟩
            · rw [hap] at q1; cases q1
            · exact ⟨q2, q3⟩
      · have e := room_busy h.rt ha hp
        have er : Po.room (n + 1) w = (w, 6) := by
          unfold Po.room Po.room1 Po.turn
          rw [e, if_pos (Or.inl (by simp))]
          rfl
        rw [er]
        exact ⟨D, h, Keeps.refl w, rfl, fun p hp => .inr hp, .inl ⟨rfl, rfl, rfl⟩⟩
    · have e := room_free h.rt ha
      have er : Po.room (n + 1) w = (w, 0) := by
        unfold Po.room Po.room1 Po.turn
        rw [e, if_pos (Or.inr rfl)]
        rfl
      rw [er]
      exact ⟨D, h, Keeps.refl w, rfl, fun p hp => .inr hp, .inr ⟨free_not h.rt ha, rfl, ha⟩⟩
end Gp
end Go.Proofs.YtcbfhpnmhhnjpaaGreat

namespace Go.Proofs.YtcbfhpnmhhnjpaaGreat
open Go.RowKit
theorem last_le {l : List It} {now : Int} (h0 : 0 ≤ now) (h : ∀ i ∈ l, i.since ≤ now) : Dy.last l ≤ now := by
  unfold Dy.last
  cases e : l.getLast? with
  | none => exact h0
  | some a => exact h a (List.mem_of_getLast? e)
theorem mark_new {l : List It} {p now : Int} (hr : Dy.right l = true) (hp : 1 ≤ p ∧ p ≤ 16) (hn : 0 ≤ now ∧ now ≤ 2147483647) (h : ∀ i ∈ l, i.since ≤ now) (hno : ¬ hasI l p) : markI l p now = (l ++ [⟨p, now⟩], 0) := by
  have hl := last_le hn.1 h
  unfold markI
  rw [if_neg (by rw [hr]; simp; omega)]
  rcases Dy.at_cases l p with ⟨e, _⟩ | ⟨k, hk, e, hkp, _⟩
  · rw [if_neg (by omega)]
  · exact absurd ⟨_, List.getElem_mem hk, hkp⟩ hno
theorem mark_old {l : List It} {p now : Int} (hr : Dy.right l = true) (hp : 1 ≤ p ∧ p ≤ 16) (hn : 0 ≤ now ∧ now ≤ 2147483647) (h : ∀ i ∈ l, i.since ≤ now) (hy : hasI l p) : markI l p now = (l, 0) := by
  have hl := last_le hn.1 h
  unfold markI
  rw [if_neg (by rw [hr]; simp; omega)]
  rcases Dy.at_cases l p with ⟨e, hno⟩ | ⟨k, hk, e, hkp, _⟩
  · obtain ⟨i, hi, hip⟩ := hy; exact absurd hip (hno i hi)
  · rw [if_pos (by omega)]
theorem hasI_snoc {l : List It} {a : It} {q : Int} : hasI (l ++ [a]) q ↔ hasI l q ∨ a.page = q := by
  unfold hasI
  constructor
  · rintro ⟨i, hi, e⟩
    rcases List.mem_append.1 hi with hi | hi
    · exact .inl ⟨i, hi, e⟩
    · rw [List.mem_singleton.1 hi] at e; exact .inr e
  · rintro (⟨i, hi, e⟩ | e)
    · exact ⟨i, by simp [hi], e⟩
    · exact ⟨a, by simp, e⟩
theorem getM_set {M : List Pg} (hl : M.length = 17) {i : Nat} (hi : i ≤ 16) {q : Nat} {p : Pg} : (M.set i p).getD q zP = if i = q then p else M.getD q zP := getD_set (by omega)
namespace Gp
variable {w : Wk} {D M : List Pg} {W : Int → Int}
theorem load (h : Gp w D M W) (ha : anyFree w.f = true) {p : Pg} (hp : okPg p = true) (hf : (Ta.find w.f.tb p.id).2 = false) (fresh : Bool) (hM : fresh = false → M.getD p.id.toNat zP = p) :
    ∃ w', Po.load1 w p fresh = (w', p, 0) ∧ Gp w' D (M.set p.id.toNat p) (upW W p.id 1) ∧ Keeps w w' ∧ w'.done = w.done ∧ w'.f.dt.length ≤ w.f.dt.length + 1 := by
  have hid := okPg_id hp
  have hid2 : p.id.toNat ≤ 16 := by omega
  have hff : 0 ≤ Fm.ff w.f := fst_neg.2 (by rw [any_same h.rt]; exact ha)
  obtain ⟨k, hk⟩ : ∃ k : Nat, Fm.ff w.f = k := ⟨(Fm.ff w.f).toNat, by omega⟩
  obtain ⟨hkc, hkz⟩ := fst_prop (show fst? (fun c : Fr => c.page == 0) w.f.ck.fr = (k : Int) from hk)
  have hkp : k < w.f.pg.length := by have := h.rt.same; omega
  have hz : w.f.pg[k].id = 0 := (page_id h.rt hkp).1 (by simpa using hkz)
  have hkf := kf_load h.kf hkp hz hp hf
  have hno : ¬ hasI w.f.dt p.id := fun hi => by have := h.has_framed hi; rw [hf] at this; cases this
  have hl0 : (if Fm.right w.f = false ∨ okPg p = false ∨ w.now < 0 ∨ 2147483647 < w.now then (1 : Int) else 0) = 0 := by
    rw [if_neg]; rw [rt_iff.2 h.rt, hp]; have := h.now; simp; omega
  have hc1 : ¬ (Fm.right w.f = false ∨ okPg p = false ∨ w.now < 0 ∨ 2147483647 < w.now) := by
    rw [rt_iff.2 h.rt, hp]; have := h.now; simp; omega
  have hmk := mark_new h.dyr hid h.now h.dnow hno
  have pages : ∀ (f : Fs), f.pg = w.f.pg.set k p → ∀ j (hj : j < f.pg.length), f.pg[j].id ≠ 0 → (M.set p.id.toNat p).getD f.pg[j].id.toNat zP = f.pg[j] := by
    intro f hfp j hj hjz
    have e : f.pg[j] = if k = j then p else w.f.pg[j]'(by rw [hfp] at hj; simpa using hj) := by simp only [hfp]; rw [List.getElem_set]
    rw [e] at hjz ⊢
    by_cases ekj : k = j
    · rw [if_pos ekj, getM_set h.len hid2, if_pos rfl]
    · rw [if_neg ekj] at hjz ⊢
      have hj2 : j < w.f.pg.length := by rw [hfp] at hj; simpa using hj
      have hok := (rt_at h.rt hj2 hjz).2.1
      have hfj := (rt_at h.rt hj2 hjz).2.2
      have hij := okPg_id hok
      have hne : p.id ≠ w.f.pg[j].id := fun e => by rw [e, hfj] at hf; cases hf
      rw [getM_set h.len hid2, if_neg (by omega)]
      exact h.pages j hj2 hjz
  cases fresh
  · have e : Po.load1 w p false = (⟨⟨⟨w.f.ck.fr.set k ⟨p.id, 1, true⟩, w.f.ck.hand⟩, (Ta.put w.f.tb p.id (k : Int)).1, w.f.pg.set k p, w.f.dt⟩, w.d, w.now, w.done⟩, p, 0) := by
      have hld : Fm.load w.f p w.now false = (⟨⟨w.f.ck.fr.set k ⟨p.id, 1, true⟩, w.f.ck.hand⟩, (Ta.put w.f.tb p.id (k : Int)).1, w.f.pg.set k p, w.f.dt⟩, 0) := by
        unfold Fm.load
        rw [if_neg hc1, if_neg (by rw [hf]; simp), if_neg (by omega), hk, Int.toNat_natCast]
        simp
      unfold Po.load1 Po.turn
      rw [hld]
      simp
    refine ⟨_, e, ⟨hkf, h.disk, by rw [List.length_set]; exact h.len, h.now, h.dnow, pages _ rfl, ?_⟩, ⟨⟨[], by simp, rfl⟩, rfl, by simp⟩, rfl, by simp⟩
    intro q h1 h2 hn
    rw [getM_set h.len hid2]
    by_cases e2 : p.id.toNat = q
    · rw [if_pos e2, ← hM rfl, ← e2]
      exact h.clean p.id.toNat (by omega) (by omega) (by rw [show ((p.id.toNat : Nat) : Int) = p.id by omega]; exact hno)
    · rw [if_neg e2]; exact h.clean q h1 h2 hn
  · have e : Po.load1 w p true = (⟨⟨⟨w.f.ck.fr.set k ⟨p.id, 1, true⟩, w.f.ck.hand⟩, (Ta.put w.f.tb p.id (k : Int)).1, w.f.pg.set k p, w.f.dt ++ [⟨p.id, w.now⟩]⟩, w.d, w.now, w.done⟩, p, 0) := by
      have hld : Fm.load w.f p w.now true = (⟨⟨w.f.ck.fr.set k ⟨p.id, 1, true⟩, w.f.ck.hand⟩, (Ta.put w.f.tb p.id (k : Int)).1, w.f.pg.set k p, w.f.dt ++ [⟨p.id, w.now⟩]⟩, 0) := by
        unfold Fm.load Fm.mark
        rw [if_neg hc1, if_neg (by rw [hf]; simp), if_neg (by omega), hk, Int.toNat_natCast]
        simp [hmk]
      unfold Po.load1 Po.turn
      rw [hld]
      simp
    have hrt2 : Rt ⟨⟨w.f.ck.fr.set k ⟨p.id, 1, true⟩, w.f.ck.hand⟩, (Ta.put w.f.tb p.id (k : Int)).1, w.f.pg.set k p, w.f.dt ++ [⟨p.id, w.now⟩]⟩ := by
      have h2 := rt_load h.rt hkp hz hp hf
      have := rt_mark (id := p.id) (now := w.now) h2.1 (by show (Ta.find (Ta.put w.f.tb p.id (k : Int)).1 p.id).2 = true; rw [h2.2])
      unfold Fm.mark at this
      simp only [hmk] at this
      exact this
    refine ⟨_, e, ⟨kf_dirty hkf hrt2, h.disk, by rw [List.length_set]; exact h.len, h.now, ?_, pages _ rfl, ?_⟩, ⟨⟨[], by simp, rfl⟩, rfl, by simp⟩, rfl, by simp⟩
    · intro i hi
      rcases List.mem_append.1 hi with hi | hi
      · exact h.dnow i hi
      · rw [List.mem_singleton.1 hi]; exact Int.le_refl _
    · intro q h1 h2 hn
      have hn2 : ¬ (hasI w.f.dt q ∨ p.id = q) := fun hx => hn (hasI_snoc.2 hx)
      rw [getM_set h.len hid2, if_neg (by omega)]
      exact h.clean q h1 h2 fun hx => hn2 (.inl hx)
theorem lay (h : Gp w D M W) {k : Nat} (hk : k < w.f.pg.length) (hz : w.f.pg[k].id ≠ 0) {x : Fr} {p : Pg} {dt : List It} (hx : Ck.good x = true) (h1 : x.page = w.f.pg[k].id) (h2 : p.id = w.f.pg[k].id) (h3 : okPg p = true)
    (hr : Rt ⟨w.f.ck, w.f.tb, w.f.pg, dt⟩) (hdn : ∀ i ∈ dt, i.since ≤ w.now) (hd : ∀ q, hasI w.f.dt q → hasI dt q) (hp : p = w.f.pg[k] ∨ hasI dt p.id) :
    Gp ⟨Fm.lay ⟨w.f.ck, w.f.tb, w.f.pg, dt⟩ k x p, w.d, w.now, w.done⟩ D (M.set p.id.toNat p) (upW W w.f.pg[k].id x.pins) := by
  have hid := okPg_id h3
  have hkf := kf_lay (kf_dirty h.kf hr) (k := k) hk hz (x := x) (p := p) hx h1 h2 h3
  refine ⟨hkf, h.disk, by rw [List.length_set]; exact h.len, h.now, hdn, ?_, ?_⟩
  · intro j hj hjz
    have hj2 : j < w.f.pg.length := by have : j < (w.f.pg.set k p).length := hj; simpa using this
    have e0 : ((⟨Fm.lay ⟨w.f.ck, w.f.tb, w.f.pg, dt⟩ k x p, w.d, w.now, w.done⟩ : Wk).f.pg[j]'hj) = if k = j then p else w.f.pg[j] := List.getElem_set (l := w.f.pg) (i := k) (j := j) (a := p) hj
    rw [e0] at hjz ⊢
    by_cases ekj : k = j
    · rw [if_pos ekj, getM_set h.len (by omega), if_pos rfl]
    · rw [if_neg ekj] at hjz ⊢
      have hij := okPg_id (rt_at h.rt hj2 hjz).2.1
      have hne : p.id ≠ w.f.pg[j].id := fun e => ekj (ids_apart h.rt hk hj2 hz (by rw [← h2, e]))
      rw [getM_set h.len (by omega), if_neg (by omega)]
      exact h.pages j hj2 hjz
  · intro q q1 q2 hn
    have hn' : ¬ hasI dt q := hn
    rw [getM_set h.len (by omega)]
    by_cases e : p.id.toNat = q
    · rw [if_pos e]
      have e2 : p.id = q := by omega
      rcases hp with hp | hp
      · have := h.clean q q1 q2 fun hi => hn' (hd _ hi)
        rw [← this, ← e, hp]
        exact (h.pages k hk hz).symm
      · rw [e2] at hp; exact absurd hp hn'
    · rw [if_neg e]; exact h.clean q q1 q2 fun hi => hn' (hd _ hi)
theorem set_same (h : Gp w D M W) {i : Nat} (hi : i ≤ 16) {p : Pg} (hp : M.getD i zP = p) : M.set i p = M := by
  have hl := h.len
  refine List.ext_getElem (by simp) fun j h1 h2 => ?_
  rw [List.getElem_set]
  split
  · rename_i e; subst e
    rw [← hp, List.getD_eq_getElem?_getD, List.getElem?_eq_getElem h2]; rfl
  · rfl
theorem good_at (h : Gp w D M W) {k : Nat} (hc : k < w.f.ck.fr.length) : 0 ≤ w.f.ck.fr[k].page ∧ w.f.ck.fr[k].page ≤ 16 ∧ 0 ≤ w.f.ck.fr[k].pins ∧ w.f.ck.fr[k].pins ≤ 2147483647 := by
  have := (right_fr h.rt.clock).2.2.2 _ (List.getElem_mem hc)
  unfold Ck.good at this
  rwa [decide_eq_true_iff] at this
theorem at_loc (h : Gp w D M W) {id : Int} {k : Nat} (hk : k < w.f.pg.length) (hc : k < w.f.ck.fr.length) (hf : Ta.find w.f.tb id = ((k : Int), true)) : Fm.locate w.f id = ((k : Int), 0) ∧ Fm.fa w.f id = w.f.ck.fr[k] ∧ Fm.pa w.f id = w.f.pg[k] := by
  have hl := h.locate hf
  refine ⟨hl, ?_, ?_⟩
  · unfold Fm.fa; rw [hl]; exact fr_getD hc
  · unfold Fm.pa; rw [hl]; exact pg_getD hk
theorem pin (h : Gp w D M W) {id : Int} (hid : 1 ≤ id ∧ id ≤ 16) {k : Nat} (hk : k < w.f.pg.length) (hc : k < w.f.ck.fr.length) (hf : Ta.find w.f.tb id = ((k : Int), true)) (e2 : w.f.pg[k].id = id) (hW : W id < 2147483647) :
    ∃ f, Fm.pin w.f id = (f, 0) ∧ Gp ⟨f, w.d, w.now, w.done⟩ D M (upW W id (W id + 1)) ∧ f.pg.length = w.f.pg.length ∧ f.dt = w.f.dt := by
  obtain ⟨hl, h1, h2⟩ := h.at_loc hk hc hf
  have hz : w.f.pg[k].id ≠ 0 := by omega
  have hp := h.kf.pins k hk hz
  have hg := h.good_at hc
  obtain ⟨b1, b2, _⟩ := rt_at h.rt hk hz
  have hM := h.pages k hk hz
  have e : Fm.pin w.f id = (Fm.lay w.f k ⟨w.f.ck.fr[k].page, w.f.ck.fr[k].pins + 1, true⟩ w.f.pg[k], 0) := by
    unfold Fm.pin
    rw [hl, h1, h2]
    rw [if_neg (by simp), if_neg (by rw [hp, e2]; omega)]
    rfl
  refine ⟨_, e, ?_, by show (w.f.pg.set k _).length = _; simp, rfl⟩
  have := h.lay hk hz (x := ⟨w.f.ck.fr[k].page, w.f.ck.fr[k].pins + 1, true⟩) (p := w.f.pg[k]) (dt := w.f.dt) (by unfold Ck.good; rw [decide_eq_true_iff]; simp only; rw [hp, e2] at hg ⊢; omega) b1 rfl b2 h.rt h.dnow (fun _ hi => hi) (.inl rfl)
  rw [h.set_same (by omega) hM, hp, e2] at this
  have e' : w.f.ck.fr[k].pins = W id := by rw [hp, e2]
  rw [e']
  exact this
theorem unpin (h : Gp w D M W) {id : Int} (hid : 1 ≤ id ∧ id ≤ 16) {k : Nat} (hk : k < w.f.pg.length) (hc : k < w.f.ck.fr.length) (hf : Ta.find w.f.tb id = ((k : Int), true)) (e2 : w.f.pg[k].id = id) (hW : 0 < W id) :
    ∃ f, Fm.unpin w.f id = (f, 0) ∧ Gp ⟨f, w.d, w.now, w.done⟩ D M (upW W id (W id - 1)) ∧ f.pg.length = w.f.pg.length ∧ f.dt = w.f.dt := by
  obtain ⟨hl, h1, h2⟩ := h.at_loc hk hc hf
  have hz : w.f.pg[k].id ≠ 0 := by omega
  have hp := h.kf.pins k hk hz
  have hg := h.good_at hc
  obtain ⟨b1, b2, _⟩ := rt_at h.rt hk hz
  have hM := h.pages k hk hz
  have e : Fm.unpin w.f id = (Fm.lay w.f k ⟨w.f.ck.fr[k].page, w.f.ck.fr[k].pins - 1, w.f.ck.fr[k].used⟩ w.f.pg[k], 0) := by
    unfold Fm.unpin
    rw [hl]
    simp only [Int.toNat_natCast]
    rw [fr_getD hc, pg_getD hk, if_neg (by simp), if_neg (by rw [hp, e2]; omega)]
  refine ⟨_, e, ?_, by show (w.f.pg.set k _).length = _; simp, rfl⟩
  have := h.lay hk hz (x := ⟨w.f.ck.fr[k].page, w.f.ck.fr[k].pins - 1, w.f.ck.fr[k].used⟩) (p := w.f.pg[k]) (dt := w.f.dt) (by unfold Ck.good; rw [decide_eq_true_iff]; simp only; rw [hp, e2] at hg ⊢; omega) b1 rfl b2 h.rt h.dnow (fun _ hi => hi) (.inl rfl)
  rw [h.set_same (by omega) hM, hp, e2] at this
  have e' : w.f.ck.fr[k].pins = W id := by rw [hp, e2]
  rw [e']
  exact this
theorem write (h : Gp w D M W) {id : Int} (hid : 1 ≤ id ∧ id ≤ 16) {k : Nat} (hk : k < w.f.pg.length) (hc : k < w.f.ck.fr.length) (hf : Ta.find w.f.tb id = ((k : Int), true)) (e2 : w.f.pg[k].id = id) (hW : 0 < W id) (b : ByteArray) :
    (16 < b.size ∧ (Fm.write w.f id b w.now).2 = 5) ∨ (b.size ≤ 16 ∧ w.f.pg[k].ver = 2147483647 ∧ (Fm.write w.f id b w.now).2 = 7) ∨ (b.size ≤ 16 ∧ w.f.pg[k].ver < 2147483647 ∧
      ∃ f, Fm.write w.f id b w.now = (f, 0) ∧ Gp ⟨f, w.d, w.now, w.done⟩ D (M.set id.toNat ⟨id, w.f.pg[k].ver + 1, b⟩) W ∧ f.pg.length = w.f.pg.length ∧ f.dt.length ≤ w.f.dt.length + 1) := by
  obtain ⟨hl, h1, h2⟩ := h.at_loc hk hc hf
  have hz : w.f.pg[k].id ≠ 0 := by omega
  have hp := h.kf.pins k hk hz
  have hg := h.good_at hc
  obtain ⟨b1, b2, b3⟩ := rt_at h.rt hk hz
  have hok : 1 ≤ w.f.pg[k].id ∧ w.f.pg[k].id ≤ 16 ∧ 1 ≤ w.f.pg[k].ver ∧ w.f.pg[k].ver ≤ 2147483647 ∧ w.f.pg[k].body.size ≤ 16 := by
    unfold okPg at b2; rwa [decide_eq_true_iff] at b2
  unfold Fm.write
  rw [hl, h1, h2, if_neg (by simp), if_neg (by rw [hp, e2]; omega)]
  by_cases c1 : 16 < b.size
  · left; rw [if_pos c1]; exact ⟨c1, rfl⟩
  rw [if_neg c1]
  by_cases c2 : w.f.pg[k].ver = 2147483647
  · right; left; rw [if_pos c2]; exact ⟨by omega, c2, rfl⟩
  rw [if_neg c2]
  right; right
  refine ⟨by omega, by omega, ?_⟩
  obtain ⟨dt, hdt, hdn, hdh, hdi, hdl⟩ : ∃ dt, markI w.f.dt id w.now = (dt, 0) ∧ (∀ i ∈ dt, i.since ≤ w.now) ∧ (∀ q, hasI w.f.dt q → hasI dt q) ∧ hasI dt id ∧ dt.length ≤ w.f.dt.length + 1 := by
    by_cases hy : hasI w.f.dt id
    · exact ⟨_, mark_old h.dyr hid h.now h.dnow hy, h.dnow, fun _ hq => hq, hy, by omega⟩
    · refine ⟨_, mark_new h.dyr hid h.now h.dnow hy, fun i hi => ?_, fun q hq => hasI_snoc.2 (.inl hq), hasI_snoc.2 (.inr rfl), by simp⟩
      rcases List.mem_append.1 hi with hi | hi
      · exact h.dnow i hi
      · rw [List.mem_singleton.1 hi]; exact Int.le_refl _
  have hrt : Rt ⟨w.f.ck, w.f.tb, w.f.pg, dt⟩ := by
    have := rt_mark (id := id) (now := w.now) h.rt (by rw [hf])
    unfold Fm.mark at this
    rw [hdt] at this
    exact this
  have hmk : Fm.mark w.f id w.now = (⟨w.f.ck, w.f.tb, w.f.pg, dt⟩, 0) := by unfold Fm.mark; rw [hdt]
  rw [hmk, if_neg (by simp)]
  refine ⟨_, rfl, ?_, by show (w.f.pg.set k _).length = _; simp, hdl⟩
  have := h.lay hk hz (x := w.f.ck.fr[k]) (p := ⟨id, w.f.pg[k].ver + 1, b⟩) (dt := dt) (by unfold Ck.good; rw [decide_eq_true_iff]; exact hg) b1 e2.symm (by unfold okPg; rw [decide_eq_true_iff]; simp only; omega) hrt hdn hdh (.inr hdi)
  rw [hp, e2] at this
  have e3 : upW W id (W id) = W := by funext n; unfold upW; split <;> simp_all
  rw [e3] at this
  exact this
theorem del (h : Gp w D M W) {id : Int} (hid : 1 ≤ id ∧ id ≤ 16) (hno : (Ta.find w.f.tb id).2 = false) : Gp (Po.del w id) (D.set id.toNat zP) (M.set id.toNat zP) W ∧ Keeps w (Po.del w id) ∧ (Po.del w id).done.length = w.done.length + 10 ∧ (Po.del w id).f = w.f := by
  obtain ⟨s, es, ks⟩ := h.disk
  have hd := delS_ok Jn.h35 ks.ok hid
  have hst : stepsS w.d ⟨id, 0, ⟨#[]⟩⟩ = Jn.plan id nought32 := by rw [es]; exact steps_del (p := ⟨id, 0, ⟨#[]⟩⟩) Jn.h35 ks.ok hid ⟨rfl, rfl⟩
  have hW : W id = 0 := by
    rcases h.find hid with ⟨k, _, _, hf, _⟩ | ⟨_, h2, _⟩
    · rw [hf] at hno; cases hno
    · exact h2
  refine ⟨⟨h.kf, ⟨_, ?_, kw_del ks hid⟩, by rw [List.length_set]; exact h.len, h.now, h.dnow, ?_, ?_⟩, ⟨⟨_, rfl, ?_⟩, rfl, rfl⟩, ?_, rfl⟩
  · show (delS w.d id).1 = _
    rw [es, hd.1]
  · intro k hk hz
    have hk2 : k < w.f.pg.length := hk
    have hij := okPg_id (rt_at h.rt hk2 hz).2.1
    have hfj := (rt_at h.rt hk2 hz).2.2
    have hne : id ≠ w.f.pg[k].id := fun e => by rw [e, hfj] at hno; cases hno
    show (M.set id.toNat zP).getD w.f.pg[k].id.toNat zP = w.f.pg[k]
    rw [getM_set h.len (by omega), if_neg (by omega)]
    exact h.pages k hk2 hz
  · intro q h1 h2 hn
    rw [getM_set h.len (by omega), getM_set h.dlen (by omega)]
    split
    · rfl
    · exact h.clean q h1 h2 hn
  · show (delS w.d id).1 = Jn.runJ w.d (stepsS w.d ⟨id, 0, ⟨#[]⟩⟩)
    unfold delS Jn.commitM stepsS
    rw [if_neg (by simp)]
  · show (w.done ++ stepsS w.d ⟨id, 0, ⟨#[]⟩⟩).length = _
    rw [hst, List.length_append]; rfl
theorem dropped (h : Gp w D M W) {id : Int} (hid : 1 ≤ id ∧ id ≤ 16) {k : Nat} (hk : k < w.f.pg.length) (hc : k < w.f.ck.fr.length) (hf : Ta.find w.f.tb id = ((k : Int), true)) (e2 : w.f.pg[k].id = id) (hW : W id = 0) :
    ∃ f, Fm.drop w.f id = (f, 0) ∧ Gp ⟨f, w.d, w.now, w.done⟩ D (M.set id.toNat (D.getD id.toNat zP)) W ∧ f.pg.length = w.f.pg.length ∧ (Ta.find f.tb id).2 = false ∧ f.dt.length ≤ w.f.dt.length := by
  obtain ⟨hl, h1, h2⟩ := h.at_loc hk hc hf
  have hz : w.f.pg[k].id ≠ 0 := by omega
  have hp := h.kf.pins k hk hz
  have e : Fm.drop w.f id = (Fm.empty w.f k, 0) := by
    unfold Fm.drop
    rw [hl, h1, if_neg (by simp), if_neg (by rw [hp, e2]; omega)]
    rfl
  have hkf := kf_empty h.kf hk hz (by rw [hp, e2]; exact hW)
  have edt : (Fm.empty w.f k).dt = (cleanI w.f.dt id).1 := by show (cleanI w.f.dt (w.f.pg.getD k zP).id).1 = _; rw [pg_getD hk, e2]
  have epg : (Fm.empty w.f k).pg = w.f.pg.set k zP := rfl
  have hG : Gp ⟨Fm.empty w.f k, w.d, w.now, w.done⟩ D (M.set id.toNat (D.getD id.toNat zP)) W := by
    refine ⟨hkf, h.disk, by rw [List.length_set]; exact h.len, h.now, ?_, ?_, ?_⟩
    · show ∀ i ∈ (Fm.empty w.f k).dt, _
      rw [edt]; exact fun i hi => h.dnow i ((clean_ok h.dyr).2 i hi).1
    · intro j hj hjz
      have hj2 : j < w.f.pg.length := by have : j < (w.f.pg.set k zP).length := hj; simpa using this
      have e0 : ((⟨Fm.empty w.f k, w.d, w.now, w.done⟩ : Wk).f.pg[j]'hj) = if k = j then zP else w.f.pg[j] := List.getElem_set (l := w.f.pg) (i := k) (j := j) (a := zP) hj
      rw [e0] at hjz ⊢
      by_cases ekj : k = j
      · rw [if_pos ekj] at hjz; exact absurd rfl hjz
      · rw [if_neg ekj] at hjz ⊢
        have hij := okPg_id (rt_at h.rt hj2 hjz).2.1
        have hne : id ≠ w.f.pg[j].id := fun e => ekj (ids_apart h.rt hk hj2 hz (by rw [e2, e]))
        rw [getM_set h.len (by omega), if_neg (by omega)]
        exact h.pages j hj2 hjz
    · intro q q1 q2 hn
      have hn' : ¬ hasI (cleanI w.f.dt id).1 q := by rw [← edt]; exact hn
      rw [getM_set h.len (by omega)]
      by_cases e : id.toNat = q
      · rw [if_pos e, e]
      · rw [if_neg e]; exact h.clean q q1 q2 fun hi => hn' ((clean_keep h.dyr (by omega)).2 hi)
  refine ⟨_, e, hG, by rw [epg, List.length_set], ?_, by rw [edt]; exact clean_len⟩
  rcases hG.find hid with ⟨j, hj, _, _, hje, _⟩ | ⟨h5, _⟩
  · exfalso
    have hj2 : j < w.f.pg.length := by have : j < (w.f.pg.set k zP).length := hj; simpa using this
    have e0 : ((⟨Fm.empty w.f k, w.d, w.now, w.done⟩ : Wk).f.pg[j]'hj) = if k = j then zP else w.f.pg[j] := List.getElem_set (l := w.f.pg) (i := k) (j := j) (a := zP) hj
    rw [e0] at hje
    by_cases ekj : k = j
    · rw [if_pos ekj] at hje; have : (0 : Int) = id := hje; omega
    · rw [if_neg ekj] at hje
      exact ekj (ids_apart h.rt hk hj2 hz (by rw [e2, hje]))
  · exact h5
end Gp
end Go.Proofs.YtcbfhpnmhhnjpaaGreat

namespace Go.Proofs.YtcbfhpnmhhnjpaaGreat
open Go.RowKit
namespace Gp
variable {w : Wk} {D M : List Pg} {W : Int → Int}
theorem steps_len (h : Gp w D M W) {p : Pg} (hp : okP p = true) : (stepsS w.d p).length = 10 := by
  obtain ⟨s, es, ks⟩ := h.disk
  rw [es, steps_set Jn.h35 ks.ok hp]; rfl
theorem backed (h : Gp w D M W) {id : Int} (hid : 1 ≤ id ∧ id ≤ 16) (hf : (Ta.find w.f.tb id).2 = true) :
    ∃ w' D', Po.back w (Po.framed w id).1 = w' ∧ Gp w' D' M W ∧ Keeps w w' ∧ w'.done.length = w.done.length + 10 ∧ w'.f = ⟨w.f.ck, w.f.tb, w.f.pg, (cleanI w.f.dt id).1⟩ := by
  rcases h.find hid with ⟨k, hk, hc, hfk, e2, hp, hM, hok, hfr⟩ | ⟨h2, _⟩
  · have e : (Po.framed w id).1 = w.f.pg[k] := by rw [hfr]; exact hM
    have hz : w.f.pg[k].id ≠ 0 := by omega
    obtain ⟨b1, b2, b3, b4⟩ := h.back_eq hk hz
    rw [e]
    refine ⟨_, _, rfl, h.back hk hz, h.back_keeps hk hz, ?_, by rw [b1, e2]⟩
    rw [b4, List.length_append, h.steps_len (okP_of hok)]
  · rw [h2] at hf; cases hf
theorem fold (n : Nat) : ∀ (l : List Int) {w : Wk} {D : List Pg}, Gp w D M W → l.length = n → (∀ id ∈ l, 1 ≤ id ∧ id ≤ 16 ∧ (Ta.find w.f.tb id).2 = true) →
    ∃ D', Gp (l.foldl Po.age1 w) D' M W ∧ Keeps w (l.foldl Po.age1 w) ∧ (l.foldl Po.age1 w).done.length = w.done.length + 10 * n ∧ (∀ q, hasI (l.foldl Po.age1 w).f.dt q ↔ hasI w.f.dt q ∧ q ∉ l) ∧ (l.foldl Po.age1 w).f.dt.length ≤ w.f.dt.length := by
  induction n with
  | zero =>
    intro l w D h hl hall
    obtain rfl : l = [] := List.length_eq_zero_iff.1 hl
    exact ⟨D, h, Keeps.refl w, rfl, fun q => by simp, Nat.le_refl _⟩
  | succ n ih =>
    intro l w D h hl hall
    obtain ⟨a, t, rfl⟩ : ∃ a t, l = a :: t := by cases l with
      | nil => simp at hl
      | cons a t => exact ⟨a, t, rfl⟩
    obtain ⟨a1, a2, a3⟩ := hall a (by simp)
    obtain ⟨w', D', e, g, kp, dl, ef⟩ := h.backed ⟨a1, a2⟩ a3
    have e1 : Po.age1 w a = w' := e
    rw [List.foldl_cons, e1]
    obtain ⟨D2, g2, k2, l2, q2, n2⟩ := ih t g (by simpa using hl) (fun id hi => by
      obtain ⟨b1, b2, b3⟩ := hall id (by simp [hi])
      exact ⟨b1, b2, by rw [ef]; exact b3⟩)
    refine ⟨D2, g2, kp.trans k2, by rw [l2, dl]; omega, fun q => ?_, ?_⟩
    · rw [q2 q, ef]
      constructor
      · rintro ⟨x1, x2⟩
        have hqa : q ≠ a := fun e => by rw [e] at x1; exact clean_gone h.dyr x1
        exact ⟨(clean_keep h.dyr hqa).1 x1, by simp [hqa, x2]⟩
      · rintro ⟨x1, x2⟩
        rw [List.mem_cons, not_or] at x2
        exact ⟨(clean_keep h.dyr x2.1).2 x1, x2.2⟩
    · rw [ef] at n2; exact Nat.le_trans n2 clean_len
theorem due_in (h : Gp w D M W) {n id : Int} (hi : id ∈ Po.dueI w.f.dt w.now n) : 1 ≤ id ∧ id ≤ 16 ∧ (Ta.find w.f.tb id).2 = true := by
  unfold Po.dueI at hi
  split at hi
  · simp at hi
  · obtain ⟨i, hi2, rfl⟩ := List.mem_map.1 hi
    have hi := (List.mem_filter.1 hi2).1
    have hf := h.rt.items i hi
    have hg := ((Dy.right_iff _).1 h.dyr).page _ hi
    exact ⟨hg.1, hg.2, hf⟩
theorem age (h : Gp w D M W) (n : Int) : ∃ D', Gp (Po.age w n) D' M W ∧ Keeps w (Po.age w n) ∧ (Po.age w n).done.length = w.done.length + 10 * (Po.dueI w.f.dt w.now n).length ∧ (∀ q, hasI (Po.age w n).f.dt q ↔ hasI w.f.dt q ∧ q ∉ Po.dueI w.f.dt w.now n) :=
  have ⟨D', a, b, c, d, _⟩ := fold _ _ h rfl (fun id hi => h.due_in hi)
  ⟨D', a, b, c, d⟩
theorem due_len {w : Wk} {n : Int} : (Po.dueI w.f.dt w.now n).length ≤ w.f.dt.length := by
  unfold Po.dueI
  split
  · simp
  · rw [List.length_map]; exact List.length_filter_le _ _
theorem dt_len (h : Gp w D M W) : w.f.dt.length ≤ 16 := ((Dy.right_iff _).1 h.dyr).short
end Gp
end Go.Proofs.YtcbfhpnmhhnjpaaGreat

namespace Go.Proofs.YtcbfhpnmhhnjpaaGreat
open Go.RowKit
structure Md where
  pg : List Pg
  pin : List Int
  n : Int
namespace Md
def cnt : Nat → List Int → Int
  | 0, _ => 0
  | i + 1, l => if i = 0 then 0 else cnt i l + if 0 < l.getD i 0 then 1 else 0
def busy (m : Md) (id : Int) : Bool := decide (m.pin.getD id.toNat 0 = 0) && decide (cnt 17 m.pin = m.n)
def there (m : Md) (kind id : Int) : Md × Pg × Int :=
  if kind = 1 ∧ (m.pg.getD id.toNat zP).id = 0 then (m, zP, 3) else if kind = 2 ∧ (m.pg.getD id.toNat zP).id ≠ 0 then (m, zP, 4) else if busy m id = true then (m, zP, 6) else
  (⟨m.pg.set id.toNat (if kind = 2 then ⟨id, 1, ⟨#[]⟩⟩ else m.pg.getD id.toNat zP), m.pin.set id.toNat (m.pin.getD id.toNat 0 + 1), m.n⟩, if kind = 2 then ⟨id, 1, ⟨#[]⟩⟩ else m.pg.getD id.toNat zP, 0)
def act (m : Md) (a : Pa) : Md × Pg × Int :=
  if Po.bad a then (m, zP, 1) else if a.kind = 8 then (m, zP, 0) else if 2 < a.kind ∧ a.kind < 6 ∧ m.pin.getD a.id.toNat 0 = 0 then (m, zP, 12) else
  if a.kind = 3 then (m, m.pg.getD a.id.toNat zP, 0) else
  if a.kind = 4 then (if 16 < a.body.size then (m, zP, 5) else (⟨m.pg.set a.id.toNat ⟨(m.pg.getD a.id.toNat zP).id, (m.pg.getD a.id.toNat zP).ver + 1, a.body⟩, m.pin, m.n⟩, ⟨(m.pg.getD a.id.toNat zP).id, (m.pg.getD a.id.toNat zP).ver + 1, a.body⟩, 0)) else
  if a.kind = 5 then (⟨m.pg, m.pin.set a.id.toNat (m.pin.getD a.id.toNat 0 - 1), m.n⟩, zP, 0) else
  if a.kind = 6 then (if 0 < m.pin.getD a.id.toNat 0 then (m, zP, 6) else if (m.pg.getD a.id.toNat zP).id = 0 then (m, zP, 3) else (⟨m.pg.set a.id.toNat zP, m.pin, m.n⟩, zP, 0)) else
  if a.kind = 7 then (if (m.pg.getD a.id.toNat zP).id = 0 then (m, zP, 3) else (m, zP, 0)) else there m a.kind a.id
end Md
def pinW (l : List Int) : Int → Int := fun i => l.getD i.toNat 0
theorem kf_congr {f : Fs} {W V : Int → Int} (h : Kf f W) (he : ∀ i, 1 ≤ i ∧ i ≤ 16 → V i = W i) : Kf f V :=
  ⟨h.rt, fun k hk hz => by rw [he _ (okPg_id (rt_at h.rt hk hz).2.1)]; exact h.pins k hk hz, fun id hid hn => by rw [he _ hid]; exact h.none id hid hn⟩
theorem Gp.congr {w : Wk} {D M : List Pg} {W V : Int → Int} (h : Gp w D M W) (he : ∀ i, 1 ≤ i ∧ i ≤ 16 → V i = W i) : Gp w D M V :=
  ⟨kf_congr h.kf he, h.disk, h.len, h.now, h.dnow, h.pages, h.clean⟩
theorem pinW_set {l : List Int} (hl : l.length = 17) {id v : Int} (hid : 1 ≤ id ∧ id ≤ 16) : ∀ i, 1 ≤ i ∧ i ≤ 16 → pinW (l.set id.toNat v) i = upW (pinW l) id v i := by
  intro i hi
  show (l.set id.toNat v).getD i.toNat 0 = if i = id then v else l.getD i.toNat 0
  rw [List.getD_eq_getElem?_getD, List.getElem?_set]
  by_cases e : i = id
  · rw [if_pos (by omega), if_pos (by omega), if_pos e]; rfl
  · rw [if_neg (by omega), if_neg e, List.getD_eq_getElem?_getD]
theorem len_le {α : Type} [DecidableEq α] : ∀ {a b : List α}, a.Nodup → (∀ x ∈ a, x ∈ b) → a.length ≤ b.length
  | [], _, _, _ => by simp
  | x :: t, b, hn, hs => by
    have hx := hs x (by simp)
    rw [List.nodup_cons] at hn
    have := len_le (a := t) (b := b.erase x) hn.2 (fun y hy => by
      have hne : y ≠ x := fun e => hn.1 (e ▸ hy)
      exact (List.mem_erase_of_ne hne).2 (hs y (by simp [hy])))
    rw [List.length_erase_of_mem hx] at this
    have := List.length_pos_of_mem hx
    simp only [List.length_cons]
    omega
def pinsOf (l : List Int) : List Nat := (List.range 17).filter fun i => decide (1 ≤ i) && decide (0 < l.getD i 0)
theorem cnt_eq (l : List Int) : Md.cnt 17 l = (pinsOf l).length := by
  have h : ∀ n, Md.cnt (n + 1) l = (((List.range (n + 1)).filter fun i => decide (1 ≤ i) && decide (0 < l.getD i 0)).length : Int) := by
    intro n
    induction n with
    | zero => rfl
    | succ n ih =>
      rw [List.range_succ, List.filter_append, List.length_append]
      rw [show Md.cnt (n + 1 + 1) l = Md.cnt (n + 1) l + if 0 < l.getD (n + 1) 0 then 1 else 0 from if_neg (by omega), ih]
      by_cases e : 0 < l.getD (n + 1) 0
      · rw [if_pos e, List.filter_cons, if_pos (by rw [decide_eq_true e]; simp)]; rfl
      · rw [if_neg e, List.filter_cons, if_neg (by rw [decide_eq_false e]; simp)]; simp
  exact h 16
namespace Gp
variable {w : Wk} {D M : List Pg} {l : List Int}
theorem busy_iff (h : Gp w D M (pinW l)) : allPin w.f = true ↔ (pinsOf l).length = w.f.pg.length := by
  have hs := h.rt.same
  have hmap : (w.f.pg.map fun p => p.id.toNat).length = w.f.pg.length := by simp
  constructor
  · intro ha
    have hall : ∀ k (hk : k < w.f.pg.length), w.f.pg[k].id ≠ 0 ∧ 0 < pinW l w.f.pg[k].id := by
      intro k hk
      have hc : k < w.f.ck.fr.length := by omega
      have hp : 0 < w.f.ck.fr[k].pins := by
        unfold allPin at ha
        rw [List.all_eq_true] at ha
        simpa using ha _ (List.getElem_mem hc)
      have hz : w.f.pg[k].id ≠ 0 := fun hz => by
        have : anyFree w.f = true := by unfold anyFree; rw [List.any_eq_true]; exact ⟨_, List.getElem_mem hk, by simpa using hz⟩
        rw [free_not h.rt this] at ha; cases ha
      exact ⟨hz, by rw [← h.kf.pins k hk hz]; exact hp⟩
    have hnd : (w.f.pg.map fun p => p.id.toNat).Nodup := by
      unfold List.Nodup
      rw [List.pairwise_iff_getElem]
      intro i j hi hj hij e
      rw [List.length_map] at hi hj
      rw [List.getElem_map, List.getElem_map] at e
      have h1 := okPg_id (rt_at h.rt hi (hall i hi).1).2.1
      have h2 := okPg_id (rt_at h.rt hj (hall j hj).1).2.1
      have := ids_apart h.rt hi hj (hall i hi).1 (by omega)
      omega
    have h1 : (w.f.pg.map fun p => p.id.toNat).length ≤ (pinsOf l).length := len_le hnd fun x hx => by
      obtain ⟨p, hp, rfl⟩ := List.mem_map.1 hx
      obtain ⟨k, hk, rfl⟩ := List.getElem_of_mem hp
      have h1 := okPg_id (rt_at h.rt hk (hall k hk).1).2.1
      have h2 := (hall k hk).2
      unfold pinW at h2
      unfold pinsOf
      rw [List.mem_filter, List.mem_range]
      refine ⟨by omega, ?_⟩
      rw [Bool.and_eq_true, decide_eq_true_iff, decide_eq_true_iff]
      exact ⟨by omega, h2⟩
    have h2 : (pinsOf l).length ≤ (w.f.pg.map fun p => p.id.toNat).length := len_le (List.nodup_range.filter _) fun x hx => by
      unfold pinsOf at hx
      rw [List.mem_filter, List.mem_range, Bool.and_eq_true, decide_eq_true_iff, decide_eq_true_iff] at hx
      obtain ⟨x1, x2, x3⟩ := hx
      rcases h.find (id := (x : Int)) (by omega) with ⟨k, hk, hc, _, he, _⟩ | ⟨_, hW, _⟩
      · exact List.mem_map.2 ⟨_, List.getElem_mem hk, by rw [he]; simp⟩
      · unfold pinW at hW
        rw [Int.toNat_natCast] at hW; omega
    omega
  · intro hl
    cases ha : allPin w.f with
    | true => rfl
    | false =>
      exfalso
      unfold allPin at ha
      rw [List.all_eq_false] at ha
      obtain ⟨c, hcm, hc0⟩ := ha
      obtain ⟨k, hck, rfl⟩ := List.getElem_of_mem hcm
      have hk : k < w.f.pg.length := by omega
      have hc0 : ¬ 0 < w.f.ck.fr[k].pins := by simpa using hc0
      have : (pinsOf l).length ≤ ((w.f.pg.map fun p => p.id.toNat).eraseIdx k).length := len_le (List.nodup_range.filter _) fun x hx => by
        unfold pinsOf at hx
        rw [List.mem_filter, List.mem_range, Bool.and_eq_true, decide_eq_true_iff, decide_eq_true_iff] at hx
        obtain ⟨x1, x2, x3⟩ := hx
        rcases h.find (id := (x : Int)) (by omega) with ⟨j, hj, hcj, _, he, hp, _⟩ | ⟨_, hW, _⟩
        · rw [List.mem_eraseIdx_iff_getElem]
          have hp2 : w.f.ck.fr[j].pins = l.getD x 0 := by rw [hp]; unfold pinW; rw [Int.toNat_natCast]
          have hjk : j ≠ k := fun e => by subst e; omega
          exact ⟨j, by rw [List.length_map]; exact hj, hjk, by rw [List.getElem_map, he]; simp⟩
        · unfold pinW at hW
          rw [Int.toNat_natCast] at hW; omega
      rw [List.length_eraseIdx, if_pos (by rw [List.length_map]; exact hk), List.length_map] at this
      omega
end Gp
end Go.Proofs.YtcbfhpnmhhnjpaaGreat

namespace Go.Proofs.YtcbfhpnmhhnjpaaGreat
open Go.RowKit
namespace Gp
variable {w : Wk} {D M : List Pg} {W : Int → Int}
theorem known (h : Gp w D M W) {id : Int} (hid : 1 ≤ id ∧ id ≤ 16) : M.getD id.toNat zP = zP ∧ (Ta.find w.f.tb id).2 = false ∧ getS w.d id = (zP, 3) ∨ (M.getD id.toNat zP).id = id ∧ okPg (M.getD id.toNat zP) = true := by
  rcases h.find hid with ⟨k, hk, hc, hf, e2, hp, hM, hok, hfr⟩ | ⟨h1, h2, h3, h4, h5⟩
  · right; rw [hM]; exact ⟨e2, hok⟩
  · rw [h3]
    rcases h.get hid with ⟨g1, g2⟩ | ⟨g1, g2, g3⟩
    · left; exact ⟨g1, h1, g2⟩
    · right
      refine ⟨g1, ?_⟩
      have := okP_iff.1 g2
      unfold okPg; rw [decide_eq_true_iff]; omega
theorem loaded (h : Gp w D M W) {p : Pg} (hp : okPg p = true) (hf : (Ta.find w.f.tb p.id).2 = false) (fresh : Bool) (hM : fresh = false → M.getD p.id.toNat zP = p) :
    (allPin w.f = true → Po.load w p fresh = (w, zP, 6)) ∧
    (allPin w.f = false → ∃ w' D', Po.load w p fresh = (w', p, 0) ∧ Gp w' D' (M.set p.id.toNat p) (upW W p.id 1) ∧ Keeps w w' ∧ w'.done.length ≤ w.done.length + 160) := by
  obtain ⟨D', r1, r2, r3, r4, r5⟩ := room (w.f.dt.length + 1) h (by omega)
  constructor
  · intro ha
    rcases r5 with ⟨_, e, _⟩ | ⟨e, _⟩
    · unfold Po.load; rw [e, if_pos (by simp)]
    · rw [ha] at e; cases e
  · intro ha
    rcases r5 with ⟨e, _⟩ | ⟨_, e, hfree⟩
    · rw [ha] at e; cases e
    · have hno : (Ta.find (Po.room (w.f.dt.length + 1) w).1.f.tb p.id).2 = false := by
        have hid := okPg_id hp
        rcases r1.find hid with ⟨k, hk, hc, hfk, e2, _⟩ | ⟨h2, _⟩
        · exfalso
          rcases r4 _ (List.getElem_mem hk) with hz | hmem
          · rw [hz] at e2; have : (0 : Int) = p.id := e2; omega
          · obtain ⟨j, hj, ej⟩ := List.getElem_of_mem hmem
            have := (rt_at h.rt hj (by rw [ej]; omega)).2.2
            rw [ej, e2] at this
            rw [this] at hf; cases hf
        · exact h2
      obtain ⟨w', ew, g, kp, dn, dl⟩ := r1.load hfree hp hno fresh hM
      refine ⟨w', D', ?_, g, r2.trans kp, ?_⟩
      · unfold Po.load; rw [if_neg (by rw [e]; simp), ew]
      · have := h.dt_len
        rw [dn]; omega
end Gp
structure Tells (w : Wk) (r : Wk × Pg × Int) (x : Md × Pg × Int) : Prop where
  gp : ∃ D', Gp r.1 D' x.1.pg (pinW x.1.pin)
  keeps : Keeps w r.1
  page : r.2.1 = x.2.1
  err : r.2.2 = x.2.2
  few : r.1.done.length ≤ w.done.length + 160
  none : x.2.2 ≠ 0 → r.1 = w
structure Fit (m : Md) (B : Int) : Prop where
  len : m.pin.length = 17
  plen : m.pg.length = 17
  pin : ∀ i : Nat, 0 ≤ m.pin.getD i 0 ∧ m.pin.getD i 0 ≤ B
  ver : ∀ i : Nat, (m.pg.getD i zP).ver ≤ 1073741824 + B
theorem Tells.same {w : Wk} {D : List Pg} {m : Md} (h : Gp w D m.pg (pinW m.pin)) (p : Pg) (e : Int) : Tells w (w, p, e) (m, p, e) := ⟨⟨D, h⟩, Keeps.refl w, rfl, rfl, by show w.done.length ≤ _; omega, fun _ => rfl⟩
section
variable {w : Wk} {D : List Pg} {m : Md} {B : Int}
theorem busy_all (h : Gp w D m.pg (pinW m.pin)) (hn : m.n = w.f.pg.length) {id : Int} (hp : m.pin.getD id.toNat 0 = 0) : m.busy id = allPin w.f := by
  have := h.busy_iff
  unfold Md.busy
  rw [decide_eq_true hp, Bool.true_and, cnt_eq, hn, Bool.eq_iff_iff, decide_eq_true_iff, this]
  omega
theorem fetch_tells (h : Gp w D m.pg (pinW m.pin)) (hf : Fit m B) (hB : B < 2147483647) (hn : m.n = w.f.pg.length) {id : Int} (hid : 1 ≤ id ∧ id ≤ 16) : Tells w (Po.fetch w id) (m.there 1 id) := by
  unfold Po.fetch Md.there
  rcases h.find hid with ⟨k, hk, hc, hfk, e2, hp, hM, hok, hfr⟩ | ⟨h1, h2, h3, h4, h5⟩
  · have hpin := hf.pin id.toNat
    obtain ⟨f, ef, g, gl, gd⟩ := h.pin hid hk hc hfk e2 (by unfold pinW; omega)
    have hid0 : (m.pg.getD id.toNat zP).id = id := by rw [hM]; exact e2
    have hW : 0 < w.f.ck.fr.length ∧ ¬ m.busy id = true := by
      refine ⟨by omega, fun hb => ?_⟩
      unfold Md.busy at hb
      rw [Bool.and_eq_true, decide_eq_true_iff] at hb
      have : allPin w.f = true := by rw [← busy_all h hn hb.1]; unfold Md.busy; rw [Bool.and_eq_true, decide_eq_true_iff]; exact hb
      unfold allPin at this
      rw [List.all_eq_true] at this
      have := this _ (List.getElem_mem hc)
      rw [decide_eq_true_iff, hp] at this
      unfold pinW at this; omega
    rw [hfr, ef, if_pos rfl, if_neg (by simp), if_neg (by rw [hid0]; omega), if_neg (by omega), if_neg hW.2, if_neg (by omega)]
    refine ⟨⟨D, ?_⟩, ⟨⟨[], by simp [Po.turn], rfl⟩, rfl, gl⟩, rfl, rfl, by simp [Po.turn], fun hx => absurd rfl hx⟩
    show Gp (Po.turn w (f, 0)) D (m.pg.set id.toNat (m.pg.getD id.toNat zP)) _
    rw [h.set_same (by omega) rfl]
    exact g.congr (pinW_set hf.len hid)
  · have hp0 : m.pin.getD id.toNat 0 = 0 := h2
    rw [h4, if_neg (by simp)]
    rcases h.get hid with ⟨g1, g2⟩ | ⟨g1, g2, g3⟩
    · rw [g2, if_pos (by simp), if_pos ⟨rfl, by rw [h3, g1]; rfl⟩]
      exact Tells.same h _ _
    · have hok : okPg (D.getD id.toNat zP) = true := by
        have := okP_iff.1 g2
        unfold okPg; rw [decide_eq_true_iff]; omega
      rw [g3, if_neg (by simp), if_neg (by rw [h3, g1]; omega), if_neg (by omega)]
      obtain ⟨l1, l2⟩ := h.loaded hok (by rw [g1]; exact h1) false (fun _ => by rw [g1]; exact h3)
      rw [busy_all h hn hp0]
      cases ha : allPin w.f
      · obtain ⟨w', D', ew, g, kp, dl⟩ := l2 ha
        rw [ew, if_neg (by simp), if_neg (by omega), hp0]
        rw [h3]
        refine ⟨⟨D', ?_⟩, kp, rfl, rfl, dl, fun hx => absurd rfl hx⟩
        rw [g1] at g
        exact g.congr (pinW_set hf.len hid)
      · rw [l1 ha, if_pos rfl]
        exact Tells.same h _ _
theorem create_tells (h : Gp w D m.pg (pinW m.pin)) (hf : Fit m B) (hn : m.n = w.f.pg.length) {id : Int} (hid : 1 ≤ id ∧ id ≤ 16) : Tells w (Po.create w id) (m.there 2 id) := by
  unfold Po.create Md.there
  rcases h.find hid with ⟨k, hk, hc, hfk, e2, hp, hM, hok, hfr⟩ | ⟨h1, h2, h3, h4, h5⟩
  · rw [hfr, if_pos rfl, if_neg (by omega), if_pos ⟨rfl, by rw [hM, e2]; omega⟩]
    exact Tells.same h _ _
  · have hp0 : m.pin.getD id.toNat 0 = 0 := h2
    rw [h4, if_neg (by simp)]
    rcases h.get hid with ⟨g1, g2⟩ | ⟨g1, g2, g3⟩
    · rw [g2, if_neg (by simp), if_pos (by simp), if_neg (by omega), if_neg (by rw [h3, g1]; simp [zP])]
      have hok : okPg ⟨id, 1, ⟨#[]⟩⟩ = true := by unfold okPg; rw [decide_eq_true_iff]; simp only; have : (⟨#[]⟩ : ByteArray).size = 0 := rfl; omega
      obtain ⟨l1, l2⟩ := h.loaded hok h1 true (fun e => by cases e)
      rw [busy_all h hn hp0]
      cases ha : allPin w.f
      · obtain ⟨w', D', ew, g, kp, dl⟩ := l2 ha
        rw [ew, if_neg (by simp), if_pos rfl, hp0]
        refine ⟨⟨D', ?_⟩, kp, rfl, rfl, dl, fun hx => absurd rfl hx⟩
        exact g.congr (pinW_set hf.len hid)
      · rw [l1 ha, if_pos rfl]
        exact Tells.same h _ _
    · rw [g3, if_pos rfl, if_neg (by omega), if_pos ⟨rfl, by rw [h3, g1]; omega⟩]
      exact Tells.same h _ _
end
end Go.Proofs.YtcbfhpnmhhnjpaaGreat

