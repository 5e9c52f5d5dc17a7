/- layer 4: what the law DeviceOnce keeps. -/
import Derived.Test.YtmknfchmnangbaaV9
namespace Go.Proofs.Ytmknfchmnangbaa
open Go.RowKit
set_option linter.unusedVariables false
set_option linter.unusedSimpArgs false
theorem okF_bound {next : Int} : ∀ {l : List Rq} {last : Int}, okF next last l = true → ∀ r ∈ l, last < r.ticket ∧ r.ticket < next
  | [], _, _, r, hr => by simp at hr
  | x :: xs, last, h, r, hr => by
    simp only [okF, Bool.and_eq_true, decide_eq_true_eq] at h
    rcases List.mem_cons.1 hr with rfl | hr
    · exact h.1.1
    · have := okF_bound h.2 r hr; omega
theorem okF_erase {next : Int} : ∀ {l : List Rq} {last : Int} (k : Nat), okF next last l = true → okF next last (l.eraseIdx k) = true
  | [], _, _, _ => rfl
  | x :: xs, last, 0, h => by
    simp only [okF, Bool.and_eq_true, decide_eq_true_eq] at h
    exact okF_low h.2 (by omega)
  | x :: xs, last, k + 1, h => by
    simp only [okF, Bool.and_eq_true, decide_eq_true_eq, List.eraseIdx_cons_succ] at h ⊢
    exact ⟨h.1, okF_erase k h.2⟩
theorem okF_ne {next : Int} : ∀ {l : List Rq} {last : Int} (k : Nat) (hk : k < l.length), okF next last l = true → ∀ r ∈ l.eraseIdx k, r.ticket ≠ l[k].ticket
  | x :: xs, last, 0, hk, h => by
    simp only [okF, Bool.and_eq_true, decide_eq_true_eq] at h
    intro r hr
    have := okF_bound h.2 r hr
    simp; omega
  | x :: xs, last, k + 1, hk, h => by
    simp only [okF, Bool.and_eq_true, decide_eq_true_eq] at h
    intro r hr
    simp only [List.eraseIdx_cons_succ, List.mem_cons] at hr
    rcases hr with rfl | hr
    · have := okF_bound h.2 _ (List.getElem_mem (by simpa using hk : k < xs.length))
      simp; omega
    · simpa using okF_ne k (by simpa using hk) h.2 r hr
theorem okF_snoc {next : Int} {k p : Int} {s : ByteArray} (hB : isB k p s = true) : ∀ {l : List Rq} {last : Int}, last < next → okF next last l = true → okF (next + 1) last (l ++ [⟨next, k, p, s⟩]) = true
  | [], last, hl, _ => by simp [okF, hB]; omega
  | x :: xs, last, hl, h => by
    simp only [okF, Bool.and_eq_true, decide_eq_true_eq, List.cons_append] at h ⊢
    exact ⟨⟨⟨h.1.1.1, by omega⟩, h.1.2⟩, okF_snoc hB h.1.1.2 h.2⟩
theorem extract_halves (s : ByteArray) (h : s.size = 32) : s.extract 0 16 ++ s.extract 16 s.size = s := by
  rw [ByteArray.extract_append_extract]
  simp [h]
  rw [← h]; simp
theorem page_put {d : Dk} {p q : Int} {s : ByteArray} (h : rightB d = true) (h35 : 35 ≤ d.sectors.length) (hc : d.cache.length ≤ 198) (hs : s.size = 32) (hp : 1 ≤ p ∧ p ≤ 16) (hq : 1 ≤ q ∧ q ≤ 16) :
    (writeD d p s).2 = 0 ∧ (writeD d p s).1.cache.length = d.cache.length + 2 ∧ pageD (writeD d p s).1 q = if q = p then s else pageD d q := by
  have f1 : fitsB d ⟨2 * p + 1, s.extract 0 16⟩ = true := by simp [fitsB, hasB]; omega
  have p1 := put_ok h f1 (by omega)
  have r1 := right_put h f1 (by omega)
  have f2 : fitsB ⟨d.sectors, d.cache ++ [⟨2 * p + 1, s.extract 0 16⟩]⟩ ⟨2 * p + 2, s.extract 16 s.size⟩ = true := by simp [fitsB, hasB]; omega
  have p2 := put_ok r1 f2 (by simp; omega)
  have hw : writeD d p s = (⟨d.sectors, (d.cache ++ [⟨2 * p + 1, s.extract 0 16⟩]) ++ [⟨2 * p + 2, s.extract 16 s.size⟩]⟩, 0) := by
    unfold writeD
    rw [p1]
    simp only [if_true]
    exact p2
  rw [hw]
  refine ⟨rfl, by simp, ?_⟩
  have rd : ∀ a, hasB d a = true → readD ⟨d.sectors, (d.cache ++ [⟨2 * p + 1, s.extract 0 16⟩]) ++ [⟨2 * p + 2, s.extract 16 s.size⟩]⟩ a = if 2 * p + 2 = a then (s.extract 16 s.size, 0) else if 2 * p + 1 = a then (s.extract 0 16, 0) else readD d a := by
    intro a ha
    rw [read_put r1 ha f2 (by simp; omega)]
    rw [read_put h ha f1 (by omega)]
  have a1 : hasB d (2 * q + 1) = true := by simp [hasB]; omega
  have a2 : hasB d (2 * q + 2) = true := by simp [hasB]; omega
  unfold pageD
  show (readD ⟨d.sectors, _⟩ _).1 ++ (readD ⟨d.sectors, _⟩ _).1 = _
  rw [rd _ a1, rd _ a2]
  by_cases e : q = p
  · subst e
    rw [if_neg (by omega), if_pos rfl, if_pos rfl, if_pos rfl]
    exact extract_halves s hs
  · rw [if_neg e, if_neg (by omega), if_neg (by omega), if_neg (by omega), if_neg (by omega)]
theorem page_sync {d : Dk} {q : Int} (h : rightB d = true) (h35 : 35 ≤ d.sectors.length) (hq : 1 ≤ q ∧ q ≤ 16) : pageD (syncD d) q = pageD d q := by
  unfold pageD
  rw [read_sync h (by simp [hasB]; omega), read_sync h (by simp [hasB]; omega)]
structure Once (i : Nat) (D : Dv) (told : List Bool) (last : List ByteArray) : Prop where
  right : rightV D = true
  nx : 0 ≤ D.next ∧ D.next ≤ i
  cache : D.disk.cache.length ≤ 2 * i
  tl : told.length = 61
  ll : last.length = 5
  fl : ∀ r ∈ D.flight, told[r.ticket.toNat]? = some false
  new : ∀ t : Nat, D.next ≤ t → t < 61 → told[t]? = some false
  pg : ∀ r ∈ D.flight, 0 ≤ r.page ∧ r.page ≤ 4
  la : ∀ (p : Nat) (s : ByteArray), 1 ≤ p → last[p]? = some s → s.toList ≠ [] → pageD D.disk p = s
namespace Once
variable {i : Nat} {D : Dv} {told : List Bool} {last : List ByteArray}
theorem idle (O : Once i D told last) : Once (i + 1) D told last := ⟨O.right, ⟨O.nx.1, by have := O.nx.2; omega⟩, by have := O.cache; omega, O.tl, O.ll, O.fl, O.new, O.pg, O.la⟩
theorem submit (O : Once i D told last) (hi : i < 60) {k p : Int} {s : ByteArray} (hB : isB k p s = true) (hp : 0 ≤ p ∧ p ≤ 4) :
    ((D.flight.length : Int) = 4 ∧ submitV D k p s = (D, 0, 6)) ∨ (D.flight.length < 4 ∧ ∃ D', submitV D k p s = (D', D.next, 0) ∧ D'.next = D.next + 1 ∧ Once (i + 1) D' told last) := by
  obtain ⟨h1, h2, h3, h4, h5, h6⟩ := rightV_len O.right
  have hn := O.nx
  have hneg : ¬ (rightV D = false ∨ D.next = 2147483647 ∨ isB k p s = false) := by
    rintro (h | h | h)
    · rw [O.right] at h; simp at h
    · omega
    · rw [hB] at h; simp at h
  by_cases h : (D.flight.length : Int) = 4
  · exact .inl ⟨h, by unfold submitV; rw [if_neg hneg, if_pos h]⟩
  · refine .inr ⟨by omega, ⟨D.disk, D.next + 1, D.flight ++ [⟨D.next, k, p, s⟩]⟩, by unfold submitV; rw [if_neg hneg, if_neg h], rfl, ?_⟩
    refine ⟨?_, ⟨by simp only; omega, by simp only; omega⟩, by have := O.cache; simp only; omega, O.tl, O.ll, ?_, fun t ht => O.new t (by simp only at ht; omega), ?_, O.la⟩
    · simp only [rightV, Bool.and_eq_true, decide_eq_true_eq]
      refine ⟨⟨⟨⟨⟨h1, h2⟩, by omega⟩, by omega⟩, by simp; omega⟩, okF_snoc hB (by omega) h6⟩
    · intro r hr
      rcases List.mem_append.1 hr with hr | hr
      · exact O.fl r hr
      · rw [List.mem_singleton.1 hr]
        exact O.new _ (by simp only; omega) (by simp only; omega)
    · intro r hr
      rcases List.mem_append.1 hr with hr | hr
      · exact O.pg r hr
      · rw [List.mem_singleton.1 hr]; exact hp
theorem finish (O : Once i D told last) (hi : i < 60) {k : Nat} (hk : k < D.flight.length) (fault : Bool) :
    ∃ D' R', finishV D k fault = (D', R', if fault then 8 else 0) ∧ R'.ticket = D.flight[k].ticket ∧ R'.page = D.flight[k].page ∧ R'.kind = D.flight[k].kind ∧ (0 ≤ R'.ticket ∧ R'.ticket < D.next) ∧ (0 ≤ R'.page ∧ R'.page ≤ 4) ∧ D'.next = D.next ∧
      told[R'.ticket.toNat]? = some false ∧ Once (i + 1) D' (told.set R'.ticket.toNat true) (if fault = false ∧ R'.kind = 2 then last.set R'.page.toNat R'.data else last) ∧
      (fault = false → R'.kind = 1 → ∀ s, last[R'.page.toNat]? = some s → s.toList ≠ [] → R'.data = s) := by
  obtain ⟨h1, h2, h3, h4, h5, h6⟩ := rightV_len O.right
  have hn := O.nx
  have hc := O.cache
  have hmem := List.getElem_mem hk
  have hB := okF_is h6 _ hmem
  have hb := okF_bound h6 _ hmem
  have hpg := O.pg _ hmem
  have hfl := O.fl _ hmem
  have hne := okF_ne k hk h6
  have hfin : finishV D k fault = if fault then (⟨D.disk, D.next, D.flight.eraseIdx k⟩, D.flight[k], 8) else (⟨(doV D.disk D.flight[k]).1, D.next, D.flight.eraseIdx k⟩, (doV D.disk D.flight[k]).2.1, (doV D.disk D.flight[k]).2.2) := by
    unfold finishV
    rw [dif_pos ⟨O.right, by omega, by omega⟩]
    rfl
  generalize D.flight[k] = R at *
  -- what stays, whatever the disk is
  have keep : ∀ (d : Dk) (last' : List ByteArray), rightB d = true → 35 ≤ d.sectors.length → d.cache.length ≤ D.disk.cache.length + 2 → last'.length = 5 → (∀ (p : Nat) (s : ByteArray), 1 ≤ p → last'[p]? = some s → s.toList ≠ [] → pageD d p = s) →
      Once (i + 1) ⟨d, D.next, D.flight.eraseIdx k⟩ (told.set R.ticket.toNat true) last' := by
    intro d last' k1 k2 k3 k4 k5
    have hsub : ∀ r ∈ D.flight.eraseIdx k, r ∈ D.flight := fun r hr => List.mem_of_mem_eraseIdx hr
    refine ⟨?_, ⟨hn.1, by simp only; omega⟩, by simp only; omega, by rw [List.length_set]; exact O.tl, k4, ?_, ?_, fun r hr => O.pg r (hsub r hr), k5⟩
    · simp only [rightV, Bool.and_eq_true, decide_eq_true_eq]
      have := List.length_eraseIdx_le D.flight k
      exact ⟨⟨⟨⟨⟨k1, k2⟩, h3⟩, h4⟩, by omega⟩, okF_erase k h6⟩
    · intro r hr
      have b := okF_bound h6 _ (hsub r hr)
      have n := hne r hr
      rw [List.getElem?_set_ne (by omega)]
      exact O.fl r (hsub r hr)
    · intro t ht ht2
      simp only at ht
      rw [List.getElem?_set_ne (by omega)]
      exact O.new t ht ht2
  cases fault
  case true =>
    refine ⟨_, R, hfin.trans (if_pos rfl), rfl, rfl, rfl, by omega, hpg, rfl, hfl, ?_, fun h => by simp at h⟩
    rw [if_neg (by simp)]
    exact keep _ _ h1 h2 (by omega) O.ll O.la
  have hf2 := hfin.trans (if_neg (by simp))
  rcases isB_cases hB with ⟨hkd, q1, q2⟩ | ⟨hkd, q1, q2, q3⟩ | ⟨hkd, q1⟩
  · have hd : doV D.disk R = (D.disk, { R with data := pageD D.disk R.page }, 0) := by unfold doV; rw [if_pos hkd]
    rw [hd] at hf2
    dsimp only at hf2
    refine ⟨_, _, hf2, rfl, rfl, rfl, by simp only; omega, hpg, rfl, hfl, ?_, fun _ _ s hs hne => ?_⟩
    · rw [if_neg (by simp only; omega)]
      exact keep _ _ h1 h2 (by omega) O.ll O.la
    · have := O.la R.page.toNat s (by omega) hs hne
      simp only
      rw [← this]
      congr 1; omega
  · have hd : doV D.disk R = ((writeD D.disk R.page R.data).1, R, (writeD D.disk R.page R.data).2) := by unfold doV; rw [if_neg (by omega), if_pos hkd]
    have hpp := fun q hq => page_put (q := q) h1 h2 (by omega) q3 ⟨q1, q2⟩ hq
    have hp1 := hpp R.page ⟨q1, q2⟩
    rw [hd, hp1.1] at hf2
    dsimp only at hf2
    refine ⟨_, _, hf2, rfl, rfl, rfl, by omega, hpg, rfl, hfl, ?_, fun _ h => by omega⟩
    rw [if_pos ⟨rfl, hkd⟩]
    have hlen : (writeD D.disk R.page R.data).1.sectors.length = D.disk.sectors.length := by
      have := doV_len (d := D.disk) (r := R); rw [hd] at this; exact this
    refine keep _ _ (writeD_right h1) (by omega) (by omega) (by rw [List.length_set]; exact O.ll) (fun p s hp hs hne => ?_)
    by_cases e : R.page.toNat = p
    · rw [e, List.getElem?_set_self (by rw [O.ll]; omega)] at hs
      have hs' : R.data = s := by simpa using hs
      rw [(hpp (p : Int) (by omega)).2.2, if_pos (by omega), hs']
    · rw [List.getElem?_set_ne e] at hs
      have hp5 : p < last.length := (List.getElem?_eq_some_iff.1 hs).1
      rw [O.ll] at hp5
      rw [(hpp (p : Int) (by omega)).2.2, if_neg (by omega)]
      exact O.la p s hp hs hne
  · have hd : doV D.disk R = (syncD D.disk, R, 0) := by unfold doV; rw [if_neg (by omega), if_neg (by omega)]
    rw [hd] at hf2
    dsimp only at hf2
    refine ⟨_, _, hf2, rfl, rfl, rfl, by omega, hpg, rfl, hfl, ?_, fun _ h => by omega⟩
    rw [if_neg (by omega)]
    have hsy : syncD D.disk = doneD D.disk D.disk.cache := by simp [syncD, h1]
    refine keep _ _ (syncD_right h1) (by rw [hsy]; simp only [doneD]; rw [doneS_len]; exact h2) (by rw [hsy]; simp [doneD]) O.ll (fun p s hp hs hne => ?_)
    have hp5 : p < last.length := (List.getElem?_eq_some_iff.1 hs).1
    rw [O.ll] at hp5
    rw [page_sync h1 h2 (by omega)]
    exact O.la p s hp hs hne
end Once
end Go.Proofs.Ytmknfchmnangbaa
