/- layer 6, plain: jobs in their order, till all are told. -/
import Derived.Test.YtfmbfgoofiojcaaSA
namespace Go.Proofs.Ytfmbfgoofiojcaa
open Go.RowKit Lk
set_option linter.unusedVariables false
set_option linter.unusedSimpArgs false
theorem write_ok {d : Dk} {p : Int} {s : ByteArray} (h : rightB d = true) (h35 : 35 ≤ d.sectors.length) (hc : d.cache.length ≤ 198) (hs : s.size = 32) (hp : 1 ≤ p ∧ p ≤ 16) : (writeD d p s).2 = 0 ∧ (writeD d p s).1.cache.length = d.cache.length + 2 := by
  have put : ∀ {d : Dk} {w : Wr}, rightB d = true → fitsB d w = true → d.cache.length ≠ 200 → putD d w = (⟨d.sectors, d.cache ++ [w]⟩, 0) := fun h f hc => by
    unfold putD
    rw [h, f, if_neg (by simp), if_neg hc]
  have f1 : fitsB d ⟨2 * p + 1, s.extract 0 16⟩ = true := by simp [fitsB, hasB]; omega
  have p1 := put h f1 (by omega)
  have r1 := putD_right (w := ⟨2 * p + 1, s.extract 0 16⟩) h
  rw [p1] at r1
  have f2 : fitsB ⟨d.sectors, d.cache ++ [⟨2 * p + 1, s.extract 0 16⟩]⟩ ⟨2 * p + 2, s.extract 16 s.size⟩ = true := by simp [fitsB, hasB]; omega
  have p2 := put r1 f2 (by simp; omega)
  have hw : writeD d p s = (⟨d.sectors, (d.cache ++ [⟨2 * p + 1, s.extract 0 16⟩]) ++ [⟨2 * p + 2, s.extract 16 s.size⟩]⟩, 0) := by
    unfold writeD
    rw [p1]
    simp only [if_true]
    exact p2
  rw [hw]
  exact ⟨rfl, by simp⟩
namespace Sc
def kp (j : Jb) : Int × Int := (j.kind, j.page)
/-- what is still to be told of a lane, in its order -/
def Qs (s : Sd) (i : Nat) : List (Int × Int) := (s.out.filter fun j => j.who == (i : Int)).map kp ++ (s.js.getD i []).map kp
theorem getD_set (l : List (List Jb)) (k i : Nat) (x : List Jb) (h : k < l.length) : (l.set k x).getD i [] = if k = i then x else l.getD i [] := by
  rw [List.getD_eq_getElem?_getD, List.getD_eq_getElem?_getD, List.getElem?_set]
  by_cases e : k = i
  · rw [if_pos e, if_pos e, if_pos h]; rfl
  · rw [if_neg e, if_neg e]
theorem q_step {s : Sd} (h : Rs s) (hg : goes s = true) (i : Nat) : Qs (stepS s) i = Qs s i := by
  obtain ⟨k, j, t, hk, hkl, e, e2, h4, hx, hr, hcs⟩ := goes_at h hg
  have ejk : s.js[k] = j :: t := by rw [List.getElem?_eq_getElem hk] at e; exact Option.some.inj e
  obtain ⟨w1, w2, w3⟩ := h.wait k hk j (by rw [ejk]; simp)
  rw [step_eq e e2]
  unfold Qs submS
  show ((s.out ++ [more j]).filter _).map kp ++ ((s.js.set k t).getD i []).map kp = _
  rw [List.filter_append, List.map_append, getD_set _ _ _ _ hk]
  have hw : (more j).who = (k : Int) := w1
  by_cases ei : k = i
  · subst ei
    rw [if_pos rfl]
    have hf : ([more j].filter fun j => j.who == (k : Int)) = [more j] := by rw [List.filter_cons_of_pos (by rw [hw]; exact beq_self_eq_true _)]; rfl
    rw [hf, List.getD_eq_getElem?_getD, e, Option.getD_some, List.append_assoc]
    rfl
  · rw [if_neg ei]
    have hf : ([more j].filter fun j => j.who == (i : Int)) = [] := by rw [List.filter_cons_of_neg (by rw [hw]; simp; omega)]; rfl
    rw [hf, List.map_nil, List.append_nil]
theorem q_pumpN : ∀ (n : Nat) {s : Sd}, Rs s → ∀ i, Qs (pumpN n s) i = Qs s i
  | 0, _, _, _ => rfl
  | n + 1, s, h, i => by
    unfold pumpN
    split
    · rename_i hg
      rw [q_pumpN n (rs_step h hg) i, q_step h hg i]
    · rfl
theorem pump_eq {s : Sd} (h : Rs s) : pumpS s = pumpN 5 s := by unfold pumpS; rw [if_neg (by rw [rs_iff.2 h]; decide)]
theorem q_pump {s : Sd} (h : Rs s) (i : Nat) : Qs (pumpS s) i = Qs s i := by rw [pump_eq h]; exact q_pumpN 5 h i
theorem pump_stops : ∀ (n : Nat) {s : Sd}, Rs s → 5 ≤ s.dv.flight.length + n → goes (pumpN n s) = false
  | 0, s, h, hn => by have := h.len.2.2.1; omega
  | n + 1, s, h, hn => by
    unfold pumpN
    split
    · rename_i hg
      exact pump_stops n (rs_step h hg) (by have := (step_facts h hg).2.2.2.2.2; omega)
    · rename_i hg; simpa using hg
theorem waits_no {s : Sd} (h : Rs s) (hw : waits s.l = false) : sumL s.js = 0 := by
  have key : ∀ l ∈ s.js, l = [] := fun l hl => by
    obtain ⟨k, hk, rfl⟩ := List.getElem_of_mem hl
    have hkl : k < s.l.l.length := by have := h.n; omega
    have hc := h.cost k hk hkl
    unfold waits at hw
    rw [List.any_eq_false] at hw
    have h0 := hw _ (List.getElem_mem hkl)
    have : s.l.l[k].cs.length = 0 := by simpa using h0
    have h2 := congrArg List.length hc
    rw [List.length_map, this] at h2
    exact List.eq_nil_of_length_eq_zero h2
  unfold sumL
  have : ∀ {L : List (List Jb)}, (∀ l ∈ L, l = []) → (L.map List.length).sum = 0 := by
    intro L
    induction L with
    | nil => intro _; rfl
    | cons x L ih =>
      intro hL
      rw [List.map_cons, List.sum_cons, ih (fun l hl => hL l (by simp [hl])), hL x (by simp)]; rfl
  exact this key
theorem pump_some {s : Sd} (h : Rs s) (hm : 0 < many s) (hx : s.dv.next + 4 < 2147483647) : 0 < (pumpS s).out.length := by
  have hr := rs_pump h
  obtain ⟨f1, _, _, f4, _, _⟩ := pump_facts h
  have hst : goes (pumpS s) = false := by rw [pump_eq h]; exact pump_stops 5 h (by omega)
  have hmm := hr.m
  unfold goes at hst
  by_cases h4 : (pumpS s).dv.flight.length < 4
  · rw [decide_eq_true h4, decide_eq_true (by omega), Bool.true_and, Bool.true_and] at hst
    have hw : waits (pumpS s).l = false := by
      cases e : waits (pumpS s).l
      · rfl
      · obtain ⟨_, _, _, k3, _⟩ := next_facts hr.l e
        rw [k3] at hst; exact Bool.noConfusion hst
    have hz := waits_no hr hw
    unfold many at f1 hm
    omega
  · omega
/-- the first one in flight is done -/
theorem done_first {s : Sd} (h : Rs s) {j : Jb} {o : List Jb} (ho : s.out = j :: o) (hc : s.dv.disk.cache.length ≤ 198) : ∃ (t : Sd) (j' : Jb), doneS s 0 false = (t, j', 0, true) ∧ Rs t ∧ j'.who = j.who ∧ j'.kind = j.kind ∧ j'.page = j.page ∧ t.out = o ∧ t.js = s.js ∧ t.dv.next = s.dv.next ∧ t.dv.disk.cache.length ≤ s.dv.disk.cache.length + 2 := by
  have hk : 0 < s.out.length := by rw [ho]; simp
  have hkf : 0 < s.dv.flight.length := by have := h.m; omega
  obtain ⟨h1, h2, h3, h4, h5, h6⟩ := rightV_len h.d
  have hB := okF_is h6 _ (List.getElem_mem hkf)
  have hfin : finishV s.dv 0 false = (⟨(doV s.dv.disk s.dv.flight[0]).1, s.dv.next, s.dv.flight.eraseIdx 0⟩, (doV s.dv.disk s.dv.flight[0]).2.1, (doV s.dv.disk s.dv.flight[0]).2.2) := by
    unfold finishV
    rw [dif_pos ⟨h.d, by omega, by omega⟩]
    rfl
  have hd : (doV s.dv.disk s.dv.flight[0]).2.2 = 0 ∧ (doV s.dv.disk s.dv.flight[0]).1.cache.length ≤ s.dv.disk.cache.length + 2 := by
    unfold doV
    rcases isB_cases hB with ⟨hk, q1, q2⟩ | ⟨hk, q1, q2, q3⟩ | ⟨hk, q1⟩
    · rw [if_pos hk]; exact ⟨rfl, by show s.dv.disk.cache.length ≤ s.dv.disk.cache.length + 2; omega⟩
    · rw [if_neg (by omega), if_pos hk]
      obtain ⟨w1, w2⟩ := write_ok h1 h2 hc q3 ⟨q1, q2⟩
      exact ⟨w1, by show (writeD _ _ _).1.cache.length ≤ _; omega⟩
    · rw [if_neg (by omega), if_neg (by omega)]
      refine ⟨rfl, ?_⟩
      show (syncD s.dv.disk).cache.length ≤ _
      unfold syncD
      split
      all_goals first | omega | (show ([] : List Wr).length ≤ _; simp)
  have ej : s.out.getD (0 : Int).toNat zJ = j := by rw [ho]; rfl
  have hno : ¬ (rightS s = false ∨ (0 : Int) < 0 ∨ (s.out.length : Int) ≤ 0) := fun hh => by
    rcases hh with e | e | e
    · rw [rs_iff.2 h] at e; exact Bool.noConfusion e
    · omega
    · omega
  have e : doneS s 0 false = (⟨s.l, s.js, (finishV s.dv 0 false).1, s.out.eraseIdx 0⟩, ⟨j.who, j.kind, j.page, (finishV s.dv 0 false).2.1.data, j.tries⟩, 0, true) := by
    unfold doneS
    rw [if_neg hno, ej, if_neg (by rw [hfin, hd.1]; simp)]
    rw [hfin]
    simp only [hd.1]
    rfl
  have hr := rs_done h 0 false
  rw [e] at hr
  refine ⟨_, _, e, hr, rfl, rfl, rfl, by rw [ho]; rfl, rfl, by rw [hfin], by rw [hfin]; exact hd.2⟩
theorem ask_js {s : Sd} {j : Jb} (h : Rs s) (e : (askS s j).2 = 0) : ∃ k : Nat, j.who = k ∧ k < s.js.length ∧ (askS s j).1.js = s.js.set k (s.js.getD k [] ++ [j]) := by
  unfold askS at e ⊢
  split at e
  · exact absurd (show (1 : Int) = 0 from e) (by decide)
  rename_i hc
  split at e
  · rename_i hp; exact absurd e hp
  rename_i hp
  have hh : hasL s j.who = true := by cases e : hasL s j.who; exact absurd (.inr (.inl e)) hc; rfl
  obtain ⟨k, ek, k1, k2⟩ := lanes_of h hh
  rw [if_neg hc, if_neg hp]
  exact ⟨k, ek, k1, by show s.js.set j.who.toNat _ = _; rw [ek, Int.toNat_natCast]⟩
theorem q_pop {p t : Sd} {j : Jb} {o : List Jb} (h1 : p.out = j :: o) (h2 : t.out = o) (h3 : t.js = p.js) (i : Nat) : Qs p i = (if j.who = (i : Int) then [kp j] else []) ++ Qs t i := by
  unfold Qs
  rw [h1, h2, h3]
  by_cases e : j.who = (i : Int)
  · rw [if_pos e, List.filter_cons_of_pos (by rw [e]; exact beq_self_eq_true _)]; rfl
  · rw [if_neg e, List.filter_cons_of_neg (by simpa using e)]; rfl
theorem map_kp_cons {w : List Jb} {x : Int × Int} {l : List (Int × Int)} (h : w.map kp = x :: l) : ∃ a w', w = a :: w' ∧ kp a = x ∧ w'.map kp = l := by
  cases w with
  | nil => simp at h
  | cons a w' =>
    simp only [List.map_cons, List.cons.injEq] at h
    exact ⟨a, w', rfl, h.1, h.2⟩
end Sc
end Go.Proofs.Ytfmbfgoofiojcaa
