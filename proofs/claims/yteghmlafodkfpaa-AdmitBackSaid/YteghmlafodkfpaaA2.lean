/- layer 11: what the laws say, of plain halls. -/
import Derived.Test.YteghmlafodkfpaaA1
namespace Go.Proofs.Yteghmlafodkfpaa
set_option linter.unusedVariables false
set_option linter.unusedSimpArgs false
namespace Ad
open Bk (safe good safe_iff right_iff nonneg_of_right Feas need)
/-- if anybody claims more than it holds, somebody may pin, or has all -/
theorem some_may {h : Ha} (hr : right h = true) (hne : h.cl ≠ []) : ∃ i, ∃ hi : i < h.cl.length, h.cl[i].held = h.cl[i].claim ∨ (pinM h h.cl[i].who).2 = 0 := by
  obtain ⟨⟨r1, r2, r3, r4, r5, r6, r7⟩, r8⟩ := right_pre.1 hr
  have h7 := r7
  unfold safe at h7
  simp only [Bool.and_eq_true, decide_eq_true_eq] at h7
  obtain ⟨i, hi, _, hn⟩ := Bk.order_first h7.2 hne
  refine ⟨i, hi, ?_⟩
  by_cases he : h.cl[i].held = h.cl[i].claim
  · exact .inl he
  right
  have hnd : (h.cl.map Cl.who).Nodup := (List.nodup_append.1 r6).1
  have hat : cAt h h.cl[i].who = i := by
    have hlt : cAt h h.cl[i].who < h.cl.length := cAt_lt.2 (List.mem_map_of_mem (List.getElem_mem hi))
    have hw := cAt_who hlt
    have h3 : (h.cl.map Cl.who)[cAt h h.cl[i].who]'(by simpa using hlt) = (h.cl.map Cl.who)[i]'(by simpa using hi) := by simpa using hw
    rcases Nat.lt_trichotomy (cAt h h.cl[i].who) i with hlt2 | he2 | hlt2
    · rw [List.nodup_iff_pairwise_ne, List.pairwise_iff_getElem] at hnd
      exact absurd h3 (hnd _ _ _ _ hlt2)
    · exact he2
    · rw [List.nodup_iff_pairwise_ne, List.pairwise_iff_getElem] at hnd
      exact absurd h3.symm (hnd _ _ _ _ hlt2)
  obtain ⟨f1, f2⟩ := Bk.first_more hi r7 hn he
  unfold pinM
  rw [if_neg (by simp [hr]), hat, if_neg (by omega), getD_at hi, if_neg he, if_neg]
  have e : (holdM h i 1).cl = h.cl.set i ⟨h.cl[i].who, h.cl[i].claim, h.cl[i].held + 1⟩ := by unfold holdM; rw [getD_at hi]
  have hh : heldS (holdM h i 1).cl = heldS h.cl + 1 := by rw [e, heldS_set hi]; simp only; omega
  rw [hh, e, show (holdM h i 1).fr = h.fr from rfl, show h.fr - (heldS h.cl + 1) = h.fr - heldS h.cl - 1 by omega, f2]
  simp
theorem empty_queue {h : Ha} (hr : right h = true) (hc : h.cl = []) : h.q = [] := by
  obtain ⟨⟨r1, r2, r3, r4, r5, r6, r7⟩, r8⟩ := right_pre.1 hr
  obtain ⟨fr, bu, cl, q⟩ := h
  simp only at hc
  subst hc
  cases q with
  | nil => rfl
  | cons t q =>
    have := claim_iff.1 (r5 t (by simp)).2
    have hz := size_iff.1 r1
    simp only at this hz
    simp only [may, decide_eq_false_iff_not, List.length_nil, claimS, List.map_nil, List.sum_nil] at r8
    omega
theorem cAt_first {h : Ha} {c : Cl} {cl : List Cl} (hc : h.cl = c :: cl) : cAt h c.who = 0 := by
  unfold cAt; rw [hc]; simp [List.findIdx_cons]
theorem end_first {h : Ha} (hr : right h = true) {c : Cl} {cl : List Cl} (hc : h.cl = c :: cl) : endM h c.who = (entH ⟨h.fr, h.bu, cl, h.q⟩, came ⟨h.fr, h.bu, cl, h.q⟩, 0) := by
  unfold endM
  rw [if_neg (by simp [hr]), cAt_first hc, if_pos (by rw [hc]; simp), hc]; rfl
/-- what is let in, and what is left, is the queue -/
theorem ent_queue {h : Ha} (hp : Pre h) : came h ++ (entH h).q.map Tk.who = h.q.map Tk.who ∧ (entH h).cl.length + (entH h).q.length = h.cl.length + h.q.length := by
  obtain ⟨_, _, k, hk, h1, h2, h3⟩ := ent_facts h.q h.cl (fr := h.fr) (bu := h.bu) hp
  unfold came entH
  simp only
  rw [h1, h2, h3, ← List.map_append, List.take_append_drop]
  refine ⟨rfl, ?_⟩
  simp; omega
/-- ends, one by one -/
def ends : Nat → Ha → Ha × List Int
  | 0, h => (h, [])
  | n + 1, h => ((ends n (endM h (h.cl.getD 0 default).who).1).1, (endM h (h.cl.getD 0 default).who).2.1 ++ (ends n (endM h (h.cl.getD 0 default).who).1).2)
/-- a round of AdmitEnds -/
theorem end_round {h : Ha} (hr : right h = true) {n : Nat} (hn : h.cl.length + h.q.length = n + 1) : ∃ c cl, h.cl = c :: cl ∧ (endM h c.who).2.2 = 0 ∧ right (endM h c.who).1 = true ∧ (endM h c.who).1.cl.length + (endM h c.who).1.q.length = n ∧ (endM h c.who).2.1 ++ (endM h c.who).1.q.map Tk.who = h.q.map Tk.who := by
  cases hc : h.cl with
  | nil => rw [hc, empty_queue hr hc] at hn; simp at hn
  | cons c cl =>
    have he := end_first hr hc
    have hp := pre_endC hr (i := 0) (by rw [hc]; simp)
    rw [hc] at hp
    simp only [List.eraseIdx_zero, List.tail_cons] at hp
    obtain ⟨q1, q2⟩ := ent_queue hp
    refine ⟨c, cl, rfl, by rw [he], end_right hr, ?_, ?_⟩
    · rw [he]; simp only
      rw [q2]; rw [hc] at hn; simp at hn ⊢; omega
    · rw [he]; exact q1
/-- a ticket that nobody passes -/
theorem may_app {fr bu : Int} {cl : List Cl} {q : List Tk} {t : Tk} (hq : q ≠ []) : may ⟨fr, bu, cl, q ++ [t]⟩ = may ⟨fr, bu, cl, q⟩ := by
  cases q with
  | nil => exact absurd rfl hq
  | cons a q => rfl
theorem begin_ok {h : Ha} {who claim : Int} (h0 : (beginM h who claim).2.2 = 0) : right h = true ∧ okWho who = true ∧ okClaim h.fr h.bu claim = true ∧ who ∉ whos h ∧ h.cl.length + h.q.length ≠ 40 := by
  unfold beginM at h0
  by_cases h1 : right h = false ∨ okWho who = false
  · rw [if_pos h1] at h0; simp at h0
  rw [if_neg h1] at h0
  by_cases hc : okClaim h.fr h.bu claim = false
  · rw [if_pos hc] at h0; simp at h0
  rw [if_neg hc] at h0
  by_cases h2 : who ∈ whos h
  · rw [if_pos h2] at h0; simp at h0
  rw [if_neg h2] at h0
  by_cases h3 : h.cl.length + h.q.length = 40
  · rw [if_pos h3] at h0; simp at h0
  simp only [not_or, Bool.not_eq_false] at h1
  exact ⟨h1.1, h1.2, by simpa using hc, h2, h3⟩
/-- who begins is let in at once, with nobody else, or waits last -/
theorem begin_way {h : Ha} {who claim : Int} (h0 : (beginM h who claim).2.2 = 0) :
    ((beginM h who claim).1 = ⟨h.fr, h.bu, h.cl ++ [⟨who, claim, 0⟩], []⟩ ∧ h.q = [] ∧ (beginM h who claim).2.1 = true ∧ came ⟨h.fr, h.bu, h.cl, h.q ++ [⟨who, claim⟩]⟩ = [who]) ∨
    ((beginM h who claim).1 = ⟨h.fr, h.bu, h.cl, h.q ++ [⟨who, claim⟩]⟩ ∧ (beginM h who claim).2.1 = false ∧ came ⟨h.fr, h.bu, h.cl, h.q ++ [⟨who, claim⟩]⟩ = []) := by
  obtain ⟨hr, hw, hc, hn, hl⟩ := begin_ok h0
  have e : beginM h who claim = (entH ⟨h.fr, h.bu, h.cl, h.q ++ [⟨who, claim⟩]⟩, decide (who ∈ (entH ⟨h.fr, h.bu, h.cl, h.q ++ [⟨who, claim⟩]⟩).cl.map Cl.who), 0) := by
    unfold beginM
    rw [if_neg (by simp [hr, hw]), if_neg (by simp [hc]), if_neg hn, if_neg hl]
  have hm := (right_pre.1 hr).2
  have hnc : who ∉ h.cl.map Cl.who := fun hx => hn (List.mem_append_left _ hx)
  rw [e]
  by_cases hq : h.q = []
  · cases hmm : may ⟨h.fr, h.bu, h.cl, h.q ++ [⟨who, claim⟩]⟩
    · right
      obtain ⟨e1, e2⟩ := ent_stay hmm
      rw [e1, e2]
      exact ⟨rfl, by simpa using hnc, rfl⟩
    · left
      rw [hq] at hmm ⊢
      simp only [List.nil_append] at hmm ⊢
      have e3 : ent h.fr h.cl [⟨who, claim⟩] = ((h.cl ++ [⟨who, claim, 0⟩], []), [who]) := by
        unfold ent
        rw [if_pos (show may ⟨h.fr, 0, h.cl, [⟨who, claim⟩]⟩ = true from hmm)]
        rfl
      unfold entH came
      simp only [e3]
      refine ⟨trivial, trivial, ?_, trivial⟩
      simp
  · right
    obtain ⟨e1, e2⟩ := ent_stay (h := ⟨h.fr, h.bu, h.cl, h.q ++ [⟨who, claim⟩]⟩) (by rw [may_app hq]; exact hm)
    rw [e1, e2]
    exact ⟨rfl, by simpa using hnc, rfl⟩
theorem findIdx_new {α : Type} {l : List α} {f : α → Int} {x : α} (h : f x ∉ l.map f) : (l ++ [x]).findIdx (fun c => decide (f c = f x)) = l.length := by
  rw [List.findIdx_append]
  have : l.findIdx (fun c => decide (f c = f x)) = l.length := by
    rw [List.findIdx_eq_length]
    intro c hc
    have hx : f c ∈ l.map f := List.mem_map_of_mem hc
    simp only [decide_eq_false_iff_not]
    intro e; exact h (e ▸ hx)
  rw [this]; simp
theorem begin_end {h : Ha} {who claim : Int} (h0 : (beginM h who claim).2.2 = 0) : endM (beginM h who claim).1 who = (h, [], 0) := by
  obtain ⟨hr, hw, hc, hn, hl⟩ := begin_ok h0
  have hr2 := begin_right (who := who) (claim := claim) hr
  have hm := (right_pre.1 hr).2
  have hnc : who ∉ h.cl.map Cl.who := fun hx => hn (List.mem_append_left _ hx)
  have hnq : who ∉ h.q.map Tk.who := fun hx => hn (List.mem_append_right _ hx)
  have hs := ent_stay hm
  rcases begin_way h0 with ⟨e, hq, _, _⟩ | ⟨e, _, _⟩
  · rw [e] at hr2 ⊢
    have hat : cAt ⟨h.fr, h.bu, h.cl ++ [⟨who, claim, 0⟩], []⟩ who = h.cl.length := findIdx_new (f := Cl.who) (x := ⟨who, claim, 0⟩) hnc
    unfold endM
    rw [if_neg (by simp [hr2]), hat, if_pos (by simp)]
    have : (h.cl ++ [(⟨who, claim, 0⟩ : Cl)]).eraseIdx h.cl.length = h.cl := by
      rw [List.eraseIdx_append_of_length_le (Nat.le_refl _)]; simp
    simp only [this]
    have hh : (⟨h.fr, h.bu, h.cl, []⟩ : Ha) = h := by rw [← hq]
    rw [hh, hs.1, hs.2]
  · rw [e] at hr2 ⊢
    have hat : tAt ⟨h.fr, h.bu, h.cl, h.q ++ [⟨who, claim⟩]⟩ who = h.q.length := findIdx_new (f := Tk.who) (x := ⟨who, claim⟩) hnq
    have hct : ¬ cAt ⟨h.fr, h.bu, h.cl, h.q ++ [⟨who, claim⟩]⟩ who < h.cl.length := by
      intro hx
      exact hnc (cAt_lt (h := ⟨h.fr, h.bu, h.cl, h.q ++ [⟨who, claim⟩]⟩).1 hx)
    unfold endM
    rw [if_neg (by simp [hr2]), if_neg hct, hat, if_pos (by simp)]
    have : (h.q ++ [(⟨who, claim⟩ : Tk)]).eraseIdx h.q.length = h.q := by
      rw [List.eraseIdx_append_of_length_le (Nat.le_refl _)]; simp
    simp only [this]
    rw [hs.1, hs.2]
theorem pin_ok {h : Ha} {who : Int} (h0 : (pinM h who).2 = 0) : right h = true ∧ ∃ hi : cAt h who < h.cl.length, h.cl[cAt h who].held ≠ h.cl[cAt h who].claim ∧ (pinM h who).1 = holdM h (cAt h who) 1 := by
  unfold pinM at h0 ⊢
  by_cases h1 : right h = false
  · rw [if_pos h1] at h0; simp at h0
  rw [if_neg h1] at h0 ⊢
  by_cases h2 : h.cl.length ≤ cAt h who
  · rw [if_pos h2] at h0; simp at h0
  rw [if_neg h2] at h0 ⊢
  by_cases h3 : (h.cl.getD (cAt h who) default).held = (h.cl.getD (cAt h who) default).claim
  · rw [if_pos h3] at h0; simp at h0
  rw [if_neg h3] at h0 ⊢
  by_cases h4 : safe ((holdM h (cAt h who) 1).fr - heldS (holdM h (cAt h who) 1).cl) (holdM h (cAt h who) 1).cl = false
  · rw [if_pos h4] at h0; simp at h0
  rw [if_neg h4] at h0 ⊢
  rw [getD_at (by omega)] at h3
  exact ⟨by simpa using h1, by omega, h3, rfl⟩
theorem findIdx_congr {α : Type} {l m : List α} {f : α → Int} (h : l.map f = m.map f) (x : Int) : l.findIdx (fun c => decide (f c = x)) = m.findIdx (fun c => decide (f c = x)) := by
  induction l generalizing m with
  | nil => cases m with
    | nil => rfl
    | cons b m => simp at h
  | cons a l ih => cases m with
    | nil => simp at h
    | cons b m =>
      simp only [List.map_cons, List.cons.injEq] at h
      rw [List.findIdx_cons, List.findIdx_cons, h.1, ih h.2]
theorem hold_at {h : Ha} {who : Int} {d : Int} (hi : cAt h who < h.cl.length) : cAt (holdM h (cAt h who) d) who = cAt h who :=
  findIdx_congr (f := Cl.who) (whos_set hi (by rw [getD_at hi])) who
/-- what is pinned, and unpinned -/
theorem pin_unpin {h : Ha} {who : Int} (h0 : (pinM h who).2 = 0) : unpinM (pinM h who).1 who = (h, 0) ∧ freeM (pinM h who).1 = freeM h - 1 := by
  obtain ⟨hr, hi, hne, he⟩ := pin_ok h0
  have hr2 := pin_right (who := who) hr
  have hg := (Bk.good_of_right (right_pre.1 hr).1.2.1).1 _ (List.getElem_mem hi)
  rw [he] at hr2 ⊢
  have hi2 : cAt h who < (holdM h (cAt h who) 1).cl.length := by simpa [holdM] using hi
  have e2 : (holdM h (cAt h who) 1).cl.getD (cAt h who) default = ⟨h.cl[cAt h who].who, h.cl[cAt h who].claim, h.cl[cAt h who].held + 1⟩ := by
    rw [getD_at hi2]; simp only [holdM, List.getElem_set_self, getD_at hi]
  constructor
  · unfold unpinM
    rw [if_neg (by simp [hr2]), hold_at hi, if_neg (by omega), e2, if_neg (by simp only; omega)]
    have : holdM (holdM h (cAt h who) 1) (cAt h who) (-1) = h := by
      rw [show holdM (holdM h (cAt h who) 1) (cAt h who) (-1) = ⟨h.fr, h.bu, (holdM h (cAt h who) 1).cl.set (cAt h who) ⟨((holdM h (cAt h who) 1).cl.getD (cAt h who) default).who, ((holdM h (cAt h who) 1).cl.getD (cAt h who) default).claim, ((holdM h (cAt h who) 1).cl.getD (cAt h who) default).held + -1⟩, h.q⟩ from rfl, e2]
      have e3 : (⟨h.cl[cAt h who].who, h.cl[cAt h who].claim, h.cl[cAt h who].held + 1 + -1⟩ : Cl) = h.cl[cAt h who] := by
        have : h.cl[cAt h who].held + 1 + -1 = h.cl[cAt h who].held := by omega
        rw [this]
      simp only [e3]
      unfold holdM
      simp only [List.set_set, List.set_getElem_self]
    rw [this]
  · unfold freeM
    rw [if_pos hr2, if_pos hr]
    have e : (holdM h (cAt h who) 1).cl = h.cl.set (cAt h who) ⟨h.cl[cAt h who].who, h.cl[cAt h who].claim, h.cl[cAt h who].held + 1⟩ := by unfold holdM; rw [getD_at hi]
    rw [e, heldS_set hi]
    show h.fr - _ = _
    simp only
    omega
/-- claims of 1 -/
def ones (n i p : Nat) : Ha := ⟨n, 1, (List.range i).map fun j : Nat => Cl.mk (j : Int) 1 (if j < p then 1 else 0), []⟩
theorem ones_begin : ∀ n < 9, 0 < n → ∀ i < min (2 * n) 8, beginM (ones n i 0) i 1 = (ones n (i + 1) 0, true, 0) := by decide +kernel
theorem ones_pin : ∀ n < 9, 0 < n → ∀ p < n, pinM (ones n (min (2 * n) 8) p) p = (ones n (min (2 * n) 8) (p + 1), 0) := by decide +kernel
theorem ones_last : ∀ n < 9, 0 < n → pinM (ones n (min (2 * n) 8) n) n = (ones n (min (2 * n) 8) n, if min (2 * n) 8 ≤ n then 3 else 6) ∧ pinM (ones n (min (2 * n) 8) n) 0 = (ones n (min (2 * n) 8) n, 10) ∧ freeM (ones n (min (2 * n) 8) n) = 0 := by decide +kernel
/-! the document's words -/
def inN (h : Ha) (who : Int) : Nat := (whos h).count who
theorem nodup_in {h : Ha} : (whos h).Nodup ↔ (∀ c ∈ h.cl, inN h c.who = 1) ∧ ∀ t ∈ h.q, inN h t.who = 1 := by
  unfold inN
  constructor
  · intro hh
    refine ⟨fun c hc => ?_, fun t ht => ?_⟩
    · have h1 := List.nodup_iff_count.1 hh c.who
      have h2 : 0 < (whos h).count c.who := List.count_pos_iff.2 (List.mem_append_left _ (List.mem_map_of_mem hc))
      omega
    · have h1 := List.nodup_iff_count.1 hh t.who
      have h2 : 0 < (whos h).count t.who := List.count_pos_iff.2 (List.mem_append_right _ (List.mem_map_of_mem ht))
      omega
  · rintro ⟨h1, h2⟩
    rw [List.nodup_iff_count]
    intro a
    by_cases ha : a ∈ whos h
    · rcases List.mem_append.1 ha with hx | hx
      · obtain ⟨c, hc, rfl⟩ := List.mem_map.1 hx
        exact Nat.le_of_eq (h1 c hc)
      · obtain ⟨c, hc, rfl⟩ := List.mem_map.1 hx
        exact Nat.le_of_eq (h2 c hc)
    · rw [List.count_eq_zero_of_not_mem ha]; omega
theorem right_ref {h : Ha} : right h = (size h && decide (h.cl.length + h.q.length ≤ 40) && Bk.right h.cl && h.cl.all (fun c => okClaim h.fr h.bu c.claim && decide (inN h c.who = 1)) && h.q.all (fun t => okWho t.who && okClaim h.fr h.bu t.claim && decide (inN h t.who = 1)) && (!may h && safe (h.fr - heldS h.cl) h.cl)) := by
  rw [Bool.eq_iff_iff, right_pre]
  unfold Pre
  rw [nodup_in]
  simp only [Bool.and_eq_true, Bool.not_eq_true', decide_eq_true_eq, List.all_eq_true]
  constructor
  · rintro ⟨⟨h1, h2, h3, h4, h5, ⟨h6, h7⟩, h8⟩, h9⟩
    exact ⟨⟨⟨⟨⟨h1, h3⟩, h2⟩, fun c hc => ⟨h4 c hc, h6 c hc⟩⟩, fun t ht => ⟨h5 t ht, h7 t ht⟩⟩, h9, h8⟩
  · rintro ⟨⟨⟨⟨⟨h1, h3⟩, h2⟩, h4⟩, h5⟩, h9, h8⟩
    exact ⟨⟨h1, h2, h3, fun c hc => (h4 c hc).1, fun t ht => (h5 t ht).1, ⟨fun c hc => (h4 c hc).2, fun t ht => (h5 t ht).2⟩, h8⟩, h9⟩
theorem filter_out {α : Type} {l : List α} {f : α → Int} {x : Int} (hn : (l.map f).Nodup) : l.filter (fun c => f c != x) = if l.findIdx (fun c => decide (f c = x)) < l.length then l.eraseIdx (l.findIdx fun c => decide (f c = x)) else l := by
  induction l with
  | nil => rfl
  | cons a l ih =>
    rw [List.map_cons, List.nodup_cons] at hn
    rw [List.findIdx_cons]
    by_cases h : f a = x
    · have hall : l.filter (fun c => f c != x) = l := by
        rw [List.filter_eq_self]
        intro c hc
        rw [bne_iff_ne]
        intro e
        exact hn.1 (by rw [h, ← e]; exact List.mem_map_of_mem hc)
      simp [h, hall]
    · have := ih hn.2
      simp only [h, decide_false, cond_false, List.length_cons, List.eraseIdx_cons_succ]
      rw [List.filter_cons_of_pos (by simpa using h), this]
      by_cases hx : l.findIdx (fun c => decide (f c = x)) < l.length
      · rw [if_pos hx, if_pos (by omega)]
      · rw [if_neg hx, if_neg (by omega)]
def addTo (who d : Int) (c : Cl) : Cl := if c.who = who then ⟨c.who, c.claim, c.held + d⟩ else c
theorem add_set {l : List Cl} {who d : Int} (hn : (l.map Cl.who).Nodup) (hi : l.findIdx (fun c => decide (c.who = who)) < l.length) :
    l.map (addTo who d) = l.set (l.findIdx fun c => decide (c.who = who)) ⟨(l.getD (l.findIdx fun c => decide (c.who = who)) default).who, (l.getD (l.findIdx fun c => decide (c.who = who)) default).claim, (l.getD (l.findIdx fun c => decide (c.who = who)) default).held + d⟩ := by
  induction l with
  | nil => simp at hi
  | cons a l ih =>
    rw [List.map_cons, List.nodup_cons] at hn
    by_cases h : a.who = who
    · have hall : l.map (addTo who d) = l := by
        conv => rhs; rw [← List.map_id l]
        refine List.map_congr_left fun c hc => ?_
        unfold addTo
        rw [if_neg]
        · rfl
        · intro e; exact hn.1 (by rw [h, ← e]; exact List.mem_map_of_mem hc)
      rw [List.findIdx_cons]
      simp only [h, decide_true, cond_true, List.map_cons, hall, List.set_cons_zero, List.getD_cons_zero, List.cons.injEq, and_true]
      unfold addTo; rw [if_pos h, h]
    · rw [List.findIdx_cons] at hi ⊢
      simp only [h, decide_false, cond_false, List.length_cons] at hi ⊢
      have := ih hn.2 (by omega)
      simp only [List.map_cons, List.set_cons_succ, List.getD_cons_succ, List.cons.injEq]
      exact ⟨by unfold addTo; rw [if_neg h], this⟩
end Ad
end Go.Proofs.Yteghmlafodkfpaa
