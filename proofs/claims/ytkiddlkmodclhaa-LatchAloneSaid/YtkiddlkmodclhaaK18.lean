/- layer 8: a nil slice in a box seen as a shared one; plain facts for LatchAlone. -/
import Derived.Test.YtkiddlkmodclhaaK16
import Derived.Test.YtkiddlkmodclhaaK15
namespace Go.Proofs.Ytkiddlkmodclhaa
open Go.RowKit La
set_option linter.unusedVariables false
set_option linter.unusedSimpArgs false
theorem sub_cnil {σ : St} {p tp ep i j : Nat} {els : List (List AC)} (e : Nat) (hb : σ.h.blk p = .box tp ep els) (hi : i < els.length) (hj : els[i][j]? = some .zc) (h0 : 0 < e) :
    Sub σ ⟨σ.slot, σ.h.set p (σ.h.gen p) (.box tp ep (els.set i (els[i].set j (.s (.sl e [])))))⟩ := by
  intro O w0 n β a w r
  have hv : σ.h.view p = .mem false tp ep els := by unfold Hp.view; rw [hb]; rfl
  have hB := r.toRelH.blks p
  unfold RepB at hB
  rw [hv] at hB
  simp only at hB
  obtain ⟨h1, h2, ⟨h3, _⟩ | ⟨b, cap, cur, h3, h4, h5, h6⟩⟩ := hB
  · simp at h3
  obtain ⟨hjl, hje⟩ := List.getElem?_eq_some_iff.1 hj
  obtain ⟨k, hk, hset, hget⟩ := flat_set els i j (.s (.sl e [])) hi hjl
  rw [hj] at hget
  obtain ⟨u, hu, hzu⟩ := h5.get hget
  obtain ⟨A, rfl⟩ := hzu
  have t : Turn O σ.h β w w p (σ.h.gen p) (.box tp ep (els.set i (els[i].set j (.s (.sl e []))))) (some b) (β p).2 :=
    ⟨Nat.le_refl _, rfl, rfl, rfl, fun _ _ _ => rfl, fun q hq => .inr ⟨by rw [hv]; rfl, by rw [h3]; exact hq⟩, .inr ⟨rfl, false, tp, ep, els, _, hv, rfl, by rw [← h3]⟩⟩
  refine ⟨_, t.rel r ?_⟩
  unfold RepB
  rw [Hp.view_at]
  simp only [LB.view]
  refine ⟨h1, fun x hx => ?_, .inr ⟨b, cap, cur, by rw [upd_at], h4, ?_, fun hr => by simp at hr⟩⟩
  · rcases List.mem_or_eq_of_mem_set hx with hx | rfl
    · exact h2 x hx
    · rw [List.length_set]; exact h2 _ (List.getElem_mem hi)
  · rw [hset, List.length_set]
    have c7 : RL (RepA σ.h β w (Mine O σ.h β)) (els.flatten.set k (.s (.sl e []))) (cur.toList.take els.flatten.length) := by
      have hz : RepA σ.h β w (Mine O σ.h β) (.s (.sl e [])) (.slice A 0 0) := RepS.sl0 h0 (by unfold maxLen; omega)
      have := h5.set (x := .s (.sl e [])) (u := .slice A 0 0) hz k
      have e1 : (cur.toList.take els.flatten.length).set k (.slice A 0 0) = cur.toList.take els.flatten.length := by
        apply List.ext_getElem?
        intro q
        rw [List.getElem?_set]
        split
        · rename_i hq
          subst hq
          split
          · exact hu.symm
          · rename_i hlt
            rw [List.getElem?_eq_none (by omega)]
        · rfl
      rw [e1] at this
      exact this
    exact c7.mono (fun x u hx => t.repA r.toRelH hx)
theorem sub_nil {σ : St} {s : Nat} (e : Nat) (hs : σ.slot s = .c .zc) (h0 : 0 < e) : Sub σ ⟨upd σ.slot s (.c (.s (.sl e []))), σ.h⟩ := by
  intro O w0 n β a w r
  refine ⟨β, r.toRelH, r.hd, r.hn, fun t => ?_⟩
  show RepT _ (upd σ.slot s _ t) _
  by_cases et : t = s
  · rw [et, upd_at]
    have hz := r.slots s
    rw [hs] at hz
    obtain ⟨A, hA⟩ := hz
    rw [hA]
    exact RepS.sl0 h0 (by unfold maxLen; omega)
  · rw [upd_ne _ _ et]; exact r.slots t
theorem nodup_sub : ∀ (l L : List Int), l.Nodup → (∀ x ∈ l, x ∈ L) → l.length ≤ L.length
  | [], L, _, _ => by simp
  | a :: t, L, h, hs => by
    obtain ⟨h1, h2⟩ := List.nodup_cons.1 h
    have ha : a ∈ L := hs a (by simp)
    have := nodup_sub t (L.erase a) h2 (fun x hx => (List.mem_erase_of_ne (fun e : x = a => h1 (e ▸ hx))).2 (hs x (by simp [hx])))
    rw [List.length_erase_of_mem ha] at this
    have hp := List.length_pos_of_mem ha
    simp only [List.length_cons]
    omega
structure Mid (P : Lt) (f : Int → Int) (g : Int → Bool) (c : Int) : Prop where
  pre : Pre P
  rng : ∀ n ∈ whos P, 0 ≤ n ∧ n ≤ 9
  inn : ∀ n, 0 ≤ n ∧ n ≤ 9 → (f n ≠ 0 ↔ n ∈ whos P)
  hol : ∀ n ∈ P.h, g n = P.ex
  wai : ∀ w ∈ P.q, g w.who = w.ex
  inc : P.q.Pairwise fun a b => f a.who < f b.who
  bnd : ∀ n, 0 ≤ n ∧ n ≤ 9 → 0 ≤ f n ∧ f n ≤ c
def Good (l : Lt) (f : Int → Int) (g : Int → Bool) (c : Int) : Prop := Mid l f g c ∧ may l = false
theorem Good.right {l : Lt} {f : Int → Int} {g : Int → Bool} {c : Int} (h : Good l f g c) : right l = true := right_iff.2 ⟨h.1.pre, h.2⟩
theorem mid_len {P : Lt} {f : Int → Int} {g : Int → Bool} {c : Int} (h : Mid P f g c) : P.h.length + P.q.length ≤ 10 := by
  have := nodup_sub (whos P) (rg 10) h.pre.2.2.2.2 (fun x hx => by rw [rg_mem]; have := h.rng x hx; omega)
  rw [rg_len] at this
  simpa [whos] using this
/-- what came in, in its order, seen by the law -/
def Came (hs : List Int) (f : Int → Int) (cs : List Int) : Prop :=
  ∀ j (hj : j < cs.length), (0 ≤ cs[j] ∧ cs[j] ≤ 9) ∧ cs[j] ∉ hs ++ cs.take j ∧ f cs[j] ≠ 0 ∧ ∀ k, 0 ≤ k ∧ k ≤ 9 → f k ≠ 0 → f k < f cs[j] → k ∈ hs ++ cs.take (j + 1)
theorem mid_ent {P : Lt} {f : Int → Int} {g : Int → Bool} {c : Int} (h : Mid P f g c) : Good (ent P.h P.ex P.q).1 f g c ∧ Came P.h f (ent P.h P.ex P.q).2 ∧ (∀ n, n ∈ (ent P.h P.ex P.q).1.h ↔ n ∈ P.h ++ (ent P.h P.ex P.q).2) ∧ (ent P.h P.ex P.q).2.length ≤ 10 := by
  obtain ⟨f1, f2, f3, k, f4, f5, f6, f7, f8, f9, f10, f11⟩ := ent_facts _ _ _ h.pre
  obtain ⟨hp, hq⟩ : ∃ l', l' = (ent P.h P.ex P.q).1 := ⟨_, rfl⟩
  have hwt : ∀ n ∈ (P.q.take k).map Wt.who, ∃ w ∈ P.q, w.who = n ∧ w ∈ P.q.take k := by
    intro n hn
    obtain ⟨w, hw, rfl⟩ := List.mem_map.1 hn
    exact ⟨w, List.mem_of_mem_take hw, rfl, hw⟩
  refine ⟨⟨⟨f1, fun n hn => h.rng n (f3.mem_iff.1 hn), fun n hn => (h.inn n hn).trans f3.mem_iff.symm, ?_, ?_, ?_, h.bnd⟩, f2⟩, ?_, ?_, ?_⟩
  · intro n hn
    rcases (f7 n).1 hn with hn | hn
    · rw [h.hol n hn, f11 (List.ne_nil_of_mem hn)]
    · obtain ⟨w, hw, rfl, hwk⟩ := hwt n hn
      rw [h.wai w hw, f8 w hwk]
  · intro w hw
    rw [f4] at hw
    exact h.wai w (List.mem_of_mem_drop hw)
  · rw [f4]
    exact h.inc.sublist (List.drop_sublist _ _)
  · intro j hj
    have hjq : j < P.q.length ∧ j < k := by rw [f5] at hj; simp at hj; omega
    have hg : (ent P.h P.ex P.q).2[j] = (P.q[j]'hjq.1).who := by simp [f5]
    have hmem : (P.q[j]'hjq.1).who ∈ whos P := List.mem_append_right _ (List.mem_map.2 ⟨_, List.getElem_mem _, rfl⟩)
    have htk : (ent P.h P.ex P.q).2.take j = (P.q.take j).map Wt.who := by
      rw [f5, ← List.map_take, List.take_take, Nat.min_eq_left (by omega)]
    have htk2 : (ent P.h P.ex P.q).2.take (j + 1) = (P.q.take (j + 1)).map Wt.who := by
      rw [f5, ← List.map_take, List.take_take, Nat.min_eq_left (by omega)]
    rw [hg, htk, htk2]
    have hr := h.rng _ hmem
    have hnd := List.nodup_append.1 h.pre.2.2.2.2
    refine ⟨hr, ?_, (h.inn _ hr).2 hmem, ?_⟩
    · intro hin
      rcases List.mem_append.1 hin with hin | hin
      · exact hnd.2.2 _ hin _ (List.mem_map.2 ⟨_, List.getElem_mem hjq.1, rfl⟩) rfl
      · have h2 := hnd.2.1
        obtain ⟨w, hw, e⟩ := List.mem_map.1 hin
        obtain ⟨i, hi, rfl⟩ := List.mem_take_iff_getElem.1 hw
        have h3 := List.pairwise_iff_getElem.1 h2 i j (by simp; omega) (by simpa using hjq.1) (by omega)
        exact h3 (by simpa using e)
    · intro n hn hn0 hlt
      have hnm := (h.inn n hn).1 hn0
      rcases List.mem_append.1 hnm with hin | hin
      · exact List.mem_append_left _ hin
      · refine List.mem_append_right _ ?_
        obtain ⟨w, hw, rfl⟩ := List.mem_map.1 hin
        obtain ⟨i, hi, rfl⟩ := List.getElem_of_mem hw
        refine List.mem_map.2 ⟨P.q[i], List.mem_take_iff_getElem.2 ⟨i, ?_, rfl⟩, rfl⟩
        rcases Nat.lt_or_ge j i with hji | hji
        · have := List.pairwise_iff_getElem.1 h.inc j i hjq.1 hi hji
          omega
        · omega
  · intro n
    rw [f7, f5, List.mem_append]
  · have := mid_len h
    rw [f5]; simp; omega
def up {α : Type} (f : Int → α) (k : Int) (v : α) : Int → α := fun n => if n = k then v else f n
theorem mid_ask {l : Lt} {f : Int → Int} {g : Int → Bool} {c : Int} {who : Int} {ex : Bool} (h : Good l f g c) (hc : 0 ≤ c) (hw : 0 ≤ who ∧ who ≤ 9) (hn : who ∉ whos l) : Mid ⟨l.h, l.ex, l.q ++ [⟨who, ex⟩]⟩ (up f who (c + 1)) (up g who ex) (c + 1) := by
  have hlen := mid_len h.1
  have hwh : ∀ n, n ∈ whos ⟨l.h, l.ex, l.q ++ [⟨who, ex⟩]⟩ ↔ n ∈ whos l ∨ n = who := by
    intro n; simp [whos, or_assoc]
  have hne : ∀ n ∈ whos l, n ≠ who := fun n h1 e => hn (e ▸ h1)
  have hok : okWho who = true := by unfold okWho; simp; omega
  refine ⟨pre_ask h.right hok hn (by omega), ?_, ?_, ?_, ?_, ?_, ?_⟩
  · intro n hm
    rcases (hwh n).1 hm with hm | rfl
    · exact h.1.rng n hm
    · exact hw
  · intro n hr
    rw [hwh]
    unfold up
    by_cases e : n = who
    · rw [if_pos e]; simp [e]; omega
    · rw [if_neg e, h.1.inn n hr]; simp [e]
  · intro n hm
    have : n ≠ who := hne n (List.mem_append_left _ hm)
    unfold up
    rw [if_neg this]; exact h.1.hol n hm
  · intro w hm
    unfold up
    rcases List.mem_append.1 hm with hm | hm
    · have : w.who ≠ who := hne _ (List.mem_append_right _ (List.mem_map.2 ⟨w, hm, rfl⟩))
      rw [if_neg this]; exact h.1.wai w hm
    · rw [List.mem_singleton.1 hm, if_pos rfl]
  · rw [List.pairwise_append]
    have hq : ∀ w ∈ l.q, up f who (c + 1) w.who = f w.who := fun w hm => by
      unfold up
      rw [if_neg (hne _ (List.mem_append_right _ (List.mem_map.2 ⟨w, hm, rfl⟩)))]
    refine ⟨h.1.inc.imp_of_mem (fun {a b} ha hb hlt => by rw [hq a ha, hq b hb]; exact hlt), by simp, ?_⟩
    intro a ha b hb
    rw [List.mem_singleton.1 hb, hq a ha]
    have hm : a.who ∈ whos l := List.mem_append_right _ (List.mem_map.2 ⟨a, ha, rfl⟩)
    have := (h.1.bnd a.who (h.1.rng _ hm)).2
    unfold up
    rw [if_pos rfl]
    omega
  · intro n hr
    have := h.1.bnd n hr
    unfold up
    split <;> omega
theorem mid_same {l : Lt} {f : Int → Int} {g : Int → Bool} {c : Int} (h : Good l f g c) : Good l f g (c + 1) :=
  ⟨⟨h.1.pre, h.1.rng, h.1.inn, h.1.hol, h.1.wai, h.1.inc, fun n hr => by have := h.1.bnd n hr; omega⟩, h.2⟩
theorem mid_drop {l : Lt} {f : Int → Int} {g : Int → Bool} {c : Int} {who : Int} (h : Good l f g c) (hw : 0 ≤ who ∧ who ≤ 9) {P : Lt} (hpre : Pre P) (hsub : ∀ n, n ∈ whos P ↔ n ∈ whos l ∧ n ≠ who) (hh : ∀ n ∈ P.h, n ∈ l.h ∧ P.ex = l.ex) (hq : P.q.Sublist l.q) : Mid P (up f who 0) g (c + 1) := by
  refine ⟨hpre, fun n hn => h.1.rng n ((hsub n).1 hn).1, ?_, fun n hn => by rw [(hh n hn).2]; exact h.1.hol n (hh n hn).1, fun w hw => h.1.wai w (hq.subset hw), ?_, ?_⟩
  · intro n hr
    rw [hsub]
    unfold up
    by_cases e : n = who
    · rw [if_pos e]; simp [e]
    · rw [if_neg e, h.1.inn n hr]; simp [e]
  · have hne : ∀ w ∈ P.q, up f who 0 w.who = f w.who := fun w hm => by
      have := ((hsub w.who).1 (List.mem_append_right _ (List.mem_map.2 ⟨w, hm, rfl⟩))).2
      unfold up
      rw [if_neg this]
    exact (h.1.inc.sublist hq).imp_of_mem (fun {a b} ha hb hlt => by rw [hne a ha, hne b hb]; exact hlt)
  · intro n hr
    have := h.1.bnd n hr
    unfold up
    split <;> omega
theorem good_drop {l : Lt} {f : Int → Int} {g : Int → Bool} {c : Int} {who : Int} (h : Good l f g c) (hw : 0 ≤ who ∧ who ≤ 9) (hn : who ∈ whos l) : ∃ hs, (dropM l who).2.2 = 0 ∧ Good (dropM l who).1 (up f who 0) g (c + 1) ∧ Came hs (up f who 0) (dropM l who).2.1 ∧ (∀ n, n ∈ hs ↔ n ∈ l.h ∧ n ≠ who) ∧ (∀ n, n ∈ (dropM l who).1.h ↔ n ∈ hs ++ (dropM l who).2.1) ∧ (dropM l who).2.1.length ≤ 10 := by
  have hr := h.right
  obtain ⟨p1, p2⟩ := rDrop_eq hr hn
  have hnd := List.nodup_append.1 h.1.pre.2.2.2.2
  have hmh : ∀ n, n ∈ drH l.h who ↔ n ∈ l.h ∧ n ≠ who := fun n => by unfold drH; simp
  have hmid : Mid ⟨drH l.h who, drE (drH l.h who) l.ex, drQ l.q who⟩ (up f who 0) g (c + 1) := by
    refine mid_drop h hw p1 ?_ ?_ (List.filter_sublist)
    · intro n
      unfold whos
      simp only [List.mem_append, List.mem_map, hmh, drQ, List.mem_filter, bne_iff_ne, ne_eq]
      constructor
      · rintro (⟨h1, h2⟩ | ⟨w, ⟨h1, h2⟩, rfl⟩)
        · exact ⟨.inl h1, h2⟩
        · exact ⟨.inr ⟨w, h1, rfl⟩, h2⟩
      · rintro ⟨h1 | ⟨w, h1, rfl⟩, h2⟩
        · exact .inl ⟨h1, h2⟩
        · exact .inr ⟨w, ⟨h1, h2⟩, rfl⟩
    · intro n hm
      refine ⟨((hmh n).1 hm).1, ?_⟩
      simp only
      simp only at hm
      cases hd : drH l.h who with
      | nil => rw [hd] at hm; simp at hm
      | cons a t => rfl
  obtain ⟨e1, e2, e3, e4⟩ := mid_ent hmid
  simp only at e1 e2 e3 e4
  rw [p2]
  exact ⟨drH l.h who, rfl, e1, e2, hmh, e3, e4⟩
end Go.Proofs.Ytkiddlkmodclhaa
