/- nil slices in boxes and slots as shared ones; the rest of a code once for many ways. -/
import Derived.Test.YtbpipdgkkdifgaaAm22
namespace Go.Proofs.Ytbpipdgkkdifgaa
open Go.RowKit
set_option linter.unusedVariables false
set_option linter.unusedSimpArgs false
theorem sub_cnil {σ : St} {p tp ep i j : Nat} {els : List (List AC)} (e : Nat) (hb : σ.h.blk p = .box tp ep els) (hi : i < els.length) (hj : els[i][j]? = some .zc) (h0 : 0 < e) :
    Sub σ ⟨σ.slot, σ.h.set p (σ.h.gen p) (.box tp ep (els.set i (els[i].set j (.s (.sl e [])))))⟩ := by
  intro O w0 n β a w r
  have hv : σ.h.view p = .mem false tp ep els := by unfold Hp.view; rw [hb]; rfl
  have hB := r.toRelH.blks p
  unfold RepB at hB
  rw [hv] at hB
  simp only at hB
  obtain ⟨h1, h2, ⟨h3, _⟩ | ⟨b, cap, cur, h3, h4, h5, h6⟩⟩ := hB
  · simp at h3
  obtain ⟨hjl, hje⟩ := List.getElem?_eq_some_iff.1 hj
  obtain ⟨k, hk, hset, hget⟩ := flat_set els i j (.s (.sl e [])) hi hjl
  rw [hj] at hget
  obtain ⟨u, hu, hzu⟩ := h5.get hget
  obtain ⟨A, rfl⟩ := hzu
  have t : Turn O σ.h β w w p (σ.h.gen p) (.box tp ep (els.set i (els[i].set j (.s (.sl e []))))) (some b) (β p).2 :=
    ⟨Nat.le_refl _, rfl, rfl, rfl, fun _ _ _ => rfl, fun q hq => .inr ⟨by rw [hv]; rfl, by rw [h3]; exact hq⟩, .inr ⟨rfl, false, tp, ep, els, _, hv, rfl, by rw [← h3]⟩⟩
  refine ⟨_, t.rel r ?_⟩
  unfold RepB
  rw [Hp.view_at]
  simp only [LB.view]
  refine ⟨h1, fun x hx => ?_, .inr ⟨b, cap, cur, by rw [upd_at], h4, ?_, fun hr => by simp at hr⟩⟩
  · rcases List.mem_or_eq_of_mem_set hx with hx | rfl
    · exact h2 x hx
    · rw [List.length_set]; exact h2 _ (List.getElem_mem hi)
  · rw [hset, List.length_set]
    have c7 : RL (RepA σ.h β w (Mine O σ.h β)) (els.flatten.set k (.s (.sl e []))) (cur.toList.take els.flatten.length) := by
      have hz : RepA σ.h β w (Mine O σ.h β) (.s (.sl e [])) (.slice A 0 0) := RepS.sl0 h0 (by unfold maxLen; omega)
      have := h5.set (x := .s (.sl e [])) (u := .slice A 0 0) hz k
      have e1 : (cur.toList.take els.flatten.length).set k (.slice A 0 0) = cur.toList.take els.flatten.length := by
        apply List.ext_getElem?
        intro q
        rw [List.getElem?_set]
        split
        · rename_i hq
          subst hq
          split
          · exact hu.symm
          · rename_i hlt
            rw [List.getElem?_eq_none (by omega)]
        · rfl
      rw [e1] at this
      exact this
    exact c7.mono (fun x u hx => t.repA r.toRelH hx)
theorem sub_ice {σ : St} {l ty e : Nat} {els : List (List SC)} (hb : σ.h.blk l = .row ty e els) : Sub σ ⟨σ.slot, σ.h.set l (σ.h.gen l) (.ice (.sl e els))⟩ := by
  intro O w0 n β a w r
  obtain ⟨h1, h2⟩ := r.toRelH.freeze hb
  exact ⟨β, h1, r.hd, r.hn, fun t => (r.slots t).mono h2⟩
theorem sub_thaw {σ : St} {p tp ep i j l : Nat} {g : Nat} {x : SC} {els : List (List AC)} (hb : σ.h.blk p = .box tp ep els) (hi : i < els.length) (hj : els[i][j]? = some (.own l g)) (hl : σ.h.blk l = .ice x) (hg : σ.h.gen l = g) :
    Sub σ ⟨σ.slot, σ.h.set p (σ.h.gen p) (.box tp ep (els.set i (els[i].set j (.s x))))⟩ := by
  intro O w0 n β a w r
  have hv : σ.h.view p = .mem false tp ep els := by unfold Hp.view; rw [hb]; rfl
  have hB := r.toRelH.blks p
  unfold RepB at hB
  rw [hv] at hB
  simp only at hB
  obtain ⟨h1, h2, ⟨h3, _⟩ | ⟨b, cap, cur, h3, h4, h5, h6⟩⟩ := hB
  · simp at h3
  obtain ⟨hjl, hje⟩ := List.getElem?_eq_some_iff.1 hj
  obtain ⟨k, hk, hset, hget⟩ := flat_set els i j (.s x) hi hjl
  rw [hj] at hget
  obtain ⟨u, hu, hzu⟩ := h5.get hget
  have hxu : RepS w (Mine O σ.h β) x u := by
    have h7 := hzu.2.2 hg.symm
    have hvl : σ.h.view l = .ice x := by unfold Hp.view; rw [hl]; rfl
    rw [hvl] at h7
    exact h7
  have t : Turn O σ.h β w w p (σ.h.gen p) (.box tp ep (els.set i (els[i].set j (.s x)))) (some b) (β p).2 :=
    ⟨Nat.le_refl _, rfl, rfl, rfl, fun _ _ _ => rfl, fun q hq => .inr ⟨by rw [hv]; rfl, by rw [h3]; exact hq⟩, .inr ⟨rfl, false, tp, ep, els, _, hv, rfl, by rw [← h3]⟩⟩
  refine ⟨_, t.rel r ?_⟩
  unfold RepB
  rw [Hp.view_at]
  simp only [LB.view]
  refine ⟨h1, fun y hy => ?_, .inr ⟨b, cap, cur, by rw [upd_at], h4, ?_, fun hr => by simp at hr⟩⟩
  · rcases List.mem_or_eq_of_mem_set hy with hy | rfl
    · exact h2 y hy
    · rw [List.length_set]; exact h2 _ (List.getElem_mem hi)
  · rw [hset, List.length_set]
    have c7 : RL (RepA σ.h β w (Mine O σ.h β)) (els.flatten.set k (.s x)) (cur.toList.take els.flatten.length) := by
      have hz : RepA σ.h β w (Mine O σ.h β) (.s x) u := hxu
      have := h5.set (x := .s x) (u := u) hz k
      have e1 : (cur.toList.take els.flatten.length).set k u = cur.toList.take els.flatten.length := by
        apply List.ext_getElem?
        intro q
        rw [List.getElem?_set]
        split
        · rename_i hq
          subst hq
          split
          · exact hu.symm
          · rename_i hlt
            rw [List.getElem?_eq_none (by omega)]
        · rfl
      rw [e1] at this
      exact this
    exact c7.mono (fun y u hy => t.repA r.toRelH hy)
/-- a row of one's own in a box's cell becomes a shared slice -/
theorem sub_melt {σ : St} {p tp ep i j l ty e g : Nat} {els : List (List AC)} {xs : List (List SC)} (hb : σ.h.blk p = .box tp ep els) (hi : i < els.length) (hj : els[i][j]? = some (.own l g)) (hg : σ.h.gen l = g) (hl : σ.h.blk l = .row ty e xs) (hpl : p ≠ l) :
    Sub σ ⟨σ.slot, (σ.h.set l g (.ice (.sl e xs))).set p (σ.h.gen p) (.box tp ep (els.set i (els[i].set j (.s (.sl e xs)))))⟩ := by
  intro O w0 n β a w r
  obtain ⟨β1, r1⟩ := sub_ice hl O w0 n β a w r
  have h2 := sub_thaw (σ := ⟨σ.slot, σ.h.set l (σ.h.gen l) (.ice (.sl e xs))⟩) (p := p) (tp := tp) (ep := ep) (i := i) (j := j) (l := l) (g := g) (x := .sl e xs) (els := els) (by show upd σ.h.blk l _ p = _; rw [upd_ne _ _ hpl]; exact hb) hi hj (upd_at _ _ _) (by show (σ.h.set l (σ.h.gen l) (.ice (.sl e xs))).gen l = _; rw [Hp.gen_at]; exact hg) O w0 n β1 a w r1
  obtain ⟨β2, r2⟩ := h2
  refine ⟨β2, ?_⟩
  have e1 : (σ.h.set l (σ.h.gen l) (.ice (.sl e xs))).gen p = σ.h.gen p := Hp.gen_ne _ _ _ hpl
  rw [← hg, ← e1]
  exact r2
theorem sub_nil {σ : St} {s : Nat} (e : Nat) (hs : σ.slot s = .c .zc) (h0 : 0 < e) : Sub σ ⟨upd σ.slot s (.c (.s (.sl e []))), σ.h⟩ := by
  intro O w0 n β a w r
  refine ⟨β, r.toRelH, r.hd, r.hn, fun t => ?_⟩
  show RepT _ (upd σ.slot s _ t) _
  by_cases et : t = s
  · rw [et, upd_at]
    have hz := r.slots s
    rw [hs] at hz
    obtain ⟨A, hA⟩ := hz
    rw [hA]
    exact RepS.sl0 h0 (by unfold maxLen; omega)
  · rw [upd_ne _ _ et]; exact r.slots t
theorem all_of_mem2 {α β : Type} {f : α → β} {p : α → Prop} : ∀ {ys : List β}, (∀ y ∈ ys, ∃ x, y = f x ∧ p x) → ∃ xs : List α, ys = xs.map f ∧ ∀ x ∈ xs, p x
  | [], _ => ⟨[], rfl, by simp⟩
  | y :: ys, h => by
    obtain ⟨x, hx, px⟩ := h y (by simp)
    obtain ⟨xs, hxs, pxs⟩ := all_of_mem2 (ys := ys) (fun z hz => h z (by simp [hz]))
    exact ⟨x :: xs, by rw [hx, hxs]; rfl, fun z hz => (List.mem_cons.1 hz).elim (fun e => by rw [e]; exact px) (pxs z)⟩
theorem with_tail {A : Prop} {F : St → Prop} (G : St → Prop) (h1 : (∀ σ, F σ → G σ) → A) (h2 : ∀ σ, F σ → G σ) : A := h1 h2
end Go.Proofs.Ytbpipdgkkdifgaa
