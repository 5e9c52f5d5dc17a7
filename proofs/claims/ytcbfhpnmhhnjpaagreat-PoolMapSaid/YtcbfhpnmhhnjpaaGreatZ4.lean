import Derived.Test.YtcbfhpnmhhnjpaaGreatZ3
set_option linter.unusedVariables false
set_option linter.unusedSimpArgs false
namespace Go.Proofs.YtcbfhpnmhhnjpaaGreat
open Go.RowKit
section
variable {P : Program} {O : Nat → Prop} {w0 : Base} {n : Nat} {σ : St} {β : Env} {a : Act} {w : World}
theorem run_append_zero {t ty e : Nat} {i : TypeInfo} (ht : P.underlying t = some (.slice e)) (hi : P.info? e = some i) (A B : Option Addr) (m cap c : Nat) (h : m ≤ cap) (w : World) :
    (Builtin.append_ #[t, t] ty #[.slice A m cap, .slice B 0 c]).run P w = .ok (.slice A m cap) w := by
  cases A <;> cases B <;> simp [Builtin.append_, run_underlying ht, run_sizeOf' hi, Builtin.lenOf, Builtin.firstCells, h, loadCells, loadCellsFrom, storeCells]
theorem take_all {α : Type} (xs ys : List α) (k : Nat) (h : k = xs.length) : (xs ++ ys).take k = xs := by rw [h]; exact List.take_left
def NewsAt (w : World) (O : Nat → Prop) (e : Nat) (news : List (List SC)) (u : Value) : Prop :=
  ∃ B c, u = .slice B news.length c ∧ (0 < news.length → ∃ b off us, B = some ⟨b, off, none⟩ ∧ RL (RepS w O) news.flatten us ∧ (∀ x ∈ news, x.length = e) ∧ us.length = news.length * e ∧
    (∀ j v, us[j]? = some v → w.cell? ((⟨b, off, none⟩ : Addr).add j) = some v) ∧ ∀ v ∈ us, v.oneCell' = true)
theorem news_s {O : Nat → Prop} {e : Nat} {news : List (List SC)} {u : Value} (h : RepS w O (.sl e news) u) : NewsAt w O e news u := by
  cases h with
  | sl0 h0 hm => exact ⟨_, _, rfl, fun h => by simp at h⟩
  | sl h0 hcap hm hb hO he hl hr hc =>
    rename_i b off cap us
    refine ⟨_, _, rfl, fun _ => ⟨b, off, us, rfl, ⟨hl, hr⟩, he, ?_, ?_, ?_⟩⟩
    · rw [← hl, flatten_len news he]
    · intro j v hv
      obtain ⟨hj, rfl⟩ := List.getElem?_eq_some_iff.1 hv
      rw [add_off]; exact hc j hj
    · intro v hv
      obtain ⟨k, hk, rfl⟩ := List.getElem_of_mem hv
      exact (hr k (by rw [hl]; exact hk) hk).one
theorem SlOf.news {h : Hp} (r : RelH O w0 h β w) {e : Nat} {x : TV AC} {els : List (List SC)} {ws : List (Nat × Nat × LB)} (hs : SlOf e h x els ws) {u : Value} (hx : RepT (RepA h β w (Mine O h β)) x u) : NewsAt w (Mine O h β) e els u := by
  cases hs with
  | zc => obtain ⟨A, rfl⟩ := hx; exact ⟨A, 0, rfl, fun h => by simp at h⟩
  | s => exact news_s hx
  | tag => cases hx with
    | tag h hb => exact news_s h
  | row hk =>
    rename_i l ty
    have h2 := hx.2.2 rfl
    have hv : h.view l = .mem true ty e (els.map (List.map AC.s)) := by unfold Hp.view; rw [hk]; rfl
    rw [hv] at h2
    have h3 := h2 rfl
    have h4 := r.blks l
    unfold RepB at h4
    rw [hv] at h4
    simp only at h4
    obtain ⟨h0, he, ⟨_, h5, _, A, h6⟩ | ⟨b, cap, cur, h5, h6, h7, h8⟩⟩ := h4
    · have : els = [] := by simpa using h5
      subst this
      exact ⟨A, 0, by rw [h3, h6]; rfl, fun h => by simp at h⟩
    · obtain ⟨k1, k2, k3, k4⟩ := h8 trivial
      have hln : (els.map (List.map AC.s)).length = els.length := by simp
      have hfl : (els.map (List.map AC.s)).flatten = els.flatten.map AC.s := by rw [← List.map_flatten]
      have he2 : ∀ x ∈ els, x.length = e := fun x hx => by simpa using he (x.map AC.s) (List.mem_map_of_mem hx)
      rw [hln] at k1
      rw [hfl, List.length_map] at h7
      have h9 : RL (RepS w (Mine O h β)) els.flatten (cur.toList.take els.flatten.length) :=
        ⟨by have := h7.1; rw [List.length_map] at this; exact this, fun i a b => by have := h7.2 i (by rw [List.length_map]; exact a) b; rw [List.getElem_map] at this; exact this⟩
      refine ⟨_, _, by rw [h3, k1], fun _ => ⟨b, 0, _, rfl, h9, he2, by rw [← h9.1, flatten_len els he2], ?_, ?_⟩⟩
      · intro j v hv
        rw [add_off, Nat.zero_add, h6.cell]
        rw [List.getElem?_take] at hv
        split at hv
        · simpa using hv
        · simp at hv
      · intro v hv
        obtain ⟨k, hk, rfl⟩ := List.getElem_of_mem hv
        exact (h9.2 k (by rw [h9.1]; exact hk) hk).one
  | ice hk =>
    rename_i l
    have h2 := hx.2.2 rfl
    have hv : h.view l = .ice (.sl e els) := by unfold Hp.view; rw [hk]; rfl
    rw [hv] at h2
    exact news_s h2
theorem below_grown {w : World} {cs : Array Value} {e : Nat} : Below w.heap.size w (w.drew.alloc (.cells cs e)) :=
  ((Below.refl _ _).drew).alloc (Nat.le_refl _) _
theorem zv_size {ti : TI} {e : Nat} (hti : TIs P e ti) : ti.zv.cells.size = ti.n := by
  have := (cacs_ok (h := ⟨fun _ => 0, fun _ => .dead⟩) (β := fun _ => (none, undef)) (w := default) (O := fun _ => False) hti.zero).1
  have h := hti.len
  simp at this; omega
theorem grown_cells {R : SC → Value → Prop} {xs : List SC} {us : List Value} (h : RL R xs us) (z : Array Value) (k : Nat) : RL R xs ((us.toArray ++ Builtin.zeroCells z k).toList.take xs.length) := by
  rw [Array.toList_append, List.take_append_of_le_length (by rw [h.1]; simp), List.take_of_length_le (by rw [h.1]; simp)]
  simpa using h
theorem op_app0 (r : Rel O w0 n σ β a w) {o : Oper} {d t e : Nat} {ti : TI} {x y : Operand} {x' y' : Opd} {news : List (List SC)} {ws : List (Nat × Nat × LB)} (ho : o.op = .call { callee := .builtin .append, args := #[x, y], argTypes := #[t, t] }) (ex : copd x = some x') (ey : copd y = some y')
    (ht : P.underlying t = some (.slice e)) (hti : TIs P e ti) (hx : σ.ev x' = .c .zc) (hy : sliceOf ti.n σ.h (σ.ev y') = some (news, ws)) (hb : (news.length : Int) * ti.bytes ≤ 140737488355328) (h63 : (news.length : Int) ≤ 9223372036854775807) :
    Ok1 P o a w (Done O w0 n σ a (.c (.own d (σ.h.gen d + 1))) [(d, σ.h.gen d + 1, .row e ti.n news)]) := by
  obtain ⟨i, dd, i1, i2, i3, i4, i5, i6⟩ := hti.info
  have hx2 := r.ev ex
  rw [hx] at hx2
  obtain ⟨A, hu⟩ := hx2
  obtain ⟨B, c, hv, hnews⟩ := (sliceOf_ok hy).news r.toRelH (r.ev ey)
  by_cases h0 : news.length = 0
  · obtain rfl := List.eq_nil_of_length_eq_zero h0
    have hrun := run_append_zero (P := P) (ty := o.type) ht i1 A B 0 0 c (Nat.le_refl _) w
    refine Ok1.value (u := .slice A 0 0) (w' := w) ?_ ⟨_, r.fresh0 (d := d) (ty := e) hti.pos A, own_mk rfl⟩
    simp only [List.length_nil] at hv
    simp [execOp, ho, resolve, invoke, builtin, hu, hv, hrun]
  · obtain ⟨b, off, us, rfl, hr, he, hl, hc, h1⟩ := hnews (by omega)
    have hbz : (news.length * i.bytes : Nat) ≤ 140737488355328 := by
      rw [← i5] at hb
      have : ((news.length * i.bytes : Nat) : Int) ≤ 140737488355328 := by rw [Int.natCast_mul]; exact hb
      omega
    have hcap : news.length ≤ grownCap w news.length 0 e := grownCap_ge _ _ _ _
    have hcm : grownCap w news.length 0 e ≤ maxLen := grownCap_le_maxLen _ _ _ _ (by unfold maxLen; omega)
    have hzl := zv_size hti
    have hrun : (Builtin.append_ #[t, t] o.type #[.slice A 0 0, .slice (some ⟨b, off, none⟩) news.length c]).run P w = .ok (.slice (some ⟨w.heap.size, 0, none⟩) news.length (grownCap w news.length 0 e)) (w.drew.alloc (.cells (us.toArray ++ Builtin.zeroCells ti.zv.cells (grownCap w news.length 0 e - news.length)) e)) := by
      cases A with
      | none => exact run_append_nil w t o.type e i ti.zv ht i1 i3 ⟨b, off, none⟩ news.length c us (by rw [i4]; exact hl) hc (by omega) h63 (by omega)
      | some A =>
        have := run_append_grow (P := P) w t o.type e i ti.zv ht i1 i3 A 0 0 [] (by simp) (by simp) ⟨b, off, none⟩ news.length c us (by rw [i4]; exact hl) hc (by omega) (by simpa using h63) (growslice_fits (by omega) (by simpa using hbz))
        simpa using this
    have hlb : (LB.row e ti.n news).view = .mem true e ti.n (news.map (List.map AC.s)) := rfl
    have hln : (news.map (List.map AC.s)).length = news.length := by simp
    have hfl : (news.map (List.map AC.s)).flatten = news.flatten.map AC.s := by rw [← List.map_flatten]
    have hfr := r.fresh (d := d) (g := w.heap.size) (cap := grownCap w news.length 0 e) hlb hti.pos (by intro x hx; obtain ⟨y, hy, rfl⟩ := List.mem_map.1 hx; rw [List.length_map]; exact he y hy)
      (below_grown (w := w) (cs := us.toArray ++ Builtin.zeroCells ti.zv.cells (grownCap w news.length 0 e - news.length)) (e := e)) (Nat.le_refl _) (Blk.new w.drew _ _) (by
        rw [hfl, List.length_map]
        exact (grown_cells hr _ _).map AC.s (fun x u hx => hx)) (fun _ => ⟨by rw [hln]; exact hcap, hcm, by
        simp only [Array.size_append, List.size_toArray, size_zeroCells, hzl, hl, ← Nat.add_mul]
        congr 1; omega⟩)
    have hown := own_mk (w := w.drew.alloc (.cells (us.toArray ++ Builtin.zeroCells ti.zv.cells (grownCap w news.length 0 e - news.length)) e)) (O := Mine O (σ.h.set d (σ.h.gen d + 1) (.row e ti.n news)) (upd β d (some w.heap.size, .slice (some ⟨w.heap.size, 0, none⟩) (news.map (List.map AC.s)).length (grownCap w news.length 0 e)))) (β := β) (h := σ.h) (l := d) (g := σ.h.gen d + 1) (b := some w.heap.size) (A := some ⟨w.heap.size, 0, none⟩) (k := (news.map (List.map AC.s)).length) (c := grownCap w news.length 0 e) hlb
    refine Ok1.value (u := .slice (some ⟨w.heap.size, 0, none⟩) news.length (grownCap w news.length 0 e)) (w' := w.drew.alloc (.cells (us.toArray ++ Builtin.zeroCells ti.zv.cells (grownCap w news.length 0 e - news.length)) e)) ?_ ⟨_, hfr, ?_⟩
    · simp [execOp, ho, resolve, invoke, builtin, hu, hv, hrun]
    · rw [hln] at hown ⊢
      exact hown
theorem Rel.regrow (r : Rel O w0 n σ β a w) {w' : World} {l ty e g cap : Nat} {els : List (List SC)} {b : Option Nat} {cur : Array Value} (hlive : (σ.h.view l).live = true) (h0 : 0 < e) (he : ∀ x ∈ els, x.length = e)
    (hsz : w.heap.size ≤ w'.heap.size) (hos : w'.os = w.os) (htp : w'.tape = w.tape) (hout : w'.output = w.output) (hoth : ∀ k, k < w.heap.size → some k ≠ some g → w'.heap[k]? = w.heap[k]?)
    (hg : w.heap.size ≤ g ∨ (β l).1 = some g) (hb : Blk w' g ty cur) (hr : RL (RepS w (Mine O σ.h β)) els.flatten (cur.toList.take els.flatten.length)) (hcap : els.length ≤ cap) (hm : cap ≤ maxLen) (hcs : cur.size = cap * e) :
    Rel O w0 n ⟨σ.slot, σ.h.set l (σ.h.gen l + 1) (.row ty e els)⟩ (upd β l (some g, .slice (some ⟨g, 0, none⟩) els.length cap)) a w' ∧
      RepT (RepA (σ.h.set l (σ.h.gen l + 1) (.row ty e els)) (upd β l (some g, .slice (some ⟨g, 0, none⟩) els.length cap)) w' (Mine O (σ.h.set l (σ.h.gen l + 1) (.row ty e els)) (upd β l (some g, .slice (some ⟨g, 0, none⟩) els.length cap)))) (.c (.own l (σ.h.gen l + 1))) (.slice (some ⟨g, 0, none⟩) els.length cap) := by
  have hlb : (LB.row ty e els).view = .mem true ty e (els.map (List.map AC.s)) := rfl
  have hln : (els.map (List.map AC.s)).length = els.length := by simp
  have hfl : (els.map (List.map AC.s)).flatten = els.flatten.map AC.s := by rw [← List.map_flatten]
  have t : Turn O σ.h β w w' l (σ.h.gen l + 1) (.row ty e els) (some g) (.slice (some ⟨g, 0, none⟩) els.length cap) :=
    ⟨hsz, hos, htp, hout, hoth, fun k hk => by cases hk; exact hg.imp id (fun h => ⟨hlive, h⟩), .inl ⟨by omega, rfl⟩⟩
  refine ⟨t.rel r ?_, own_mk hlb⟩
  unfold RepB
  rw [Hp.view_at, hlb]
  refine ⟨h0, fun x hx => ?_, .inr ⟨g, cap, cur, by rw [upd_at], hb, ?_, fun _ => ?_⟩⟩
  · obtain ⟨y, hy, rfl⟩ := List.mem_map.1 hx; rw [List.length_map]; exact he y hy
  · rw [hfl, List.length_map]
    exact hr.map AC.s (fun x u hx => t.repS r.toRelH hx)
  · rw [upd_at, hln]
    exact ⟨rfl, hcap, hm, hcs⟩
theorem op_app1 (r : Rel O w0 n σ β a w) {o : Oper} {t e l g : Nat} {ti : TI} {x y : Operand} {x' y' : Opd} {els news : List (List SC)} {ws : List (Nat × Nat × LB)} (ho : o.op = .call { callee := .builtin .append, args := #[x, y], argTypes := #[t, t] }) (ex : copd x = some x') (ey : copd y = some y')
    (ht : P.underlying t = some (.slice e)) (hti : TIs P e ti) (hx : σ.ev x' = .c (.own l g)) (hg : g = σ.h.gen l) (hk : σ.h.blk l = .row e ti.n els) (hy : sliceOf ti.n σ.h (σ.ev y') = some (news, ws)) (hb : ((els.length + news.length : Nat) : Int) * ti.bytes ≤ 140737488355328) (h63 : ((els.length + news.length : Nat) : Int) ≤ 9223372036854775807) :
    Ok1 P o a w (Done O w0 n σ a (.c (.own l (g + 1))) [(l, g + 1, .row e ti.n (els ++ news))]) := by
  subst hg
  obtain ⟨i, dd, i1, i2, i3, i4, i5, i6⟩ := hti.info
  have hx2 := r.ev ex
  rw [hx] at hx2
  have h2 := hx2.2.2 rfl
  have hv : σ.h.view l = .mem true e ti.n (els.map (List.map AC.s)) := by unfold Hp.view; rw [hk]; rfl
  have hlive : (σ.h.view l).live = true := by rw [hv]; rfl
  rw [hv] at h2
  have hu := h2 rfl
  have hB := r.blks l
  unfold RepB at hB
  rw [hv] at hB
  simp only at hB
  obtain ⟨h0, he, hB⟩ := hB
  have he2 : ∀ x ∈ els, x.length = ti.n := fun x hx => by simpa using he (x.map AC.s) (List.mem_map_of_mem hx)
  obtain ⟨B, c, hvn, hnews⟩ := (sliceOf_ok hy).news r.toRelH (r.ev ey)
  have hln : (els.map (List.map AC.s)).length = els.length := by simp
  have hfl : (els.map (List.map AC.s)).flatten = els.flatten.map AC.s := by rw [← List.map_flatten]
  have hzl := zv_size hti
  have hbz : ((els.length + news.length) * i.bytes : Nat) ≤ 140737488355328 := by
    rw [← i5] at hb
    have : (((els.length + news.length) * i.bytes : Nat) : Int) ≤ 140737488355328 := by rw [Int.natCast_mul]; exact hb
    omega
  -- what the row holds
  have hold : ∃ A cap, (β l).2 = .slice A els.length cap ∧ els.length ≤ cap ∧ ((els = [] ∧ cap = 0 ∧ (β l).1 = none) ∨ ∃ b cur, A = some ⟨b, 0, none⟩ ∧ (β l).1 = some b ∧ Blk w b e cur ∧ cap ≤ maxLen ∧ cur.size = cap * ti.n ∧ RL (RepS w (Mine O σ.h β)) els.flatten (cur.toList.take els.flatten.length)) := by
    rcases hB with ⟨_, h5, h7, A, h6⟩ | ⟨b, cap, cur, h5, h6, h7, h8⟩
    · have : els = [] := by simpa using h5
      subst this
      exact ⟨A, 0, h6, Nat.le_refl _, .inl ⟨rfl, rfl, h7⟩⟩
    · obtain ⟨k1, k2, k3, k4⟩ := h8 trivial
      rw [hln] at k1 k2
      rw [hfl, List.length_map] at h7
      exact ⟨_, cap, k1, k2, .inr ⟨b, cur, rfl, h5, h6, k3, k4, by have := h7.1; rw [List.length_map] at this; exact this, fun i a b => by have := h7.2 i (by rw [List.length_map]; exact a) b; rw [List.getElem_map] at this; exact this⟩⟩
  obtain ⟨A, cap, hsv, hcap, hold⟩ := hold
  by_cases hn0 : news.length = 0
  · obtain rfl := List.eq_nil_of_length_eq_zero hn0
    have hrun := run_append_zero (P := P) (ty := o.type) ht i1 A B els.length cap c hcap w
    simp only [List.length_nil] at hvn
    have hrun2 : (execOp a.eval o).run P w = .ok (.value (.slice A els.length cap)) w := by simp [execOp, ho, resolve, invoke, builtin, hu, hsv, hvn, hrun]
    rw [List.append_nil]
    rcases hold with ⟨rfl, rfl, hno⟩ | ⟨b, cur, rfl, hb1, hb2, hb3, hb4, hb5⟩
    · have t : Turn O σ.h β w w l (σ.h.gen l + 1) (.row e ti.n []) none (.slice A 0 0) :=
        ⟨Nat.le_refl _, rfl, rfl, rfl, fun k hk _ => rfl, fun k hk => by simp at hk, .inl ⟨by omega, rfl⟩⟩
      refine Ok1.value hrun2 ⟨_, t.rel r ?_, own_mk rfl⟩
      unfold RepB
      rw [Hp.view_at]
      exact ⟨hti.pos, by simp, .inl ⟨rfl, rfl, by rw [upd_at], A, by rw [upd_at]⟩⟩
    · obtain ⟨k1, k2⟩ := r.regrow (b := none) hlive hti.pos he2 (Nat.le_refl _) rfl rfl rfl (fun k hk _ => rfl) (.inr hb1) hb2 hb5 hcap hb3 hb4
      exact Ok1.value hrun2 ⟨_, k1, k2⟩
  · obtain ⟨b2, off, us, rfl, hr, hen, hl, hc, h1⟩ := hnews (by omega)
    have hen2 : ∀ x ∈ els ++ news, x.length = ti.n := fun x hx => (List.mem_append.1 hx).elim (he2 x) (hen x)
    have hfa : (els ++ news).flatten = els.flatten ++ news.flatten := by simp
    have hela : (els ++ news).length = els.length + news.length := by simp
    have grow : ∀ (olds : List Value), RL (RepS w (Mine O σ.h β)) els.flatten olds → olds.length = els.length * ti.n →
        (Builtin.append_ #[t, t] o.type #[.slice A els.length cap, .slice (some ⟨b2, off, none⟩) news.length c]).run P w = .ok (.slice (some ⟨w.heap.size, 0, none⟩) (els.length + news.length) (grownCap w (els.length + news.length) cap e))
          (w.drew.alloc (.cells (olds.toArray ++ us.toArray ++ Builtin.zeroCells ti.zv.cells (grownCap w (els.length + news.length) cap e - (els.length + news.length))) e)) →
        Ok1 P o a w (Done O w0 n σ a (.c (.own l (σ.h.gen l + 1))) [(l, σ.h.gen l + 1, .row e ti.n (els ++ news))]) := by
      intro olds ho1 ho2 hrun
      have hgc : els.length + news.length ≤ grownCap w (els.length + news.length) cap e := grownCap_ge _ _ _ _
      have hcm : grownCap w (els.length + news.length) cap e ≤ maxLen := grownCap_le_maxLen _ _ _ _ (by unfold maxLen; omega)
      have hcells : RL (RepS w (Mine O σ.h β)) (els ++ news).flatten ((olds.toArray ++ us.toArray ++ Builtin.zeroCells ti.zv.cells (grownCap w (els.length + news.length) cap e - (els.length + news.length))).toList.take (els ++ news).flatten.length) := by
        have := grown_cells (ho1.append hr) ti.zv.cells (grownCap w (els.length + news.length) cap e - (els.length + news.length))
        rw [← hfa] at this
        simpa using this
      obtain ⟨k1, k2⟩ := r.regrow (b := none) (l := l) (ty := e) (els := els ++ news) (g := w.heap.size) (cap := grownCap w (els.length + news.length) cap e) (w' := w.drew.alloc (.cells (olds.toArray ++ us.toArray ++ Builtin.zeroCells ti.zv.cells (grownCap w (els.length + news.length) cap e - (els.length + news.length))) e))
        hlive hti.pos hen2 (by simp) rfl rfl rfl (fun k hk _ => heap_alloc_old w.drew _ hk) (.inl (Nat.le_refl _)) (Blk.new w.drew _ _) hcells (by rw [hela]; exact hgc) hcm (by
          simp only [Array.size_append, List.size_toArray, size_zeroCells, hzl, hl, ho2, ← Nat.add_mul]
          congr 1; omega)
      rw [hela] at k1 k2
      refine Ok1.value (u := .slice (some ⟨w.heap.size, 0, none⟩) (els.length + news.length) (grownCap w (els.length + news.length) cap e)) ?_ ⟨_, k1, k2⟩
      simp [execOp, ho, resolve, invoke, builtin, hu, hsv, hvn, hrun]
    rcases hold with ⟨rfl, rfl, hno⟩ | ⟨b, cur, rfl, hb1, hb2, hb3, hb4, hb5⟩
    · refine grow [] .nil (by simp) ?_
      simp only [List.length_nil, Nat.zero_add]
      simp only [List.length_nil, Nat.zero_add] at hbz h63
      cases A with
      | none =>
        have := run_append_nil (P := P) w t o.type e i ti.zv ht i1 i3 ⟨b2, off, none⟩ news.length c us (by rw [i4]; exact hl) hc (by omega) h63 (by omega)
        simpa using this
      | some A =>
        have := run_append_grow (P := P) w t o.type e i ti.zv ht i1 i3 A 0 0 [] (by simp) (by simp) ⟨b2, off, none⟩ news.length c us (by rw [i4]; exact hl) hc (by omega) (by simpa using h63) (growslice_fits (by omega) (by simpa using hbz))
        simpa using this
    · have hol : (cur.toList.take els.flatten.length).length = els.length * ti.n := by rw [← hb5.1, flatten_len els he2]
      have hcz : els.flatten.length ≤ cur.size := by
        have := hb5.1
        simp only [List.length_take, Array.length_toList] at this
        omega
      by_cases hroom : els.length + news.length ≤ cap
      · have hfit : els.length * i.size + us.length ≤ cur.size := by rw [i4, hl, hb4, ← Nat.add_mul]; exact Nat.mul_le_mul_right _ hroom
        have hrun := run_append_room (P := P) w t o.type e i ht i1 b els.length cap cur hb2 ⟨b2, off, none⟩ news.length c us (by rw [i4]; exact hl) hc h1 hroom hfit
        rw [i4] at hrun
        have hfe := flatten_len els he2
        obtain ⟨k1, k2⟩ := r.regrow (b := none) (l := l) (ty := e) (els := els ++ news) (g := b) (cap := cap) (w' := w.setRow b (cur.toList.take (els.length * ti.n) ++ us ++ cur.toList.drop (els.length * ti.n + us.length)).toArray)
          (cur := (cur.toList.take (els.length * ti.n) ++ us ++ cur.toList.drop (els.length * ti.n + us.length)).toArray)
          hlive hti.pos hen2 (by simp) rfl rfl rfl (setRow_oth _) (.inr hb1) (setRow_heap w b cur _ e (0, 0) hb2) (by
            have h5 := hb5.append hr
            rw [← hfa] at h5
            rw [hfe] at h5
            have h6 : (cur.toList.take (els.length * ti.n) ++ us).length = (els ++ news).flatten.length := by rw [h5.1]
            rw [take_all _ _ _ h6.symm]
            exact h5) (by rw [hela]; exact hroom) hb3 (by
            simp only [List.size_toArray, List.length_append, List.length_take, List.length_drop, Array.length_toList]
            rw [i4] at hfit
            omega)
        rw [hela] at k1 k2
        refine Ok1.value (u := .slice (some ⟨b, 0, none⟩) (els.length + news.length) cap) ?_ ⟨_, k1, k2⟩
        simp [execOp, ho, resolve, invoke, builtin, hu, hsv, hvn, hrun]
      · refine grow (cur.toList.take els.flatten.length) hb5 hol ?_
        refine run_append_grow (P := P) w t o.type e i ti.zv ht i1 i3 ⟨b, 0, none⟩ els.length cap _ (by rw [i4]; exact hol) (fun j v hv => ?_) ⟨b2, off, none⟩ news.length c us (by rw [i4]; exact hl) hc (by omega) (by omega) (growslice_fits (by omega) hbz)
        rw [add_off, Nat.zero_add, hb2.cell]
        rw [List.getElem?_take] at hv
        split at hv
        · simpa using hv
        · simp at hv
end
end Go.Proofs.YtcbfhpnmhhnjpaaGreat

