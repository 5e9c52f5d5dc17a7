/- AN ABSTRACT MACHINE over the model, three: what is read, shared and handed on. No condition. -/
import Derived.Test.YtbpipdgkkdifgaaAm2
namespace Go.Proofs.Ytbpipdgkkdifgaa
open Go.RowKit
set_option linter.unusedVariables false

theorem all?_cons {α β : Type} {f : α → Option β} {x : α} {xs : List α} {zs : List β} (h : all? f (x :: xs) = some zs) : ∃ y ys, f x = some y ∧ all? f xs = some ys ∧ zs = y :: ys := by
  unfold all? at h
  cases h1 : f x with
  | none => rw [h1] at h; simp at h
  | some y =>
    cases h2 : all? f xs with
    | none => rw [h1, h2] at h; simp at h
    | some ys => rw [h1, h2] at h; exact ⟨y, ys, rfl, rfl, by simpa using h.symm⟩
theorem all?_nil {α β : Type} {f : α → Option β} {zs : List β} (h : all? f ([] : List α) = some zs) : zs = [] := by
  unfold all? at h; simpa using h.symm
theorem RL.all {α β : Type} {f : α → Option β} {R : α → Value → Prop} {S : β → Value → Prop} : ∀ {xs : List α} {ys : List β} {us : List Value}, RL R xs us → all? f xs = some ys →
    (∀ x y u, x ∈ xs → f x = some y → R x u → S y u) → RL S ys us := by
  intro xs
  induction xs with
  | nil =>
    intro ys us h1 h2 _
    rw [all?_nil h2, h1.nil_inv]
    exact .nil
  | cons x xs ih =>
    intro ys us h1 h2 hs
    obtain ⟨y, ys', hy, hys, rfl⟩ := all?_cons h2
    obtain ⟨u, us', rfl, hu, hus⟩ := h1.cons_inv
    exact .cons (hs x y u (by simp) hy hu) (ih hus hys (fun x y u hx => hs x y u (by simp [hx])))

section
variable {O : Nat → Prop} {w0 : Base} {h : Hp} {β : Env} {w : World}
theorem RepS.sl1 {A : Option Addr} : RepS w O (.sl 1 []) (.slice A 0 0) := .sl0 (by decide) (by unfold maxLen; omega)
theorem sh0_ok {x : AC} {y : SC} {v : Value} (hs : sh0 x = some y) (r : RepA h β w O x v) : RepS w O y v := by
  cases x with
  | s x => simp [sh0] at hs; subst hs; exact r
  | zc => simp [sh0] at hs; subst hs; obtain ⟨A, rfl⟩ := r; exact .sl1
  | own l g => simp [sh0] at hs
  | ptr l g i off => simp [sh0] at hs
  | clo f ls => simp [sh0] at hs
/-- a row, as others see it, as long as it is not written -/
theorem RelH.rowS (r : RelH O w0 h β w) {l ty e : Nat} {els : List (List SC)} (hk : h.blk l = .row ty e els) : RepS w O (.sl e els) (β l).2 := by
  obtain ⟨r1, r2⟩ := r.freeze hk
  have hv : h.view l = .mem true ty e (els.map (List.map AC.s)) := by unfold Hp.view; rw [hk]; rfl
  have h1 : RepA h β w (Mine O h β) (.own l (h.gen l)) (β l).2 := by
    refine ⟨?_, Nat.le_refl _, fun _ => by rw [hv]; intro _; rfl⟩
    have := r.blks l
    unfold RepB at this
    rw [hv] at this
    simp only at this
    obtain ⟨_, _, ⟨_, _, _, A, h3⟩ | ⟨b, cap, cur, _, _, _, h5⟩⟩ := this
    · rw [h3]; rfl
    · rw [(h5 trivial).1]; rfl
  have h2 := (r2 _ _ h1).2.2 (by rw [Hp.gen_at])
  rw [Hp.view_at] at h2
  exact RepS.less h2 (fun b hb => .inl hb)
theorem shA_ok (r : RelH O w0 h β w) {x : AC} {y : SC} {v : Value} (hs : shA h x = some y) (hx : RepA h β w (Mine O h β) x v) : RepS w O y v := by
  cases x with
  | s x => simp [shA] at hs; subst hs; exact RepS.less hx (fun b hb => .inl hb)
  | zc => simp [shA] at hs; subst hs; obtain ⟨A, rfl⟩ := hx; exact .sl1
  | own l g =>
    simp only [shA] at hs
    by_cases hg : g = h.gen l
    · rw [if_pos hg] at hs
      have h2 := hx.2.2 hg
      cases hk : h.blk l with
      | row ty e els =>
        rw [hk] at hs
        have hv : h.view l = .mem true ty e (els.map (List.map AC.s)) := by unfold Hp.view; rw [hk]; rfl
        rw [hv] at h2
        have := h2 rfl
        subst this
        have := r.rowS hk
        simp only [Option.some.injEq] at hs
        subst hs
        exact this
      | ice z =>
        rw [hk] at hs
        have hv : h.view l = .ice z := by unfold Hp.view; rw [hk]; rfl
        rw [hv] at h2
        simp only [Option.some.injEq] at hs
        subst hs
        exact RepS.less h2 (fun b hb => .inl hb)
      | dead => rw [hk] at hs; simp at hs
      | box ty e els => rw [hk] at hs; simp at hs
    · rw [if_neg hg] at hs; simp at hs
  | ptr l g i off => simp [shA] at hs
  | clo f ls => simp [shA] at hs
theorem flatten_take {α : Type} {e : Nat} : ∀ (els : List (List α)), (∀ x ∈ els, x.length = e) → ∀ (i : Nat) (hi : i < els.length), (els.flatten.drop (i * e)).take e = els[i] := by
  intro els
  induction els with
  | nil => intro _ i hi; simp at hi
  | cons x xs ih =>
    intro he i hi
    have hx := he x (by simp)
    cases i with
    | zero => simp [hx]
    | succ i =>
      have hm : (i + 1) * e = x.length + i * e := by rw [Nat.add_mul, hx]; omega
      simp only [List.flatten_cons, List.getElem_cons_succ, hm]
      rw [← List.drop_drop, List.drop_left]
      exact ih (fun y hy => he y (by simp [hy])) i (by simpa using hi)
theorem flatten_len {α : Type} {e : Nat} : ∀ (els : List (List α)), (∀ x ∈ els, x.length = e) → els.flatten.length = els.length * e := by
  intro els
  induction els with
  | nil => intro _; simp
  | cons x xs ih =>
    intro he
    simp only [List.flatten_cons, List.length_append, List.length_cons, he x (by simp), ih (fun y hy => he y (by simp [hy])), Nat.add_mul]
    omega
theorem flatten_get {α : Type} {e : Nat} (els : List (List α)) (he : ∀ x ∈ els, x.length = e) (i : Nat) (hi : i < els.length) (j : Nat) (hj : j < e) : els.flatten[i * e + j]? = els[i][j]? := by
  have := flatten_take els he i hi
  rw [← this, List.getElem?_take, if_pos hj, List.getElem?_drop]
theorem flatten_lt {α : Type} {e : Nat} (els : List (List α)) (he : ∀ x ∈ els, x.length = e) (i : Nat) (hi : i < els.length) (j : Nat) (hj : j < e) : i * e + j < els.flatten.length := by
  rw [flatten_len els he]
  have : (i + 1) * e ≤ els.length * e := Nat.mul_le_mul_right _ hi
  rw [Nat.add_mul] at this
  omega
/-- what stands at a place of a local block -/
theorem RelH.at_ (r : RelH O w0 h β w) {l : Nat} {row : Bool} {ty e : Nat} {els : List (List AC)} (hv : h.view l = .mem row ty e els) {i : Nat} (hi : i < els.length) {b : Nat} (hb : (β l).1 = some b) :
    ∃ us : List Value, us.length = e ∧ RL (RepA h β w (Mine O h β)) els[i] us ∧ ∀ j (hj : j < us.length), w.cell? ⟨b, i * e + j, none⟩ = some us[j] := by
  have := r.blks l
  unfold RepB at this
  rw [hv] at this
  simp only at this
  obtain ⟨h0, he, ⟨_, h2, _⟩ | ⟨b', cap, cur, h2, h3, h4, h5⟩⟩ := this
  · subst h2; simp at hi
  · rw [hb] at h2
    obtain rfl : b = b' := by simpa using h2
    have h6 := (h4.drop (i * e)).take e
    rw [flatten_take els he i hi] at h6
    have hlen : ((cur.toList.take els.flatten.length).drop (i * e)).take e = ((cur.toList.take els.flatten.length).drop (i * e)).take e := rfl
    have hl2 : (List.take e (List.drop (i * e) (List.take els.flatten.length cur.toList))).length = e := by
      rw [← h6.1]; exact he _ (List.getElem_mem hi)
    refine ⟨_, hl2, h6, fun j hj => ?_⟩
    rw [h3.cell]
    rw [hl2] at hj
    have h7 := flatten_lt els he i hi j hj
    have h8 : els.flatten.length ≤ cur.size := by
      have := h4.1
      simp only [List.length_take, Array.length_toList] at this
      omega
    simp only [List.getElem_take, List.getElem_drop]
    rw [Array.getElem?_eq_getElem (by omega)]
    simp
theorem RelH.ptr_box (r : RelH O w0 h β w) {l g i off ty e : Nat} {els : List (List AC)} {cs : List AC} {ss : List SC} {v : Value} (hg : g = h.gen l) (hk : h.blk l = .box ty e els) (hi : els[i]? = some cs) (hs : all? (shA h) (cs.drop off) = some ss)
    (hx : RepA h β w (Mine O h β) (.ptr l g i off) v) : RepS w O (.sptr ss) v := by
  have hv : h.view l = .mem false ty e els := by unfold Hp.view; rw [hk]; rfl
  have h2 := hx.2.2 hg
  rw [hv] at h2
  obtain ⟨b, hb, rfl⟩ := h2
  obtain ⟨hi', hcs⟩ := List.getElem?_eq_some_iff.1 hi
  obtain ⟨us, hl, hr, hc⟩ := r.at_ hv hi' hb
  rw [hcs] at hr
  have hr2 := RL.all (hr.drop off) hs (fun x y u _ hy hu => shA_ok r hy hu)
  have hbl : b < w.heap.size := r.lt (.inr ⟨l, by rw [hv]; rfl, hb⟩)
  refine .sptr (us := us.drop off) hbl (fun hO => ?_) hr2.1 hr2.2 (fun j hj => ?_)
  · exact r.base l b (by rw [hv]; rfl) hb (r.hO b hO)
  · rw [List.getElem_drop]
    rw [show i * e + off + j = i * e + (off + j) by omega]
    exact hc (off + j) (by simp at hj; omega)
theorem shB_ok (r : RelH O w0 h β w) {x : AC} {y : SC} {v : Value} (hs : shB h x = some y) (hx : RepA h β w (Mine O h β) x v) : RepS w O y v := by
  cases x with
  | s x => exact shA_ok (x := .s x) r hs hx
  | zc => exact shA_ok (x := .zc) r hs hx
  | own l g => exact shA_ok (x := .own l g) r hs hx
  | ptr l g i off =>
    simp only [shB] at hs
    by_cases hg : g = h.gen l
    · rw [if_pos hg] at hs
      cases hk : h.blk l with
      | box ty e els =>
        rw [hk] at hs
        simp only at hs
        cases hi : els[i]? with
        | none => rw [hi] at hs; simp at hs
        | some cs =>
          rw [hi] at hs
          simp only [Option.map_eq_some_iff] at hs
          obtain ⟨ss, h1, rfl⟩ := hs
          exact r.ptr_box hg hk hi h1 hx
      | row ty e els => rw [hk] at hs; simp at hs
      | ice z => rw [hk] at hs; simp at hs
      | dead => rw [hk] at hs; simp at hs
    · rw [if_neg hg] at hs; simp at hs
  | clo f ls =>
    simp only [shB] at hs
    simp only [Option.map_eq_some_iff] at hs
    obtain ⟨ss, h1, rfl⟩ := hs
    obtain ⟨us, rfl, h2⟩ := hx
    have h3 := RL.all (S := RepS w O) h2 h1 (fun p y u _ hy hu => by
      by_cases hg : p.2 = h.gen p.1
      · rw [if_pos hg] at hy
        cases hk : h.blk p.1 with
        | box ty e els =>
          rw [hk] at hy
          simp only at hy
          cases hi : els[0]? with
          | none => rw [hi] at hy; simp at hy
          | some cs =>
            rw [hi] at hy
            simp only [Option.map_eq_some_iff] at hy
            obtain ⟨ss, h4, rfl⟩ := hy
            refine r.ptr_box (off := 0) hg hk hi (by simpa using h4) ?_
            have h5 := hu.2 hg
            have hv : h.view p.1 = .mem false ty e els := by unfold Hp.view; rw [hk]; rfl
            rw [hv] at h5
            obtain ⟨b, hb, rfl⟩ := h5
            refine ⟨rfl, hu.1, fun _ => ?_⟩
            rw [hv]
            exact ⟨b, hb, by simp⟩
        | row ty e els => rw [hk] at hy; simp at hy
        | ice z => rw [hk] at hy; simp at hy
        | dead => rw [hk] at hy; simp at hy
      · rw [if_neg hg] at hy; simp at hy)
    exact .fn h3.1 h3.2

theorem shA_ice {l g ty e : Nat} {els : List (List SC)} (hk : h.blk l = .row ty e els) (hg : g = h.gen l) (x : AC) : shA (h.set l g (.ice (.sl e els))) x = shA h x := by
  cases x with
  | s x => rfl
  | zc => rfl
  | own k gk =>
    simp only [shA]
    by_cases e1 : k = l
    · subst e1
      rw [Hp.gen_at, hg, hk]
      have : (h.set k (h.gen k) (.ice (.sl e els))).blk k = .ice (.sl e els) := upd_at _ _ _
      rw [this]
    · rw [Hp.gen_ne _ _ _ e1]
      have : (h.set l g (.ice (.sl e els))).blk k = h.blk k := upd_ne _ _ e1
      rw [this]
  | ptr l g i off => rfl
  | clo f ls => rfl
theorem frz_gen : ∀ (xs : List AC) (h : Hp) (k : Nat), (h.app (frz h xs)).gen k = h.gen k := by
  intro xs
  induction xs with
  | nil => intro h k; rfl
  | cons x xs ih =>
    intro h k
    cases x with
    | own l g =>
      rw [frz]
      cases hk : h.blk l with
      | row ty e els =>
        simp only
        by_cases hg : g = h.gen l
        · rw [if_pos hg, Hp.app_cons, ih]
          by_cases e1 : k = l
          · subst e1; rw [Hp.gen_at, hg]
          · rw [Hp.gen_ne _ _ _ e1]
        · rw [if_neg hg]; exact ih h k
      | _ => exact ih h k
    | _ => exact ih h k
theorem Hp.app_blk_ne : ∀ (ws : List (Nat × Nat × LB)) (h : Hp) (l : Nat), (ws.all fun p => !(p.1 == l)) = true → (h.app ws).blk l = h.blk l := by
  intro ws
  induction ws with
  | nil => intro h l _; rfl
  | cons p ws ih =>
    intro h l hw
    simp only [List.all_cons, Bool.and_eq_true] at hw
    rw [Hp.app_cons, ih _ _ hw.2]
    have : l ≠ p.1 := by intro e; subst e; simp at hw
    exact upd_ne _ _ this
theorem frz_ok : ∀ (xs : List AC) (h : Hp), RelH O w0 h β w →
    RelH O w0 (h.app (frz h xs)) β w ∧ (∀ x v, RepA h β w (Mine O h β) x v → RepA (h.app (frz h xs)) β w (Mine O (h.app (frz h xs)) β) x v) ∧
    (∀ x ∈ xs, ∀ y, shA h x = some y → ∀ v, RepA h β w (Mine O h β) x v → RepS w (Mine O (h.app (frz h xs)) β) y v) := by
  intro xs
  induction xs with
  | nil => intro h r; exact ⟨r, fun _ _ hx => hx, fun x hx => by simp at hx⟩
  | cons x xs ih =>
    intro h r
    -- a head that is handed on as it is
    have skip : frz h (x :: xs) = frz h xs → (∀ y v, shA h x = some y → RepA h β w (Mine O h β) x v → RepS w (Mine O h β) y v) →
        RelH O w0 (h.app (frz h (x :: xs))) β w ∧ (∀ z v, RepA h β w (Mine O h β) z v → RepA (h.app (frz h (x :: xs))) β w (Mine O (h.app (frz h (x :: xs))) β) z v) ∧
        (∀ z ∈ x :: xs, ∀ y, shA h z = some y → ∀ v, RepA h β w (Mine O h β) z v → RepS w (Mine O (h.app (frz h (x :: xs))) β) y v) := by
      intro e hx
      rw [e]
      obtain ⟨i1, i2, i3⟩ := ih h r
      refine ⟨i1, i2, fun z hz y hy v hv => ?_⟩
      rcases List.mem_cons.1 hz with rfl | hz
      · exact i2 (.s y) v (hx y v hy hv)
      · exact i3 z hz y hy v hv
    cases x with
    | s x => exact skip rfl (fun y v hy hv => by simp [shA] at hy; subst hy; exact hv)
    | zc => exact skip rfl (fun y v hy hv => by simp [shA] at hy; subst hy; obtain ⟨A, rfl⟩ := hv; exact .sl1)
    | ptr l g i off => exact skip rfl (fun y v hy hv => by simp [shA] at hy)
    | clo f ls => exact skip rfl (fun y v hy hv => by simp [shA] at hy)
    | own l g =>
      cases hk : h.blk l with
      | row ty e els =>
        by_cases hg : g = h.gen l
        · have e1 : frz h (.own l g :: xs) = (l, g, .ice (.sl e els)) :: frz (h.set l g (.ice (.sl e els))) xs := by
            rw [frz, hk]; simp only; rw [if_pos hg]
          obtain ⟨r1, r2⟩ := r.freeze hk
          rw [← hg] at r1 r2
          obtain ⟨i1, i2, i3⟩ := ih _ r1
          rw [e1, Hp.app_cons]
          refine ⟨i1, fun x v hx => i2 x v (r2 x v hx), fun z hz y hy v hv => ?_⟩
          rcases List.mem_cons.1 hz with rfl | hz
          · have h2 := r2 _ _ hv
            have h3 := h2.2.2 (by rw [Hp.gen_at])
            rw [Hp.view_at] at h3
            have h4 : y = .sl e els := by
              simp only [shA] at hy
              rw [if_pos hg, hk] at hy
              simpa using hy.symm
            subst h4
            exact i2 (.s _) v h3
          · exact i3 z hz y (by rw [shA_ice hk hg]; exact hy) v (r2 _ _ hv)
        · have e1 : frz h (.own l g :: xs) = frz h xs := by
            rw [frz, hk]; simp only; rw [if_neg hg]
          exact skip e1 (fun y v hy hv => by simp only [shA] at hy; rw [if_neg hg] at hy; simp at hy)
      | dead =>
        refine skip (by rw [frz, hk]) (fun y v hy hv => ?_)
        simp only [shA] at hy; rw [hk] at hy; split at hy <;> simp at hy
      | box ty e els =>
        refine skip (by rw [frz, hk]) (fun y v hy hv => ?_)
        simp only [shA] at hy; rw [hk] at hy; split at hy <;> simp at hy
      | ice z =>
        refine skip (by rw [frz, hk]) (fun y v hy hv => ?_)
        simp only [shA] at hy
        rw [hk] at hy
        by_cases hg : g = h.gen l
        · rw [if_pos hg] at hy
          have h3 := hv.2.2 hg
          have hvw : h.view l = .ice z := by unfold Hp.view; rw [hk]; rfl
          rw [hvw] at h3
          simp only [Option.some.injEq] at hy
          subst hy
          exact h3
        · rw [if_neg hg] at hy; simp at hy
end
end Go.Proofs.Ytbpipdgkkdifgaa
