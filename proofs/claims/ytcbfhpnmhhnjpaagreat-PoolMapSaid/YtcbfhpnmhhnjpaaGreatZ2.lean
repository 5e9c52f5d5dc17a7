import Derived.Test.YtcbfhpnmhhnjpaaGreatZ1
import Derived.Laws.Small
import Derived.Laws.StructEq
import Derived.Laws.Cover3
import Derived.Great.BuildSlice
set_option linter.unusedVariables false
set_option linter.unusedSimpArgs false
namespace Go.Proofs.YtcbfhpnmhhnjpaaGreat
open Go.RowKit
theorem all?_cons {α β : Type} {f : α → Option β} {x : α} {xs : List α} {zs : List β} (h : all? f (x :: xs) = some zs) : ∃ y ys, f x = some y ∧ all? f xs = some ys ∧ zs = y :: ys := by
  unfold all? at h
  cases h1 : f x with
  | none => rw [h1] at h; simp at h
  | some y =>
    cases h2 : all? f xs with
    | none => rw [h1, h2] at h; simp at h
    | some ys => rw [h1, h2] at h; exact ⟨y, ys, rfl, rfl, by simpa using h.symm⟩
theorem all?_nil {α β : Type} {f : α → Option β} {zs : List β} (h : all? f ([] : List α) = some zs) : zs = [] := by
  unfold all? at h; simpa using h.symm
theorem RL.all {α β : Type} {f : α → Option β} {R : α → Value → Prop} {S : β → Value → Prop} : ∀ {xs : List α} {ys : List β} {us : List Value}, RL R xs us → all? f xs = some ys →
    (∀ x y u, x ∈ xs → f x = some y → R x u → S y u) → RL S ys us := by
  intro xs
  induction xs with
  | nil =>
    intro ys us h1 h2 _
    rw [all?_nil h2, h1.nil_inv]
    exact .nil
  | cons x xs ih =>
    intro ys us h1 h2 hs
    obtain ⟨y, ys', hy, hys, rfl⟩ := all?_cons h2
    obtain ⟨u, us', rfl, hu, hus⟩ := h1.cons_inv
    exact .cons (hs x y u (by simp) hy hu) (ih hus hys (fun x y u hx => hs x y u (by simp [hx])))
section
variable {O : Nat → Prop} {w0 : Base} {h : Hp} {β : Env} {w : World}
theorem RepS.sl1 {A : Option Addr} : RepS w O (.sl 1 []) (.slice A 0 0) := .sl0 (by decide) (by unfold maxLen; omega)
theorem sh0_ok {x : AC} {y : SC} {v : Value} (hs : sh0 x = some y) (r : RepA h β w O x v) : RepS w O y v := by
  cases x with
  | s x => simp [sh0] at hs; subst hs; exact r
  | zc => simp [sh0] at hs; subst hs; obtain ⟨A, rfl⟩ := r; exact .sl1
  | own l g => simp [sh0] at hs
  | ptr l g i off => simp [sh0] at hs
  | clo f ls => simp [sh0] at hs
theorem RelH.rowS (r : RelH O w0 h β w) {l ty e : Nat} {els : List (List SC)} (hk : h.blk l = .row ty e els) : RepS w O (.sl e els) (β l).2 := by
  obtain ⟨r1, r2⟩ := r.freeze hk
  have hv : h.view l = .mem true ty e (els.map (List.map AC.s)) := by unfold Hp.view; rw [hk]; rfl
  have h1 : RepA h β w (Mine O h β) (.own l (h.gen l)) (β l).2 := by
    refine ⟨?_, Nat.le_refl _, fun _ => by rw [hv]; intro _; rfl⟩
    have := r.blks l
    unfold RepB at this
    rw [hv] at this
    simp only at this
    obtain ⟨_, _, ⟨_, _, _, A, h3⟩ | ⟨b, cap, cur, _, _, _, h5⟩⟩ := this
    · rw [h3]; rfl
    · rw [(h5 trivial).1]; rfl
  have h2 := (r2 _ _ h1).2.2 (by rw [Hp.gen_at])
  rw [Hp.view_at] at h2
  exact RepS.less h2 (fun b hb => .inl hb)
theorem shA_ok (r : RelH O w0 h β w) {x : AC} {y : SC} {v : Value} (hs : shA h x = some y) (hx : RepA h β w (Mine O h β) x v) : RepS w O y v := by
  cases x with
  | s x => simp [shA] at hs; subst hs; exact RepS.less hx (fun b hb => .inl hb)
  | zc => simp [shA] at hs; subst hs; obtain ⟨A, rfl⟩ := hx; exact .sl1
  | own l g =>
    simp only [shA] at hs
    by_cases hg : g = h.gen l
    · rw [if_pos hg] at hs
      have h2 := hx.2.2 hg
      cases hk : h.blk l with
      | row ty e els =>
        rw [hk] at hs
        have hv : h.view l = .mem true ty e (els.map (List.map AC.s)) := by unfold Hp.view; rw [hk]; rfl
        rw [hv] at h2
        have := h2 rfl
        subst this
        have := r.rowS hk
        simp only [Option.some.injEq] at hs
        subst hs
        exact this
      | ice z =>
        rw [hk] at hs
        have hv : h.view l = .ice z := by unfold Hp.view; rw [hk]; rfl
        rw [hv] at h2
        simp only [Option.some.injEq] at hs
        subst hs
        exact RepS.less h2 (fun b hb => .inl hb)
      | dead => rw [hk] at hs; simp at hs
      | box ty e els => rw [hk] at hs; simp at hs
    · rw [if_neg hg] at hs; simp at hs
  | ptr l g i off => simp [shA] at hs
  | clo f ls => simp [shA] at hs
theorem flatten_take {α : Type} {e : Nat} : ∀ (els : List (List α)), (∀ x ∈ els, x.length = e) → ∀ (i : Nat) (hi : i < els.length), (els.flatten.drop (i * e)).take e = els[i] := by
  intro els
  induction els with
  | nil => intro _ i hi; simp at hi
  | cons x xs ih =>
    intro he i hi
    have hx := he x (by simp)
    cases i with
    | zero => simp [hx]
    | succ i =>
      have hm : (i + 1) * e = x.length + i * e := by rw [Nat.add_mul, hx]; omega
      simp only [List.flatten_cons, List.getElem_cons_succ, hm]
      rw [← List.drop_drop, List.drop_left]
      exact ih (fun y hy => he y (by simp [hy])) i (by simpa using hi)
theorem flatten_len {α : Type} {e : Nat} : ∀ (els : List (List α)), (∀ x ∈ els, x.length = e) → els.flatten.length = els.length * e := by
  intro els
  induction els with
  | nil => intro _; simp
  | cons x xs ih =>
    intro he
    simp only [List.flatten_cons, List.length_append, List.length_cons, he x (by simp), ih (fun y hy => he y (by simp [hy])), Nat.add_mul]
    omega
theorem flatten_get {α : Type} {e : Nat} (els : List (List α)) (he : ∀ x ∈ els, x.length = e) (i : Nat) (hi : i < els.length) (j : Nat) (hj : j < e) : els.flatten[i * e + j]? = els[i][j]? := by
  have := flatten_take els he i hi
  rw [← this, List.getElem?_take, if_pos hj, List.getElem?_drop]
theorem flatten_lt {α : Type} {e : Nat} (els : List (List α)) (he : ∀ x ∈ els, x.length = e) (i : Nat) (hi : i < els.length) (j : Nat) (hj : j < e) : i * e + j < els.flatten.length := by
  rw [flatten_len els he]
  have : (i + 1) * e ≤ els.length * e := Nat.mul_le_mul_right _ hi
  rw [Nat.add_mul] at this
  omega
theorem RelH.at_ (r : RelH O w0 h β w) {l : Nat} {row : Bool} {ty e : Nat} {els : List (List AC)} (hv : h.view l = .mem row ty e els) {i : Nat} (hi : i < els.length) {b : Nat} (hb : (β l).1 = some b) :
    ∃ us : List Value, us.length = e ∧ RL (RepA h β w (Mine O h β)) els[i] us ∧ ∀ j (hj : j < us.length), w.cell? ⟨b, i * e + j, none⟩ = some us[j] := by
  have := r.blks l
  unfold RepB at this
  rw [hv] at this
  simp only at this
  obtain ⟨h0, he, ⟨_, h2, _⟩ | ⟨b', cap, cur, h2, h3, h4, h5⟩⟩ := this
  · subst h2; simp at hi
  · rw [hb] at h2
    obtain rfl : b = b' := by simpa using h2
    have h6 := (h4.drop (i * e)).take e
    rw [flatten_take els he i hi] at h6
    have hlen : ((cur.toList.take els.flatten.length).drop (i * e)).take e = ((cur.toList.take els.flatten.length).drop (i * e)).take e := rfl
    have hl2 : (List.take e (List.drop (i * e) (List.take els.flatten.length cur.toList))).length = e := by
      rw [← h6.1]; exact he _ (List.getElem_mem hi)
    refine ⟨_, hl2, h6, fun j hj => ?_⟩
    rw [h3.cell]
    rw [hl2] at hj
    have h7 := flatten_lt els he i hi j hj
    have h8 : els.flatten.length ≤ cur.size := by
      have := h4.1
      simp only [List.length_take, Array.length_toList] at this
      omega
    simp only [List.getElem_take, List.getElem_drop]
    rw [Array.getElem?_eq_getElem (by omega)]
    simp
theorem RelH.ptr_box (r : RelH O w0 h β w) {l g i off ty e : Nat} {els : List (List AC)} {cs : List AC} {ss : List SC} {v : Value} (hg : g = h.gen l) (hk : h.blk l = .box ty e els) (hi : els[i]? = some cs) (hs : all? (shA h) (cs.drop off) = some ss)
    (hx : RepA h β w (Mine O h β) (.ptr l g i off) v) : RepS w O (.sptr ss) v := by
  have hv : h.view l = .mem false ty e els := by unfold Hp.view; rw [hk]; rfl
  have h2 := hx.2.2 hg
  rw [hv] at h2
  obtain ⟨b, hb, rfl⟩ := h2
  obtain ⟨hi', hcs⟩ := List.getElem?_eq_some_iff.1 hi
  obtain ⟨us, hl, hr, hc⟩ := r.at_ hv hi' hb
  rw [hcs] at hr
  have hr2 := RL.all (hr.drop off) hs (fun x y u _ hy hu => shA_ok r hy hu)
  have hbl : b < w.heap.size := r.lt (.inr ⟨l, by rw [hv]; rfl, hb⟩)
  refine .sptr (us := us.drop off) hbl (fun hO => ?_) hr2.1 hr2.2 (fun j hj => ?_)
  · exact r.base l b (by rw [hv]; rfl) hb (r.hO b hO)
  · rw [List.getElem_drop]
    rw [show i * e + off + j = i * e + (off + j) by omega]
    exact hc (off + j) (by simp at hj; omega)
theorem shB_ok (r : RelH O w0 h β w) {x : AC} {y : SC} {v : Value} (hs : shB h x = some y) (hx : RepA h β w (Mine O h β) x v) : RepS w O y v := by
  cases x with
  | s x => exact shA_ok (x := .s x) r hs hx
  | zc => exact shA_ok (x := .zc) r hs hx
  | own l g => exact shA_ok (x := .own l g) r hs hx
  | ptr l g i off =>
    simp only [shB] at hs
    by_cases hg : g = h.gen l
    · rw [if_pos hg] at hs
      cases hk : h.blk l with
      | box ty e els =>
        rw [hk] at hs
        simp only at hs
        cases hi : els[i]? with
        | none => rw [hi] at hs; simp at hs
        | some cs =>
          rw [hi] at hs
          simp only [Option.map_eq_some_iff] at hs
          obtain ⟨ss, h1, rfl⟩ := hs
          exact r.ptr_box hg hk hi h1 hx
      | row ty e els => rw [hk] at hs; simp at hs
      | ice z => rw [hk] at hs; simp at hs
      | dead => rw [hk] at hs; simp at hs
    · rw [if_neg hg] at hs; simp at hs
  | clo f ls =>
    simp only [shB] at hs
    simp only [Option.map_eq_some_iff] at hs
    obtain ⟨ss, h1, rfl⟩ := hs
    obtain ⟨us, rfl, h2⟩ := hx
    have h3 := RL.all (S := RepS w O) h2 h1 (fun p y u _ hy hu => by
      by_cases hg : p.2 = h.gen p.1
      · rw [if_pos hg] at hy
        cases hk : h.blk p.1 with
        | box ty e els =>
          rw [hk] at hy
          simp only at hy
          cases hi : els[0]? with
          | none => rw [hi] at hy; simp at hy
          | some cs =>
            rw [hi] at hy
            simp only [Option.map_eq_some_iff] at hy
            obtain ⟨ss, h4, rfl⟩ := hy
            refine r.ptr_box (off := 0) hg hk hi (by simpa using h4) ?_
            have h5 := hu.2 hg
            have hv : h.view p.1 = .mem false ty e els := by unfold Hp.view; rw [hk]; rfl
            rw [hv] at h5
            obtain ⟨b, hb, rfl⟩ := h5
            refine ⟨rfl, hu.1, fun _ => ?_⟩
            rw [hv]
            exact ⟨b, hb, by simp⟩
        | row ty e els => rw [hk] at hy; simp at hy
        | ice z => rw [hk] at hy; simp at hy
        | dead => rw [hk] at hy; simp at hy
      · rw [if_neg hg] at hy; simp at hy)
    exact .fn h3.1 h3.2
theorem shA_ice {l g ty e : Nat} {els : List (List SC)} (hk : h.blk l = .row ty e els) (hg : g = h.gen l) (x : AC) : shA (h.set l g (.ice (.sl e els))) x = shA h x := by
  cases x with
  | s x => rfl
  | zc => rfl
  | own k gk =>
    simp only [shA]
    by_cases e1 : k = l
    · subst e1
      rw [Hp.gen_at, hg, hk]
      have : (h.set k (h.gen k) (.ice (.sl e els))).blk k = .ice (.sl e els) := upd_at _ _ _
      rw [this]
    · rw [Hp.gen_ne _ _ _ e1]
      have : (h.set l g (.ice (.sl e els))).blk k = h.blk k := upd_ne _ _ e1
      rw [this]
  | ptr l g i off => rfl
  | clo f ls => rfl
theorem frz_gen : ∀ (xs : List AC) (h : Hp) (k : Nat), (h.app (frz h xs)).gen k = h.gen k := by
  intro xs
  induction xs with
  | nil => intro h k; rfl
  | cons x xs ih =>
    intro h k
    cases x with
    | own l g =>
      rw [frz]
      cases hk : h.blk l with
      | row ty e els =>
        simp only
        by_cases hg : g = h.gen l
        · rw [if_pos hg, Hp.app_cons, ih]
          by_cases e1 : k = l
          · subst e1; rw [Hp.gen_at, hg]
          · rw [Hp.gen_ne _ _ _ e1]
        · rw [if_neg hg]; exact ih h k
      | _ => exact ih h k
    | _ => exact ih h k
theorem Hp.app_blk_ne : ∀ (ws : List (Nat × Nat × LB)) (h : Hp) (l : Nat), (ws.all fun p => !(p.1 == l)) = true → (h.app ws).blk l = h.blk l := by
  intro ws
  induction ws with
  | nil => intro h l _; rfl
  | cons p ws ih =>
    intro h l hw
    simp only [List.all_cons, Bool.and_eq_true] at hw
    rw [Hp.app_cons, ih _ _ hw.2]
    have : l ≠ p.1 := by intro e; subst e; simp at hw
    exact upd_ne _ _ this
theorem frz_ok : ∀ (xs : List AC) (h : Hp), RelH O w0 h β w →
    RelH O w0 (h.app (frz h xs)) β w ∧ (∀ x v, RepA h β w (Mine O h β) x v → RepA (h.app (frz h xs)) β w (Mine O (h.app (frz h xs)) β) x v) ∧
    (∀ x ∈ xs, ∀ y, shA h x = some y → ∀ v, RepA h β w (Mine O h β) x v → RepS w (Mine O (h.app (frz h xs)) β) y v) := by
  intro xs
  induction xs with
  | nil => intro h r; exact ⟨r, fun _ _ hx => hx, fun x hx => by simp at hx⟩
  | cons x xs ih =>
    intro h r
    -- a head that is handed on as it is
    have skip : frz h (x :: xs) = frz h xs → (∀ y v, shA h x = some y → RepA h β w (Mine O h β) x v → RepS w (Mine O h β) y v) →
        RelH O w0 (h.app (frz h (x :: xs))) β w ∧ (∀ z v, RepA h β w (Mine O h β) z v → RepA (h.app (frz h (x :: xs))) β w (Mine O (h.app (frz h (x :: xs))) β) z v) ∧
        (∀ z ∈ x :: xs, ∀ y, shA h z = some y → ∀ v, RepA h β w (Mine O h β) z v → RepS w (Mine O (h.app (frz h (x :: xs))) β) y v) := by
      intro e hx
      rw [e]
      obtain ⟨i1, i2, i3⟩ := ih h r
      refine ⟨i1, i2, fun z hz y hy v hv => ?_⟩
      rcases List.mem_cons.1 hz with rfl | hz
      · exact i2 (.s y) v (hx y v hy hv)
      · exact i3 z hz y hy v hv
    cases x with
    | s x => exact skip rfl (fun y v hy hv => by simp [shA] at hy; subst hy; exact hv)
    | zc => exact skip rfl (fun y v hy hv => by simp [shA] at hy; subst hy; obtain ⟨A, rfl⟩ := hv; exact .sl1)
    | ptr l g i off => exact skip rfl (fun y v hy hv => by simp [shA] at hy)
    | clo f ls => exact skip rfl (fun y v hy hv => by simp [shA] at hy)
    | own l g =>
      cases hk : h.blk l with
      | row ty e els =>
        by_cases hg : g = h.gen l
        · have e1 : frz h (.own l g :: xs) = (l, g, .ice (.sl e els)) :: frz (h.set l g (.ice (.sl e els))) xs := by
            rw [frz, hk]; simp only; rw [if_pos hg]
          obtain ⟨r1, r2⟩ := r.freeze hk
          rw [← hg] at r1 r2
          obtain ⟨i1, i2, i3⟩ := ih _ r1
          rw [e1, Hp.app_cons]
          refine ⟨i1, fun x v hx => i2 x v (r2 x v hx), fun z hz y hy v hv => ?_⟩
          rcases List.mem_cons.1 hz with rfl | hz
          · have h2 := r2 _ _ hv
            have h3 := h2.2.2 (by rw [Hp.gen_at])
            rw [Hp.view_at] at h3
            have h4 : y = .sl e els := by
              simp only [shA] at hy
              rw [if_pos hg, hk] at hy
              simpa using hy.symm
            subst h4
            exact i2 (.s _) v h3
          · exact i3 z hz y (by rw [shA_ice hk hg]; exact hy) v (r2 _ _ hv)
        · have e1 : frz h (.own l g :: xs) = frz h xs := by
            rw [frz, hk]; simp only; rw [if_neg hg]
          exact skip e1 (fun y v hy hv => by simp only [shA] at hy; rw [if_neg hg] at hy; simp at hy)
      | dead =>
        refine skip (by rw [frz, hk]) (fun y v hy hv => ?_)
        simp only [shA] at hy; rw [hk] at hy; split at hy <;> simp at hy
      | box ty e els =>
        refine skip (by rw [frz, hk]) (fun y v hy hv => ?_)
        simp only [shA] at hy; rw [hk] at hy; split at hy <;> simp at hy
      | ice z =>
        refine skip (by rw [frz, hk]) (fun y v hy hv => ?_)
        simp only [shA] at hy
        rw [hk] at hy
        by_cases hg : g = h.gen l
        · rw [if_pos hg] at hy
          have h3 := hv.2.2 hg
          have hvw : h.view l = .ice z := by unfold Hp.view; rw [hk]; rfl
          rw [hvw] at h3
          simp only [Option.some.injEq] at hy
          subst hy
          exact h3
        · rw [if_neg hg] at hy; simp at hy
end
end Go.Proofs.YtcbfhpnmhhnjpaaGreat

namespace Go.Proofs.YtcbfhpnmhhnjpaaGreat
open Go.RowKit
def cac : Value → Option AC
  | .slice none 0 0 => some .zc
  | v => if plain v then some (.s (.pv v)) else none
def ctv : Value → Option (TV AC)
  | .agg vs => (all? cac vs.toList).map TV.agg
  | .tuple _ => none
  | v => (cac v).map TV.c
def copd : Operand → Option Opd
  | .tmp t => some (.t t)
  | .const v => (ctv v).map Opd.k
  | .func f => some (.k (.c (.s (.fn f []))))
  | .global _ => none
structure TI where
  agg : Bool
  n : Nat
  bytes : Nat
  zv : Value
  zero : List AC
def tyAgg : TypeDesc → Bool
  | .struct _ | .array _ _ => true
  | _ => false
def tinf (P : Program) (t : Nat) : Option TI :=
  match P.info? t, P.underlying t with
  | some i, some d => match i.zero with
    | some z => match all? cac z.cells.toList with
      | some cs => if cs.length = i.size ∧ 0 < i.size ∧ (tyAgg d = false → i.size = 1) then some ⟨tyAgg d, i.size, i.bytes, z, cs⟩ else none
      | none => none
    | none => none
  | _, _ => none
structure TIs (P : Program) (t : Nat) (x : TI) : Prop where
  info : ∃ i d, P.info? t = some i ∧ P.underlying t = some d ∧ i.zero = some x.zv ∧ i.size = x.n ∧ i.bytes = x.bytes ∧ tyAgg d = x.agg
  zero : all? cac x.zv.cells.toList = some x.zero
  len : x.zero.length = x.n
  pos : 0 < x.n
  one : x.agg = false → x.n = 1
theorem tinf_ok {P : Program} {t : Nat} {x : TI} (h : tinf P t = some x) : TIs P t x := by
  unfold tinf at h
  cases h1 : P.info? t with
  | none => rw [h1] at h; simp at h
  | some i =>
    cases h2 : P.underlying t with
    | none => rw [h1, h2] at h; simp at h
    | some d =>
      rw [h1, h2] at h
      simp only at h
      cases h3 : i.zero with
      | none => rw [h3] at h; simp at h
      | some z =>
        rw [h3] at h
        simp only at h
        cases h4 : all? cac z.cells.toList with
        | none => rw [h4] at h; simp at h
        | some cs =>
          rw [h4] at h
          simp only at h
          split at h
          · rename_i hc
            simp only [Option.some.injEq] at h
            subst h
            exact ⟨⟨i, d, h1, h2, h3, rfl, rfl, rfl⟩, h4, hc.1, hc.2.1, hc.2.2⟩
          · simp at h
def Ok1 (P : Program) (o : Oper) (a : Act) (w : World) (R : Value → World → Prop) : Prop :=
  ∀ (K : Act → World → Prop) (Q : Exit → Act → World → Prop), (∀ u w', R u w' → K (a.put o.dst u) w') → o.wp P a w K Q
section
variable {P : Program} {o : Oper} {a : Act} {w : World} {R : Value → World → Prop}
theorem Ok1.value {u : Value} {w' : World} (h : (execOp a.eval o).run P w = .ok (.value u) w') (hr : R u w') : Ok1 P o a w R := by
  intro K Q hK
  unfold Oper.wp
  rw [h]
  exact hK _ _ hr
theorem Ok1.skip {w' : World} (h : (execOp a.eval o).run P w = .ok .skip w') (hr : R undef w') : Ok1 P o a w R := by
  intro K Q hK
  unfold Oper.wp
  rw [h]
  exact hK _ _ hr
theorem Ok1.call {f : FuncId} {args : Array Value} (h : (execOp a.eval o).run P w = .ok (.enter f args) w) (hc : Calls P f args w fun e w' => ∃ v, e = .returned v ∧ R v w') : Ok1 P o a w R := by
  intro K Q hK
  unfold Oper.wp
  rw [h]
  refine hc.mono ?_
  rintro e w' ⟨v, rfl, hv⟩
  exact hK _ _ hv
end
def Done (O : Nat → Prop) (w0 : Base) (n : Nat) (σ : St) (a : Act) (v : TV AC) (ws : List (Nat × Nat × LB)) : Value → World → Prop :=
  fun u w' => ∃ β, Rel O w0 n ⟨σ.slot, σ.h.app ws⟩ β a w' ∧ RepT (RepA (σ.h.app ws) β w' (Mine O (σ.h.app ws) β)) v u
theorem cac_ok {h : Hp} {β : Env} {w : World} {O : Nat → Prop} {v : Value} {x : AC} (e : cac v = some x) : RepA h β w O x v := by
  unfold cac at e
  split at e
  · simp only [Option.some.injEq] at e; subst e; exact ⟨_, rfl⟩
  · split at e
    · simp only [Option.some.injEq] at e; subst e; exact .pv (by assumption)
    · simp at e
theorem cacs_ok {h : Hp} {β : Env} {w : World} {O : Nat → Prop} : ∀ {vs : List Value} {xs : List AC}, all? cac vs = some xs → RL (RepA h β w O) xs vs := by
  intro vs
  induction vs with
  | nil => intro xs e; rw [all?_nil e]; exact .nil
  | cons v vs ih =>
    intro xs e
    obtain ⟨y, ys, h1, h2, rfl⟩ := all?_cons e
    exact .cons (cac_ok h1) (ih h2)
theorem ctv_ok {h : Hp} {β : Env} {w : World} {O : Nat → Prop} {v : Value} {x : TV AC} (e : ctv v = some x) : RepT (RepA h β w O) x v := by
  unfold ctv at e
  split at e
  · simp only [Option.map_eq_some_iff] at e
    obtain ⟨xs, h1, rfl⟩ := e
    exact ⟨_, rfl, cacs_ok h1⟩
  · simp at e
  · simp only [Option.map_eq_some_iff] at e
    obtain ⟨y, h1, rfl⟩ := e
    exact cac_ok h1
section
variable {P : Program} {O : Nat → Prop} {w0 : Base} {n : Nat} {σ : St} {β : Env} {a : Act} {w : World}
theorem Rel.ev (r : Rel O w0 n σ β a w) {x : Operand} {y : Opd} (e : copd x = some y) : RepT (RepA σ.h β w (Mine O σ.h β)) (σ.ev y) (a.eval x) := by
  cases x with
  | tmp t => simp only [copd, Option.some.injEq] at e; subst e; exact r.slots t
  | const v =>
    simp only [copd, Option.map_eq_some_iff] at e
    obtain ⟨z, h1, rfl⟩ := e
    exact ctv_ok h1
  | func f =>
    simp only [copd, Option.some.injEq] at e
    subst e
    exact RepS.fn (us := []) rfl (fun i h => by simp at h)
  | global g => simp [copd] at e
theorem Rel.pure (r : Rel O w0 n σ β a w) {v : TV AC} {u : Value} (hv : RepT (RepA σ.h β w (Mine O σ.h β)) v u) : Done O w0 n σ a v [] u w := ⟨β, r, hv⟩
theorem RepT.pvInv {h : Hp} {u v : Value} {O : Nat → Prop} (r : RepT (RepA h β w O) (.c (.s (.pv u))) v) : v = u := RepS.flat r
theorem RepT.cellsInv {h : Hp} {x : TV AC} {cs : List AC} {v : Value} {O : Nat → Prop} (r : RepT (RepA h β w O) x v) (e : x.cells = some cs) : RL (RepA h β w O) cs v.cells.toList ∧ (v.cells.toList = [v] ∨ ∃ us : List Value, v = .agg us.toArray ∧ v.cells.toList = us) := by
  cases x with
  | no => simp [TV.cells] at e
  | c y =>
    simp only [TV.cells, Option.some.injEq] at e
    subst e
    have h1 := RepA.one r
    have h2 : v.cells.toList = [v] := by
      cases v <;> first | rfl | simp [Value.oneCell'] at h1
    rw [h2]
    exact ⟨.one r, .inl rfl⟩
  | agg ys =>
    simp only [TV.cells, Option.some.injEq] at e
    subst e
    obtain ⟨us, rfl, h1⟩ := r
    exact ⟨by simpa [Value.cells] using h1, .inr ⟨us, rfl, by simp [Value.cells]⟩⟩
  | tup vs => simp [TV.cells] at e
theorem pv_mk {h : Hp} {O : Nat → Prop} {v : Value} (e : plain v = true) : RepT (RepA h β w O) (.c (.s (.pv v))) v := RepS.pv e
theorem op_mv (r : Rel O w0 n σ β a w) {o : Oper} {x : Operand} {y : Opd} (ho : o.op = .move x ∨ o.op = .assign x) (e : copd x = some y) : Ok1 P o a w (Done O w0 n σ a (σ.ev y) []) := by
  refine Ok1.value (u := a.eval x) (w' := w) ?_ (r.pure (r.ev e))
  rcases ho with ho | ho <;> simp [execOp, ho]
theorem op_pick (r : Rel O w0 n σ β a w) {o : Oper} {c x y : Operand} {c' x' y' : Opd} {t : Bool} (ho : o.op = .pick c x y) (ec : copd c = some c') (ex : copd x = some x') (ey : copd y = some y')
    (hc : σ.ev c' = .c (.s (.pv (.bool t)))) : Ok1 P o a w (Done O w0 n σ a (bif t then σ.ev x' else σ.ev y') []) := by
  have h1 := r.ev ec
  rw [hc] at h1
  have h2 := h1.pvInv
  refine Ok1.value (u := if t then a.eval x else a.eval y) (w' := w) ?_ (r.pure ?_)
  · simp [execOp, ho, h2, asBool]
  · cases t
    · exact r.ev ey
    · exact r.ev ex
theorem op_not (r : Rel O w0 n σ β a w) {o : Oper} {x : Operand} {x' : Opd} {t : Bool} {ty : Nat} (ho : o.op = .unOp .not ty x) (ex : copd x = some x')
    (hx : σ.ev x' = .c (.s (.pv (.bool t)))) : Ok1 P o a w (Done O w0 n σ a (.c (.s (.pv (.bool !t)))) []) := by
  have h1 := r.ev ex
  rw [hx] at h1
  have h2 := h1.pvInv
  refine Ok1.value (u := .bool !t) (w' := w) ?_ (r.pure (pv_mk rfl))
  simp [execOp, ho, h2, Op.unary]
theorem op_conv (r : Rel O w0 n σ β a w) {o : Oper} {x : Operand} {x' : Opd} {k k' : IntKind} {m : Int} {src dst : Nat} {d : TypeDesc} (ho : o.op = .convert src dst x) (ex : copd x = some x') (hs : P.underlying src = some d) (hd : P.underlying dst = some (.int k))
    (hx : σ.ev x' = .c (.s (.pv (.int k' m)))) : Ok1 P o a w (Done O w0 n σ a (.c (.s (.pv (.int k (k.wrap m))))) []) := by
  have h1 := r.ev ex
  rw [hx] at h1
  have h2 := h1.pvInv
  refine Ok1.value (u := .int k (k.wrap m)) (w' := w) ?_ (r.pure (pv_mk rfl))
  simp [execOp, ho, h2, convert, run_underlying hs, run_underlying hd, Conv.intToInt]
theorem op_bin (r : Rel O w0 n σ β a w) {o : Oper} {op : BinOp} {x y : Operand} {x' y' : Opd} {u v z : Value} {c : Prop} {t ty : Nat} {d : TypeDesc} (ho : o.op = .binOp op t x y ty) (ex : copd x = some x') (ey : copd y = some y')
    (ht : P.underlying t = some d) (hb : (match d with | .bool | .int _ | .string => true | _ => false) = true)
    (hx : σ.ev x' = .c (.s (.pv u))) (hy : σ.ev y' = .c (.s (.pv v))) (hz : binv op u v = some (c, z)) (hc : c) (hbb : ∀ p q, u = .bool p → v = .bool q → d = .bool) : Ok1 P o a w (Done O w0 n σ a (.c (.s (.pv z))) []) := by
  have h1 := r.ev ex
  rw [hx] at h1
  have h2 := h1.pvInv
  have h3 := r.ev ey
  rw [hy] at h3
  have h4 := h3.pvInv
  have hp : plain z = true ∧ (do eqGuard op t x y u v; binOp op t u v : Sem Value).run P w = .ok z w := by
    unfold binv at hz
    split at hz
    all_goals first
      | (split at hz
         · rename_i hk
           simp only [Option.some.injEq, Prod.mk.injEq] at hz
           obtain ⟨rfl, rfl⟩ := hz
           subst hk
           refine ⟨rfl, ?_⟩
           simp [eqGuard, binOp, Op.intArith, Op.intDiv, Op.intCmp, Op.intBits, hc]
         · simp at hz)
      | (simp only [Option.some.injEq, Prod.mk.injEq] at hz
         obtain ⟨rfl, rfl⟩ := hz
         refine ⟨rfl, ?_⟩
         simp [eqGuard, binOp, Op.shift, Int.not_lt.2 hc]
         done)
      | (simp only [Option.some.injEq, Prod.mk.injEq] at hz
         obtain ⟨rfl, rfl⟩ := hz
         have hd := hbb _ _ rfl rfl
         subst hd
         refine ⟨rfl, ?_⟩
         first
           | (simp [eqGuard, run_eql_bool w t _ _ ht]; done)
           | (simp [eqGuard, run_neq_bool w t _ _ ht]; done))
      | (simp only [Option.some.injEq, Prod.mk.injEq] at hz
         obtain ⟨rfl, rfl⟩ := hz
         refine ⟨rfl, ?_⟩
         simp [eqGuard, binOp, Op.stringOp]
         try omega
         try rfl)
      | simp at hz
  refine Ok1.value (u := z) (w' := w) ?_ (r.pure (pv_mk hp.1))
  have h5 := hp.2
  simp only [execOp, ho, h2, h4]
  simp only [Sem.run_bind] at h5 ⊢
  rw [h5]
  rfl
end
end Go.Proofs.YtcbfhpnmhhnjpaaGreat

namespace Go.Proofs.YtcbfhpnmhhnjpaaGreat
open Go.RowKit
theorem add_off (b off j : Nat) : (⟨b, off, none⟩ : Addr).add j = ⟨b, off + j, none⟩ := by
  unfold Addr.add
  by_cases hj : j = 0
  · subst hj; simp
  · simp [hj]
section
variable {P : Program} {O : Nat → Prop} {w0 : Base} {h : Hp} {β : Env} {w : World}
theorem run_isAgg' {t : Nat} {d : TypeDesc} (hd : P.underlying t = some d) (w : World) : (isAgg t).run P w = .ok (tyAgg d) w := by
  cases d <;> simp [isAgg, run_underlying hd, tyAgg]
theorem run_sizeOf' {t : Nat} {i : TypeInfo} (hi : P.info? t = some i) (w : World) : (sizeOf t).run P w = .ok i.size w := by
  simp [sizeOf, typeInfo, hi]
theorem run_zero' {t : Nat} {i : TypeInfo} {z : Value} (hi : P.info? t = some i) (hz : i.zero = some z) (w : World) : (zeroValue t).run P w = .ok z w := by
  simp [zeroValue, typeInfo, hi, hz]
theorem run_loadV {t : Nat} {ti : TI} (ht : TIs P t ti) {b off : Nat} (us : List Value) (hl : us.length = ti.n) (hc : ∀ j (hj : j < us.length), w.cell? ⟨b, off + j, none⟩ = some us[j]) :
    ∃ u, (loadVar t ⟨b, off, none⟩).run P w = .ok u w ∧ (ti.agg = true → u = .agg us.toArray) ∧ (ti.agg = false → us = [u]) := by
  obtain ⟨i, d, h1, h2, h3, h4, h5, h6⟩ := ht.info
  have hc' : ∀ j v, us[j]? = some v → w.cell? ((⟨b, off, none⟩ : Addr).add j) = some v := by
    intro j v hv
    obtain ⟨hj, rfl⟩ := List.getElem?_eq_some_iff.1 hv
    rw [add_off]; exact hc j hj
  cases hag : ti.agg with
  | true =>
    refine ⟨.agg us.toArray, ?_, fun _ => rfl, fun e => by simp at e⟩
    have := run_loadCells_list (P := P) w ⟨b, off, none⟩ us hc'
    simp only [loadVar, Sem.run_bind, run_isAgg' h2, Result.andThen_ok, h6, hag, if_true, run_sizeOf' h1, h4, ← hl, this, Sem.run_pure]
  | false =>
    have h7 := ht.one hag
    rw [h7] at hl
    obtain ⟨u, rfl⟩ := List.length_eq_one_iff.1 hl
    refine ⟨u, ?_, fun e => by simp at e, fun _ => rfl⟩
    have := hc 0 (by simp)
    simp only [Nat.add_zero, List.getElem_cons_zero] at this
    simp only [loadVar, Sem.run_bind, run_isAgg' h2, Result.andThen_ok, h6, hag, Bool.false_eq_true, if_false]
    simp [load, Sem.run, this]
theorem rd_ok (r : RelH O w0 h β w) {x : TV AC} {u : Value} (hx : RepT (RepA h β w (Mine O h β)) x u) {m : Nat} {K : List AC → Prop} (hk : rd h x m K) :
    ∃ cs b off us, K cs ∧ u = .pointer (some ⟨b, off, none⟩) ∧ cs.length = m ∧ RL (RepA h β w (Mine O h β)) cs us ∧ ∀ j (hj : j < us.length), w.cell? ⟨b, off + j, none⟩ = some us[j] := by
  unfold rd at hk
  split at hk
  · rename_i cs
    obtain ⟨h1, h2⟩ := hk
    cases hx with
    | sptr hb hO hl hr hc =>
      rename_i b off us
      refine ⟨_, b, off, us.take m, h2, rfl, by simp; omega, ?_, fun j hj => ?_⟩
      · have h3 : RL (RepS w (Mine O h β)) cs us := ⟨hl, hr⟩
        exact (h3.take m).map AC.s (fun x u hx => hx)
      · rw [List.getElem_take]; exact hc j (by simp at hj; omega)
  · rename_i l g i off
    obtain ⟨hg, h1⟩ := hk
    have h2 := hx.2.2 hg
    cases hb : h.blk l with
    | box ty e els =>
      rw [hb] at h1
      obtain ⟨hi, h3, h4⟩ := h1
      have hv : h.view l = .mem false ty e els := by unfold Hp.view; rw [hb]; rfl
      rw [hv] at h2
      obtain ⟨b, h5, rfl⟩ := h2
      obtain ⟨us, h6, h7, h8⟩ := r.at_ hv hi h5
      refine ⟨_, b, i * e + off, (us.drop off).take m, h4, rfl, by simp [h7.1]; omega, (h7.drop off).take m, fun j hj => ?_⟩
      rw [List.getElem_take, List.getElem_drop, Nat.add_assoc]
      exact h8 _ (by simp at hj; omega)
    | row ty e els =>
      rw [hb] at h1
      obtain ⟨hi, h3, h4⟩ := h1
      have hv : h.view l = .mem true ty e (els.map (List.map AC.s)) := by unfold Hp.view; rw [hb]; rfl
      rw [hv] at h2
      obtain ⟨b, h5, rfl⟩ := h2
      obtain ⟨us, h6, h7, h8⟩ := r.at_ hv (i := i) (by simpa using hi) h5
      rw [List.getElem_map] at h7
      refine ⟨_, b, i * e + off, (us.drop off).take m, h4, rfl, ?_, ?_, fun j hj => ?_⟩
      · have := h7.1
        simp at this
        simp
        omega
      · have := (h7.drop off).take m
        rw [← List.map_drop, ← List.map_take] at this
        exact this
      · rw [List.getElem_take, List.getElem_drop, Nat.add_assoc]
        exact h8 _ (by simp at hj; omega)
    | dead => rw [hb] at h1; exact h1.elim
    | ice x => rw [hb] at h1; exact h1.elim
  · exact hk.elim
end
section
variable {P : Program} {O : Nat → Prop} {w0 : Base} {n : Nat} {σ : St} {β : Env} {a : Act} {w : World}
theorem op_load (r : Rel O w0 n σ β a w) {o : Oper} {x : Operand} {x' : Opd} {t : Nat} {ti : TI} {v : TV AC} (ho : o.op = .load t x) (ex : copd x = some x') (ht : TIs P t ti)
    (hk : rd σ.h (σ.ev x') ti.n (fun cs => if ti.agg then v = .agg cs else ∃ c, cs = [c] ∧ v = .c c)) : Ok1 P o a w (Done O w0 n σ a v []) := by
  obtain ⟨cs, b, off, us, hv, hu, hl, hr, hc⟩ := rd_ok r.toRelH (r.ev ex) hk
  obtain ⟨u, h1, h2, h3⟩ := run_loadV ht (us := us) (by rw [← hr.1]; exact hl) hc
  refine Ok1.value (u := u) (w' := w) ?_ (r.pure ?_)
  · simp [execOp, ho, hu, Instr.loadAt, Instr.sureAddr, h1]
  · cases hag : ti.agg with
    | true =>
      rw [hag] at hv
      simp only [if_true] at hv
      subst hv
      exact ⟨us, h2 hag, hr⟩
    | false =>
      rw [hag] at hv
      simp only [Bool.false_eq_true, if_false] at hv
      obtain ⟨c, rfl, rfl⟩ := hv
      have := h3 hag
      subst this
      exact hr.head
theorem Rel.place (r : Rel O w0 n σ β a w) {l g i off : Nat} {u : Value} (hx : RepA σ.h β w (Mine O σ.h β) (.ptr l g i off) u) (hg : g = σ.h.gen l) {row : Bool} {ty e : Nat} {els : List (List AC)} (hv : σ.h.view l = .mem row ty e els) :
    ∃ b, (β l).1 = some b ∧ u = .pointer (some ⟨b, i * e + off, none⟩) := by
  have h2 := hx.2.2 hg
  rw [hv] at h2
  exact h2
theorem op_fld (r : Rel O w0 n σ β a w) {o : Oper} {x : Operand} {x' : Opd} {t k : Nat} {fs : Array Field} {f : Field} {ti : TI} {v : TV AC} (ho : o.op = .fieldAddr t x k) (ex : copd x = some x') (ht : P.underlying t = some (.struct fs)) (hf : fs[k]? = some f) (hti : TIs P f.type ti)
    (hk : (∃ cs, σ.ev x' = .c (.s (.sptr cs)) ∧ f.offset ≤ cs.length ∧ v = .c (.s (.sptr (cs.drop f.offset)))) ∨ (∃ l g i q, σ.ev x' = .c (.ptr l g i q) ∧ g = σ.h.gen l ∧ (σ.h.view l).live = true ∧ v = .c (.ptr l g i (q + f.offset)))) :
    Ok1 P o a w (Done O w0 n σ a v []) := by
  obtain ⟨ii, d, h1, h2, h3, h4, h5, h6⟩ := hti.info
  have hsz : ¬ ii.size = 0 := by have := hti.pos; omega
  have hrun : ∀ b off, a.eval x = .pointer (some ⟨b, off, none⟩) → (execOp a.eval o).run P w = .ok (.value (.pointer (some ⟨b, off + f.offset, none⟩))) w := by
    intro b off e
    simp [execOp, ho, e, Instr.fieldAt, Instr.sureAddr, run_underlying ht, hf, fieldPlace, run_sizeOf' h1, hsz, add_off]
  have hx := r.ev ex
  rcases hk with ⟨cs, e, hoff, rfl⟩ | ⟨l, g, i, q, e, hg, hl, rfl⟩
  · rw [e] at hx
    generalize hu : a.eval x = u at hx
    cases hx with
    | sptr hb hO hln hr hc =>
      rename_i b off us
      refine Ok1.value (hrun b off hu) (r.pure ?_)
      refine RepS.sptr (us := us.drop f.offset) hb hO (by simp [hln]) (fun i a b => ?_) (fun i a => ?_)
      · rw [List.getElem_drop, List.getElem_drop]; exact hr _ _ _
      · rw [List.getElem_drop, Nat.add_assoc]; exact hc _ (by simp at a; omega)
  · rw [e] at hx
    cases hv : σ.h.view l with
    | mem row ty e' els =>
      obtain ⟨b, hb, hu⟩ := r.place hx hg hv
      refine Ok1.value (hrun b _ hu) (r.pure ?_)
      refine ⟨rfl, hx.2.1, fun _ => ?_⟩
      rw [hv]
      exact ⟨b, hb, by rw [Nat.add_assoc]⟩
    | dead => rw [hv] at hl; simp [VB.live] at hl
    | ice y => rw [hv] at hl; simp [VB.live] at hl
theorem op_nilc (r : Rel O w0 n σ β a w) {o : Oper} {x : Operand} {x' : Opd} (ho : o.op = .nilCheck x) (ex : copd x = some x')
    (hk : (∃ cs, σ.ev x' = .c (.s (.sptr cs))) ∨ (∃ f cs, σ.ev x' = .c (.s (.fn f cs))) ∨ (∃ f cs, σ.ev x' = .c (.clo f cs)) ∨ (∃ l g i q, σ.ev x' = .c (.ptr l g i q) ∧ g = σ.h.gen l ∧ (σ.h.view l).live = true)) :
    Ok1 P o a w (Done O w0 n σ a (σ.ev x') []) := by
  have hx := r.ev ex
  refine Ok1.value (u := a.eval x) (w' := w) ?_ (r.pure hx)
  rcases hk with ⟨cs, e⟩ | ⟨f, cs, e⟩ | ⟨f, cs, e⟩ | ⟨l, g, i, q, e, hg, hl⟩
  · rw [e] at hx
    generalize hu : a.eval x = u at hx
    cases hx with
    | sptr hb hO hln hr hc => simp [execOp, ho, hu]
  · rw [e] at hx
    generalize hu : a.eval x = u at hx
    cases hx with
    | fn hl hr => simp [execOp, ho, hu]
  · rw [e] at hx
    obtain ⟨us, hu, _⟩ := hx
    simp [execOp, ho, hu]
  · rw [e] at hx
    cases hv : σ.h.view l with
    | mem row ty e' els =>
      obtain ⟨b, hb, hu⟩ := r.place hx hg hv
      simp [execOp, ho, hu]
    | dead => rw [hv] at hl; simp [VB.live] at hl
    | ice y => rw [hv] at hl; simp [VB.live] at hl
inductive SlOf (e : Nat) (h : Hp) : TV AC → List (List SC) → List (Nat × Nat × LB) → Prop
  | zc : SlOf e h (.c .zc) [] []
  | s {els : List (List SC)} : SlOf e h (.c (.s (.sl e els))) els []
  | tag {b : Bool} {els : List (List SC)} : SlOf e h (.c (.s (.tag b (.sl e els)))) els []
  | row {l ty : Nat} {els : List (List SC)} (hk : h.blk l = .row ty e els) : SlOf e h (.c (.own l (h.gen l))) els [(l, h.gen l, .ice (.sl e els))]
  | ice {l : Nat} {els : List (List SC)} (hk : h.blk l = .ice (.sl e els)) : SlOf e h (.c (.own l (h.gen l))) els []
theorem sliceOf_ok {e : Nat} {h : Hp} {x : TV AC} {els : List (List SC)} {ws : List (Nat × Nat × LB)} (hs : sliceOf e h x = some (els, ws)) : SlOf e h x els ws := by
  unfold sliceOf at hs
  split at hs
  · simp only [Option.some.injEq, Prod.mk.injEq] at hs; obtain ⟨rfl, rfl⟩ := hs; exact .zc
  · split at hs
    · rename_i he
      subst he
      simp only [Option.some.injEq, Prod.mk.injEq] at hs; obtain ⟨rfl, rfl⟩ := hs; exact .s
    · simp at hs
  · split at hs
    · rename_i he
      subst he
      simp only [Option.some.injEq, Prod.mk.injEq] at hs; obtain ⟨rfl, rfl⟩ := hs; exact .tag
    · simp at hs
  · split at hs
    · rename_i hg
      subst hg
      split at hs
      · rename_i hk
        split at hs
        · rename_i he
          subst he
          simp only [Option.some.injEq, Prod.mk.injEq] at hs; obtain ⟨rfl, rfl⟩ := hs; exact .row hk
        · simp at hs
      · rename_i hk
        split at hs
        · rename_i he
          subst he
          simp only [Option.some.injEq, Prod.mk.injEq] at hs; obtain ⟨rfl, rfl⟩ := hs; exact .ice hk
        · simp at hs
      · simp at hs
    · simp at hs
  · simp at hs
theorem SlOf.len {e : Nat} {h : Hp} {x : TV AC} {els : List (List SC)} {ws : List (Nat × Nat × LB)} (hs : SlOf e h x els ws) {m : Nat} (hm : lenOf h x = some m) : m = els.length := by
  cases hs with
  | zc => simp [lenOf] at hm; exact hm.symm
  | s => simp [lenOf] at hm; exact hm.symm
  | tag => simp [lenOf] at hm; exact hm.symm
  | row hk => simp [lenOf, hk] at hm; exact hm.symm
  | ice hk => simp [lenOf, hk] at hm; exact hm.symm
theorem SlOf.froz {e : Nat} {h : Hp} (r : RelH O w0 h β w) {x : TV AC} {els : List (List SC)} {ws : List (Nat × Nat × LB)} (hs : SlOf e h x els ws) {u : Value} (hx : RepT (RepA h β w (Mine O h β)) x u) :
    RelH O w0 (h.app ws) β w ∧ (∀ x v, RepA h β w (Mine O h β) x v → RepA (h.app ws) β w (Mine O (h.app ws) β) x v) ∧
      ((els = [] ∧ ∃ A, u = .slice A 0 0) ∨ RepS w (Mine O (h.app ws) β) (.sl e els) u) := by
  cases hs with
  | zc => obtain ⟨A, rfl⟩ := hx; exact ⟨r, fun _ _ h => h, .inl ⟨rfl, A, rfl⟩⟩
  | s => exact ⟨r, fun _ _ h => h, .inr hx⟩
  | tag => cases hx with
    | tag h hb => exact ⟨r, fun _ _ h => h, .inr h⟩
  | row hk =>
    rename_i l ty
    obtain ⟨r1, r2⟩ := r.freeze hk
    refine ⟨r1, r2, .inr ?_⟩
    have h3 := (r2 (.own l (h.gen l)) u hx).2.2 (by rw [Hp.gen_at])
    rw [Hp.view_at] at h3
    exact h3
  | ice hk =>
    rename_i l
    have h2 := hx.2.2 rfl
    have hv : h.view l = .ice (.sl e els) := by unfold Hp.view; rw [hk]; rfl
    rw [hv] at h2
    exact ⟨r, fun _ _ h => h, .inr h2⟩
theorem SlOf.rep {e : Nat} {h : Hp} (r : RelH O w0 h β w) {x : TV AC} {els : List (List SC)} {ws : List (Nat × Nat × LB)} (hs : SlOf e h x els ws) {u : Value} (hx : RepT (RepA h β w (Mine O h β)) x u) :
    (els = [] ∧ ∃ A, u = .slice A 0 0) ∨ RepS w O (.sl e els) u := by
  obtain ⟨_, _, h3 | h3⟩ := hs.froz r hx
  · exact .inl h3
  · exact .inr (RepS.less h3 (fun b hb => .inl hb))
theorem numsOf_ok : ∀ {els : List (List SC)} {ns : List Int}, numsOf els = some ns → els = ns.map fun n => [SC.pv (.int .u8 n)] := by
  intro els
  induction els with
  | nil => intro ns h; simp [numsOf] at h; subst h; rfl
  | cons x xs ih =>
    intro ns h
    unfold numsOf at h
    split at h
    · simp at *
    · rename_i n ys heq
      simp only [List.cons.injEq] at heq
      obtain ⟨rfl, rfl⟩ := heq
      simp only [Option.map_eq_some_iff] at h
      obtain ⟨ms, h1, rfl⟩ := h
      rw [ih h1]; rfl
    · simp at h
theorem RepS.slForm {e : Nat} {els : List (List SC)} {u : Value} (hx : RepS w O (.sl e els) u) : ∃ A cap, u = .slice A els.length cap ∧ els.length ≤ cap ∧ cap ≤ maxLen := by
  cases hx with
  | sl0 h0 hm => exact ⟨_, _, rfl, Nat.zero_le _, hm⟩
  | sl h0 hcap hm => exact ⟨_, _, rfl, hcap, hm⟩
theorem lenOf_ok (r : Rel O w0 n σ β a w) {x : TV AC} {u : Value} (hx : RepT (RepA σ.h β w (Mine O σ.h β)) x u) {m : Nat} (hm : lenOf σ.h x = some m) : ∃ A cap, u = .slice A m cap := by
  have key : ∀ e els ws, SlOf e σ.h x els ws → ∃ A cap, u = .slice A m cap := by
    intro e els ws hs
    have h1 := hs.len hm
    rcases hs.rep r.toRelH hx with ⟨rfl, A, rfl⟩ | h2
    · subst h1; exact ⟨A, 0, rfl⟩
    · obtain ⟨A, cap, h3, _⟩ := RepS.slForm h2
      subst h1; exact ⟨A, cap, h3⟩
  unfold lenOf at hm
  split at hm
  · exact key 1 _ _ .zc
  · exact key _ _ _ .s
  · exact key _ _ _ .tag
  · split at hm
    · rename_i hg
      subst hg
      split at hm
      · rename_i hk; exact key _ _ _ (.row hk)
      · rename_i hk; exact key _ _ _ (.ice hk)
      · simp at hm
    · simp at hm
  · simp at hm
theorem op_len (r : Rel O w0 n σ β a w) {o : Oper} {x : Operand} {x' : Opd} {t : Nat} {m e : Nat} (ho : o.op = .call { callee := .builtin .len, args := #[x], argTypes := #[t] }) (ex : copd x = some x') (ht : P.underlying t = some (.slice e))
    (hm : lenOf σ.h (σ.ev x') = some m) : Ok1 P o a w (Done O w0 n σ a (.c (.s (.pv (.int .i64 m)))) []) := by
  obtain ⟨A, cap, hu⟩ := lenOf_ok r (r.ev ex) hm
  refine Ok1.value (u := .int .i64 m) (w' := w) ?_ (r.pure (pv_mk rfl))
  simp [execOp, ho, resolve, invoke, builtin, hu, Builtin.len_, run_underlying ht, goInt]
theorem op_slen (r : Rel O w0 n σ β a w) {o : Oper} {x : Operand} {x' : Opd} {t : Nat} {s : ByteArray} (ho : o.op = .call { callee := .builtin .len, args := #[x], argTypes := #[t] }) (ex : copd x = some x') (ht : P.underlying t = some .string)
    (hs : σ.ev x' = .c (.s (.pv (.string s)))) : Ok1 P o a w (Done O w0 n σ a (.c (.s (.pv (.int .i64 s.size)))) []) := by
  have hx := r.ev ex
  rw [hs] at hx
  have hu := hx.pvInv
  refine Ok1.value (u := .int .i64 s.size) (w' := w) ?_ (r.pure (pv_mk rfl))
  simp [execOp, ho, resolve, invoke, builtin, hu, Builtin.len_, run_underlying ht, goInt]
theorem op_b2s (r : Rel O w0 n σ β a w) {o : Oper} {x : Operand} {x' : Opd} {src dst e : Nat} {els : List (List SC)} {ws : List (Nat × Nat × LB)} {ns : List Int} (ho : o.op = .convert src dst x) (ex : copd x = some x') (hs : P.underlying src = some (.slice e)) (he : P.underlying e = some (.int .u8)) (hd : P.underlying dst = some .string)
    (hx : sliceOf 1 σ.h (σ.ev x') = some (els, ws)) (hn : numsOf els = some ns) : Ok1 P o a w (Done O w0 n σ a (.c (.s (.pv (.string (strOfNums ns))))) []) := by
  have h1 := r.ev ex
  have hconv : (convert src dst (a.eval x)).run P w = .ok (.string (strOfNums ns)) w := by
    have hels := numsOf_ok hn
    have hz : ∀ (A : Option Addr) (c : Nat), ns = [] → (convert src dst (.slice A 0 c)).run P w = .ok (.string (strOfNums ns)) w := by
      intro A c h
      subst h
      rw [run_convert_bytes_string w src dst e _ 0 c hs he hd]
      cases A <;> simp [Conv.bytesToString, loadCells]
      all_goals rfl
    rcases (sliceOf_ok hx).rep r.toRelH h1 with ⟨h2, A, hA⟩ | h2
    · rw [hA]
      refine hz A 0 ?_
      rw [h2] at hels
      simpa using hels.symm
    · generalize a.eval x = u at h2
      cases h2 with
      | sl0 h0 hm => exact hz _ _ (by simpa using hels.symm)
      | @sl e' els' b off cap us h0 hcap hm hb hO he' hl hr hc =>
        have hf : els.flatten = ns.map fun n => SC.pv (.int .u8 n) := by
          have key : ∀ l : List Int, (l.map fun n => [SC.pv (.int .u8 n)]).flatten = l.map fun n => SC.pv (.int .u8 n) := by
            intro l; induction l with
            | nil => rfl
            | cons a l ih => simp only [List.map_cons, List.flatten_cons, ih]; rfl
          rw [hels]; exact key ns
        have hln : els.length = ns.length := by rw [hels]; simp
        rw [hln]
        refine run_convert_bytes_arg w src e hs he b off ns.length cap ns rfl (fun i hi => ?_) dst hd
        have hif : i < els.flatten.length := by rw [hf]; simpa using hi
        have hiu : i < us.length := by omega
        rw [hc i hiu]
        have h5 := hr i hif hiu
        have h6 : els.flatten[i] = SC.pv (.int .u8 ns[i]) := by simp only [hf, List.getElem_map]
        rw [h6] at h5
        rw [RepS.flat h5]
        simp [List.getD, List.getElem?_eq_getElem hi]
  refine Ok1.value (u := .string (strOfNums ns)) (w' := w) ?_ (r.pure (pv_mk rfl))
  simp only [execOp, ho, Sem.run_bind, hconv, Result.andThen_ok, Sem.run_pure]
theorem op_isnil (r : Rel O w0 n σ β a w) {o : Oper} {x : Operand} {x' : Opd} {t ty e : Nat} {b : Bool} {y : SC} (ho : o.op = .binOp .eql t x (.const (.slice none 0 0)) ty) (ex : copd x = some x') (ht : P.underlying t = some (.slice e))
    (hx : σ.ev x' = .c (.s (.tag b y))) (hsl : ∃ A k c, a.eval x = .slice A k c) : Ok1 P o a w (Done O w0 n σ a (.c (.s (.pv (.bool b)))) []) := by
  have h1 := r.ev ex
  rw [hx] at h1
  obtain ⟨A, k, c, hu⟩ := hsl
  rw [hu] at h1
  cases h1 with
  | tag h hb =>
    refine Ok1.value (u := .bool b) (w' := w) ?_ (r.pure (pv_mk rfl))
    have ec : a.eval (.const (.slice none 0 0)) = .slice none 0 0 := rfl
    subst hb
    cases A with
    | none => simp [execOp, ho, hu, ec, eqGuard, binOp, run_equal_slice_nil (h := ht), nilV]
    | some A => simp [execOp, ho, hu, ec, eqGuard, binOp, run_equal_slice_nil (h := ht), nilV]
theorem op_idxS (r : Rel O w0 n σ β a w) {o : Oper} {x y : Operand} {y' : Opd} {t e : Nat} {ti : TI} {k : IntKind} {m : Int} {els : List (List SC)} (ho : o.op = .indexAddr t x y) (ey : copd y = some y') (ht : P.underlying t = some (.slice e)) (hti : TIs P e ti)
    (hy : σ.ev y' = .c (.s (.pv (.int k m)))) (h0 : 0 ≤ m) (hn : m.toNat < els.length) (hS : RepS w (Mine O σ.h β) (.sl ti.n els) (a.eval x)) : Ok1 P o a w (Done O w0 n σ a (.c (.s (.sptr els[m.toNat]))) []) := by
  obtain ⟨ii, d, h1, h2, h3, h4, h5, h6⟩ := hti.info
  have h7 := r.ev ey
  rw [hy] at h7
  have h8 := h7.pvInv
  generalize hu : a.eval x = u at hS
  cases hS with
  | sl0 => simp at hn
  | sl hp hcap hm hb hO he hl hr hc =>
    rename_i b off cap us
    have hlt : m < (els.length : Int) := by omega
    refine Ok1.value (u := .pointer (some ⟨b, off + m.toNat * ti.n, none⟩)) (w' := w) ?_ (r.pure ?_)
    · simp [execOp, ho, hu, h8, Instr.indexAt, run_underlying ht, asIntOf, h0, hlt, run_sizeOf' h1, h4, add_off]
    · have hRL : RL (RepS w (Mine O σ.h β)) els.flatten us := ⟨hl, hr⟩
      have h9 := (hRL.drop (m.toNat * ti.n)).take ti.n
      rw [flatten_take els he _ hn] at h9
      refine RepS.sptr (us := (us.drop (m.toNat * ti.n)).take ti.n) hb hO h9.1 h9.2 (fun i a => ?_)
      rw [List.getElem_take, List.getElem_drop, Nat.add_assoc]
      exact hc _ (by simp at a; omega)
theorem op_idxO (r : Rel O w0 n σ β a w) {o : Oper} {x y : Operand} {x' y' : Opd} {t e l g ty : Nat} {ti : TI} {k : IntKind} {m : Int} {els : List (List SC)} (ho : o.op = .indexAddr t x y) (ex : copd x = some x') (ey : copd y = some y') (ht : P.underlying t = some (.slice e)) (hti : TIs P e ti)
    (hy : σ.ev y' = .c (.s (.pv (.int k m)))) (hx : σ.ev x' = .c (.own l g)) (hg : g = σ.h.gen l) (hk : σ.h.blk l = .row ty ti.n els) (h0 : 0 ≤ m) (hn : m.toNat < els.length) : Ok1 P o a w (Done O w0 n σ a (.c (.ptr l g m.toNat 0)) []) := by
  obtain ⟨ii, d, h1, h2, h3, h4, h5, h6⟩ := hti.info
  have h7 := r.ev ey
  rw [hy] at h7
  have h8 := h7.pvInv
  have h9 := r.ev ex
  rw [hx] at h9
  have h10 := h9.2.2 hg
  have hv : σ.h.view l = .mem true ty ti.n (els.map (List.map AC.s)) := by unfold Hp.view; rw [hk]; rfl
  rw [hv] at h10
  have h11 := h10 rfl
  have h12 := r.blks l
  unfold RepB at h12
  rw [hv] at h12
  simp only at h12
  obtain ⟨_, _, ⟨_, h13, _⟩ | ⟨b, cap, cur, h13, h14, h15, h16⟩⟩ := h12
  · have : els = [] := by simpa using h13
    subst this; simp at hn
  · rw [(h16 trivial).1] at h11
    have hln : (els.map (List.map AC.s)).length = els.length := by simp
    rw [hln] at h11
    have hlt : m < (els.length : Int) := by omega
    refine Ok1.value (u := .pointer (some ⟨b, m.toNat * ti.n, none⟩)) (w' := w) ?_ (r.pure ?_)
    · simp [execOp, ho, h11, h8, Instr.indexAt, run_underlying ht, asIntOf, h0, hlt, run_sizeOf' h1, h4, add_off]
    · refine ⟨rfl, h9.2.1, fun _ => ?_⟩
      rw [hv]
      exact ⟨b, h13, by simp⟩
theorem op_aidx (r : Rel O w0 n σ β a w) {o : Oper} {x y : Operand} {x' y' : Opd} {t cnt e : Nat} {ti : TI} {k : IntKind} {m : Int} {v : TV AC} (ho : o.op = .indexAddr t x y) (ex : copd x = some x') (ey : copd y = some y') (ht : P.underlying t = some (.array cnt e)) (hti : TIs P e ti)
    (hy : σ.ev y' = .c (.s (.pv (.int k m)))) (h0 : 0 ≤ m) (hn : m < cnt)
    (hk : (∃ cs, σ.ev x' = .c (.s (.sptr cs)) ∧ m.toNat * ti.n ≤ cs.length ∧ v = .c (.s (.sptr (cs.drop (m.toNat * ti.n))))) ∨ (∃ l g i off row ty e' els, σ.ev x' = .c (.ptr l g i off) ∧ g = σ.h.gen l ∧ σ.h.view l = .mem row ty e' els ∧
      ((e' = ti.n ∧ off = 0 ∧ v = .c (.ptr l g (i + m.toNat) 0)) ∨ v = .c (.ptr l g i (off + m.toNat * ti.n))))) : Ok1 P o a w (Done O w0 n σ a v []) := by
  obtain ⟨ii, d, h1, h2, h3, h4, h5, h6⟩ := hti.info
  have h7 := r.ev ey
  rw [hy] at h7
  have h8 := h7.pvInv
  have hrun : ∀ b off, a.eval x = .pointer (some ⟨b, off, none⟩) → (execOp a.eval o).run P w = .ok (.value (.pointer (some ⟨b, off + m.toNat * ti.n, none⟩))) w := by
    intro b off e
    simp [execOp, ho, e, h8, Instr.indexAt, Instr.sureAddr, run_underlying ht, asIntOf, h0, hn, run_sizeOf' h1, h4, add_off]
  have hx := r.ev ex
  rcases hk with ⟨cs, e, hoff, rfl⟩ | ⟨l, g, i, q, row, ty, e', els, e, hg, hv, hk⟩
  · rw [e] at hx
    generalize hu : a.eval x = u at hx
    cases hx with
    | sptr hb hO hln hr hc =>
      rename_i b off us
      refine Ok1.value (hrun b off hu) (r.pure ?_)
      refine RepS.sptr (us := us.drop (m.toNat * ti.n)) hb hO (by simp [hln]) (fun i a b => ?_) (fun i a => ?_)
      · rw [List.getElem_drop, List.getElem_drop]; exact hr _ _ _
      · rw [List.getElem_drop, Nat.add_assoc]; exact hc _ (by simp at a; omega)
  · rw [e] at hx
    obtain ⟨b, hb, hu⟩ := r.place hx hg hv
    refine Ok1.value (hrun b _ hu) (r.pure ?_)
    rcases hk with ⟨rfl, rfl, rfl⟩ | rfl
    · refine ⟨rfl, hx.2.1, fun _ => ?_⟩
      rw [hv]
      exact ⟨b, hb, by rw [Nat.add_mul]; simp⟩
    · refine ⟨rfl, hx.2.1, fun _ => ?_⟩
      rw [hv]
      exact ⟨b, hb, by rw [Nat.add_assoc]⟩
end
end Go.Proofs.YtcbfhpnmhhnjpaaGreat

