/- AN ABSTRACT MACHINE over the model, fifteen: a region in any order that is allowed. No condition. -/
import Derived.Test.YtbpipdgkkdifgaaAm14
namespace Go.Proofs.Ytbpipdgkkdifgaa
open Go.RowKit
set_option linter.unusedVariables false

/-- a heap of which these places alone are known -/
def Hp.only (h : Hp) (L : List Nat) : Hp := ⟨fun l => if L.contains l then h.gen l else 0, fun l => if L.contains l then h.blk l else .dead⟩
theorem Hp.only_le (h : Hp) (L : List Nat) : (h.only L).le h := by
  intro l
  by_cases e : L.contains l = true
  · right; exact ⟨by show h.blk l = if _ then _ else _; rw [if_pos e], by show h.gen l = if _ then _ else _; rw [if_pos e]⟩
  · left; show (if _ then _ else _) = _; rw [if_neg e]
theorem Hp.only_gen (h : Hp) {L : List Nat} {d : Nat} (hd : d ∈ L) : h.gen d = (h.only L).gen d := by
  have : L.contains d = true := by simpa using hd
  show h.gen d = if _ then _ else _
  rw [if_pos this]
theorem Hp.only_congr {h h' : Hp} {L : List Nat} (hl : ∀ l ∈ L, h'.gen l = h.gen l ∧ h'.blk l = h.blk l) : h'.only L = h.only L := by
  unfold Hp.only
  congr 1 <;> funext l
  · by_cases e : L.contains l = true
    · rw [if_pos e, if_pos e]; exact (hl l (by simpa using e)).1
    · rw [if_neg e, if_neg e]
  · by_cases e : L.contains l = true
    · rw [if_pos e, if_pos e]; exact (hl l (by simpa using e)).2
    · rw [if_neg e, if_neg e]

def own1 : AC → List Nat
  | .own l _ => [l]
  | _ => []
def locs0 : AC → List Nat
  | .own l _ | .ptr l _ _ _ => [l]
  | _ => []
def boxLocs (h : Hp) (l : Nat) : List Nat := l :: match h.blk l with
  | .box _ _ els => els.flatten.flatMap own1
  | _ => []
def locs1 (h : Hp) : AC → List Nat
  | .own l _ => [l]
  | .ptr l _ _ _ => boxLocs h l
  | .clo _ ls => ls.flatMap fun p => boxLocs h p.1
  | _ => []
def TV.all (f : AC → List Nat) : TV AC → List Nat
  | .c x => f x
  | .agg xs => xs.flatMap f
  | _ => []
def Opd.slots : Opd → List Nat
  | .t i => [i]
  | _ => []
def ROp.locs (q : ROp) (σ : St) : List Nat :=
  q.loc :: match q.op with
    | .call _ args => args.flatMap fun x => (σ.ev x).all (locs1 σ.h)
    | .callv f args => args.flatMap fun x => (σ.ev x).all (locs1 σ.h)
    | .mv _ => []
    | o => o.opds.flatMap fun x => (σ.ev x).all locs0
def ROp.slots (q : ROp) : List Nat := q.op.opds.flatMap Opd.slots ++ match q.guard with
  | some (t, _) => [t]
  | none => []
/-- what an operation reads, and writes: slots are even, places are odd -/
def rds (q : ROp) (L : List Nat) : List Nat := q.slots.map (2 * ·) ++ L.map (2 * · + 1)
def wrs (dst : Option Nat) (ws : List (Nat × Nat × LB)) : List Nat := (match dst with
  | some t => [2 * t]
  | none => []) ++ ws.map (fun x => 2 * x.1 + 1)
abbrev Fp := List Nat × List Nat
def meets (a b : List Nat) : Bool := a.any fun x => b.contains x
def conf (e f : Fp) : Bool := meets e.2 f.1 || meets e.2 f.2 || meets e.1 f.2
def maskOf (acc : List Nat) : List Nat → Nat
  | [] => 0
  | d :: ds => maskOf acc ds ||| 2 ^ d ||| acc.getD d 0
def masks : List (List Nat) → List Nat → List Nat
  | [], acc => acc
  | ds :: rest, acc => masks rest (acc ++ [maskOf acc ds])
def chk (deps : List (List Nat)) (fps : List Fp) : Bool :=
  let M := masks deps []
  ((List.range deps.length).all fun j => (deps.getD j []).all fun d => decide (d < j)) &&
  (List.range fps.length).all fun j => (List.range j).all fun i => !conf (fps.getD i ([], [])) (fps.getD j ([], [])) || (M.getD j 0).testBit i

def wdraw (P : Program) : List ROp → St → List Fp → (St → List Fp → Prop) → Prop
  | [], σ, fps, F => F σ fps
  | q :: qs, σ, fps, F => grd q.guard σ
      (aeff P q.op q.loc σ.ev (σ.h.only (q.locs σ)) fun v ws => wdraw P qs (σ.eff q.dst v ws) (fps ++ [(rds q (q.locs σ), wrs q.dst ws)]) F)
      (wdraw P qs (σ.eff q.dst (.tup []) []) (fps ++ [(rds q [], wrs q.dst [])]) F)

/-- what an operation did -/
structure Ent where
  dst : Option Nat
  v : TV AC
  ws : List (Nat × Nat × LB)
  rd : List Nat
def Ent.fp (e : Ent) : Fp := (e.rd, wrs e.dst e.ws)
def St.ent (σ : St) (e : Ent) : St := σ.eff e.dst e.v e.ws
def runE (es : List Ent) (σ : St) : St := es.foldl St.ent σ
/-- an operation does that, in this state -/
def AStep (P : Program) (q : ROp) (σ : St) (e : Ent) : Prop :=
  e.dst = q.dst ∧ (∀ t ∈ q.slots, 2 * t ∈ e.rd) ∧
    ((grd q.guard σ True False ∧ ∃ L, q.loc ∈ L ∧ (∀ l ∈ L, 2 * l + 1 ∈ e.rd) ∧ aeff P q.op q.loc σ.ev (σ.h.only L) (fun v' ws' => v' = e.v ∧ ws' = e.ws)) ∨ (grd q.guard σ False True ∧ e.v = .tup [] ∧ e.ws = []))
section
variable {P : Program} {O : Nat → Prop} {w0 : Base} {n : Nat} {β : Env} {a : Act} {w : World}
theorem mem_rds_slot {q : ROp} {L : List Nat} {t : Nat} (h : t ∈ q.slots) : 2 * t ∈ rds q L := List.mem_append_left _ (List.mem_map_of_mem (f := (2 * ·)) h)
theorem mem_rds_loc {q : ROp} {L : List Nat} {l : Nat} (h : l ∈ L) : 2 * l + 1 ∈ rds q L := List.mem_append_right _ (List.mem_map_of_mem (f := (2 * · + 1)) h)
theorem wdraw_ex {F : St → List Fp → Prop} : ∀ (qs : List ROp) (σ : St) (fps : List Fp), wdraw P qs σ fps F →
    ∃ es : List Ent, es.length = qs.length ∧ (∀ i (h : i < qs.length) (h' : i < es.length), AStep P qs[i] (runE (es.take i) σ) es[i]) ∧ F (runE es σ) (fps ++ es.map Ent.fp) := by
  intro qs
  induction qs with
  | nil => intro σ fps h; exact ⟨[], rfl, fun i h => by simp at h, by simp only [wdraw] at h; simpa [runE] using h⟩
  | cons q qs ih =>
    intro σ fps h
    simp only [wdraw] at h
    have fin : ∀ (e : Ent), AStep P q σ e → wdraw P qs (σ.ent e) (fps ++ [e.fp]) F → ∃ es : List Ent, es.length = (q :: qs).length ∧ (∀ i (h : i < (q :: qs).length) (h' : i < es.length), AStep P (q :: qs)[i] (runE (es.take i) σ) es[i]) ∧ F (runE es σ) (fps ++ es.map Ent.fp) := by
      intro e h1 h2
      obtain ⟨es, h3, h4, h5⟩ := ih _ _ h2
      refine ⟨e :: es, by simp [h3], fun i a b => ?_, ?_⟩
      · cases i with
        | zero => exact h1
        | succ i => exact h4 i (by simpa using a) (by simpa using b)
      · simpa [runE] using h5
    rcases grd_cases h with ⟨hg, hy⟩ | ⟨hg, hno⟩
    · obtain ⟨v, ws, h1, h2⟩ := aeff_one _ hy
      exact fin ⟨q.dst, v, ws, rds q (q.locs σ)⟩ ⟨rfl, fun t ht => mem_rds_slot ht, .inl ⟨hg, _, List.mem_cons_self, fun l hl => mem_rds_loc hl, h2⟩⟩ h1
    · exact fin ⟨q.dst, .tup [], [], rds q []⟩ ⟨rfl, fun t ht => mem_rds_slot ht, .inr ⟨hg, rfl, rfl⟩⟩ hno

/-! what a state holds behind some of the entries -/
def runSel (sel : Nat → Bool) : List Ent → Nat → St → St
  | [], _, σ => σ
  | e :: es, i, σ => runSel sel es (i + 1) (bif sel i then σ.ent e else σ)
theorem runSel_congr {s s' : Nat → Bool} : ∀ (es : List Ent) (i : Nat) (σ : St), (∀ j, i ≤ j → j < i + es.length → s j = s' j) → runSel s es i σ = runSel s' es i σ := by
  intro es
  induction es with
  | nil => intro i σ _; rfl
  | cons e es ih =>
    intro i σ h
    simp only [runSel]
    rw [h i (Nat.le_refl _) (by simp), ih _ _ (fun j h1 h2 => h j (by omega) (by simp; omega))]
theorem runSel_take : ∀ (es : List Ent) (i k : Nat) (σ : St), runSel (fun j => decide (j < i + k)) es i σ = runE (es.take k) σ := by
  intro es
  induction es with
  | nil => intro i k σ; simp [runSel, runE]
  | cons e es ih =>
    intro i k σ
    cases k with
    | zero =>
      simp only [runSel, List.take_zero]
      have h0 : decide (i < i + 0) = false := by simp
      rw [h0]
      have : ∀ (es : List Ent) (m : Nat) (σ : St), i + 0 ≤ m → runSel (fun j => decide (j < i + 0)) es m σ = σ := by
        intro es
        induction es with
        | nil => intro m σ _; rfl
        | cons e es ih2 =>
          intro m σ hm
          simp only [runSel]
          have : decide (m < i + 0) = false := by simp; omega
          rw [this]
          exact ih2 _ _ (by omega)
      exact this es (i + 1) σ (by omega)
    | succ k =>
      simp only [runSel, List.take_succ_cons]
      have h0 : decide (i < i + (k + 1)) = true := by simp
      rw [h0]
      have := ih (i + 1) k (σ.ent e)
      rw [show i + 1 + k = i + (k + 1) by omega] at this
      simpa [runE] using this
theorem app_other (ws : List (Nat × Nat × LB)) : ∀ (h : Hp) (l : Nat), (∀ x ∈ ws, x.1 ≠ l) → (h.app ws).gen l = h.gen l ∧ (h.app ws).blk l = h.blk l := by
  induction ws with
  | nil => intro h l _; exact ⟨rfl, rfl⟩
  | cons x ws ih =>
    intro h l hl
    rw [Hp.app_cons]
    obtain ⟨h1, h2⟩ := ih (h.set x.1 x.2.1 x.2.2) l (fun y hy => hl y (by simp [hy]))
    have hne : l ≠ x.1 := fun e => hl x (by simp) e.symm
    exact ⟨h1.trans (Hp.gen_ne _ _ _ hne), h2.trans (upd_ne _ _ hne)⟩
theorem app_same (ws : List (Nat × Nat × LB)) : ∀ (h h' : Hp) (l : Nat), h.gen l = h'.gen l → h.blk l = h'.blk l → (h.app ws).gen l = (h'.app ws).gen l ∧ (h.app ws).blk l = (h'.app ws).blk l := by
  induction ws with
  | nil => intro h h' l e1 e2; exact ⟨e1, e2⟩
  | cons x ws ih =>
    intro h h' l e1 e2
    rw [Hp.app_cons, Hp.app_cons]
    refine ih _ _ l ?_ ?_
    · by_cases e : l = x.1
      · subst e; rw [Hp.gen_at, Hp.gen_at]
      · rw [Hp.gen_ne _ _ _ e, Hp.gen_ne _ _ _ e]; exact e1
    · by_cases e : l = x.1
      · subst e; show upd _ _ _ _ = upd _ _ _ _; rw [upd_at, upd_at]
      · show upd _ _ _ _ = upd _ _ _ _; rw [upd_ne _ _ e, upd_ne _ _ e]; exact e2
theorem mem_wrs_or {e : Ent} {x : Nat} (h : x ∈ wrs e.dst e.ws) : (∃ t, x = 2 * t ∧ e.dst = some t) ∨ ∃ l, x = 2 * l + 1 ∧ ∃ y ∈ e.ws, y.1 = l := by
  unfold wrs at h
  rcases List.mem_append.1 h with h | h
  · cases hd : e.dst with
    | none => rw [hd] at h; simp at h
    | some t => rw [hd] at h; simp at h; exact .inl ⟨t, h, rfl⟩
  · obtain ⟨y, hy, rfl⟩ := List.mem_map.1 h
    exact .inr ⟨y.1, rfl, y, hy, rfl⟩
theorem ent_slot_other {σ : St} {e : Ent} {t : Nat} (h : 2 * t ∉ wrs e.dst e.ws) : (σ.ent e).slot t = σ.slot t := by
  unfold St.ent St.eff
  cases hd : e.dst with
  | none => rfl
  | some k =>
    simp only
    refine upd_ne _ _ (fun hk => ?_)
    subst hk
    exact h (by rw [hd]; simp [wrs])
theorem ent_loc_other {σ : St} {e : Ent} {l : Nat} (h : 2 * l + 1 ∉ wrs e.dst e.ws) : (σ.ent e).h.gen l = σ.h.gen l ∧ (σ.ent e).h.blk l = σ.h.blk l := by
  refine app_other e.ws σ.h l (fun x hx hk => h ?_)
  subst hk
  exact List.mem_append_right _ (List.mem_map_of_mem (f := fun x : Nat × Nat × LB => 2 * x.1 + 1) hx)
/-- two selections that agree where a slot is written -/
theorem runSel_slot {s s' : Nat → Bool} {t : Nat} : ∀ (es : List Ent) (i : Nat) (σ σ' : St), σ.slot t = σ'.slot t → (∀ j (h : j < es.length), 2 * t ∈ wrs es[j].dst es[j].ws → s (i + j) = s' (i + j)) → (runSel s es i σ).slot t = (runSel s' es i σ').slot t := by
  intro es
  induction es with
  | nil => intro i σ σ' h _; exact h
  | cons e es ih =>
    intro i σ σ' h hj
    simp only [runSel]
    refine ih (i + 1) _ _ ?_ (fun j a b => by have := hj (j + 1) (by simpa using a) (by simpa using b); rw [show i + 1 + j = i + (j + 1) by omega]; exact this)
    by_cases hw : 2 * t ∈ wrs e.dst e.ws
    · have h0 := hj 0 (by simp) hw
      rw [Nat.add_zero] at h0
      rw [h0]
      cases s' i
      case false => exact h
      case true =>
        show (σ.ent e).slot t = (σ'.ent e).slot t
        unfold St.ent St.eff
        cases hd : e.dst with
        | none => rcases mem_wrs_or hw with ⟨t', h1, h2⟩ | ⟨l, h1, _⟩
                  · rw [hd] at h2; simp at h2
                  · omega
        | some k =>
          have hk : k = t := by
            rcases mem_wrs_or hw with ⟨t', h1, h2⟩ | ⟨l, h1, _⟩
            · rw [hd] at h2; simp at h2; omega
            · omega
          subst hk
          simp only
          rw [upd_at, upd_at]
    · have e1 : ∀ (b : Bool) (τ : St), (bif b then τ.ent e else τ).slot t = τ.slot t := by
        intro b τ
        cases b
        · rfl
        · exact ent_slot_other hw
      rw [e1, e1]; exact h
theorem runSel_loc {s s' : Nat → Bool} {l : Nat} : ∀ (es : List Ent) (i : Nat) (σ σ' : St), σ.h.gen l = σ'.h.gen l ∧ σ.h.blk l = σ'.h.blk l → (∀ j (h : j < es.length), 2 * l + 1 ∈ wrs es[j].dst es[j].ws → s (i + j) = s' (i + j)) →
    (runSel s es i σ).h.gen l = (runSel s' es i σ').h.gen l ∧ (runSel s es i σ).h.blk l = (runSel s' es i σ').h.blk l := by
  intro es
  induction es with
  | nil => intro i σ σ' h _; exact h
  | cons e es ih =>
    intro i σ σ' h hj
    simp only [runSel]
    refine ih (i + 1) _ _ ?_ (fun j a b => by have := hj (j + 1) (by simpa using a) (by simpa using b); rw [show i + 1 + j = i + (j + 1) by omega]; exact this)
    by_cases hw : 2 * l + 1 ∈ wrs e.dst e.ws
    · have h0 := hj 0 (by simp) hw
      rw [Nat.add_zero] at h0
      rw [h0]
      cases s' i
      case false => exact h
      case true => exact app_same e.ws _ _ l h.1 h.2
    · have e1 : ∀ (b : Bool) (τ : St), (bif b then τ.ent e else τ).h.gen l = τ.h.gen l ∧ (bif b then τ.ent e else τ).h.blk l = τ.h.blk l := by
        intro b τ
        cases b
        · exact ⟨rfl, rfl⟩
        · exact ent_loc_other hw
      rw [(e1 _ _).1, (e1 _ _).2, (e1 _ _).1, (e1 _ _).2]; exact h
theorem st_ext {σ σ' : St} (h1 : ∀ t, σ.slot t = σ'.slot t) (h2 : ∀ l, σ.h.gen l = σ'.h.gen l ∧ σ.h.blk l = σ'.h.blk l) : σ = σ' := by
  obtain ⟨s, g, b⟩ := σ
  obtain ⟨s', g', b'⟩ := σ'
  have e1 : s = s' := funext h1
  have e2 : g = g' := funext fun l => (h2 l).1
  have e3 : b = b' := funext fun l => (h2 l).2
  subst e1; subst e2; subst e3
  rfl
/-- entries that write apart may change places -/
theorem ent_comm {σ : St} {e f : Ent} (h : ∀ x ∈ wrs e.dst e.ws, x ∉ wrs f.dst f.ws) : (σ.ent e).ent f = (σ.ent f).ent e := by
  refine st_ext (fun t => ?_) (fun l => ?_)
  · by_cases h1 : 2 * t ∈ wrs e.dst e.ws
    · rw [ent_slot_other (h _ h1)]
      unfold St.ent St.eff
      cases hd : e.dst with
      | none => rcases mem_wrs_or h1 with ⟨t', h2, h3⟩ | ⟨l, h2, _⟩
                · rw [hd] at h3; simp at h3
                · omega
      | some k =>
        have hk : k = t := by
          rcases mem_wrs_or h1 with ⟨t', h2, h3⟩ | ⟨l, h2, _⟩
          · rw [hd] at h3; simp at h3; omega
          · omega
        subst hk
        simp only
        rw [upd_at, upd_at]
    · rw [ent_slot_other (σ := σ.ent f) h1]
      unfold St.ent St.eff
      cases hf : f.dst with
      | none =>
        show (σ.ent e).slot t = _
        rw [ent_slot_other h1]
      | some k =>
        simp only
        by_cases hk : t = k
        · subst hk; rw [upd_at, upd_at]
        · rw [upd_ne _ _ hk, upd_ne _ _ hk]
          exact ent_slot_other h1
  · by_cases h1 : 2 * l + 1 ∈ wrs e.dst e.ws
    · obtain ⟨a1, a2⟩ := ent_loc_other (σ := σ.ent e) (h _ h1)
      obtain ⟨b1, b2⟩ := ent_loc_other (σ := σ) (h _ h1)
      rw [a1, a2]
      exact app_same e.ws _ _ l b1.symm b2.symm
    · obtain ⟨a1, a2⟩ := ent_loc_other (σ := σ.ent f) h1
      obtain ⟨b1, b2⟩ := ent_loc_other (σ := σ) h1
      rw [a1, a2]
      exact app_same f.ws _ _ l b1 b2
theorem ent_push {s : Nat → Bool} {e : Ent} : ∀ (es : List Ent) (i : Nat) (σ : St), (∀ j (h : j < es.length), s (i + j) = true → ∀ x ∈ wrs e.dst e.ws, x ∉ wrs es[j].dst es[j].ws) → runSel s es i (σ.ent e) = (runSel s es i σ).ent e := by
  intro es
  induction es with
  | nil => intro i σ _; rfl
  | cons f es ih =>
    intro i σ h
    simp only [runSel]
    have tl : ∀ j (hh : j < es.length), s (i + 1 + j) = true → ∀ x ∈ wrs e.dst e.ws, x ∉ wrs es[j].dst es[j].ws := fun j a b => by
      have := h (j + 1) (by simpa using a) (by rw [show i + (j + 1) = i + 1 + j by omega]; exact b)
      simpa using this
    cases hs : s i with
    | false => exact ih (i + 1) σ tl
    | true =>
      simp only [cond_true]
      have h0 := h 0 (by simp) (by simpa using hs)
      simp only [List.getElem_cons_zero] at h0
      rw [ent_comm h0]
      exact ih (i + 1) (σ.ent f) tl
/-- one more entry, where none behind it that was done writes what it writes -/
theorem runSel_add {s : Nat → Bool} : ∀ (es : List Ent) (i k : Nat) (σ : St) (hk : k < es.length), s (i + k) = false → (∀ j (h : j < es.length), k < j → s (i + j) = true → ∀ x ∈ wrs es[k].dst es[k].ws, x ∉ wrs es[j].dst es[j].ws) →
    runSel (fun j => s j || j == i + k) es i σ = (runSel s es i σ).ent es[k] := by
  intro es
  induction es with
  | nil => intro i k σ hk; simp at hk
  | cons f es ih =>
    intro i k σ hk hs h
    cases k with
    | zero =>
      simp only [runSel, Nat.add_zero] at hs ⊢
      rw [hs]
      simp only [Bool.false_or, beq_self_eq_true, cond_true, cond_false, List.getElem_cons_zero]
      rw [runSel_congr (s' := s) es (i + 1) _ (fun j h1 _ => by
        have : (j == i) = false := by simp; omega
        rw [this, Bool.or_false])]
      exact ent_push es (i + 1) σ (fun j a b => by
        have := h (j + 1) (by simpa using a) (by omega) (by rw [show i + (j + 1) = i + 1 + j by omega]; exact b)
        simpa using this)
    | succ k =>
      simp only [runSel]
      have e1 : (i == i + (k + 1)) = false := by simp
      rw [e1, Bool.or_false]
      have := ih (i + 1) k (bif s i then σ.ent f else σ) (by simpa using hk) (by rw [show i + 1 + k = i + (k + 1) by omega]; exact hs) (fun j a b c => by
        have := h (j + 1) (by simpa using a) (by omega) (by rw [show i + (j + 1) = i + 1 + j by omega]; exact c)
        simpa using this)
      rw [show i + 1 + k = i + (k + 1) by omega] at this
      simpa using this
end
end Go.Proofs.Ytbpipdgkkdifgaa
