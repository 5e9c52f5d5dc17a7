/- AN ABSTRACT MACHINE over the model, one: its values, how they are kept in a world. No condition. -/
import Derived.Test.YtbpipdgkkdifgaaMem
import Derived.Lib.Hide
namespace Go.Proofs.Ytbpipdgkkdifgaa
open Go.RowKit
set_option linter.unusedVariables false

/-- what is shared and is never written: a plain value; a slice, element by element; a place in memory from which these cells are read; a function -/
inductive SC where
  | pv (v : Value)
  | sl (e : Nat) (els : List (List SC))
  | sptr (cs : List SC)
  | fn (f : Nat) (caps : List SC)
  | tag (b : Bool) (x : SC)
deriving Inhabited
/-- a cell of a call's own: what is shared; an empty slice without room; a slice that a local row is; a place in a local block; a closure over local blocks -/
inductive AC where
  | s (x : SC)
  | zc
  | own (l g : Nat)
  | ptr (l g i off : Nat)
  | clo (f : Nat) (ls : List (Nat × Nat))
deriving Inhabited
/-- a value: nothing known; one cell; cells; several -/
inductive TV (α : Type) where
  | no
  | c (x : α)
  | agg (xs : List α)
  | tup (vs : List (Bool × List α))
deriving Inhabited
/-- a local block: none; variables; a row; a row that was handed on and is written no more -/
inductive LB where
  | dead
  | box (ty e : Nat) (els : List (List AC))
  | row (ty e : Nat) (els : List (List SC))
  | ice (x : SC)
deriving Inhabited
/-- how one looks at it -/
inductive VB where
  | dead
  | mem (row : Bool) (ty e : Nat) (els : List (List AC))
  | ice (x : SC)
def LB.view : LB → VB
  | .dead => .dead
  | .box ty e els => .mem false ty e els
  | .row ty e els => .mem true ty e (els.map (List.map AC.s))
  | .ice x => .ice x
def VB.live : VB → Bool
  | .mem .. => true
  | _ => false
structure Hp where
  gen : Nat → Nat
  blk : Nat → LB
structure St where
  slot : Nat → TV AC
  h : Hp
def Hp.view (h : Hp) (l : Nat) : VB := (h.blk l).view

def plain : Value → Bool
  | .bool _ | .int _ _ | .string _ | .nilFunc | .pointer none | .slice _ _ _ => true
  | _ => false

/-- two rows, place by place -/
def RL {α : Type} (R : α → Value → Prop) (xs : List α) (us : List Value) : Prop := xs.length = us.length ∧ ∀ i (h : i < xs.length) (h' : i < us.length), R xs[i] us[i]
namespace RL
variable {α : Type} {R R' : α → Value → Prop} {xs ys : List α} {us vs : List Value}
theorem nil : RL R [] [] := ⟨rfl, fun i h => by simp at h⟩
theorem mono (h : RL R xs us) (hr : ∀ x u, R x u → R' x u) : RL R' xs us := ⟨h.1, fun i a b => hr _ _ (h.2 i a b)⟩
theorem monoMem (h : RL R xs us) (hr : ∀ x u, x ∈ xs → u ∈ us → R x u → R' x u) : RL R' xs us := ⟨h.1, fun i a b => hr _ _ (List.getElem_mem a) (List.getElem_mem b) (h.2 i a b)⟩
theorem cons {x : α} {u : Value} (h : R x u) (t : RL R xs us) : RL R (x :: xs) (u :: us) :=
  ⟨by simp [t.1], fun i a b => by
    match i with
    | 0 => exact h
    | i + 1 => exact t.2 i (by simpa using a) (by simpa using b)⟩
theorem head {x : α} {u : Value} (h : RL R (x :: xs) (u :: us)) : R x u := h.2 0 (by simp) (by simp)
theorem tail {x : α} {u : Value} (h : RL R (x :: xs) (u :: us)) : RL R xs us :=
  ⟨by simpa using h.1, fun i a b => h.2 (i + 1) (by simpa using a) (by simpa using b)⟩
theorem cons_inv {x : α} (h : RL R (x :: xs) us) : ∃ u us', us = u :: us' ∧ R x u ∧ RL R xs us' := by
  cases us with
  | nil => have := h.1; simp at this
  | cons u us => exact ⟨u, us, rfl, h.head, h.tail⟩
theorem nil_inv (h : RL R [] us) : us = [] := by
  have := h.1
  exact List.eq_nil_of_length_eq_zero this.symm
theorem append (h : RL R xs us) (t : RL R ys vs) : RL R (xs ++ ys) (us ++ vs) := by
  refine ⟨by simp [h.1, t.1], fun i a b => ?_⟩
  by_cases hi : i < xs.length
  · rw [List.getElem_append_left hi, List.getElem_append_left (by rw [← h.1]; exact hi)]
    exact h.2 i hi _
  · rw [List.getElem_append_right (by omega), List.getElem_append_right (by rw [← h.1]; omega)]
    have := t.2 (i - xs.length) (by simp at a; omega) (by rw [← t.1]; simp at a; omega)
    simpa only [h.1] using this
theorem take (h : RL R xs us) (n : Nat) : RL R (xs.take n) (us.take n) :=
  ⟨by simp [h.1], fun i a b => by
    rw [List.getElem_take, List.getElem_take]
    exact h.2 i (by simp at a; omega) (by simp at b; omega)⟩
theorem drop (h : RL R xs us) (n : Nat) : RL R (xs.drop n) (us.drop n) :=
  ⟨by simp [h.1], fun i a b => by
    rw [List.getElem_drop, List.getElem_drop]
    exact h.2 (n + i) (by simp at a; omega) (by simp at b; omega)⟩
theorem set (h : RL R xs us) {x : α} {u : Value} (hx : R x u) (n : Nat) : RL R (xs.set n x) (us.set n u) :=
  ⟨by simp [h.1], fun i a b => by
    rw [List.getElem_set, List.getElem_set]
    split
    · exact hx
    · exact h.2 i (by simpa using a) (by simpa using b)⟩
theorem replicate (n : Nat) {x : α} {u : Value} (h : R x u) : RL R (List.replicate n x) (List.replicate n u) :=
  ⟨by simp, fun i a b => by simpa using h⟩
theorem map {β : Type} {S : β → Value → Prop} (f : β → α) {zs : List β} (h : RL S zs us) (hr : ∀ x u, S x u → R (f x) u) : RL R (zs.map f) us :=
  ⟨by simp [h.1], fun i a b => by rw [List.getElem_map]; exact hr _ _ (h.2 i (by simpa using a) b)⟩
theorem get (h : RL R xs us) {i : Nat} {x : α} (hx : xs[i]? = some x) : ∃ u, us[i]? = some u ∧ R x u := by
  obtain ⟨hi, rfl⟩ := List.getElem?_eq_some_iff.1 hx
  exact ⟨us[i]'(by rw [← h.1]; exact hi), List.getElem?_eq_getElem _, h.2 i hi _⟩
theorem one {x : α} {u : Value} (h : R x u) : RL R [x] [u] := cons h nil
theorem exists_of {α : Type} {R : α → Value → Prop} : ∀ (xs : List α), (∀ x ∈ xs, ∃ u, R x u) → ∃ us, RL R xs us
  | [], _ => ⟨[], nil⟩
  | x :: xs, h => by
    obtain ⟨u, hu⟩ := h x (by simp)
    obtain ⟨us, hus⟩ := exists_of xs (fun y hy => h y (by simp [hy]))
    exact ⟨u :: us, cons hu hus⟩
end RL

def nilV : Value → Bool
  | .slice none _ _ => true
  | _ => false
/-- in this world, without the blocks of O, this value is that -/
inductive RepS (w : World) (O : Nat → Prop) : SC → Value → Prop
  | pv {v : Value} (h : plain v = true) : RepS w O (.pv v) v
  | sl0 {e : Nat} {A : Option Addr} {cap : Nat} (h0 : 0 < e) (hm : cap ≤ maxLen) : RepS w O (.sl e []) (.slice A 0 cap)
  | sl {e : Nat} {els : List (List SC)} {b off cap : Nat} {us : List Value} (h0 : 0 < e) (hcap : els.length ≤ cap) (hm : cap ≤ maxLen) (hb : b < w.heap.size) (hO : ¬ O b)
      (he : ∀ x ∈ els, x.length = e) (hl : els.flatten.length = us.length)
      (hr : ∀ i (h : i < els.flatten.length) (h' : i < us.length), RepS w O els.flatten[i] us[i])
      (hc : ∀ i (h' : i < us.length), w.cell? ⟨b, off + i, none⟩ = some us[i]) : RepS w O (.sl e els) (.slice (some ⟨b, off, none⟩) els.length cap)
  | sptr {cs : List SC} {b off : Nat} {us : List Value} (hb : b < w.heap.size) (hO : ¬ O b) (hl : cs.length = us.length)
      (hr : ∀ i (h : i < cs.length) (h' : i < us.length), RepS w O cs[i] us[i])
      (hc : ∀ i (h' : i < us.length), w.cell? ⟨b, off + i, none⟩ = some us[i]) : RepS w O (.sptr cs) (.pointer (some ⟨b, off, none⟩))
  | fn {f : Nat} {caps : List SC} {us : List Value} (hl : caps.length = us.length)
      (hr : ∀ i (h : i < caps.length) (h' : i < us.length), RepS w O caps[i] us[i]) : RepS w O (.fn f caps) (.func (.func f) #[] us.toArray)
  | tag {b : Bool} {x : SC} {v : Value} (h : RepS w O x v) (hb : nilV v = b) : RepS w O (.tag b x) v
theorem RepS.mono {w w' : World} {O O' : Nat → Prop} {x : SC} {v : Value} (h : RepS w O x v) (hs : w.heap.size ≤ w'.heap.size)
    (hh : ∀ b, b < w.heap.size → ¬ O b → w'.heap[b]? = w.heap[b]? ∧ ¬ O' b) : RepS w' O' x v := by
  induction h with
  | pv h => exact .pv h
  | sl0 h0 hm => exact .sl0 h0 hm
  | sl h0 hcap hm hb hO he hl hr hc ih =>
    obtain ⟨h1, h2⟩ := hh _ hb hO
    exact .sl h0 hcap hm (Nat.lt_of_lt_of_le hb hs) h2 he hl (fun i a b => ih i a b) (fun i a => (World.cell?_of_block (w := w) h1).trans (hc i a))
  | sptr hb hO hl hr hc ih =>
    obtain ⟨h1, h2⟩ := hh _ hb hO
    exact .sptr (Nat.lt_of_lt_of_le hb hs) h2 hl (fun i a b => ih i a b) (fun i a => (World.cell?_of_block (w := w) h1).trans (hc i a))
  | fn hl hr ih => exact .fn hl (fun i a b => ih i a b)
  | tag h hb ih => exact .tag ih hb
theorem RepS.bel {w w' : World} {O : Nat → Prop} {x : SC} {v : Value} (h : RepS w O x v) (hb : Below w.heap.size w w') : RepS w' O x v :=
  h.mono hb.size (fun b h1 h2 => ⟨hb.block b h1, h2⟩)
theorem RepS.less {w : World} {O O' : Nat → Prop} {x : SC} {v : Value} (h : RepS w O x v) (ho : ∀ b, O' b → O b) : RepS w O' x v :=
  h.mono (Nat.le_refl _) (fun b _ h2 => ⟨rfl, fun h3 => h2 (ho b h3)⟩)
/-- the same, where O' has nothing of this world but what O has -/
theorem RepS.more {w : World} {O O' : Nat → Prop} {x : SC} {v : Value} (h : RepS w O x v) (ho : ∀ b, b < w.heap.size → O' b → O b) : RepS w O' x v :=
  h.mono (Nat.le_refl _) (fun b h1 h2 => ⟨rfl, fun h3 => h2 (ho b h1 h3)⟩)
theorem plain_one {v : Value} (h : plain v = true) : v.oneCell' = true := by cases v <;> first | rfl | simp [plain] at h
theorem RepS.one {w : World} {O : Nat → Prop} {x : SC} {v : Value} (h : RepS w O x v) : v.oneCell' = true := by
  induction h with
  | pv h => exact plain_one h
  | sl0 => rfl
  | sl => rfl
  | sptr => rfl
  | fn => rfl
  | tag _ _ ih => exact ih
theorem RepS.flat {w : World} {O : Nat → Prop} {v u : Value} (h : RepS w O (.pv v) u) : u = v := by cases h; rfl

/-- what lies behind a local block: its number, if there is one; the slice, if it is a row -/
abbrev Env := Nat → Option Nat × Value

def RepA (h : Hp) (β : Env) (w : World) (O : Nat → Prop) : AC → Value → Prop
  | .s x, v => RepS w O x v
  | .zc, v => ∃ A, v = .slice A 0 0
  | .own l g, v => v.oneCell' = true ∧ g ≤ h.gen l ∧ (g = h.gen l → match h.view l with
    | .mem row _ _ _ => row = true → v = (β l).2
    | .ice x => RepS w O x v
    | .dead => True)
  | .ptr l g i off, v => v.oneCell' = true ∧ g ≤ h.gen l ∧ (g = h.gen l → match h.view l with
    | .mem _ _ e _ => ∃ b, (β l).1 = some b ∧ v = .pointer (some ⟨b, i * e + off, none⟩)
    | _ => True)
  | .clo f ls, v => ∃ us : List Value, v = .func (.func f) #[] us.toArray ∧ RL (fun p u => p.2 ≤ h.gen p.1 ∧ (p.2 = h.gen p.1 → match h.view p.1 with
    | .mem _ _ _ _ => ∃ b, (β p.1).1 = some b ∧ u = .pointer (some ⟨b, 0, none⟩)
    | _ => True)) ls us
theorem RepA.one {h : Hp} {β : Env} {w : World} {O : Nat → Prop} {x : AC} {v : Value} (r : RepA h β w O x v) : v.oneCell' = true := by
  cases x with
  | s x => exact RepS.one r
  | zc => obtain ⟨A, rfl⟩ := r; rfl
  | own l g => exact r.1
  | ptr l g i off => exact r.1
  | clo f ls => obtain ⟨us, rfl, _⟩ := r; rfl

def RepT {α : Type} (R : α → Value → Prop) : TV α → Value → Prop
  | .no, _ => True
  | .c x, v => R x v
  | .agg xs, v => ∃ us : List Value, v = .agg us.toArray ∧ RL R xs us
  | .tup vs, v => ∃ us : List Value, v = .tuple us.toArray ∧ vs.length = us.length ∧ ∀ i (h : i < vs.length) (h' : i < us.length),
      (vs[i].1 = true → ∃ ws : List Value, us[i] = .agg ws.toArray ∧ RL R vs[i].2 ws) ∧ (vs[i].1 = false → ∃ x, vs[i].2 = [x] ∧ R x us[i])
theorem RepT.mono {α : Type} {R R' : α → Value → Prop} {x : TV α} {v : Value} (h : RepT R x v) (hr : ∀ x u, R x u → R' x u) : RepT R' x v := by
  cases x with
  | no => trivial
  | c x => exact hr _ _ h
  | agg xs => obtain ⟨us, rfl, h⟩ := h; exact ⟨us, rfl, h.mono hr⟩
  | tup vs =>
    obtain ⟨us, rfl, h1, h2⟩ := h
    refine ⟨us, rfl, h1, fun i a b => ⟨fun e => ?_, fun e => ?_⟩⟩
    · obtain ⟨ws, h3, h4⟩ := (h2 i a b).1 e
      exact ⟨ws, h3, h4.mono hr⟩
    · obtain ⟨x, h3, h4⟩ := (h2 i a b).2 e
      exact ⟨x, h3, hr _ _ h4⟩

def RepB (h : Hp) (β : Env) (w : World) (O : Nat → Prop) (l : Nat) : Prop :=
  match h.view l with
  | .mem row ty e els => 0 < e ∧ (∀ x ∈ els, x.length = e) ∧
    ((row = true ∧ els = [] ∧ (β l).1 = none ∧ ∃ A, (β l).2 = .slice A 0 0) ∨
      ∃ b cap cur, (β l).1 = some b ∧ Blk w b ty cur ∧ RL (RepA h β w O) els.flatten (cur.toList.take els.flatten.length) ∧
        (row = true → (β l).2 = .slice (some ⟨b, 0, none⟩) els.length cap ∧ els.length ≤ cap ∧ cap ≤ maxLen ∧ cur.size = cap * e))
  | _ => True
/-- the blocks that are the call's own, and those of O -/
def Mine (O : Nat → Prop) (h : Hp) (β : Env) (b : Nat) : Prop := O b ∨ ∃ l, (h.view l).live = true ∧ (β l).1 = some b

/-- where a call began: the world, and those of its blocks that are to stay as they are -/
structure Base where
  w : World
  old : Nat → Prop
  lt : ∀ b, old b → b < w.heap.size
  loan : Nat → Nat × Value → Prop
structure Base.Keeps (B : Base) (w : World) : Prop where
  os : w.os = B.w.os
  tape : w.tape = B.w.tape
  output : w.output = B.w.output
  size : B.w.heap.size ≤ w.heap.size
  block : ∀ k, B.old k → w.heap[k]? = B.w.heap[k]?
theorem Base.Keeps.trans {B : Base} {w w' : World} (h : B.Keeps w) (hb : Below w.heap.size w w') : B.Keeps w' :=
  ⟨hb.os.trans h.os, hb.tape.trans h.tape, hb.output.trans h.output, Nat.le_trans h.size hb.size, fun k hk => (hb.block k (Nat.lt_of_lt_of_le (B.lt k hk) h.size)).trans (h.block k hk)⟩
def Base.of (w : World) : Base := ⟨w, fun k => k < w.heap.size, fun _ h => h, fun _ _ => False⟩
theorem Base.Keeps.below {w w' : World} (h : (Base.of w).Keeps w') : Below w.heap.size w w' := ⟨h.os, h.tape, h.output, h.size, fun k hk => h.block k hk⟩
theorem Base.keeps_refl (B : Base) : B.Keeps B.w := ⟨rfl, rfl, rfl, Nat.le_refl _, fun _ _ => rfl⟩
/-- the heap's part of a state: it is this one -/
structure RelH (O : Nat → Prop) (w0 : Base) (h : Hp) (β : Env) (w : World) : Prop where
  blks : ∀ l, RepB h β w (Mine O h β) l
  inj : ∀ l l' b, (h.view l).live = true → (h.view l').live = true → (β l).1 = some b → (β l').1 = some b → l = l'
  base : ∀ l b, (h.view l).live = true → (β l).1 = some b → ¬ w0.old b
  below : w0.Keeps w
  hO : ∀ b, O b → w0.old b
  keep : ∀ l p, w0.loan l p → h.gen l = 0 → β l = (some p.1, p.2)
/-- the abstract state is this one -/
structure Rel (O : Nat → Prop) (w0 : Base) (n : Nat) (σ : St) (β : Env) (a : Act) (w : World) : Prop extends RelH O w0 σ.h β w where
  hd : a.defers = []
  hn : a.tmps.size = n
  slots : ∀ t, RepT (RepA σ.h β w (Mine O σ.h β)) (σ.slot t) (a.tmps.getD t undef)
namespace RelH
variable {O : Nat → Prop} {w0 : Base} {h : Hp} {β : Env} {w : World}
/-- the blocks of this call's own are there -/
theorem lt (r : RelH O w0 h β w) {b : Nat} (hb : Mine O h β b) : b < w.heap.size := by
  rcases hb with hb | ⟨l, hl, hb⟩
  · exact Nat.lt_of_lt_of_le (w0.lt b (r.hO b hb)) r.below.size
  · have := r.blks l
    unfold RepB at this
    cases hk : h.view l with
    | mem row ty e els =>
      rw [hk] at this
      simp only at this
      obtain ⟨_, _, ⟨_, _, h1, _⟩ | ⟨b', cap, cur, h1, h2, _⟩⟩ := this
      · rw [h1] at hb; simp at hb
      · rw [h1] at hb
        obtain rfl : b' = b := by simpa using hb
        exact h2.lt
    | dead => rw [hk] at hl; simp [VB.live] at hl
    | ice x => rw [hk] at hl; simp [VB.live] at hl
end RelH
theorem RepA.world {h : Hp} {β : Env} {w w' : World} {O O' : Nat → Prop} (hs : ∀ x v, RepS w O x v → RepS w' O' x v) {x : AC} {v : Value} (r : RepA h β w O x v) : RepA h β w' O' x v := by
  cases x with
  | s x => exact hs _ _ r
  | zc => exact r
  | own l g =>
    refine ⟨r.1, r.2.1, fun e => ?_⟩
    have := r.2.2 e
    cases hk : h.view l with
    | mem row ty e els => rw [hk] at this; exact this
    | dead => trivial
    | ice x => rw [hk] at this; exact hs _ _ this
  | ptr l g i off => exact r
  | clo f ls => exact r
namespace RelH
variable {O : Nat → Prop} {w0 : Base} {h : Hp} {β : Env} {w : World}
/-- another world in which all that was there is as it was -/
theorem world {w' : World} (r : RelH O w0 h β w) (hb : Below w.heap.size w w') : RelH O w0 h β w' := by
  refine ⟨fun l => ?_, r.inj, r.base, r.below.trans hb, r.hO, r.keep⟩
  have := r.blks l
  unfold RepB at this ⊢
  cases hk : h.view l with
  | mem row ty e els =>
    rw [hk] at this
    simp only at this ⊢
    obtain ⟨h0, h1, h2 | ⟨b', cap, cur, h2, h3, h4, h5⟩⟩ := this
    · exact ⟨h0, h1, .inl h2⟩
    · exact ⟨h0, h1, .inr ⟨b', cap, cur, h2, h3.keep hb, h4.mono (fun x u hx => hx.world (fun _ _ hs => hs.bel hb)), h5⟩⟩
  | dead => trivial
  | ice x => trivial
end RelH
theorem Rel.world {O : Nat → Prop} {w0 : Base} {n : Nat} {σ : St} {β : Env} {a : Act} {w w' : World} (r : Rel O w0 n σ β a w) (hb : Below w.heap.size w w') : Rel O w0 n σ β a w' :=
  ⟨r.toRelH.world hb, r.hd, r.hn, fun t => (r.slots t).mono (fun x u hx => hx.world (fun _ _ hs => hs.bel hb))⟩

def upd {α : Type} (f : Nat → α) (k : Nat) (v : α) : Nat → α := fun i => if i = k then v else f i
theorem upd_at {α : Type} (f : Nat → α) (k : Nat) (v : α) : upd f k v k = v := if_pos rfl
theorem upd_ne {α : Type} (f : Nat → α) {k i : Nat} (v : α) (h : i ≠ k) : upd f k v i = f i := if_neg h
def Hp.set (h : Hp) (l g : Nat) (b : LB) : Hp := ⟨upd h.gen l g, upd h.blk l b⟩
theorem Hp.view_at (h : Hp) (l g : Nat) (b : LB) : (h.set l g b).view l = b.view := by show (upd h.blk l b l).view = _; rw [upd_at]
theorem Hp.view_ne (h : Hp) {l k : Nat} (g : Nat) (b : LB) (hk : k ≠ l) : (h.set l g b).view k = h.view k := by show (upd h.blk l b k).view = _; rw [upd_ne _ _ hk]; rfl
theorem Hp.gen_at (h : Hp) (l g : Nat) (b : LB) : (h.set l g b).gen l = g := upd_at _ _ _
theorem Hp.gen_ne (h : Hp) {l k : Nat} (g : Nat) (b : LB) (hk : k ≠ l) : (h.set l g b).gen k = h.gen k := upd_ne _ _ hk

/-- a local block is made, or turned: b is its real one, x its slice -/
structure Turn (O : Nat → Prop) (h : Hp) (β : Env) (w w' : World) (l g : Nat) (lb : LB) (b : Option Nat) (sv : Value) : Prop where
  size : w.heap.size ≤ w'.heap.size
  os : w'.os = w.os
  tape : w'.tape = w.tape
  output : w'.output = w.output
  other : ∀ k, k < w.heap.size → some k ≠ b → w'.heap[k]? = w.heap[k]?
  place : ∀ k, b = some k → w.heap.size ≤ k ∨ ((h.view l).live = true ∧ (β l).1 = some k)
  next : (h.gen l < g ∧ lb.view.live = true) ∨ (g = h.gen l ∧ ∃ row ty e els els', h.view l = .mem row ty e els ∧ lb.view = .mem row ty e els' ∧ β l = (b, sv))
namespace Turn
variable {O : Nat → Prop} {w0 : Base} {h : Hp} {β : Env} {w w' : World} {l g : Nat} {lb : LB} {b : Option Nat} {sv : Value}
theorem live (t : Turn O h β w w' l g lb b sv) : lb.view.live = true := by
  rcases t.next with h1 | ⟨_, _, _, _, _, _, _, h1, _⟩
  · exact h1.2
  · rw [h1]; rfl
theorem repS (t : Turn O h β w w' l g lb b sv) (r : RelH O w0 h β w) {x : SC} {v : Value} (hx : RepS w (Mine O h β) x v) : RepS w' (Mine O (h.set l g lb) (upd β l (b, sv))) x v := by
  refine hx.mono t.size (fun k h1 h2 => ⟨?_, ?_⟩)
  · refine t.other k h1 (fun e => ?_)
    rcases t.place k e.symm with h3 | h3
    · omega
    · exact h2 (.inr ⟨l, h3⟩)
  · rintro (h3 | ⟨l', h3, h4⟩)
    · exact h2 (.inl h3)
    · by_cases e : l' = l
      · subst e
        rw [upd_at] at h4
        rcases t.place k h4 with h5 | h5
        · omega
        · exact h2 (.inr ⟨l', h5⟩)
      · rw [Hp.view_ne _ _ _ e] at h3
        rw [upd_ne _ _ e] at h4
        exact h2 (.inr ⟨l', h3, h4⟩)
theorem repA (t : Turn O h β w w' l g lb b sv) (r : RelH O w0 h β w) {x : AC} {v : Value} (hx : RepA h β w (Mine O h β) x v) : RepA (h.set l g lb) (upd β l (b, sv)) w' (Mine O (h.set l g lb) (upd β l (b, sv))) x v := by
  cases x with
  | s x => exact t.repS r hx
  | zc => exact hx
  | own k gk =>
    refine ⟨hx.1, ?_⟩
    by_cases e : k = l
    · subst e
      rw [Hp.gen_at, Hp.view_at]
      rcases t.next with ⟨h1, _⟩ | ⟨rfl, row, ty, e', els, els', h1, h2, h3⟩
      · exact ⟨by have := hx.2.1; omega, fun e => by have := hx.2.1; omega⟩
      · refine ⟨hx.2.1, fun e => ?_⟩
        have h4 := hx.2.2 e
        rw [h1] at h4
        rw [h2, upd_at]
        intro hr
        have := h4 hr
        rw [h3] at this
        exact this
    · rw [Hp.gen_ne _ _ _ e, Hp.view_ne _ _ _ e]
      refine ⟨hx.2.1, fun e2 => ?_⟩
      have h4 := hx.2.2 e2
      cases hk : h.view k with
      | mem row ty e' els =>
        rw [hk] at h4
        simp only at h4 ⊢
        rw [upd_ne _ _ e]
        exact h4
      | dead => trivial
      | ice y => rw [hk] at h4; exact t.repS r h4
  | ptr k gk i off =>
    refine ⟨hx.1, ?_⟩
    by_cases e : k = l
    · subst e
      rw [Hp.gen_at, Hp.view_at]
      rcases t.next with ⟨h1, _⟩ | ⟨rfl, row, ty, e', els, els', h1, h2, h3⟩
      · exact ⟨by have := hx.2.1; omega, fun e => by have := hx.2.1; omega⟩
      · refine ⟨hx.2.1, fun e => ?_⟩
        have h4 := hx.2.2 e
        rw [h1, h3] at h4
        rw [h2, upd_at]
        exact h4
    · rw [Hp.gen_ne _ _ _ e, Hp.view_ne _ _ _ e, upd_ne _ _ e]
      exact hx.2
  | clo f ls =>
    obtain ⟨us, rfl, h1⟩ := hx
    refine ⟨us, rfl, h1.mono (fun p u hp => ?_)⟩
    by_cases e : p.1 = l
    · rw [e] at hp ⊢
      rw [Hp.gen_at, Hp.view_at]
      rcases t.next with ⟨h1, _⟩ | ⟨rfl, row, ty, e', els, els', h1, h2, h3⟩
      · exact ⟨by have := hp.1; omega, fun e => by have := hp.1; omega⟩
      · refine ⟨hp.1, fun e => ?_⟩
        have h4 := hp.2 e
        rw [h1, h3] at h4
        rw [h2, upd_at]
        exact h4
    · rw [Hp.gen_ne _ _ _ e, Hp.view_ne _ _ _ e, upd_ne _ _ e]
      exact hp
theorem relH (t : Turn O h β w w' l g lb b sv) (r : RelH O w0 h β w) (hb : RepB (h.set l g lb) (upd β l (b, sv)) w' (Mine O (h.set l g lb) (upd β l (b, sv))) l) : RelH O w0 (h.set l g lb) (upd β l (b, sv)) w' := by
  have hlive := t.live
  have old : ∀ k l', (h.view l').live = true → (β l').1 = some k → l' ≠ l → b ≠ some k := by
    intro k l' h1 h2 hne e
    rcases t.place k e with h3 | ⟨h3, h4⟩
    · have := r.lt (.inr ⟨l', h1, h2⟩); omega
    · exact hne (r.inj _ _ _ h1 h3 h2 h4)
  refine ⟨fun k => ?_, fun k k' c h1 h2 h3 h4 => ?_, fun k c h1 h2 => ?_, ⟨t.os.trans r.below.os, t.tape.trans r.below.tape, t.output.trans r.below.output, Nat.le_trans r.below.size t.size, fun k hk => ?_⟩, r.hO, fun k p hl hg => ?_⟩
  · by_cases e : k = l
    · subst e; exact hb
    · have := r.blks k
      unfold RepB at this ⊢
      rw [Hp.view_ne _ _ _ e]
      cases hk : h.view k with
      | mem row ty e' els =>
        rw [hk] at this
        simp only at this ⊢
        rw [upd_ne _ _ e]
        obtain ⟨h0, h1, h2 | ⟨c, cap, cur, h2, h3, h4, h5⟩⟩ := this
        · exact ⟨h0, h1, .inl h2⟩
        · refine ⟨h0, h1, .inr ⟨c, cap, cur, h2, ?_, h4.mono (fun x u hx => t.repA r hx), h5⟩⟩
          exact (t.other c h3.lt (fun e2 => old c k (by rw [hk]; rfl) h2 e e2.symm)).trans h3
      | dead => trivial
      | ice x => trivial
  · by_cases e : k = l
    · by_cases e' : k' = l
      · rw [e, e']
      · exfalso
        rw [e, upd_at] at h3
        rw [upd_ne _ _ e'] at h4
        rw [Hp.view_ne _ _ _ e'] at h2
        exact old c k' h2 h4 e' h3
    · by_cases e' : k' = l
      · exfalso
        rw [e', upd_at] at h4
        rw [upd_ne _ _ e] at h3
        rw [Hp.view_ne _ _ _ e] at h1
        exact old c k h1 h3 e h4
      · rw [upd_ne _ _ e] at h3
        rw [upd_ne _ _ e'] at h4
        rw [Hp.view_ne _ _ _ e] at h1
        rw [Hp.view_ne _ _ _ e'] at h2
        exact r.inj _ _ _ h1 h2 h3 h4
  · by_cases e : k = l
    · rw [e, upd_at] at h2
      rcases t.place c h2 with h3 | ⟨h3, h4⟩
      · intro ho; have := w0.lt c ho; have := r.below.size; omega
      · exact r.base _ _ h3 h4
    · rw [upd_ne _ _ e] at h2
      rw [Hp.view_ne _ _ _ e] at h1
      exact r.base _ _ h1 h2
  · have hlt := Nat.lt_of_lt_of_le (w0.lt k hk) r.below.size
    refine (t.other k hlt (fun e => ?_)).trans (r.below.block k hk)
    rcases t.place k e.symm with h3 | ⟨h3, h4⟩
    · omega
    · exact r.base _ _ h3 h4 hk
  · by_cases e : k = l
    · subst e
      rw [Hp.gen_at] at hg
      rw [upd_at]
      rcases t.next with ⟨h1, _⟩ | ⟨h1, _, _, _, _, _, _, _, h2⟩
      · omega
      · rw [← h2]; exact r.keep k p hl (by rw [← h1]; exact hg)
    · rw [Hp.gen_ne _ _ _ e] at hg
      rw [upd_ne _ _ e]
      exact r.keep k p hl hg
theorem rel {n : Nat} {σ : St} {a : Act} (t : Turn O σ.h β w w' l g lb b sv) (r : Rel O w0 n σ β a w) (hb : RepB (σ.h.set l g lb) (upd β l (b, sv)) w' (Mine O (σ.h.set l g lb) (upd β l (b, sv))) l) : Rel O w0 n { σ with h := σ.h.set l g lb } (upd β l (b, sv)) a w' :=
  ⟨t.relH r.toRelH hb, r.hd, r.hn, fun k => (r.slots k).mono (fun x u hx => t.repA r.toRelH hx)⟩
end Turn

/-- a row is handed on -/
theorem RelH.freeze {O : Nat → Prop} {w0 : Base} {h : Hp} {β : Env} {w : World} (r : RelH O w0 h β w) {l ty e : Nat} {els : List (List SC)} (hk : h.blk l = .row ty e els) :
    RelH O w0 (h.set l (h.gen l) (.ice (.sl e els))) β w ∧ (∀ x v, RepA h β w (Mine O h β) x v → RepA (h.set l (h.gen l) (.ice (.sl e els))) β w (Mine O (h.set l (h.gen l) (.ice (.sl e els))) β) x v) := by
  have hv : h.view l = .mem true ty e (els.map (List.map AC.s)) := by unfold Hp.view; rw [hk]; rfl
  have hs : ∀ x v, RepS w (Mine O h β) x v → RepS w (Mine O (h.set l (h.gen l) (.ice (.sl e els))) β) x v := by
    intro x v hx
    refine hx.less (fun k => ?_)
    rintro (h1 | ⟨l', h1, h2⟩)
    · exact .inl h1
    · by_cases e1 : l' = l
      · subst e1; rw [Hp.view_at] at h1; simp [LB.view, VB.live] at h1
      · rw [Hp.view_ne _ _ _ e1] at h1; exact .inr ⟨l', h1, h2⟩
  have hice : RepS w (Mine O (h.set l (h.gen l) (.ice (.sl e els))) β) (.sl e els) (β l).2 := by
    have := r.blks l
    unfold RepB at this
    rw [hv] at this
    simp only at this
    obtain ⟨h0, h1, ⟨_, h2, _, A, h3⟩ | ⟨b, cap, cur, h2, h3, h4, h5⟩⟩ := this
    · have : els = [] := by simpa using h2
      subst this
      rw [h3]
      exact .sl0 h0 (by unfold maxLen; omega)
    · obtain ⟨h6, h7, h8, h9⟩ := h5 trivial
      rw [h6]
      have hfl : (els.map (List.map AC.s)).flatten = els.flatten.map AC.s := by rw [List.map_flatten]
      rw [hfl] at h4
      have hln : (els.map (List.map AC.s)).length = els.length := by simp
      rw [hln] at h7 ⊢
      rw [List.length_map] at h4
      refine RepS.sl (us := cur.toList.take els.flatten.length) h0 h7 h8 h3.lt ?_ (fun x hx => ?_) (by have := h4.1; rw [List.length_map] at this; exact this) (fun i a b => ?_) (fun i a => ?_)
      · rintro (hO | ⟨l', h10, h11⟩)
        · exact r.base l b (by rw [hv]; rfl) h2 (r.hO b hO)
        · by_cases e1 : l' = l
          · subst e1; rw [Hp.view_at] at h10; simp [LB.view, VB.live] at h10
          · rw [Hp.view_ne _ _ _ e1] at h10
            exact e1 (r.inj _ _ _ h10 (by rw [hv]; rfl) h11 h2)
      · have := h1 (x.map AC.s) (List.mem_map_of_mem hx)
        simpa using this
      · have := h4.2 i (by rw [List.length_map]; exact a) b
        rw [List.getElem_map] at this
        exact hs _ _ this
      · rw [h3.cell, Nat.zero_add, List.getElem_take]
        simp at a
        rw [Array.getElem?_eq_getElem (by omega)]
        simp
  have ha : ∀ x v, RepA h β w (Mine O h β) x v → RepA (h.set l (h.gen l) (.ice (.sl e els))) β w (Mine O (h.set l (h.gen l) (.ice (.sl e els))) β) x v := by
    intro x v hx
    have hg : ∀ k, (h.set l (h.gen l) (.ice (.sl e els))).gen k = h.gen k := by
      intro k
      by_cases e1 : k = l
      · subst e1; rw [Hp.gen_at]
      · rw [Hp.gen_ne _ _ _ e1]
    cases x with
    | s x => exact hs _ _ hx
    | zc => exact hx
    | own k gk =>
      refine ⟨hx.1, by rw [hg]; exact hx.2.1, fun e2 => ?_⟩
      rw [hg] at e2
      have h4 := hx.2.2 e2
      by_cases e1 : k = l
      · subst e1
        rw [hv] at h4
        rw [Hp.view_at]
        simp only [LB.view]
        have := h4 rfl
        rw [this]
        exact hice
      · rw [Hp.view_ne _ _ _ e1]
        cases hk2 : h.view k with
        | mem row ty e' els => rw [hk2] at h4; exact h4
        | dead => trivial
        | ice y => rw [hk2] at h4; exact hs _ _ h4
    | ptr k gk i off =>
      refine ⟨hx.1, by rw [hg]; exact hx.2.1, fun e2 => ?_⟩
      rw [hg] at e2
      have h4 := hx.2.2 e2
      by_cases e1 : k = l
      · subst e1; rw [Hp.view_at]; trivial
      · rw [Hp.view_ne _ _ _ e1]; exact h4
    | clo f ls =>
      obtain ⟨us, rfl, h1⟩ := hx
      refine ⟨us, rfl, h1.mono (fun p u hp => ⟨by rw [hg]; exact hp.1, fun e2 => ?_⟩)⟩
      rw [hg] at e2
      have h4 := hp.2 e2
      by_cases e1 : p.1 = l
      · rw [e1, Hp.view_at]; trivial
      · rw [Hp.view_ne _ _ _ e1]; exact h4
  have hlv : ∀ k, ((h.set l (h.gen l) (.ice (.sl e els))).view k).live = true → k ≠ l ∧ (h.view k).live = true := by
    intro k h1
    by_cases e1 : k = l
    · subst e1; rw [Hp.view_at] at h1; simp [LB.view, VB.live] at h1
    · rw [Hp.view_ne _ _ _ e1] at h1; exact ⟨e1, h1⟩
  refine ⟨⟨fun k => ?_, fun k k' c h1 h2 h3 h4 => r.inj _ _ _ (hlv k h1).2 (hlv k' h2).2 h3 h4, fun k c h1 h2 => r.base _ _ (hlv k h1).2 h2, r.below, r.hO, fun k p hl hg => r.keep k p hl (by
    by_cases e1 : k = l
    · subst e1; rw [Hp.gen_at] at hg; exact hg
    · rw [Hp.gen_ne _ _ _ e1] at hg; exact hg)⟩, ha⟩
  by_cases e1 : k = l
  · subst e1; unfold RepB; rw [Hp.view_at]; trivial
  · have := r.blks k
    unfold RepB at this ⊢
    rw [Hp.view_ne _ _ _ e1]
    cases hk : h.view k with
    | mem row ty e' els =>
      rw [hk] at this
      simp only at this ⊢
      obtain ⟨h0, h1, h2 | ⟨c, cap, cur, h2, h3, h4, h5⟩⟩ := this
      · exact ⟨h0, h1, .inl h2⟩
      · exact ⟨h0, h1, .inr ⟨c, cap, cur, h2, h3, h4.mono (fun x u hx => ha _ _ hx), h5⟩⟩
    | dead => trivial
    | ice x => trivial
end Go.Proofs.Ytbpipdgkkdifgaa
