import Derived.WalkKit
import Derived.WalkSpells
import Derived.Below
import Derived.Laws.Rows
import Derived.Laws.OwnMore
import Derived.Deep.Draws
import Derived.Lib.Hide
import Derived.Laws.MakeOwn
import Derived.Laws.BytesArg
set_option linter.unusedVariables false
set_option linter.unusedSimpArgs false
namespace Go.Proofs.YtcbfhpnmhhnjpaaGreat
open Go.RowKit
def Blk (w : World) (g : Nat) (t : TypeId) (cs : Array Value) : Prop := w.heap[g]? = some (.cells cs t (0, 0))
namespace Blk
variable {w w' : World} {g : Nat} {t : TypeId} {cs : Array Value}
theorem lt (h : Blk w g t cs) : g < w.heap.size := by
  by_cases hl : g < w.heap.size
  · exact hl
  · unfold Blk at h
    rw [Array.getElem?_eq_none (by omega)] at h
    simp at h
theorem cell (h : Blk w g t cs) (i : Nat) : w.cell? ⟨g, i, none⟩ = cs[i]? := cell_of_row w g i cs t (0, 0) h
theorem frozen (h : Blk w g t cs) (i : Nat) : w.frozen? ⟨g, i, none⟩ = false := by
  unfold Blk at h
  simp [World.frozen?, h]
theorem new (w : World) (t : TypeId) (cs : Array Value) : Blk (w.alloc (.cells cs t)) w.heap.size t cs := heap_alloc_new w _
theorem drew (h : Blk w g t cs) : Blk w.drew g t cs := h
theorem drewN (h : Blk w g t cs) (n : Nat) : Blk (w.drewN n) g t cs := h
theorem below {B : Nat} (h : Blk w g t cs) (hb : Below B w w') (hg : g < B) : Blk w' g t cs := (hb.block g hg).trans h
theorem keep (h : Blk w g t cs) (hb : Below w.heap.size w w') : Blk w' g t cs := h.below hb h.lt
theorem alloc (h : Blk w g t cs) (o : Obj) : Blk (w.alloc o) g t cs := h.keep ((Below.refl _ _).alloc (Nat.le_refl _) o)
theorem put (h : Blk w g t cs) (i : Nat) (u : Value) : Blk (w.setCell ⟨g, i, none⟩ u) g t (cs.setIfInBounds i u) := by
  unfold Blk at h ⊢
  simp [World.setCell, Array.getElem?_modify, h]
theorem far (h : Blk w g t cs) {p : Addr} (hp : g ≠ p.block) (u : Value) : Blk (w.setCell p u) g t cs := (Below.heap_setCell w p u g hp).trans h
end Blk
theorem drewN_below (w : World) (n B : Nat) : Below B w (w.drewN n) := ⟨rfl, rfl, rfl, Nat.le_refl _, fun _ _ => rfl⟩
end Go.Proofs.YtcbfhpnmhhnjpaaGreat

namespace Go.Proofs.YtcbfhpnmhhnjpaaGreat
open Go.RowKit
inductive SC where
  | pv (v : Value)
  | sl (e : Nat) (els : List (List SC))
  | sptr (cs : List SC)
  | fn (f : Nat) (caps : List SC)
  | tag (b : Bool) (x : SC)
deriving Inhabited
inductive AC where
  | s (x : SC)
  | zc
  | own (l g : Nat)
  | ptr (l g i off : Nat)
  | clo (f : Nat) (ls : List (Nat × Nat))
deriving Inhabited
inductive TV (α : Type) where
  | no
  | c (x : α)
  | agg (xs : List α)
  | tup (vs : List (Bool × List α))
deriving Inhabited
inductive LB where
  | dead
  | box (ty e : Nat) (els : List (List AC))
  | row (ty e : Nat) (els : List (List SC))
  | ice (x : SC)
deriving Inhabited
inductive VB where
  | dead
  | mem (row : Bool) (ty e : Nat) (els : List (List AC))
  | ice (x : SC)
def LB.view : LB → VB
  | .dead => .dead
  | .box ty e els => .mem false ty e els
  | .row ty e els => .mem true ty e (els.map (List.map AC.s))
  | .ice x => .ice x
def VB.live : VB → Bool
  | .mem .. => true
  | _ => false
structure Hp where
  gen : Nat → Nat
  blk : Nat → LB
structure St where
  slot : Nat → TV AC
  h : Hp
def Hp.view (h : Hp) (l : Nat) : VB := (h.blk l).view
def plain : Value → Bool
  | .bool _ | .int _ _ | .string _ | .nilFunc | .pointer none | .slice _ _ _ => true
  | _ => false
def RL {α : Type} (R : α → Value → Prop) (xs : List α) (us : List Value) : Prop := xs.length = us.length ∧ ∀ i (h : i < xs.length) (h' : i < us.length), R xs[i] us[i]
namespace RL
variable {α : Type} {R R' : α → Value → Prop} {xs ys : List α} {us vs : List Value}
theorem nil : RL R [] [] := ⟨rfl, fun i h => by simp at h⟩
theorem mono (h : RL R xs us) (hr : ∀ x u, R x u → R' x u) : RL R' xs us := ⟨h.1, fun i a b => hr _ _ (h.2 i a b)⟩
theorem monoMem (h : RL R xs us) (hr : ∀ x u, x ∈ xs → u ∈ us → R x u → R' x u) : RL R' xs us := ⟨h.1, fun i a b => hr _ _ (List.getElem_mem a) (List.getElem_mem b) (h.2 i a b)⟩
theorem cons {x : α} {u : Value} (h : R x u) (t : RL R xs us) : RL R (x :: xs) (u :: us) :=
  ⟨by simp [t.1], fun i a b => by
    match i with
    | 0 => exact h
    | i + 1 => exact t.2 i (by simpa using a) (by simpa using b)⟩
theorem head {x : α} {u : Value} (h : RL R (x :: xs) (u :: us)) : R x u := h.2 0 (by simp) (by simp)
theorem tail {x : α} {u : Value} (h : RL R (x :: xs) (u :: us)) : RL R xs us :=
  ⟨by simpa using h.1, fun i a b => h.2 (i + 1) (by simpa using a) (by simpa using b)⟩
theorem cons_inv {x : α} (h : RL R (x :: xs) us) : ∃ u us', us = u :: us' ∧ R x u ∧ RL R xs us' := by
  cases us with
  | nil => have := h.1; simp at this
  | cons u us => exact ⟨u, us, rfl, h.head, h.tail⟩
theorem nil_inv (h : RL R [] us) : us = [] := by
  have := h.1
  exact List.eq_nil_of_length_eq_zero this.symm
theorem append (h : RL R xs us) (t : RL R ys vs) : RL R (xs ++ ys) (us ++ vs) := by
  refine ⟨by simp [h.1, t.1], fun i a b => ?_⟩
  by_cases hi : i < xs.length
  · rw [List.getElem_append_left hi, List.getElem_append_left (by rw [← h.1]; exact hi)]
    exact h.2 i hi _
  · rw [List.getElem_append_right (by omega), List.getElem_append_right (by rw [← h.1]; omega)]
    have := t.2 (i - xs.length) (by simp at a; omega) (by rw [← t.1]; simp at a; omega)
    simpa only [h.1] using this
theorem take (h : RL R xs us) (n : Nat) : RL R (xs.take n) (us.take n) :=
  ⟨by simp [h.1], fun i a b => by
    rw [List.getElem_take, List.getElem_take]
    exact h.2 i (by simp at a; omega) (by simp at b; omega)⟩
theorem drop (h : RL R xs us) (n : Nat) : RL R (xs.drop n) (us.drop n) :=
  ⟨by simp [h.1], fun i a b => by
    rw [List.getElem_drop, List.getElem_drop]
    exact h.2 (n + i) (by simp at a; omega) (by simp at b; omega)⟩
theorem set (h : RL R xs us) {x : α} {u : Value} (hx : R x u) (n : Nat) : RL R (xs.set n x) (us.set n u) :=
  ⟨by simp [h.1], fun i a b => by
    rw [List.getElem_set, List.getElem_set]
    split
    · exact hx
    · exact h.2 i (by simpa using a) (by simpa using b)⟩
theorem replicate (n : Nat) {x : α} {u : Value} (h : R x u) : RL R (List.replicate n x) (List.replicate n u) :=
  ⟨by simp, fun i a b => by simpa using h⟩
theorem map {β : Type} {S : β → Value → Prop} (f : β → α) {zs : List β} (h : RL S zs us) (hr : ∀ x u, S x u → R (f x) u) : RL R (zs.map f) us :=
  ⟨by simp [h.1], fun i a b => by rw [List.getElem_map]; exact hr _ _ (h.2 i (by simpa using a) b)⟩
theorem get (h : RL R xs us) {i : Nat} {x : α} (hx : xs[i]? = some x) : ∃ u, us[i]? = some u ∧ R x u := by
  obtain ⟨hi, rfl⟩ := List.getElem?_eq_some_iff.1 hx
  exact ⟨us[i]'(by rw [← h.1]; exact hi), List.getElem?_eq_getElem _, h.2 i hi _⟩
theorem one {x : α} {u : Value} (h : R x u) : RL R [x] [u] := cons h nil
end RL
def nilV : Value → Bool
  | .slice none _ _ => true
  | _ => false
inductive RepS (w : World) (O : Nat → Prop) : SC → Value → Prop
  | pv {v : Value} (h : plain v = true) : RepS w O (.pv v) v
  | sl0 {e : Nat} {A : Option Addr} {cap : Nat} (h0 : 0 < e) (hm : cap ≤ maxLen) : RepS w O (.sl e []) (.slice A 0 cap)
  | sl {e : Nat} {els : List (List SC)} {b off cap : Nat} {us : List Value} (h0 : 0 < e) (hcap : els.length ≤ cap) (hm : cap ≤ maxLen) (hb : b < w.heap.size) (hO : ¬ O b)
      (he : ∀ x ∈ els, x.length = e) (hl : els.flatten.length = us.length)
      (hr : ∀ i (h : i < els.flatten.length) (h' : i < us.length), RepS w O els.flatten[i] us[i])
      (hc : ∀ i (h' : i < us.length), w.cell? ⟨b, off + i, none⟩ = some us[i]) : RepS w O (.sl e els) (.slice (some ⟨b, off, none⟩) els.length cap)
  | sptr {cs : List SC} {b off : Nat} {us : List Value} (hb : b < w.heap.size) (hO : ¬ O b) (hl : cs.length = us.length)
      (hr : ∀ i (h : i < cs.length) (h' : i < us.length), RepS w O cs[i] us[i])
      (hc : ∀ i (h' : i < us.length), w.cell? ⟨b, off + i, none⟩ = some us[i]) : RepS w O (.sptr cs) (.pointer (some ⟨b, off, none⟩))
  | fn {f : Nat} {caps : List SC} {us : List Value} (hl : caps.length = us.length)
      (hr : ∀ i (h : i < caps.length) (h' : i < us.length), RepS w O caps[i] us[i]) : RepS w O (.fn f caps) (.func (.func f) #[] us.toArray)
  | tag {b : Bool} {x : SC} {v : Value} (h : RepS w O x v) (hb : nilV v = b) : RepS w O (.tag b x) v
theorem RepS.mono {w w' : World} {O O' : Nat → Prop} {x : SC} {v : Value} (h : RepS w O x v) (hs : w.heap.size ≤ w'.heap.size)
    (hh : ∀ b, b < w.heap.size → ¬ O b → w'.heap[b]? = w.heap[b]? ∧ ¬ O' b) : RepS w' O' x v := by
  induction h with
  | pv h => exact .pv h
  | sl0 h0 hm => exact .sl0 h0 hm
  | sl h0 hcap hm hb hO he hl hr hc ih =>
    obtain ⟨h1, h2⟩ := hh _ hb hO
    exact .sl h0 hcap hm (Nat.lt_of_lt_of_le hb hs) h2 he hl (fun i a b => ih i a b) (fun i a => (World.cell?_of_block (w := w) h1).trans (hc i a))
  | sptr hb hO hl hr hc ih =>
    obtain ⟨h1, h2⟩ := hh _ hb hO
    exact .sptr (Nat.lt_of_lt_of_le hb hs) h2 hl (fun i a b => ih i a b) (fun i a => (World.cell?_of_block (w := w) h1).trans (hc i a))
  | fn hl hr ih => exact .fn hl (fun i a b => ih i a b)
  | tag h hb ih => exact .tag ih hb
theorem RepS.bel {w w' : World} {O : Nat → Prop} {x : SC} {v : Value} (h : RepS w O x v) (hb : Below w.heap.size w w') : RepS w' O x v :=
  h.mono hb.size (fun b h1 h2 => ⟨hb.block b h1, h2⟩)
theorem RepS.less {w : World} {O O' : Nat → Prop} {x : SC} {v : Value} (h : RepS w O x v) (ho : ∀ b, O' b → O b) : RepS w O' x v :=
  h.mono (Nat.le_refl _) (fun b _ h2 => ⟨rfl, fun h3 => h2 (ho b h3)⟩)
theorem RepS.more {w : World} {O O' : Nat → Prop} {x : SC} {v : Value} (h : RepS w O x v) (ho : ∀ b, b < w.heap.size → O' b → O b) : RepS w O' x v :=
  h.mono (Nat.le_refl _) (fun b h1 h2 => ⟨rfl, fun h3 => h2 (ho b h1 h3)⟩)
theorem plain_one {v : Value} (h : plain v = true) : v.oneCell' = true := by cases v <;> first | rfl | simp [plain] at h
theorem RepS.one {w : World} {O : Nat → Prop} {x : SC} {v : Value} (h : RepS w O x v) : v.oneCell' = true := by
  induction h with
  | pv h => exact plain_one h
  | sl0 => rfl
  | sl => rfl
  | sptr => rfl
  | fn => rfl
  | tag _ _ ih => exact ih
theorem RepS.flat {w : World} {O : Nat → Prop} {v u : Value} (h : RepS w O (.pv v) u) : u = v := by cases h; rfl
abbrev Env := Nat → Option Nat × Value
def RepA (h : Hp) (β : Env) (w : World) (O : Nat → Prop) : AC → Value → Prop
  | .s x, v => RepS w O x v
  | .zc, v => ∃ A, v = .slice A 0 0
  | .own l g, v => v.oneCell' = true ∧ g ≤ h.gen l ∧ (g = h.gen l → match h.view l with
    | .mem row _ _ _ => row = true → v = (β l).2
    | .ice x => RepS w O x v
    | .dead => True)
  | .ptr l g i off, v => v.oneCell' = true ∧ g ≤ h.gen l ∧ (g = h.gen l → match h.view l with
    | .mem _ _ e _ => ∃ b, (β l).1 = some b ∧ v = .pointer (some ⟨b, i * e + off, none⟩)
    | _ => True)
  | .clo f ls, v => ∃ us : List Value, v = .func (.func f) #[] us.toArray ∧ RL (fun p u => p.2 ≤ h.gen p.1 ∧ (p.2 = h.gen p.1 → match h.view p.1 with
    | .mem _ _ _ _ => ∃ b, (β p.1).1 = some b ∧ u = .pointer (some ⟨b, 0, none⟩)
    | _ => True)) ls us
theorem RepA.one {h : Hp} {β : Env} {w : World} {O : Nat → Prop} {x : AC} {v : Value} (r : RepA h β w O x v) : v.oneCell' = true := by
  cases x with
  | s x => exact RepS.one r
  | zc => obtain ⟨A, rfl⟩ := r; rfl
  | own l g => exact r.1
  | ptr l g i off => exact r.1
  | clo f ls => obtain ⟨us, rfl, _⟩ := r; rfl
def RepT {α : Type} (R : α → Value → Prop) : TV α → Value → Prop
  | .no, _ => True
  | .c x, v => R x v
  | .agg xs, v => ∃ us : List Value, v = .agg us.toArray ∧ RL R xs us
  | .tup vs, v => ∃ us : List Value, v = .tuple us.toArray ∧ vs.length = us.length ∧ ∀ i (h : i < vs.length) (h' : i < us.length),
      (vs[i].1 = true → ∃ ws : List Value, us[i] = .agg ws.toArray ∧ RL R vs[i].2 ws) ∧ (vs[i].1 = false → ∃ x, vs[i].2 = [x] ∧ R x us[i])
theorem RepT.mono {α : Type} {R R' : α → Value → Prop} {x : TV α} {v : Value} (h : RepT R x v) (hr : ∀ x u, R x u → R' x u) : RepT R' x v := by
  cases x with
  | no => trivial
  | c x => exact hr _ _ h
  | agg xs => obtain ⟨us, rfl, h⟩ := h; exact ⟨us, rfl, h.mono hr⟩
  | tup vs =>
    obtain ⟨us, rfl, h1, h2⟩ := h
    refine ⟨us, rfl, h1, fun i a b => ⟨fun e => ?_, fun e => ?_⟩⟩
    · obtain ⟨ws, h3, h4⟩ := (h2 i a b).1 e
      exact ⟨ws, h3, h4.mono hr⟩
    · obtain ⟨x, h3, h4⟩ := (h2 i a b).2 e
      exact ⟨x, h3, hr _ _ h4⟩
def RepB (h : Hp) (β : Env) (w : World) (O : Nat → Prop) (l : Nat) : Prop :=
  match h.view l with
  | .mem row ty e els => 0 < e ∧ (∀ x ∈ els, x.length = e) ∧
    ((row = true ∧ els = [] ∧ (β l).1 = none ∧ ∃ A, (β l).2 = .slice A 0 0) ∨
      ∃ b cap cur, (β l).1 = some b ∧ Blk w b ty cur ∧ RL (RepA h β w O) els.flatten (cur.toList.take els.flatten.length) ∧
        (row = true → (β l).2 = .slice (some ⟨b, 0, none⟩) els.length cap ∧ els.length ≤ cap ∧ cap ≤ maxLen ∧ cur.size = cap * e))
  | _ => True
def Mine (O : Nat → Prop) (h : Hp) (β : Env) (b : Nat) : Prop := O b ∨ ∃ l, (h.view l).live = true ∧ (β l).1 = some b
structure Base where
  w : World
  old : Nat → Prop
  lt : ∀ b, old b → b < w.heap.size
  loan : Nat → Nat × Value → Prop
structure Base.Keeps (B : Base) (w : World) : Prop where
  os : w.os = B.w.os
  tape : w.tape = B.w.tape
  output : w.output = B.w.output
  size : B.w.heap.size ≤ w.heap.size
  block : ∀ k, B.old k → w.heap[k]? = B.w.heap[k]?
theorem Base.Keeps.trans {B : Base} {w w' : World} (h : B.Keeps w) (hb : Below w.heap.size w w') : B.Keeps w' :=
  ⟨hb.os.trans h.os, hb.tape.trans h.tape, hb.output.trans h.output, Nat.le_trans h.size hb.size, fun k hk => (hb.block k (Nat.lt_of_lt_of_le (B.lt k hk) h.size)).trans (h.block k hk)⟩
def Base.of (w : World) : Base := ⟨w, fun k => k < w.heap.size, fun _ h => h, fun _ _ => False⟩
theorem Base.Keeps.below {w w' : World} (h : (Base.of w).Keeps w') : Below w.heap.size w w' := ⟨h.os, h.tape, h.output, h.size, fun k hk => h.block k hk⟩
theorem Base.keeps_refl (B : Base) : B.Keeps B.w := ⟨rfl, rfl, rfl, Nat.le_refl _, fun _ _ => rfl⟩
structure RelH (O : Nat → Prop) (w0 : Base) (h : Hp) (β : Env) (w : World) : Prop where
  blks : ∀ l, RepB h β w (Mine O h β) l
  inj : ∀ l l' b, (h.view l).live = true → (h.view l').live = true → (β l).1 = some b → (β l').1 = some b → l = l'
  base : ∀ l b, (h.view l).live = true → (β l).1 = some b → ¬ w0.old b
  below : w0.Keeps w
  hO : ∀ b, O b → w0.old b
  keep : ∀ l p, w0.loan l p → h.gen l = 0 → β l = (some p.1, p.2)
structure Rel (O : Nat → Prop) (w0 : Base) (n : Nat) (σ : St) (β : Env) (a : Act) (w : World) : Prop extends RelH O w0 σ.h β w where
  hd : a.defers = []
  hn : a.tmps.size = n
  slots : ∀ t, RepT (RepA σ.h β w (Mine O σ.h β)) (σ.slot t) (a.tmps.getD t undef)
namespace RelH
variable {O : Nat → Prop} {w0 : Base} {h : Hp} {β : Env} {w : World}
theorem lt (r : RelH O w0 h β w) {b : Nat} (hb : Mine O h β b) : b < w.heap.size := by
  rcases hb with hb | ⟨l, hl, hb⟩
  · exact Nat.lt_of_lt_of_le (w0.lt b (r.hO b hb)) r.below.size
  · have := r.blks l
    unfold RepB at this
    cases hk : h.view l with
    | mem row ty e els =>
      rw [hk] at this
      simp only at this
      obtain ⟨_, _, ⟨_, _, h1, _⟩ | ⟨b', cap, cur, h1, h2, _⟩⟩ := this
      · rw [h1] at hb; simp at hb
      · rw [h1] at hb
        obtain rfl : b' = b := by simpa using hb
        exact h2.lt
    | dead => rw [hk] at hl; simp [VB.live] at hl
    | ice x => rw [hk] at hl; simp [VB.live] at hl
end RelH
theorem RepA.world {h : Hp} {β : Env} {w w' : World} {O O' : Nat → Prop} (hs : ∀ x v, RepS w O x v → RepS w' O' x v) {x : AC} {v : Value} (r : RepA h β w O x v) : RepA h β w' O' x v := by
  cases x with
  | s x => exact hs _ _ r
  | zc => exact r
  | own l g =>
    refine ⟨r.1, r.2.1, fun e => ?_⟩
    have := r.2.2 e
    cases hk : h.view l with
    | mem row ty e els => rw [hk] at this; exact this
    | dead => trivial
    | ice x => rw [hk] at this; exact hs _ _ this
  | ptr l g i off => exact r
  | clo f ls => exact r
namespace RelH
variable {O : Nat → Prop} {w0 : Base} {h : Hp} {β : Env} {w : World}
theorem world {w' : World} (r : RelH O w0 h β w) (hb : Below w.heap.size w w') : RelH O w0 h β w' := by
  refine ⟨fun l => ?_, r.inj, r.base, r.below.trans hb, r.hO, r.keep⟩
  have := r.blks l
  unfold RepB at this ⊢
  cases hk : h.view l with
  | mem row ty e els =>
    rw [hk] at this
    simp only at this ⊢
    obtain ⟨h0, h1, h2 | ⟨b', cap, cur, h2, h3, h4, h5⟩⟩ := this
    · exact ⟨h0, h1, .inl h2⟩
    · exact ⟨h0, h1, .inr ⟨b', cap, cur, h2, h3.keep hb, h4.mono (fun x u hx => hx.world (fun _ _ hs => hs.bel hb)), h5⟩⟩
  | dead => trivial
  | ice x => trivial
end RelH
theorem Rel.world {O : Nat → Prop} {w0 : Base} {n : Nat} {σ : St} {β : Env} {a : Act} {w w' : World} (r : Rel O w0 n σ β a w) (hb : Below w.heap.size w w') : Rel O w0 n σ β a w' :=
  ⟨r.toRelH.world hb, r.hd, r.hn, fun t => (r.slots t).mono (fun x u hx => hx.world (fun _ _ hs => hs.bel hb))⟩
def upd {α : Type} (f : Nat → α) (k : Nat) (v : α) : Nat → α := fun i => if i = k then v else f i
theorem upd_at {α : Type} (f : Nat → α) (k : Nat) (v : α) : upd f k v k = v := if_pos rfl
theorem upd_ne {α : Type} (f : Nat → α) {k i : Nat} (v : α) (h : i ≠ k) : upd f k v i = f i := if_neg h
def Hp.set (h : Hp) (l g : Nat) (b : LB) : Hp := ⟨upd h.gen l g, upd h.blk l b⟩
theorem Hp.view_at (h : Hp) (l g : Nat) (b : LB) : (h.set l g b).view l = b.view := by show (upd h.blk l b l).view = _; rw [upd_at]
theorem Hp.view_ne (h : Hp) {l k : Nat} (g : Nat) (b : LB) (hk : k ≠ l) : (h.set l g b).view k = h.view k := by show (upd h.blk l b k).view = _; rw [upd_ne _ _ hk]; rfl
theorem Hp.gen_at (h : Hp) (l g : Nat) (b : LB) : (h.set l g b).gen l = g := upd_at _ _ _
theorem Hp.gen_ne (h : Hp) {l k : Nat} (g : Nat) (b : LB) (hk : k ≠ l) : (h.set l g b).gen k = h.gen k := upd_ne _ _ hk
structure Turn (O : Nat → Prop) (h : Hp) (β : Env) (w w' : World) (l g : Nat) (lb : LB) (b : Option Nat) (sv : Value) : Prop where
  size : w.heap.size ≤ w'.heap.size
  os : w'.os = w.os
  tape : w'.tape = w.tape
  output : w'.output = w.output
  other : ∀ k, k < w.heap.size → some k ≠ b → w'.heap[k]? = w.heap[k]?
  place : ∀ k, b = some k → w.heap.size ≤ k ∨ ((h.view l).live = true ∧ (β l).1 = some k)
  next : (h.gen l < g ∧ lb.view.live = true) ∨ (g = h.gen l ∧ ∃ row ty e els els', h.view l = .mem row ty e els ∧ lb.view = .mem row ty e els' ∧ β l = (b, sv))
namespace Turn
variable {O : Nat → Prop} {w0 : Base} {h : Hp} {β : Env} {w w' : World} {l g : Nat} {lb : LB} {b : Option Nat} {sv : Value}
theorem live (t : Turn O h β w w' l g lb b sv) : lb.view.live = true := by
  rcases t.next with h1 | ⟨_, _, _, _, _, _, _, h1, _⟩
  · exact h1.2
  · rw [h1]; rfl
theorem repS (t : Turn O h β w w' l g lb b sv) (r : RelH O w0 h β w) {x : SC} {v : Value} (hx : RepS w (Mine O h β) x v) : RepS w' (Mine O (h.set l g lb) (upd β l (b, sv))) x v := by
  refine hx.mono t.size (fun k h1 h2 => ⟨?_, ?_⟩)
  · refine t.other k h1 (fun e => ?_)
    rcases t.place k e.symm with h3 | h3
    · omega
    · exact h2 (.inr ⟨l, h3⟩)
  · rintro (h3 | ⟨l', h3, h4⟩)
    · exact h2 (.inl h3)
    · by_cases e : l' = l
      · subst e
        rw [upd_at] at h4
        rcases t.place k h4 with h5 | h5
        · omega
        · exact h2 (.inr ⟨l', h5⟩)
      · rw [Hp.view_ne _ _ _ e] at h3
        rw [upd_ne _ _ e] at h4
        exact h2 (.inr ⟨l', h3, h4⟩)
theorem repA (t : Turn O h β w w' l g lb b sv) (r : RelH O w0 h β w) {x : AC} {v : Value} (hx : RepA h β w (Mine O h β) x v) : RepA (h.set l g lb) (upd β l (b, sv)) w' (Mine O (h.set l g lb) (upd β l (b, sv))) x v := by
  cases x with
  | s x => exact t.repS r hx
  | zc => exact hx
  | own k gk =>
    refine ⟨hx.1, ?_⟩
    by_cases e : k = l
    · subst e
      rw [Hp.gen_at, Hp.view_at]
      rcases t.next with ⟨h1, _⟩ | ⟨rfl, row, ty, e', els, els', h1, h2, h3⟩
      · exact ⟨by have := hx.2.1; omega, fun e => by have := hx.2.1; omega⟩
      · refine ⟨hx.2.1, fun e => ?_⟩
        have h4 := hx.2.2 e
        rw [h1] at h4
        rw [h2, upd_at]
        intro hr
        have := h4 hr
        rw [h3] at this
        exact this
    · rw [Hp.gen_ne _ _ _ e, Hp.view_ne _ _ _ e]
      refine ⟨hx.2.1, fun e2 => ?_⟩
      have h4 := hx.2.2 e2
      cases hk : h.view k with
      | mem row ty e' els =>
        rw [hk] at h4
        simp only at h4 ⊢
        rw [upd_ne _ _ e]
        exact h4
      | dead => trivial
      | ice y => rw [hk] at h4; exact t.repS r h4
  | ptr k gk i off =>
    refine ⟨hx.1, ?_⟩
    by_cases e : k = l
    · subst e
      rw [Hp.gen_at, Hp.view_at]
      rcases t.next with ⟨h1, _⟩ | ⟨rfl, row, ty, e', els, els', h1, h2, h3⟩
      · exact ⟨by have := hx.2.1; omega, fun e => by have := hx.2.1; omega⟩
      · refine ⟨hx.2.1, fun e => ?_⟩
        have h4 := hx.2.2 e
        rw [h1, h3] at h4
        rw [h2, upd_at]
        exact h4
    · rw [Hp.gen_ne _ _ _ e, Hp.view_ne _ _ _ e, upd_ne _ _ e]
      exact hx.2
  | clo f ls =>
    obtain ⟨us, rfl, h1⟩ := hx
    refine ⟨us, rfl, h1.mono (fun p u hp => ?_)⟩
    by_cases e : p.1 = l
    · rw [e] at hp ⊢
      rw [Hp.gen_at, Hp.view_at]
      rcases t.next with ⟨h1, _⟩ | ⟨rfl, row, ty, e', els, els', h1, h2, h3⟩
      · exact ⟨by have := hp.1; omega, fun e => by have := hp.1; omega⟩
      · refine ⟨hp.1, fun e => ?_⟩
        have h4 := hp.2 e
        rw [h1, h3] at h4
        rw [h2, upd_at]
        exact h4
    · rw [Hp.gen_ne _ _ _ e, Hp.view_ne _ _ _ e, upd_ne _ _ e]
      exact hp
theorem relH (t : Turn O h β w w' l g lb b sv) (r : RelH O w0 h β w) (hb : RepB (h.set l g lb) (upd β l (b, sv)) w' (Mine O (h.set l g lb) (upd β l (b, sv))) l) : RelH O w0 (h.set l g lb) (upd β l (b, sv)) w' := by
  have hlive := t.live
  have old : ∀ k l', (h.view l').live = true → (β l').1 = some k → l' ≠ l → b ≠ some k := by
    intro k l' h1 h2 hne e
    rcases t.place k e with h3 | ⟨h3, h4⟩
    · have := r.lt (.inr ⟨l', h1, h2⟩); omega
    · exact hne (r.inj _ _ _ h1 h3 h2 h4)
  refine ⟨fun k => ?_, fun k k' c h1 h2 h3 h4 => ?_, fun k c h1 h2 => ?_, ⟨t.os.trans r.below.os, t.tape.trans r.below.tape, t.output.trans r.below.output, Nat.le_trans r.below.size t.size, fun k hk => ?_⟩, r.hO, fun k p hl hg => ?_⟩
  · by_cases e : k = l
    · subst e; exact hb
    · have := r.blks k
      unfold RepB at this ⊢
      rw [Hp.view_ne _ _ _ e]
      cases hk : h.view k with
      | mem row ty e' els =>
        rw [hk] at this
        simp only at this ⊢
        rw [upd_ne _ _ e]
        obtain ⟨h0, h1, h2 | ⟨c, cap, cur, h2, h3, h4, h5⟩⟩ := this
        · exact ⟨h0, h1, .inl h2⟩
        · refine ⟨h0, h1, .inr ⟨c, cap, cur, h2, ?_, h4.mono (fun x u hx => t.repA r hx), h5⟩⟩
          exact (t.other c h3.lt (fun e2 => old c k (by rw [hk]; rfl) h2 e e2.symm)).trans h3
      | dead => trivial
      | ice x => trivial
  · by_cases e : k = l
    · by_cases e' : k' = l
      · rw [e, e']
      · exfalso
        rw [e, upd_at] at h3
        rw [upd_ne _ _ e'] at h4
        rw [Hp.view_ne _ _ _ e'] at h2
        exact old c k' h2 h4 e' h3
    · by_cases e' : k' = l
      · exfalso
        rw [e', upd_at] at h4
        rw [upd_ne _ _ e] at h3
        rw [Hp.view_ne _ _ _ e] at h1
        exact old c k h1 h3 e h4
      · rw [upd_ne _ _ e] at h3
        rw [upd_ne _ _ e'] at h4
        rw [Hp.view_ne _ _ _ e] at h1
        rw [Hp.view_ne _ _ _ e'] at h2
        exact r.inj _ _ _ h1 h2 h3 h4
  · by_cases e : k = l
    · rw [e, upd_at] at h2
      rcases t.place c h2 with h3 | ⟨h3, h4⟩
      · intro ho; have := w0.lt c ho; have := r.below.size; omega
      · exact r.base _ _ h3 h4
    · rw [upd_ne _ _ e] at h2
      rw [Hp.view_ne _ _ _ e] at h1
      exact r.base _ _ h1 h2
  · have hlt := Nat.lt_of_lt_of_le (w0.lt k hk) r.below.size
    refine (t.other k hlt (fun e => ?_)).trans (r.below.block k hk)
    rcases t.place k e.symm with h3 | ⟨h3, h4⟩
    · omega
    · exact r.base _ _ h3 h4 hk
  · by_cases e : k = l
    · subst e
      rw [Hp.gen_at] at hg
      rw [upd_at]
      rcases t.next with ⟨h1, _⟩ | ⟨h1, _, _, _, _, _, _, _, h2⟩
      · omega
      · rw [← h2]; exact r.keep k p hl (by rw [← h1]; exact hg)
    · rw [Hp.gen_ne _ _ _ e] at hg
      rw [upd_ne _ _ e]
      exact r.keep k p hl hg
theorem rel {n : Nat} {σ : St} {a : Act} (t : Turn O σ.h β w w' l g lb b sv) (r : Rel O w0 n σ β a w) (hb : RepB (σ.h.set l g lb) (upd β l (b, sv)) w' (Mine O (σ.h.set l g lb) (upd β l (b, sv))) l) : Rel O w0 n { σ with h := σ.h.set l g lb } (upd β l (b, sv)) a w' :=
  ⟨t.relH r.toRelH hb, r.hd, r.hn, fun k => (r.slots k).mono (fun x u hx => t.repA r.toRelH hx)⟩
end Turn
theorem RelH.freeze {O : Nat → Prop} {w0 : Base} {h : Hp} {β : Env} {w : World} (r : RelH O w0 h β w) {l ty e : Nat} {els : List (List SC)} (hk : h.blk l = .row ty e els) :
    RelH O w0 (h.set l (h.gen l) (.ice (.sl e els))) β w ∧ (∀ x v, RepA h β w (Mine O h β) x v → RepA (h.set l (h.gen l) (.ice (.sl e els))) β w (Mine O (h.set l (h.gen l) (.ice (.sl e els))) β) x v) := by
  have hv : h.view l = .mem true ty e (els.map (List.map AC.s)) := by unfold Hp.view; rw [hk]; rfl
  have hs : ∀ x v, RepS w (Mine O h β) x v → RepS w (Mine O (h.set l (h.gen l) (.ice (.sl e els))) β) x v := by
    intro x v hx
    refine hx.less (fun k => ?_)
    rintro (h1 | ⟨l', h1, h2⟩)
    · exact .inl h1
    · by_cases e1 : l' = l
      · subst e1; rw [Hp.view_at] at h1; simp [LB.view, VB.live] at h1
      · rw [Hp.view_ne _ _ _ e1] at h1; exact .inr ⟨l', h1, h2⟩
  have hice : RepS w (Mine O (h.set l (h.gen l) (.ice (.sl e els))) β) (.sl e els) (β l).2 := by
    have := r.blks l
    unfold RepB at this
    rw [hv] at this
    simp only at this
    obtain ⟨h0, h1, ⟨_, h2, _, A, h3⟩ | ⟨b, cap, cur, h2, h3, h4, h5⟩⟩ := this
    · have : els = [] := by simpa using h2
      subst this
      rw [h3]
      exact .sl0 h0 (by unfold maxLen; omega)
    · obtain ⟨h6, h7, h8, h9⟩ := h5 trivial
      rw [h6]
      have hfl : (els.map (List.map AC.s)).flatten = els.flatten.map AC.s := by rw [List.map_flatten]
      rw [hfl] at h4
      have hln : (els.map (List.map AC.s)).length = els.length := by simp
      rw [hln] at h7 ⊢
      rw [List.length_map] at h4
      refine RepS.sl (us := cur.toList.take els.flatten.length) h0 h7 h8 h3.lt ?_ (fun x hx => ?_) (by have := h4.1; rw [List.length_map] at this; exact this) (fun i a b => ?_) (fun i a => ?_)
      · rintro (hO | ⟨l', h10, h11⟩)
        · exact r.base l b (by rw [hv]; rfl) h2 (r.hO b hO)
        · by_cases e1 : l' = l
          · subst e1; rw [Hp.view_at] at h10; simp [LB.view, VB.live] at h10
          · rw [Hp.view_ne _ _ _ e1] at h10
            exact e1 (r.inj _ _ _ h10 (by rw [hv]; rfl) h11 h2)
      · have := h1 (x.map AC.s) (List.mem_map_of_mem hx)
        simpa using this
      · have := h4.2 i (by rw [List.length_map]; exact a) b
        rw [List.getElem_map] at this
        exact hs _ _ this
      · rw [h3.cell, Nat.zero_add, List.getElem_take]
        simp at a
        rw [Array.getElem?_eq_getElem (by omega)]
        simp
  have ha : ∀ x v, RepA h β w (Mine O h β) x v → RepA (h.set l (h.gen l) (.ice (.sl e els))) β w (Mine O (h.set l (h.gen l) (.ice (.sl e els))) β) x v := by
    intro x v hx
    have hg : ∀ k, (h.set l (h.gen l) (.ice (.sl e els))).gen k = h.gen k := by
      intro k
      by_cases e1 : k = l
      · subst e1; rw [Hp.gen_at]
      · rw [Hp.gen_ne _ _ _ e1]
    cases x with
    | s x => exact hs _ _ hx
    | zc => exact hx
    | own k gk =>
      refine ⟨hx.1, by rw [hg]; exact hx.2.1, fun e2 => ?_⟩
      rw [hg] at e2
      have h4 := hx.2.2 e2
      by_cases e1 : k = l
      · subst e1
        rw [hv] at h4
        rw [Hp.view_at]
        simp only [LB.view]
        have := h4 rfl
        rw [this]
        exact hice
      · rw [Hp.view_ne _ _ _ e1]
        cases hk2 : h.view k with
        | mem row ty e' els => rw [hk2] at h4; exact h4
        | dead => trivial
        | ice y => rw [hk2] at h4; exact hs _ _ h4
    | ptr k gk i off =>
      refine ⟨hx.1, by rw [hg]; exact hx.2.1, fun e2 => ?_⟩
      rw [hg] at e2
      have h4 := hx.2.2 e2
      by_cases e1 : k = l
      · subst e1; rw [Hp.view_at]; trivial
      · rw [Hp.view_ne _ _ _ e1]; exact h4
    | clo f ls =>
      obtain ⟨us, rfl, h1⟩ := hx
      refine ⟨us, rfl, h1.mono (fun p u hp => ⟨by rw [hg]; exact hp.1, fun e2 => ?_⟩)⟩
      rw [hg] at e2
      have h4 := hp.2 e2
      by_cases e1 : p.1 = l
      · rw [e1, Hp.view_at]; trivial
      · rw [Hp.view_ne _ _ _ e1]; exact h4
  have hlv : ∀ k, ((h.set l (h.gen l) (.ice (.sl e els))).view k).live = true → k ≠ l ∧ (h.view k).live = true := by
    intro k h1
    by_cases e1 : k = l
    · subst e1; rw [Hp.view_at] at h1; simp [LB.view, VB.live] at h1
    · rw [Hp.view_ne _ _ _ e1] at h1; exact ⟨e1, h1⟩
  refine ⟨⟨fun k => ?_, fun k k' c h1 h2 h3 h4 => r.inj _ _ _ (hlv k h1).2 (hlv k' h2).2 h3 h4, fun k c h1 h2 => r.base _ _ (hlv k h1).2 h2, r.below, r.hO, fun k p hl hg => r.keep k p hl (by
    by_cases e1 : k = l
    · subst e1; rw [Hp.gen_at] at hg; exact hg
    · rw [Hp.gen_ne _ _ _ e1] at hg; exact hg)⟩, ha⟩
  by_cases e1 : k = l
  · subst e1; unfold RepB; rw [Hp.view_at]; trivial
  · have := r.blks k
    unfold RepB at this ⊢
    rw [Hp.view_ne _ _ _ e1]
    cases hk : h.view k with
    | mem row ty e' els =>
      rw [hk] at this
      simp only at this ⊢
      obtain ⟨h0, h1, h2 | ⟨c, cap, cur, h2, h3, h4, h5⟩⟩ := this
      · exact ⟨h0, h1, .inl h2⟩
      · exact ⟨h0, h1, .inr ⟨c, cap, cur, h2, h3, h4.mono (fun x u hx => ha _ _ hx), h5⟩⟩
    | dead => trivial
    | ice x => trivial
end Go.Proofs.YtcbfhpnmhhnjpaaGreat

namespace Go.Proofs.YtcbfhpnmhhnjpaaGreat
open Go.RowKit
inductive Opd where
  | t (k : Nat)
  | k (x : TV AC)
deriving Inhabited
def St.ev (σ : St) : Opd → TV AC
  | .t k => σ.slot k
  | .k x => x
inductive AOp where
  | mv (x : Opd)
  | pick (c a b : Opd)
  | mk (ty e : Nat) (els : List (List AC))
  | box (ty e : Nat) (x : Opd)
  | build (zero : List AC) (parts : List (Nat × Nat × Opd))
  | bslice (ty e : Nat) (zero : List AC) (len : Nat) (parts : List (Nat × Nat × Opd))
  | load (agg : Bool) (n : Nat) (x : Opd)
  | store (n : Nat) (p x : Opd)
  | bin (bl : Bool) (op : BinOp) (x y : Opd)
  | eqs (neg : Bool) (t : Nat) (x y : Opd)
  | not (x : Opd)
  | conv (k : IntKind) (x : Opd)
  | mkSlice (ty e bytes : Nat) (zero : List SC) (l c : Opd)
  | sub (e : Nat) (x : Opd) (lo hi : Option Opd)
  | z3 (x : Opd)
  | ssub (x : Opd) (lo hi : Option Opd)
  | fld (off : Nat) (x : Opd)
  | idx (e : Nat) (x i : Opd)
  | aidx (cnt e : Nat) (x i : Opd)
  | sidx (x i : Opd)
  | field (agg : Bool) (off n : Nat) (x : Opd)
  | ext (i : Nat) (x : Opd)
  | len (x : Opd)
  | slen (x : Opd)
  | app (ty e bytes : Nat) (s x : Opd)
  | call (f : Nat) (args : List Opd)
  | callv (f : Opd) (args : List Opd)
  | clo (f : Nat) (caps : List Opd)
  | nilc (x : Opd)
  | isnil (x : Opd)
  | mm (max : Bool) (x y : Opd)
  | b2s (x : Opd)
deriving Inhabited
def TV.cells : TV AC → Option (List AC)
  | .c x => some [x]
  | .agg xs => some xs
  | _ => none
def patch {α : Type} (l : List α) (off : Nat) (xs : List α) : List α := l.take off ++ xs ++ l.drop (off + xs.length)
def chunk {α : Type} (e : Nat) : Nat → List α → List (List α)
  | 0, _ => []
  | k + 1, l => l.take e :: chunk e k (l.drop e)
def fillA (ev : Opd → TV AC) : List AC → List (Nat × Nat × Opd) → Option (List AC)
  | z, [] => some z
  | z, (off, n, x) :: ps => match (ev x).cells with
    | some cs => if cs.length = n ∧ off + n ≤ z.length then fillA ev (patch z off cs) ps else none
    | none => none
def sh0 : AC → Option SC
  | .s x => some x
  | .zc => some (.sl 1 [])
  | _ => none
def shA (h : Hp) : AC → Option SC
  | .s x => some x
  | .zc => some (.sl 1 [])
  | .own l g => if g = h.gen l then match h.blk l with
      | .row ty e els => some (.sl e els)
      | .ice x => some x
      | _ => none
    else none
  | _ => none
def all? {α β : Type} (f : α → Option β) : List α → Option (List β)
  | [] => some []
  | x :: xs => match f x, all? f xs with
    | some y, some ys => some (y :: ys)
    | _, _ => none
def shB (h : Hp) : AC → Option SC
  | .ptr l g i off => if g = h.gen l then match h.blk l with
      | .box ty e els => match els[i]? with
        | some cs => (all? (shA h) (cs.drop off)).map SC.sptr
        | none => none
      | _ => none
    else none
  | .clo f ls => (all? (fun p => if p.2 = h.gen p.1 then match h.blk p.1 with
      | .box ty e els => match els[0]? with
        | some cs => (all? (shA h) cs).map SC.sptr
        | none => none
      | _ => none else none) ls).map (SC.fn f)
  | x => shA h x
def frz (h : Hp) : List AC → List (Nat × Nat × LB)
  | [] => []
  | .own l g :: xs => match h.blk l with
    | .row ty e els => if g = h.gen l then (l, g, .ice (.sl e els)) :: frz (h.set l g (.ice (.sl e els))) xs else frz h xs
    | _ => frz h xs
  | _ :: xs => frz h xs
def Hp.app (h : Hp) (ws : List (Nat × Nat × LB)) : Hp := ws.foldl (fun h x => h.set x.1 x.2.1 x.2.2) h
theorem Hp.app_cons (h : Hp) (x : Nat × Nat × LB) (ws : List (Nat × Nat × LB)) : h.app (x :: ws) = (h.set x.1 x.2.1 x.2.2).app ws := rfl
theorem Hp.app_append (h : Hp) (ws vs : List (Nat × Nat × LB)) : h.app (ws ++ vs) = (h.app ws).app vs := by unfold Hp.app; rw [List.foldl_append]
def binv : BinOp → Value → Value → Option (Prop × Value)
  | .add, .int k a, .int k' b => if k = k' then some (True, .int k (k.wrap (a + b))) else none
  | .sub, .int k a, .int k' b => if k = k' then some (True, .int k (k.wrap (a - b))) else none
  | .mul, .int k a, .int k' b => if k = k' then some (True, .int k (k.wrap (a * b))) else none
  | .quo, .int k a, .int k' b => if k = k' then some (b ≠ 0, .int k (k.wrap (a.tdiv b))) else none
  | .rem, .int k a, .int k' b => if k = k' then some (b ≠ 0, .int k (a.tmod b)) else none
  | .eql, .int k a, .int k' b => if k = k' then some (True, .bool (a == b)) else none
  | .neq, .int k a, .int k' b => if k = k' then some (True, .bool (a != b)) else none
  | .shr, .int k a, .int k' b => some (0 ≤ b, .int k (a.fdiv (2 ^ (min b.toNat k.bits))))
  | .shl, .int k a, .int k' b => some (0 ≤ b, .int k (k.wrap (a * 2 ^ (min b.toNat k.bits))))
  | .and, .int k a, .int k' b => if k = k' then some (True, .int k (k.wrap (BitVec.ofInt k.bits a &&& BitVec.ofInt k.bits b).toNat)) else none
  | .or, .int k a, .int k' b => if k = k' then some (True, .int k (k.wrap (BitVec.ofInt k.bits a ||| BitVec.ofInt k.bits b).toNat)) else none
  | .xor, .int k a, .int k' b => if k = k' then some (True, .int k (k.wrap (BitVec.ofInt k.bits a ^^^ BitVec.ofInt k.bits b).toNat)) else none
  | .lss, .int k a, .int k' b => if k = k' then some (True, .bool (decide (a < b))) else none
  | .leq, .int k a, .int k' b => if k = k' then some (True, .bool (decide (a ≤ b))) else none
  | .gtr, .int k a, .int k' b => if k = k' then some (True, .bool (decide (b < a))) else none
  | .geq, .int k a, .int k' b => if k = k' then some (True, .bool (decide (b ≤ a))) else none
  | .eql, .bool a, .bool b => some (True, .bool (a == b))
  | .neq, .bool a, .bool b => some (True, .bool (!(a == b)))
  | .eql, .string a, .string b => some (True, .bool (a.toList == b.toList))
  | .neq, .string a, .string b => some (True, .bool (!(a.toList == b.toList)))
  | .add, .string a, .string b => some (a.size + b.size ≤ 9223372036854775807, .string (a ++ b))
  | _, _, _ => none
def isBool : Value → Bool
  | .bool _ => true
  | _ => false
def pvs : List AC → Option (List Value)
  | [] => some []
  | .s (.pv v) :: xs => (pvs xs).map (v :: ·)
  | _ => none
def EqRun (P : Program) (t : Nat) (us vs : List Value) (r : Bool) : Prop := ∀ w, (binOp .eql t (.agg us.toArray) (.agg vs.toArray)).run P w = .ok (.bool r) w
def SC.isPv : SC → Bool
  | .pv _ => true
  | _ => false
def TV.flat : TV SC → Bool
  | .no => true
  | .c x => x.isPv
  | .agg xs => xs.all SC.isPv
  | .tup vs => vs.all fun v => v.2.all SC.isPv
def TV.lift : TV SC → TV AC
  | .no => .no
  | .c x => .c (.s x)
  | .agg xs => .agg (xs.map AC.s)
  | .tup vs => .tup (vs.map fun v => (v.1, v.2.map AC.s))
def Fresh (w w' : World) (O : Nat → Prop) (ty e : Nat) (els : List (List SC)) (v : Value) : Prop :=
  0 < e ∧ (∀ x ∈ els, x.length = e) ∧ ((els = [] ∧ ∃ A, v = .slice A 0 0) ∨
    ∃ b cap cur, v = .slice (some ⟨b, 0, none⟩) els.length cap ∧ w.heap.size ≤ b ∧ Blk w' b ty cur ∧ els.length ≤ cap ∧ cap ≤ maxLen ∧ cur.size = cap * e ∧
      RL (RepS w' (fun k => O k ∨ k = b)) els.flatten (cur.toList.take els.flatten.length))
inductive Res where
  | val (r : TV SC)
  | row (ty e : Nat) (els : List (List SC))
  | trow (ty e : Nat) (els : List (List SC)) (rest : List AC) (more : List (Bool × List AC))
def easyA : AC → Value → Prop
  | .s (.pv x), v => v = x ∧ plain x = true
  | .zc, v => ∃ A, v = .slice A 0 0
  | _, _ => False
def TFresh (w w' : World) (O : Nat → Prop) (ty e : Nat) (els : List (List SC)) (rest : List AC) (more : List (Bool × List AC)) (v : Value) : Prop :=
  ∃ u us vs, v = .tuple (.agg (u :: us).toArray :: vs).toArray ∧ Fresh w w' O ty e els u ∧ RL easyA rest us ∧ RepT easyA (.tup more) (.tuple vs.toArray)
def Told (w w' : World) (O : Nat → Prop) : Res → Value → Prop
  | .val r, v => RepT (RepS w' O) r v
  | .row ty e els, v => Fresh w w' O ty e els v
  | .trow ty e els rest more, v => TFresh w w' O ty e els rest more v
def Spec (P : Program) (f : Nat) (args : List (TV SC)) (r : Res) : Prop :=
  ∀ (w : World) (O : Nat → Prop) (us : List Value), (∀ b, O b → b < w.heap.size) → RL (RepT (RepS w O)) args us →
    Calls P f us.toArray w fun e w' => ∃ v, e = .returned v ∧ Told w w' O r v ∧ Below w.heap.size w w'
structure XR where
  row : Bool
  ty : Nat
  e : Nat
  els : List (List SC)
  arg : Option (Nat × Nat)
  els' : List (List SC)
  ret : Option (TV SC)
def HoldX (w : World) (O : Nat → Prop) (row : Bool) (ty e : Nat) (els : List (List SC)) (b cap : Nat) : Prop :=
  (∀ x ∈ els, x.length = e) ∧ ∃ cur, Blk w b ty cur ∧ RL (RepS w (fun k => O k ∨ k = b)) els.flatten (cur.toList.take els.flatten.length) ∧ (row = true → els.length ≤ cap ∧ cap ≤ maxLen ∧ cur.size = cap * e)
def Kept (b : Nat) (w w' : World) : Prop := w.heap.size ≤ w'.heap.size ∧ w'.os = w.os ∧ w'.tape = w.tape ∧ w'.output = w.output ∧ ∀ k, k < w.heap.size → k ≠ b → w'.heap[k]? = w.heap[k]?
def XR.val (X : XR) (b cap : Nat) : Value := match X.arg with
  | none => .slice (some ⟨b, 0, none⟩) X.els.length cap
  | some p => .pointer (some ⟨b, p.1 * X.e + p.2, none⟩)
def SpecX (P : Program) (f : Nat) (X : XR) (rest : List (TV SC)) : Prop := 0 < X.e ∧
  (∀ (w : World) (O : Nat → Prop) (b cap : Nat) (us : List Value), (∀ k, O k → k < w.heap.size ∧ k ≠ b) → HoldX w O X.row X.ty X.e X.els b cap → RL (RepT (RepS w (fun k => O k ∨ k = b))) rest us →
    Calls P f (X.val b cap :: us).toArray w fun ex w' => ∃ v, ex = .returned v ∧ match X.ret with
      | none => ∃ b' cap', v = .slice (some ⟨b', 0, none⟩) X.els'.length cap' ∧ HoldX w' O true X.ty X.e X.els' b' cap' ∧ (b' = b ∧ Kept b w w' ∨ w.heap.size ≤ b' ∧ Below w.heap.size w w')
      | some r => RepT (RepS w' (fun k => O k ∨ k = b)) r v ∧ HoldX w' O X.row X.ty X.e X.els' b cap ∧ X.els'.length = X.els.length ∧ Kept b w w') ∧
  (X.els = [] → X.arg = none → ∀ (w : World) (O : Nat → Prop) (A : Option Addr) (us : List Value), (∀ k, O k → k < w.heap.size) → RL (RepT (RepS w O)) rest us →
    Calls P f (.slice A 0 0 :: us).toArray w fun ex w' => ∃ v, ex = .returned v ∧ Below w.heap.size w w' ∧ match X.ret with
      | none => Fresh w w' O X.ty X.e X.els' v
      | some r => RepT (RepS w' O) r v ∧ X.els' = [])
def callable (P : Program) (f : Nat) : Bool := match P.funcs[f]? with
  | some fn => !(fn.name == "runtime.NumGoroutine") && fn.body.isSome
  | none => false
def argB (h : Hp) : TV AC → Option (TV SC)
  | .c x => (shB h x).map TV.c
  | .agg xs => (all? (shB h) xs).map TV.agg
  | _ => none
def Res.flat : Res → Bool
  | .val r => r.flat
  | _ => false
def after (h : Hp) (d : Nat) (xs : List (TV AC)) (r : Res) (K : TV AC → List (Nat × Nat × LB) → Prop) : Prop :=
  if r.flat then (match r with
    | .val r => K r.lift []
    | _ => False)
  else match all? TV.cells xs with
    | some css => (all? (shA h) css.flatten).isSome = true ∧ match r with
      | .val r => K r.lift (frz h css.flatten)
      | .row ty e els => K (.c (.own d ((h.app (frz h css.flatten)).gen d + 1))) (frz h css.flatten ++ [(d, (h.app (frz h css.flatten)).gen d + 1, .row ty e els)])
      | .trow ty e els rest more => K (.tup ((true, .own d ((h.app (frz h css.flatten)).gen d + 1) :: rest) :: more)) (frz h css.flatten ++ [(d, (h.app (frz h css.flatten)).gen d + 1, .row ty e els)])
    | none => False
def boxX (h : Hp) : TV AC → List AC
  | .c (.ptr l _ _ _) => match h.blk l with
    | .box _ _ els => els.flatten
    | _ => []
  | _ => []
def blkX (h H : Hp) (l : Nat) (X : XR) : Prop := match h.blk l with
  | .row ty e els => X.row = true ∧ ty = X.ty ∧ e = X.e ∧ els = X.els ∧ H.blk l = .row ty e els
  | .box ty e els => X.row = false ∧ ty = X.ty ∧ e = X.e ∧ all? (all? (shA h)) els = some X.els ∧ H.blk l = .box ty e els
  | _ => False
def XR.lb (X : XR) : LB := bif X.row then .row X.ty X.e X.els' else .box X.ty X.e (X.els'.map (List.map AC.s))
def retX (X : XR) (l g : Nat) (ws : List (Nat × Nat × LB)) (K : TV AC → List (Nat × Nat × LB) → Prop) : Prop := match X.ret with
  | none => X.arg = none ∧ K (.c (.own l (g + 1))) (ws ++ [(l, g + 1, X.lb)])
  | some r => K r.lift (ws ++ [(l, g, X.lb)])
def afterX (h : Hp) (x0 : TV AC) (xs : List (TV AC)) (X : XR) (K : TV AC → List (Nat × Nat × LB) → Prop) : Prop :=
  match all? TV.cells xs with
  | some css => (all? (shA h) (css.flatten ++ boxX h x0)).isSome = true ∧ match x0 with
    | .c (.own l g) => X.arg = none ∧ X.row = true ∧ g = (h.app (frz h (css.flatten ++ boxX h x0))).gen l ∧ blkX h (h.app (frz h (css.flatten ++ boxX h x0))) l X ∧ retX X l g (frz h (css.flatten ++ boxX h x0)) K
    | .c (.ptr l g i off) => X.arg = some (i, off) ∧ g = (h.app (frz h (css.flatten ++ boxX h x0))).gen l ∧ blkX h (h.app (frz h (css.flatten ++ boxX h x0))) l X ∧ retX X l g (frz h (css.flatten ++ boxX h x0)) K
    | _ => False
  | none => False
def CallX0 (P : Program) (f : Nat) (h : Hp) (xs : List (TV AC)) (K : TV AC → List (Nat × Nat × LB) → Prop) : Prop := match xs with
  | [] => False
  | x0 :: xr => match all? (argB h) xr with
    | some as => ∃ X, SpecX P f X as ∧ afterX h x0 xr X K
    | none => False
def isRow (l g : Nat) : AC → Bool
  | .own l' g' => (l' == l) && (g' == g)
  | _ => false
def rawC (h : Hp) (l g : Nat) (v : Value) (x : AC) : Option SC := bif isRow l g x then some (.pv v) else shA h x
def rawT (h : Hp) (l g : Nat) (v : Value) : TV AC → Option (TV SC)
  | .c x => (rawC h l g v x).map TV.c
  | .agg xs => (all? (rawC h l g v) xs).map TV.agg
  | _ => none
def AC.isS : AC → Bool
  | .s _ => true
  | _ => false
def LB.isRow : LB → Bool
  | .row _ _ _ => true
  | _ => false
def lowC (v : Value) : AC → SC
  | .s z => z
  | _ => .pv v
def lowT (v : Value) : TV AC → TV SC
  | .no => .no
  | .c x => .c (lowC v x)
  | .agg xs => .agg (xs.map (lowC v))
  | .tup vs => .tup (vs.map fun p => (p.1, p.2.map (lowC v)))
def okCR (l g : Nat) (x : AC) : Bool := x.isS || isRow l g x
def okR (l g : Nat) : TV AC → Bool
  | .no => true
  | .c x => okCR l g x
  | .agg xs => xs.all (okCR l g)
  | .tup vs => vs.all fun p => p.2.all (okCR l g)
def restR (l g : Nat) (css : List (List AC)) : List AC := css.flatten.filter fun x => !isRow l g x
def CallR (P : Program) (f : Nat) (h : Hp) (xs : List (TV AC)) (K : TV AC → List (Nat × Nat × LB) → Prop) : Prop := ∃ (l g : Nat) (rv : TV AC),
  (h.blk l).isRow = true ∧ g = h.gen l ∧ okR l g rv = true ∧ match all? TV.cells xs with
    | some css => (all? (shA h) (restR l g css)).isSome = true ∧ ((frz h (restR l g css)).all fun p => !(p.1 == l)) = true ∧
        (∀ v : Value, plain v = true → ∃ as, all? (rawT h l g v) xs = some as ∧ Spec P f as (.val (lowT v rv))) ∧ K rv (frz h (restR l g css))
    | none => False
structure WR where
  ty : Nat
  pre : List SC
  post : List SC
  rty : Nat
  re : Nat
  xs : List (List SC)
  pre' : List SC
  post' : List SC
  xs' : List (List SC)
  ret : TV SC
def HoldW (w : World) (O : Nat → Prop) (ty : Nat) (pre post : List SC) (b : Nat) (sv : Value) : Prop :=
  ∃ cur us vs, Blk w b ty cur ∧ cur.toList.take (pre.length + 1 + post.length) = us ++ sv :: vs ∧ RL (RepS w O) pre us ∧ RL (RepS w O) post vs
def HoldR (w : World) (O : Nat → Prop) (ty e : Nat) (xs : List (List SC)) (bo : Option Nat) (sv : Value) : Prop :=
  0 < e ∧ (∀ x ∈ xs, x.length = e) ∧ ((xs = [] ∧ bo = none ∧ ∃ A, sv = .slice A 0 0) ∨
    ∃ b cap cur, bo = some b ∧ sv = .slice (some ⟨b, 0, none⟩) xs.length cap ∧ Blk w b ty cur ∧ RL (RepS w O) xs.flatten (cur.toList.take xs.flatten.length) ∧ xs.length ≤ cap ∧ cap ≤ maxLen ∧ cur.size = cap * e)
def Kept2 (b : Nat) (bo bo' : Option Nat) (w w' : World) : Prop := w.heap.size ≤ w'.heap.size ∧ w'.os = w.os ∧ w'.tape = w.tape ∧ w'.output = w.output ∧
  (∀ k, k < w.heap.size → k ≠ b → bo ≠ some k → w'.heap[k]? = w.heap[k]?) ∧ ∀ k, bo' = some k → (bo = some k ∨ w.heap.size ≤ k) ∧ k ≠ b
def SpecW (P : Program) (f : Nat) (X : WR) (rest : List (TV SC)) : Prop := ∀ (w : World) (O : Nat → Prop) (b : Nat) (bo : Option Nat) (sv : Value) (us : List Value),
  (∀ k, O k → k < w.heap.size ∧ k ≠ b ∧ bo ≠ some k) → bo ≠ some b → HoldW w (fun k => O k ∨ k = b ∨ bo = some k) X.ty X.pre X.post b sv → HoldR w (fun k => O k ∨ k = b ∨ bo = some k) X.rty X.re X.xs bo sv →
  RL (RepT (RepS w (fun k => O k ∨ k = b ∨ bo = some k))) rest us →
  Calls P f (.pointer (some ⟨b, 0, none⟩) :: us).toArray w fun ex w' => ∃ v bo' sv', ex = .returned v ∧ RepT (RepS w' (fun k => O k ∨ k = b ∨ bo' = some k)) X.ret v ∧
    HoldW w' (fun k => O k ∨ k = b ∨ bo' = some k) X.ty X.pre' X.post' b sv' ∧ HoldR w' (fun k => O k ∨ k = b ∨ bo' = some k) X.rty X.re X.xs' bo' sv' ∧ Kept2 b bo bo' w w'
def sOf : AC → Option SC
  | .s x => some x
  | _ => none
def argS : TV AC → Option (TV SC)
  | .c x => (sOf x).map TV.c
  | .agg xs => (all? sOf xs).map TV.agg
  | _ => none
def WCell (b : LB) (X : WR) (r gr : Nat) (x : AC) : Prop := (x = .own r gr ∧ b = .row X.rty X.re X.xs) ∨ (x = .zc ∧ X.xs = [] ∧ 0 < X.re ∧ b ≠ .dead)
def CallW (P : Program) (f : Nat) (h : Hp) (xs : List (TV AC)) (K : TV AC → List (Nat × Nat × LB) → Prop) : Prop := match xs with
  | .c (.ptr l g i off) :: xr => match all? argS xr with
    | some as => ∃ (X : WR) (r gr : Nat) (x : AC), SpecW P f X as ∧ i = 0 ∧ off = 0 ∧ g = h.gen l ∧ gr = h.gen r ∧ r ≠ l ∧ h.blk l = .box X.ty (X.pre.length + 1 + X.post.length) [X.pre.map AC.s ++ x :: X.post.map AC.s] ∧ WCell (h.blk r) X r gr x ∧
        X.pre'.length = X.pre.length ∧ X.post'.length = X.post.length ∧ K X.ret.lift [(r, gr + 1, .row X.rty X.re X.xs'), (l, g, .box X.ty (X.pre.length + 1 + X.post.length) [X.pre'.map AC.s ++ .own r (gr + 1) :: X.post'.map AC.s])]
    | none => False
  | _ => False
def CallX (P : Program) (f : Nat) (h : Hp) (xs : List (TV AC)) (K : TV AC → List (Nat × Nat × LB) → Prop) : Prop := CallX0 P f h xs K ∨ CallR P f h xs K ∨ CallW P f h xs K
def sliceOf (e : Nat) (h : Hp) : TV AC → Option (List (List SC) × List (Nat × Nat × LB))
  | .c .zc => some ([], [])
  | .c (.s (.sl e' els)) => if e' = e then some (els, []) else none
  | .c (.s (.tag _ (.sl e' els))) => if e' = e then some (els, []) else none
  | .c (.own l g) => if g = h.gen l then match h.blk l with
      | .row ty e' els => if e' = e then some (els, [(l, g, .ice (.sl e els))]) else none
      | .ice (.sl e' els) => if e' = e then some (els, []) else none
      | _ => none
    else none
  | _ => none
def lenOf (h : Hp) : TV AC → Option Nat
  | .c .zc => some 0
  | .c (.s (.sl e els)) => some els.length
  | .c (.s (.tag _ (.sl e els))) => some els.length
  | .c (.own l g) => if g = h.gen l then match h.blk l with
      | .row ty e els => some els.length
      | .ice (.sl e els) => some els.length
      | _ => none
    else none
  | _ => none
def bnd (ev : Opd → TV AC) (dflt : Nat) : Option Opd → Option Int
  | none => some dflt
  | some x => match ev x with
    | .c (.s (.pv (.int k n))) => some n
    | _ => none
def whole : TV AC → Option (Nat × Nat)
  | .c (.ptr l g 0 0) => some (l, g)
  | _ => none
def rd (h : Hp) (x : TV AC) (n : Nat) (K : List AC → Prop) : Prop :=
  match x with
  | .c (.s (.sptr cs)) => n ≤ cs.length ∧ K ((cs.take n).map AC.s)
  | .c (.ptr l g i off) => g = h.gen l ∧ match h.blk l with
    | .box ty e els => ∃ hi : i < els.length, off + n ≤ e ∧ K ((els[i].drop off).take n)
    | .row ty e els => ∃ hi : i < els.length, off + n ≤ e ∧ K (((els[i].drop off).take n).map AC.s)
    | _ => False
  | _ => False
def numsOf : List (List SC) → Option (List Int)
  | [] => some []
  | [.pv (.int .u8 n)] :: xs => (numsOf xs).map (n :: ·)
  | _ => none
def aeff (P : Program) (o : AOp) (d : Nat) (ev : Opd → TV AC) (h : Hp) (K : TV AC → List (Nat × Nat × LB) → Prop) : Prop :=
  match o with
  | .mv x => K (ev x) []
  | .pick c a b => match ev c with
    | .c (.s (.pv (.bool t))) => K (bif t then ev a else ev b) []
    | _ => False
  | .mk ty e els => K (.c (.ptr d (h.gen d + 1) 0 0)) [(d, h.gen d + 1, .box ty e els)]
  | .box ty e x => match (ev x).cells with
    | some cs => cs.length = e ∧ K (.c (.ptr d (h.gen d + 1) 0 0)) [(d, h.gen d + 1, .box ty e [cs])]
    | none => False
  | .build zero parts => match fillA ev zero parts with
    | some cs => K (.agg cs) []
    | none => False
  | .bslice ty e zero len parts => match fillA ev (List.replicate len zero).flatten parts with
    | some cs => match all? (shA h) cs with
      | some ss => K (.c (.own d ((h.app (frz h cs)).gen d + 1))) (frz h cs ++ [(d, (h.app (frz h cs)).gen d + 1, .row ty e (chunk e len ss))])
      | none => False
    | none => False
  | .load agg n x => rd h (ev x) n fun cs => if agg then K (.agg cs) [] else match cs with
    | [c] => K (.c c) []
    | _ => False
  | .store n p x => match ev p, (ev x).cells with
    | .c (.ptr l g i off), some cs => cs.length = n ∧ g = h.gen l ∧ match h.blk l with
      | .box ty e els => ∃ hi : i < els.length, off + n ≤ e ∧ K .no [(l, g, .box ty e (els.set i (patch els[i] off cs)))]
      | .row ty e els => match all? (shA h) cs with
        | some ss => ∃ hi : i < els.length, off + n ≤ e ∧ ((frz h cs).all fun p => !(p.1 == l)) = true ∧ K .no (frz h cs ++ [(l, g, .row ty e (els.set i (patch els[i] off ss)))])
        | none => False
      | _ => False
    | _, _ => False
  | .bin bl op x y => match ev x, ev y with
    | .c (.s (.pv u)), .c (.s (.pv v)) => match binv op u v with
      | some (c, r) => isBool u = bl ∧ c ∧ K (.c (.s (.pv r))) []
      | none => False
    | _, _ => False
  | .eqs neg t x y => match ev x, ev y with
    | .agg xs, .agg ys => match pvs xs, pvs ys with
      | some us, some vs => ∃ r, EqRun P t us vs r ∧ K (.c (.s (.pv (.bool (neg ^^ r))))) []
      | _, _ => False
    | _, _ => False
  | .not x => match ev x with
    | .c (.s (.pv (.bool t))) => K (.c (.s (.pv (.bool !t)))) []
    | _ => False
  | .conv k x => match ev x with
    | .c (.s (.pv (.int k' n))) => K (.c (.s (.pv (.int k (k.wrap n))))) []
    | _ => False
  | .mkSlice ty e bytes zero l c => match ev l, ev c with
    | .c (.s (.pv (.int kl n))), .c (.s (.pv (.int kc m))) => 0 ≤ n ∧ n ≤ m ∧ (bytes : Int) * m ≤ 140737488355328 ∧ m ≤ 9223372036854775807 ∧
        K (.c (.own d (h.gen d + 1))) [(d, h.gen d + 1, .row ty e (List.replicate n.toNat zero))]
    | _, _ => False
  | .sub e x lo hi => match sliceOf e h (ev x), lenOf h (ev x) with
    | some (els, ws), some n => match bnd ev 0 lo, bnd ev n hi with
      | some l, some m => 0 ≤ l ∧ l ≤ m ∧ m ≤ n ∧ K (.c (.s (.sl e ((els.take m.toNat).drop l.toNat)))) ws
      | _, _ => False
    | _, _ => False
  | .z3 x => match lenOf h (ev x) with
    | some _ => K (.c .zc) []
    | none => False
  | .ssub x lo hi => match ev x with
    | .c (.s (.pv (.string s))) => match bnd ev 0 lo, bnd ev s.size hi with
      | some l, some m => 0 ≤ l ∧ l ≤ m ∧ m ≤ s.size ∧ K (.c (.s (.pv (.string (s.extract l.toNat m.toNat))))) []
      | _, _ => False
    | _ => False
  | .fld off x => match ev x with
    | .c (.s (.sptr cs)) => off ≤ cs.length ∧ K (.c (.s (.sptr (cs.drop off)))) []
    | .c (.ptr l g i o) => g = h.gen l ∧ (h.view l).live = true ∧ K (.c (.ptr l g i (o + off))) []
    | _ => False
  | .idx e x i => match ev i with
    | .c (.s (.pv (.int k n))) => match ev x with
      | .c (.s (.sl e' els)) => e' = e ∧ 0 ≤ n ∧ ∃ hn : n.toNat < els.length, K (.c (.s (.sptr els[n.toNat]))) []
      | .c (.own l g) => g = h.gen l ∧ match h.blk l with
        | .row ty e' els => e' = e ∧ 0 ≤ n ∧ n.toNat < els.length ∧ K (.c (.ptr l g n.toNat 0)) []
        | .ice (.sl e' els) => e' = e ∧ 0 ≤ n ∧ ∃ hn : n.toNat < els.length, K (.c (.s (.sptr els[n.toNat]))) []
        | _ => False
      | _ => False
    | _ => False
  | .aidx cnt e x i => match ev i with
    | .c (.s (.pv (.int k n))) => 0 ≤ n ∧ n < cnt ∧ match ev x with
      | .c (.s (.sptr cs)) => n.toNat * e ≤ cs.length ∧ K (.c (.s (.sptr (cs.drop (n.toNat * e))))) []
      | .c (.ptr l g i0 off) => g = h.gen l ∧ match h.view l with
        | .mem _ _ e' _ => if e' = e ∧ off = 0 then K (.c (.ptr l g (i0 + n.toNat) 0)) [] else K (.c (.ptr l g i0 (off + n.toNat * e))) []
        | _ => False
      | _ => False
    | _ => False
  | .sidx x i => match ev x, ev i with
    | .c (.s (.pv (.string s))), .c (.s (.pv (.int k n))) => 0 ≤ n ∧ ∃ hn : n.toNat < s.size, K (.c (.s (.pv (.int .u8 (s[n.toNat].toNat : Int))))) []
    | _, _ => False
  | .field agg off n x => match ev x with
    | .agg cs => off + n ≤ cs.length ∧ if agg then K (.agg ((cs.drop off).take n)) [] else match cs[off]? with
      | some c => K (.c c) []
      | none => False
    | _ => False
  | .ext i x => match ev x with
    | .tup vs => match vs[i]? with
      | some (true, cs) => K (.agg cs) []
      | some (false, [c]) => K (.c c) []
      | _ => False
    | _ => False
  | .len x => match lenOf h (ev x) with
    | some n => K (.c (.s (.pv (.int .i64 n)))) []
    | none => False
  | .slen x => match ev x with
    | .c (.s (.pv (.string s))) => K (.c (.s (.pv (.int .i64 s.size)))) []
    | _ => False
  | .app ty e bytes s x => match sliceOf e h (ev x), lenOf h (ev x) with
    | some (news, _), some m => match ev s with
      | .c .zc => (m : Int) * bytes ≤ 140737488355328 ∧ (m : Int) ≤ 9223372036854775807 ∧ K (.c (.own d (h.gen d + 1))) [(d, h.gen d + 1, .row ty e news)]
      | .c (.own l g) => g = h.gen l ∧ match h.blk l with
        | .row ty' e' els => ty' = ty ∧ e' = e ∧ ((els.length + m : Nat) : Int) * bytes ≤ 140737488355328 ∧ ((els.length + m : Nat) : Int) ≤ 9223372036854775807 ∧
            K (.c (.own l (g + 1))) [(l, g + 1, .row ty e (els ++ news))]
        | _ => False
      | _ => False
    | _, _ => False
  | .call f args => match all? (argB h) (args.map ev) with
    | some as => (∃ r, Spec P f as r ∧ after h d (args.map ev) r K) ∨ CallX P f h (args.map ev) K
    | none => CallX P f h (args.map ev) K
  | .callv f args => match ev f, all? (argB h) (args.map ev) with
    | .c (.s (.fn g caps)), some as => callable P g = true ∧ ∃ r, Spec P g (as ++ caps.map TV.c) r ∧ after h d (args.map ev) r K
    | _, _ => False
  | .clo f caps => match all? (fun x => whole (ev x)) caps with
    | some [] => K (.c (.s (.fn f []))) []
    | some ls => K (.c (.clo f ls)) []
    | none => False
  | .nilc x => match ev x with
    | .c (.s (.sptr cs)) => K (ev x) []
    | .c (.s (.fn f caps)) => K (ev x) []
    | .c (.clo f ls) => K (ev x) []
    | .c (.ptr l g i o) => g = h.gen l ∧ (h.view l).live = true ∧ K (ev x) []
    | _ => False
  | .b2s x => match sliceOf 1 h (ev x) with
    | some (els, _) => match numsOf els with
      | some ns => K (.c (.s (.pv (.string (strOfNums ns))))) []
      | none => False
    | none => False
  | .isnil x => match ev x with
    | .c (.s (.tag b (.sl _ _))) => K (.c (.s (.pv (.bool b)))) []
    | _ => False
  | .mm mx x y => match ev x, ev y with
    | .c (.s (.pv (.int k a))), .c (.s (.pv (.int k' b))) => K (.c (.s (.pv (.int k (if mx then max a b else min a b))))) []
    | _, _ => False
end Go.Proofs.YtcbfhpnmhhnjpaaGreat

