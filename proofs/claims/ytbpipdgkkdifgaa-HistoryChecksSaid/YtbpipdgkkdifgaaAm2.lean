/- AN ABSTRACT MACHINE over the model, two: its operations. No condition. -/
import Derived.Test.YtbpipdgkkdifgaaAm1
import Derived.Laws.MakeOwn
import Derived.Laws.BytesArg
namespace Go.Proofs.Ytbpipdgkkdifgaa
open Go.RowKit
set_option linter.unusedVariables false

inductive Opd where
  | t (k : Nat)
  | k (x : TV AC)
deriving Inhabited
def St.ev (σ : St) : Opd → TV AC
  | .t k => σ.slot k
  | .k x => x

inductive AOp where
  | mv (x : Opd)
  | pick (c a b : Opd)
  | mk (ty e : Nat) (els : List (List AC))
  | box (ty e : Nat) (x : Opd)
  | build (zero : List AC) (parts : List (Nat × Nat × Opd))
  | bslice (ty e : Nat) (zero : List AC) (len : Nat) (parts : List (Nat × Nat × Opd))
  | load (agg : Bool) (n : Nat) (x : Opd)
  | store (n : Nat) (p x : Opd)
  | bin (bl : Bool) (op : BinOp) (x y : Opd)
  | eqs (neg : Bool) (t : Nat) (x y : Opd)
  | not (x : Opd)
  | conv (k : IntKind) (x : Opd)
  | mkSlice (ty e bytes : Nat) (zero : List SC) (l c : Opd)
  | sub (e : Nat) (x : Opd) (lo hi : Option Opd)
  | z3 (x : Opd)
  | ssub (x : Opd) (lo hi : Option Opd)
  | fld (off : Nat) (x : Opd)
  | idx (e : Nat) (x i : Opd)
  | aidx (cnt e : Nat) (x i : Opd)
  | sidx (x i : Opd)
  | field (agg : Bool) (off n : Nat) (x : Opd)
  | ext (i : Nat) (x : Opd)
  | len (x : Opd)
  | slen (x : Opd)
  | app (ty e bytes : Nat) (s x : Opd)
  | call (f : Nat) (args : List Opd)
  | callv (f : Opd) (args : List Opd)
  | clo (f : Nat) (caps : List Opd)
  | nilc (x : Opd)
  | isnil (x : Opd)
  | mm (max : Bool) (x y : Opd)
  | b2s (x : Opd)
deriving Inhabited

def TV.cells : TV AC → Option (List AC)
  | .c x => some [x]
  | .agg xs => some xs
  | _ => none
/-- these cells, laid over a row from there on -/
def patch {α : Type} (l : List α) (off : Nat) (xs : List α) : List α := l.take off ++ xs ++ l.drop (off + xs.length)
/-- cut into so many rows of so many -/
def chunk {α : Type} (e : Nat) : Nat → List α → List (List α)
  | 0, _ => []
  | k + 1, l => l.take e :: chunk e k (l.drop e)
def fillA (ev : Opd → TV AC) : List AC → List (Nat × Nat × Opd) → Option (List AC)
  | z, [] => some z
  | z, (off, n, x) :: ps => match (ev x).cells with
    | some cs => if cs.length = n ∧ off + n ≤ z.length then fillA ev (patch z off cs) ps else none
    | none => none
/-- what a cell is to others: as long as it holds nothing of the call's own that may still be written -/
def sh0 : AC → Option SC
  | .s x => some x
  | .zc => some (.sl 1 [])
  | _ => none
def shA (h : Hp) : AC → Option SC
  | .s x => some x
  | .zc => some (.sl 1 [])
  | .own l g => if g = h.gen l then match h.blk l with
      | .row ty e els => some (.sl e els)
      | .ice x => some x
      | _ => none
    else none
  | _ => none
def all? {α β : Type} (f : α → Option β) : List α → Option (List β)
  | [] => some []
  | x :: xs => match f x, all? f xs with
    | some y, some ys => some (y :: ys)
    | _, _ => none
/-- what a call may look at while it runs: the call's own variables too -/
def shB (h : Hp) : AC → Option SC
  | .ptr l g i off => if g = h.gen l then match h.blk l with
      | .box ty e els => match els[i]? with
        | some cs => (all? (shA h) (cs.drop off)).map SC.sptr
        | none => none
      | _ => none
    else none
  | .clo f ls => (all? (fun p => if p.2 = h.gen p.1 then match h.blk p.1 with
      | .box ty e els => match els[0]? with
        | some cs => (all? (shA h) cs).map SC.sptr
        | none => none
      | _ => none else none) ls).map (SC.fn f)
  | x => shA h x
/-- rows that are handed on -/
def frz (h : Hp) : List AC → List (Nat × Nat × LB)
  | [] => []
  | .own l g :: xs => match h.blk l with
    | .row ty e els => if g = h.gen l then (l, g, .ice (.sl e els)) :: frz (h.set l g (.ice (.sl e els))) xs else frz h xs
    | _ => frz h xs
  | _ :: xs => frz h xs
def Hp.app (h : Hp) (ws : List (Nat × Nat × LB)) : Hp := ws.foldl (fun h x => h.set x.1 x.2.1 x.2.2) h
theorem Hp.app_nil (h : Hp) : h.app [] = h := rfl
theorem Hp.app_cons (h : Hp) (x : Nat × Nat × LB) (ws : List (Nat × Nat × LB)) : h.app (x :: ws) = (h.set x.1 x.2.1 x.2.2).app ws := rfl
theorem Hp.app_append (h : Hp) (ws vs : List (Nat × Nat × LB)) : h.app (ws ++ vs) = (h.app ws).app vs := by unfold Hp.app; rw [List.foldl_append]

def binv : BinOp → Value → Value → Option (Prop × Value)
  | .add, .int k a, .int k' b => if k = k' then some (True, .int k (k.wrap (a + b))) else none
  | .sub, .int k a, .int k' b => if k = k' then some (True, .int k (k.wrap (a - b))) else none
  | .mul, .int k a, .int k' b => if k = k' then some (True, .int k (k.wrap (a * b))) else none
  | .quo, .int k a, .int k' b => if k = k' then some (b ≠ 0, .int k (k.wrap (a.tdiv b))) else none
  | .rem, .int k a, .int k' b => if k = k' then some (b ≠ 0, .int k (a.tmod b)) else none
  | .eql, .int k a, .int k' b => if k = k' then some (True, .bool (a == b)) else none
  | .neq, .int k a, .int k' b => if k = k' then some (True, .bool (a != b)) else none
  | .shr, .int k a, .int k' b => some (0 ≤ b, .int k (a.fdiv (2 ^ (min b.toNat k.bits))))
  | .shl, .int k a, .int k' b => some (0 ≤ b, .int k (k.wrap (a * 2 ^ (min b.toNat k.bits))))
  | .and, .int k a, .int k' b => if k = k' then some (True, .int k (k.wrap (BitVec.ofInt k.bits a &&& BitVec.ofInt k.bits b).toNat)) else none
  | .or, .int k a, .int k' b => if k = k' then some (True, .int k (k.wrap (BitVec.ofInt k.bits a ||| BitVec.ofInt k.bits b).toNat)) else none
  | .xor, .int k a, .int k' b => if k = k' then some (True, .int k (k.wrap (BitVec.ofInt k.bits a ^^^ BitVec.ofInt k.bits b).toNat)) else none
  | .lss, .int k a, .int k' b => if k = k' then some (True, .bool (decide (a < b))) else none
  | .leq, .int k a, .int k' b => if k = k' then some (True, .bool (decide (a ≤ b))) else none
  | .gtr, .int k a, .int k' b => if k = k' then some (True, .bool (decide (b < a))) else none
  | .geq, .int k a, .int k' b => if k = k' then some (True, .bool (decide (b ≤ a))) else none
  | .eql, .bool a, .bool b => some (True, .bool (a == b))
  | .neq, .bool a, .bool b => some (True, .bool (!(a == b)))
  | .eql, .string a, .string b => some (True, .bool (a.toList == b.toList))
  | .neq, .string a, .string b => some (True, .bool (!(a.toList == b.toList)))
  | .add, .string a, .string b => some (a.size + b.size ≤ 9223372036854775807, .string (a ++ b))
  | _, _, _ => none

def isBool : Value → Bool
  | .bool _ => true
  | _ => false
def pvs : List AC → Option (List Value)
  | [] => some []
  | .s (.pv v) :: xs => (pvs xs).map (v :: ·)
  | _ => none
/-- two structs of plain values, compared -/
def EqRun (P : Program) (t : Nat) (us vs : List Value) (r : Bool) : Prop := ∀ w, (binOp .eql t (.agg us.toArray) (.agg vs.toArray)).run P w = .ok (.bool r) w

def SC.isPv : SC → Bool
  | .pv _ => true
  | _ => false
def TV.flat : TV SC → Bool
  | .no => true
  | .c x => x.isPv
  | .agg xs => xs.all SC.isPv
  | .tup vs => vs.all fun v => v.2.all SC.isPv
def TV.lift : TV SC → TV AC
  | .no => .no
  | .c x => .c (.s x)
  | .agg xs => .agg (xs.map AC.s)
  | .tup vs => .tup (vs.map fun v => (v.1, v.2.map AC.s))

/-- a row of its own that a call gives back -/
def Fresh (w w' : World) (O : Nat → Prop) (ty e : Nat) (els : List (List SC)) (v : Value) : Prop :=
  0 < e ∧ (∀ x ∈ els, x.length = e) ∧ ((els = [] ∧ ∃ A, v = .slice A 0 0) ∨
    ∃ b cap cur, v = .slice (some ⟨b, 0, none⟩) els.length cap ∧ w.heap.size ≤ b ∧ Blk w' b ty cur ∧ els.length ≤ cap ∧ cap ≤ maxLen ∧ cur.size = cap * e ∧
      RL (RepS w' (fun k => O k ∨ k = b)) els.flatten (cur.toList.take els.flatten.length))
/-- what a call tells: a value; a row of its own -/
inductive Res where
  | val (r : TV SC)
  | row (ty e : Nat) (els : List (List SC))
  | trow (ty e : Nat) (els : List (List SC)) (rest : List AC) (more : List (Bool × List AC))
/-- a plain value, or a slice of nothing -/
def easyA : AC → Value → Prop
  | .s (.pv x), v => v = x ∧ plain x = true
  | .zc, v => ∃ A, v = .slice A 0 0
  | _, _ => False
/-- several values, the first one a struct that begins with a row of the caller's own from now on -/
def TFresh (w w' : World) (O : Nat → Prop) (ty e : Nat) (els : List (List SC)) (rest : List AC) (more : List (Bool × List AC)) (v : Value) : Prop :=
  ∃ u us vs, v = .tuple (.agg (u :: us).toArray :: vs).toArray ∧ Fresh w w' O ty e els u ∧ RL easyA rest us ∧ RepT easyA (.tup more) (.tuple vs.toArray)
def Told (w w' : World) (O : Nat → Prop) : Res → Value → Prop
  | .val r, v => RepT (RepS w' O) r v
  | .row ty e els, v => Fresh w w' O ty e els v
  | .trow ty e els rest more, v => TFresh w w' O ty e els rest more v
/-- a function's contract: at these arguments it tells that -/
def Spec (P : Program) (f : Nat) (args : List (TV SC)) (r : Res) : Prop :=
  ∀ (w : World) (O : Nat → Prop) (us : List Value), (∀ b, O b → b < w.heap.size) → RL (RepT (RepS w O)) args us →
    Calls P f us.toArray w fun e w' => ∃ v, e = .returned v ∧ Told w w' O r v ∧ Below w.heap.size w w'

/-- what a call does to a block of the caller's own: to a row that it is handed (arg none), or at a place that it is handed -/
structure XR where
  row : Bool
  ty : Nat
  e : Nat
  els : List (List SC)
  arg : Option (Nat × Nat)
  els' : List (List SC)
  ret : Option (TV SC)
def HoldX (w : World) (O : Nat → Prop) (row : Bool) (ty e : Nat) (els : List (List SC)) (b cap : Nat) : Prop :=
  (∀ x ∈ els, x.length = e) ∧ ∃ cur, Blk w b ty cur ∧ RL (RepS w (fun k => O k ∨ k = b)) els.flatten (cur.toList.take els.flatten.length) ∧ (row = true → els.length ≤ cap ∧ cap ≤ maxLen ∧ cur.size = cap * e)
def Kept (b : Nat) (w w' : World) : Prop := w.heap.size ≤ w'.heap.size ∧ w'.os = w.os ∧ w'.tape = w.tape ∧ w'.output = w.output ∧ ∀ k, k < w.heap.size → k ≠ b → w'.heap[k]? = w.heap[k]?
def XR.val (X : XR) (b cap : Nat) : Value := match X.arg with
  | none => .slice (some ⟨b, 0, none⟩) X.els.length cap
  | some p => .pointer (some ⟨b, p.1 * X.e + p.2, none⟩)
def SpecX (P : Program) (f : Nat) (X : XR) (rest : List (TV SC)) : Prop := 0 < X.e ∧
  (∀ (w : World) (O : Nat → Prop) (b cap : Nat) (us : List Value), (∀ k, O k → k < w.heap.size ∧ k ≠ b) → HoldX w O X.row X.ty X.e X.els b cap → RL (RepT (RepS w (fun k => O k ∨ k = b))) rest us →
    Calls P f (X.val b cap :: us).toArray w fun ex w' => ∃ v, ex = .returned v ∧ match X.ret with
      | none => ∃ b' cap', v = .slice (some ⟨b', 0, none⟩) X.els'.length cap' ∧ HoldX w' O true X.ty X.e X.els' b' cap' ∧ (b' = b ∧ Kept b w w' ∨ w.heap.size ≤ b' ∧ Below w.heap.size w w')
      | some r => RepT (RepS w' (fun k => O k ∨ k = b)) r v ∧ HoldX w' O X.row X.ty X.e X.els' b cap ∧ X.els'.length = X.els.length ∧ Kept b w w') ∧
  (X.els = [] → X.arg = none → ∀ (w : World) (O : Nat → Prop) (A : Option Addr) (us : List Value), (∀ k, O k → k < w.heap.size) → RL (RepT (RepS w O)) rest us →
    Calls P f (.slice A 0 0 :: us).toArray w fun ex w' => ∃ v, ex = .returned v ∧ Below w.heap.size w w' ∧ match X.ret with
      | none => Fresh w w' O X.ty X.e X.els' v
      | some r => RepT (RepS w' O) r v ∧ X.els' = [])
/-- a function of the program's own, that can be called -/
def callable (P : Program) (f : Nat) : Bool := match P.funcs[f]? with
  | some fn => !(fn.name == "runtime.NumGoroutine") && fn.body.isSome
  | none => false
def argB (h : Hp) : TV AC → Option (TV SC)
  | .c x => (shB h x).map TV.c
  | .agg xs => (all? (shB h) xs).map TV.agg
  | _ => none
def Res.flat : Res → Bool
  | .val r => r.flat
  | _ => false
/-- what is behind a call -/
def after (h : Hp) (d : Nat) (xs : List (TV AC)) (r : Res) (K : TV AC → List (Nat × Nat × LB) → Prop) : Prop :=
  if r.flat then (match r with
    | .val r => K r.lift []
    | _ => False)
  else match all? TV.cells xs with
    | some css => (all? (shA h) css.flatten).isSome = true ∧ match r with
      | .val r => K r.lift (frz h css.flatten)
      | .row ty e els => K (.c (.own d ((h.app (frz h css.flatten)).gen d + 1))) (frz h css.flatten ++ [(d, (h.app (frz h css.flatten)).gen d + 1, .row ty e els)])
      | .trow ty e els rest more => K (.tup ((true, .own d ((h.app (frz h css.flatten)).gen d + 1) :: rest) :: more)) (frz h css.flatten ++ [(d, (h.app (frz h css.flatten)).gen d + 1, .row ty e els)])
    | none => False

def boxX (h : Hp) : TV AC → List AC
  | .c (.ptr l _ _ _) => match h.blk l with
    | .box _ _ els => els.flatten
    | _ => []
  | _ => []
def blkX (h H : Hp) (l : Nat) (X : XR) : Prop := match h.blk l with
  | .row ty e els => X.row = true ∧ ty = X.ty ∧ e = X.e ∧ els = X.els ∧ H.blk l = .row ty e els
  | .box ty e els => X.row = false ∧ ty = X.ty ∧ e = X.e ∧ all? (all? (shA h)) els = some X.els ∧ H.blk l = .box ty e els
  | _ => False
def XR.lb (X : XR) : LB := bif X.row then .row X.ty X.e X.els' else .box X.ty X.e (X.els'.map (List.map AC.s))
def retX (X : XR) (l g : Nat) (ws : List (Nat × Nat × LB)) (K : TV AC → List (Nat × Nat × LB) → Prop) : Prop := match X.ret with
  | none => X.arg = none ∧ K (.c (.own l (g + 1))) (ws ++ [(l, g + 1, X.lb)])
  | some r => K r.lift (ws ++ [(l, g, X.lb)])
def afterX (h : Hp) (x0 : TV AC) (xs : List (TV AC)) (X : XR) (K : TV AC → List (Nat × Nat × LB) → Prop) : Prop :=
  match all? TV.cells xs with
  | some css => (all? (shA h) (css.flatten ++ boxX h x0)).isSome = true ∧ match x0 with
    | .c (.own l g) => X.arg = none ∧ X.row = true ∧ g = (h.app (frz h (css.flatten ++ boxX h x0))).gen l ∧ blkX h (h.app (frz h (css.flatten ++ boxX h x0))) l X ∧ retX X l g (frz h (css.flatten ++ boxX h x0)) K
    | .c (.ptr l g i off) => X.arg = some (i, off) ∧ g = (h.app (frz h (css.flatten ++ boxX h x0))).gen l ∧ blkX h (h.app (frz h (css.flatten ++ boxX h x0))) l X ∧ retX X l g (frz h (css.flatten ++ boxX h x0)) K
    | _ => False
  | none => False
/-- a call that turns a block of the caller's own -/
def CallX0 (P : Program) (f : Nat) (h : Hp) (xs : List (TV AC)) (K : TV AC → List (Nat × Nat × LB) → Prop) : Prop := match xs with
  | [] => False
  | x0 :: xr => match all? (argB h) xr with
    | some as => ∃ X, SpecX P f X as ∧ afterX h x0 xr X K
    | none => False

/-! a row of the call's own that a callee hands through, unread: its value, whatever that is -/
def isRow (l g : Nat) : AC → Bool
  | .own l' g' => (l' == l) && (g' == g)
  | _ => false
def rawC (h : Hp) (l g : Nat) (v : Value) (x : AC) : Option SC := bif isRow l g x then some (.pv v) else shA h x
def rawT (h : Hp) (l g : Nat) (v : Value) : TV AC → Option (TV SC)
  | .c x => (rawC h l g v x).map TV.c
  | .agg xs => (all? (rawC h l g v) xs).map TV.agg
  | _ => none
def AC.isS : AC → Bool
  | .s _ => true
  | _ => false
def LB.isRow : LB → Bool
  | .row _ _ _ => true
  | _ => false
def lowC (v : Value) : AC → SC
  | .s z => z
  | _ => .pv v
def lowT (v : Value) : TV AC → TV SC
  | .no => .no
  | .c x => .c (lowC v x)
  | .agg xs => .agg (xs.map (lowC v))
  | .tup vs => .tup (vs.map fun p => (p.1, p.2.map (lowC v)))
def okCR (l g : Nat) (x : AC) : Bool := x.isS || isRow l g x
def okR (l g : Nat) : TV AC → Bool
  | .no => true
  | .c x => okCR l g x
  | .agg xs => xs.all (okCR l g)
  | .tup vs => vs.all fun p => p.2.all (okCR l g)
def restR (l g : Nat) (css : List (List AC)) : List AC := css.flatten.filter fun x => !isRow l g x
/-- a call that hands a row of the call's own through -/
def CallR (P : Program) (f : Nat) (h : Hp) (xs : List (TV AC)) (K : TV AC → List (Nat × Nat × LB) → Prop) : Prop := ∃ (l g : Nat) (rv : TV AC),
  (h.blk l).isRow = true ∧ g = h.gen l ∧ okR l g rv = true ∧ match all? TV.cells xs with
    | some css => (all? (shA h) (restR l g css)).isSome = true ∧ ((frz h (restR l g css)).all fun p => !(p.1 == l)) = true ∧
        (∀ v : Value, plain v = true → ∃ as, all? (rawT h l g v) xs = some as ∧ Spec P f as (.val (lowT v rv))) ∧ K rv (frz h (restR l g css))
    | none => False
def CallX (P : Program) (f : Nat) (h : Hp) (xs : List (TV AC)) (K : TV AC → List (Nat × Nat × LB) → Prop) : Prop := CallX0 P f h xs K ∨ CallR P f h xs K

def sliceOf (e : Nat) (h : Hp) : TV AC → Option (List (List SC) × List (Nat × Nat × LB))
  | .c .zc => some ([], [])
  | .c (.s (.sl e' els)) => if e' = e then some (els, []) else none
  | .c (.s (.tag _ (.sl e' els))) => if e' = e then some (els, []) else none
  | .c (.own l g) => if g = h.gen l then match h.blk l with
      | .row ty e' els => if e' = e then some (els, [(l, g, .ice (.sl e els))]) else none
      | .ice (.sl e' els) => if e' = e then some (els, []) else none
      | _ => none
    else none
  | _ => none
def lenOf (h : Hp) : TV AC → Option Nat
  | .c .zc => some 0
  | .c (.s (.sl e els)) => some els.length
  | .c (.s (.tag _ (.sl e els))) => some els.length
  | .c (.own l g) => if g = h.gen l then match h.blk l with
      | .row ty e els => some els.length
      | .ice (.sl e els) => some els.length
      | _ => none
    else none
  | _ => none
def bnd (ev : Opd → TV AC) (dflt : Nat) : Option Opd → Option Int
  | none => some dflt
  | some x => match ev x with
    | .c (.s (.pv (.int k n))) => some n
    | _ => none
/-- a whole variable of the call's own -/
def whole : TV AC → Option (Nat × Nat)
  | .c (.ptr l g 0 0) => some (l, g)
  | _ => none
/-- the cells of a place -/
def rd (h : Hp) (x : TV AC) (n : Nat) (K : List AC → Prop) : Prop :=
  match x with
  | .c (.s (.sptr cs)) => n ≤ cs.length ∧ K ((cs.take n).map AC.s)
  | .c (.ptr l g i off) => g = h.gen l ∧ match h.blk l with
    | .box ty e els => ∃ hi : i < els.length, off + n ≤ e ∧ K ((els[i].drop off).take n)
    | .row ty e els => ∃ hi : i < els.length, off + n ≤ e ∧ K (((els[i].drop off).take n).map AC.s)
    | _ => False
  | _ => False

def numsOf : List (List SC) → Option (List Int)
  | [] => some []
  | [.pv (.int .u8 n)] :: xs => (numsOf xs).map (n :: ·)
  | _ => none
def aeff (P : Program) (o : AOp) (d : Nat) (ev : Opd → TV AC) (h : Hp) (K : TV AC → List (Nat × Nat × LB) → Prop) : Prop :=
  match o with
  | .mv x => K (ev x) []
  | .pick c a b => match ev c with
    | .c (.s (.pv (.bool t))) => K (bif t then ev a else ev b) []
    | _ => False
  | .mk ty e els => K (.c (.ptr d (h.gen d + 1) 0 0)) [(d, h.gen d + 1, .box ty e els)]
  | .box ty e x => match (ev x).cells with
    | some cs => cs.length = e ∧ K (.c (.ptr d (h.gen d + 1) 0 0)) [(d, h.gen d + 1, .box ty e [cs])]
    | none => False
  | .build zero parts => match fillA ev zero parts with
    | some cs => K (.agg cs) []
    | none => False
  | .bslice ty e zero len parts => match fillA ev (List.replicate len zero).flatten parts with
    | some cs => match all? (shA h) cs with
      | some ss => K (.c (.own d ((h.app (frz h cs)).gen d + 1))) (frz h cs ++ [(d, (h.app (frz h cs)).gen d + 1, .row ty e (chunk e len ss))])
      | none => False
    | none => False
  | .load agg n x => rd h (ev x) n fun cs => if agg then K (.agg cs) [] else match cs with
    | [c] => K (.c c) []
    | _ => False
  | .store n p x => match ev p, (ev x).cells with
    | .c (.ptr l g i off), some cs => cs.length = n ∧ g = h.gen l ∧ match h.blk l with
      | .box ty e els => ∃ hi : i < els.length, off + n ≤ e ∧ K .no [(l, g, .box ty e (els.set i (patch els[i] off cs)))]
      | .row ty e els => match all? (shA h) cs with
        | some ss => ∃ hi : i < els.length, off + n ≤ e ∧ ((frz h cs).all fun p => !(p.1 == l)) = true ∧ K .no (frz h cs ++ [(l, g, .row ty e (els.set i (patch els[i] off ss)))])
        | none => False
      | _ => False
    | _, _ => False
  | .bin bl op x y => match ev x, ev y with
    | .c (.s (.pv u)), .c (.s (.pv v)) => match binv op u v with
      | some (c, r) => isBool u = bl ∧ c ∧ K (.c (.s (.pv r))) []
      | none => False
    | _, _ => False
  | .eqs neg t x y => match ev x, ev y with
    | .agg xs, .agg ys => match pvs xs, pvs ys with
      | some us, some vs => ∃ r, EqRun P t us vs r ∧ K (.c (.s (.pv (.bool (neg ^^ r))))) []
      | _, _ => False
    | _, _ => False
  | .not x => match ev x with
    | .c (.s (.pv (.bool t))) => K (.c (.s (.pv (.bool !t)))) []
    | _ => False
  | .conv k x => match ev x with
    | .c (.s (.pv (.int k' n))) => K (.c (.s (.pv (.int k (k.wrap n))))) []
    | _ => False
  | .mkSlice ty e bytes zero l c => match ev l, ev c with
    | .c (.s (.pv (.int kl n))), .c (.s (.pv (.int kc m))) => 0 ≤ n ∧ n ≤ m ∧ (bytes : Int) * m ≤ 140737488355328 ∧ m ≤ 9223372036854775807 ∧
        K (.c (.own d (h.gen d + 1))) [(d, h.gen d + 1, .row ty e (List.replicate n.toNat zero))]
    | _, _ => False
  | .sub e x lo hi => match sliceOf e h (ev x), lenOf h (ev x) with
    | some (els, ws), some n => match bnd ev 0 lo, bnd ev n hi with
      | some l, some m => 0 ≤ l ∧ l ≤ m ∧ m ≤ n ∧ K (.c (.s (.sl e ((els.take m.toNat).drop l.toNat)))) ws
      | _, _ => False
    | _, _ => False
  | .z3 x => match lenOf h (ev x) with
    | some _ => K (.c .zc) []
    | none => False
  | .ssub x lo hi => match ev x with
    | .c (.s (.pv (.string s))) => match bnd ev 0 lo, bnd ev s.size hi with
      | some l, some m => 0 ≤ l ∧ l ≤ m ∧ m ≤ s.size ∧ K (.c (.s (.pv (.string (s.extract l.toNat m.toNat))))) []
      | _, _ => False
    | _ => False
  | .fld off x => match ev x with
    | .c (.s (.sptr cs)) => off ≤ cs.length ∧ K (.c (.s (.sptr (cs.drop off)))) []
    | .c (.ptr l g i o) => g = h.gen l ∧ (h.view l).live = true ∧ K (.c (.ptr l g i (o + off))) []
    | _ => False
  | .idx e x i => match ev i with
    | .c (.s (.pv (.int k n))) => match ev x with
      | .c (.s (.sl e' els)) => e' = e ∧ 0 ≤ n ∧ ∃ hn : n.toNat < els.length, K (.c (.s (.sptr els[n.toNat]))) []
      | .c (.own l g) => g = h.gen l ∧ match h.blk l with
        | .row ty e' els => e' = e ∧ 0 ≤ n ∧ n.toNat < els.length ∧ K (.c (.ptr l g n.toNat 0)) []
        | .ice (.sl e' els) => e' = e ∧ 0 ≤ n ∧ ∃ hn : n.toNat < els.length, K (.c (.s (.sptr els[n.toNat]))) []
        | _ => False
      | _ => False
    | _ => False
  | .aidx cnt e x i => match ev i with
    | .c (.s (.pv (.int k n))) => 0 ≤ n ∧ n < cnt ∧ match ev x with
      | .c (.s (.sptr cs)) => n.toNat * e ≤ cs.length ∧ K (.c (.s (.sptr (cs.drop (n.toNat * e))))) []
      | .c (.ptr l g i0 off) => g = h.gen l ∧ match h.view l with
        | .mem _ _ e' _ => if e' = e ∧ off = 0 then K (.c (.ptr l g (i0 + n.toNat) 0)) [] else K (.c (.ptr l g i0 (off + n.toNat * e))) []
        | _ => False
      | _ => False
    | _ => False
  | .sidx x i => match ev x, ev i with
    | .c (.s (.pv (.string s))), .c (.s (.pv (.int k n))) => 0 ≤ n ∧ ∃ hn : n.toNat < s.size, K (.c (.s (.pv (.int .u8 (s[n.toNat].toNat : Int))))) []
    | _, _ => False
  | .field agg off n x => match ev x with
    | .agg cs => off + n ≤ cs.length ∧ if agg then K (.agg ((cs.drop off).take n)) [] else match cs[off]? with
      | some c => K (.c c) []
      | none => False
    | _ => False
  | .ext i x => match ev x with
    | .tup vs => match vs[i]? with
      | some (true, cs) => K (.agg cs) []
      | some (false, [c]) => K (.c c) []
      | _ => False
    | _ => False
  | .len x => match lenOf h (ev x) with
    | some n => K (.c (.s (.pv (.int .i64 n)))) []
    | none => False
  | .slen x => match ev x with
    | .c (.s (.pv (.string s))) => K (.c (.s (.pv (.int .i64 s.size)))) []
    | _ => False
  | .app ty e bytes s x => match sliceOf e h (ev x), lenOf h (ev x) with
    | some (news, _), some m => match ev s with
      | .c .zc => (m : Int) * bytes ≤ 140737488355328 ∧ (m : Int) ≤ 9223372036854775807 ∧ K (.c (.own d (h.gen d + 1))) [(d, h.gen d + 1, .row ty e news)]
      | .c (.own l g) => g = h.gen l ∧ match h.blk l with
        | .row ty' e' els => ty' = ty ∧ e' = e ∧ ((els.length + m : Nat) : Int) * bytes ≤ 140737488355328 ∧ ((els.length + m : Nat) : Int) ≤ 9223372036854775807 ∧
            K (.c (.own l (g + 1))) [(l, g + 1, .row ty e (els ++ news))]
        | _ => False
      | _ => False
    | _, _ => False
  | .call f args => match all? (argB h) (args.map ev) with
    | some as => (∃ r, Spec P f as r ∧ after h d (args.map ev) r K) ∨ CallX P f h (args.map ev) K
    | none => CallX P f h (args.map ev) K
  | .callv f args => match ev f, all? (argB h) (args.map ev) with
    | .c (.s (.fn g caps)), some as => callable P g = true ∧ ∃ r, Spec P g (as ++ caps.map TV.c) r ∧ after h d (args.map ev) r K
    | _, _ => False
  | .clo f caps => match all? (fun x => whole (ev x)) caps with
    | some [] => K (.c (.s (.fn f []))) []
    | some ls => K (.c (.clo f ls)) []
    | none => False
  | .nilc x => match ev x with
    | .c (.s (.sptr cs)) => K (ev x) []
    | .c (.s (.fn f caps)) => K (ev x) []
    | .c (.clo f ls) => K (ev x) []
    | .c (.ptr l g i o) => g = h.gen l ∧ (h.view l).live = true ∧ K (ev x) []
    | _ => False
  | .b2s x => match sliceOf 1 h (ev x) with
    | some (els, _) => match numsOf els with
      | some ns => K (.c (.s (.pv (.string (strOfNums ns))))) []
      | none => False
    | none => False
  | .isnil x => match ev x with
    | .c (.s (.tag b (.sl _ _))) => K (.c (.s (.pv (.bool b)))) []
    | _ => False
  | .mm mx x y => match ev x, ev y with
    | .c (.s (.pv (.int k a))), .c (.s (.pv (.int k' b))) => K (.c (.s (.pv (.int k (if mx then max a b else min a b))))) []
    | _, _ => False
end Go.Proofs.Ytbpipdgkkdifgaa
