/- AN ABSTRACT MACHINE over the model, eighteen: how it is run, from outside in. No condition. -/
import Derived.Test.YtbpipdgkkdifgaaAm17
namespace Go.Proofs.Ytbpipdgkkdifgaa
open Go.RowKit
set_option linter.unusedVariables false

section
variable {P : Program}
abbrev KT := TV AC → List (Nat × Nat × LB) → Prop
/-- what is left of a region -/
def Kont (P : Program) (q : ROp) (qs : List ROp) (σ : St) (K : St → Prop) : KT := fun v ws => wseq P qs (σ.eff q.dst v ws) K
def KontD (P : Program) (q : ROp) (qs : List ROp) (σ : St) (fps : List Fp) (F : St → List Fp → Prop) : KT := fun v ws => wdraw P qs (σ.eff q.dst v ws) (fps ++ [(rds q (q.locs σ), wrs q.dst ws)]) F
def EndD (qs : List ROp) (Q : Ex → St → Prop) : St → List Fp → Prop := fun σ' fps => chk (qs.map ROp.deps) fps = true ∧ Q .normal σ'
theorem r_skip {Q : Ex → St → Prop} {σ : St} : wpA P .skip Q σ = Q .normal σ := rfl
theorem r_reg {ops : List ROp} {Q : Ex → St → Prop} {σ : St} : wpA P (.reg ops) Q σ = wseq P ops σ (Q .normal) := rfl
theorem r_draw {ops : List ROp} {Q : Ex → St → Prop} {σ : St} : wpA P (.draw ops) Q σ = wdraw P ops σ [] (EndD ops Q) := rfl
theorem r_seq {a b : ACode} {Q : Ex → St → Prop} {σ : St} : wpA P (.seq a b) Q σ = wpA P a (Ex.then (wpA P b Q) Q) σ := rfl
/-- a test that parts the ways: it stands till the test is known -/
def Fork (t : Bool) (A B : St → Prop) (σ : St) : Prop := (t = true → A σ) ∧ (t = false → B σ)
theorem f_true {A B : St → Prop} {σ : St} : Fork true A B σ = A σ := by unfold Fork; simp
theorem f_false {A B : St → Prop} {σ : St} : Fork false A B σ = B σ := by unfold Fork; simp
theorem fork {t : Bool} {A B : St → Prop} {σ : St} (h : t = true → A σ) (h' : t = false → B σ) : Fork t A B σ := ⟨h, h'⟩
theorem r_cond {c : Opd} {a b : ACode} {Q : Ex → St → Prop} {σ : St} : wpA P (.cond c a b) Q σ = match σ.ev c with
    | .c (.s (.pv (.bool t))) => Fork t (wpA P a Q) (wpA P b Q) σ
    | _ => False := rfl
theorem r_block {i : Nat} {b : ACode} {Q : Ex → St → Prop} {σ : St} : wpA P (.block i b) Q σ = wpA P b (Ex.inBlock i Q) σ := rfl
theorem r_loop {b : ACode} {Q : Ex → St → Prop} {σ : St} : wpA P (.loop b) Q σ = LoopA (wpA P b) Q σ := rfl
theorem r_exit {i : Nat} {Q : Ex → St → Prop} {σ : St} : wpA P (.exit i) Q σ = Q (.exit i) σ := rfl
theorem r_ret {Q : Ex → St → Prop} {σ : St} : wpA P .ret Q σ = Q .ret σ := rfl
theorem t_normal {N : St → Prop} {Q : Ex → St → Prop} {σ : St} : Ex.then N Q .normal σ = N σ := rfl
theorem t_exit {N : St → Prop} {Q : Ex → St → Prop} {σ : St} {i : Nat} : Ex.then N Q (.exit i) σ = Q (.exit i) σ := rfl
theorem t_ret {N : St → Prop} {Q : Ex → St → Prop} {σ : St} : Ex.then N Q .ret σ = Q .ret σ := rfl
theorem b_normal {Q : Ex → St → Prop} {σ : St} {i : Nat} : Ex.inBlock i Q .normal σ = Q .normal σ := rfl
theorem b_exit {Q : Ex → St → Prop} {σ : St} {i j : Nat} : Ex.inBlock i Q (.exit j) σ = if j = i then Q .normal σ else Q (.exit j) σ := rfl
theorem b_ret {Q : Ex → St → Prop} {σ : St} {i : Nat} : Ex.inBlock i Q .ret σ = Q .ret σ := rfl
theorem p_normal {F : St → Prop} {σ : St} : Post F .normal σ = F σ := rfl
theorem p_ret {F : St → Prop} {σ : St} : Post F .ret σ = F σ := rfl
theorem p_exit {F : St → Prop} {σ : St} {i : Nat} : Post F (.exit i) σ = False := rfl
theorem s_nil {σ : St} {K : St → Prop} : wseq P [] σ K = K σ := rfl
/-- a guard: it stands till its test is known -/
def GX (P : Program) (b want : Bool) (q : ROp) (qs : List ROp) (σ : St) (K : St → Prop) : Prop := (b = want → aeff P q.op q.loc σ.ev σ.h (Kont P q qs σ K)) ∧ (b = (!want) → wseq P qs (σ.eff q.dst (.tup []) []) K)
def G0 (P : Program) (v : TV AC) (want : Bool) (q : ROp) (qs : List ROp) (σ : St) (K : St → Prop) : Prop := match v with
  | .c (.s (.pv (.bool b))) => GX P b want q qs σ K
  | .tup [] => wseq P qs (σ.eff q.dst (.tup []) []) K
  | _ => False
theorem g0_ap {b want : Bool} {q : ROp} {qs : List ROp} {σ : St} {K : St → Prop} : G0 P (.c (.s (.pv (.bool b)))) want q qs σ K = GX P b want q qs σ K := rfl
theorem g0_sk {want : Bool} {q : ROp} {qs : List ROp} {σ : St} {K : St → Prop} : G0 P (.tup []) want q qs σ K = wseq P qs (σ.eff q.dst (.tup []) []) K := rfl
theorem gx_tt {q : ROp} {qs : List ROp} {σ : St} {K : St → Prop} : GX P true true q qs σ K = aeff P q.op q.loc σ.ev σ.h (Kont P q qs σ K) := by unfold GX; simp
theorem gx_ff {q : ROp} {qs : List ROp} {σ : St} {K : St → Prop} : GX P false false q qs σ K = aeff P q.op q.loc σ.ev σ.h (Kont P q qs σ K) := by unfold GX; simp
theorem gx_tf {q : ROp} {qs : List ROp} {σ : St} {K : St → Prop} : GX P true false q qs σ K = wseq P qs (σ.eff q.dst (.tup []) []) K := by unfold GX; simp
theorem gx_ft {q : ROp} {qs : List ROp} {σ : St} {K : St → Prop} : GX P false true q qs σ K = wseq P qs (σ.eff q.dst (.tup []) []) K := by unfold GX; simp
theorem gcase {b want : Bool} {q : ROp} {qs : List ROp} {σ : St} {K : St → Prop} (h : b = true → GX P true want q qs σ K) (h' : b = false → GX P false want q qs σ K) : GX P b want q qs σ K := by
  cases b
  · exact h' rfl
  · exact h rfl
theorem s_plain {dst : Option Nat} {loc : Nat} {op : AOp} {deps : List Nat} {qs : List ROp} {σ : St} {K : St → Prop} : wseq P (⟨dst, loc, op, none, deps⟩ :: qs) σ K = aeff P op loc σ.ev σ.h (Kont P ⟨dst, loc, op, none, deps⟩ qs σ K) := rfl
theorem s_guard {dst : Option Nat} {loc t : Nat} {op : AOp} {want : Bool} {deps : List Nat} {qs : List ROp} {σ : St} {K : St → Prop} : wseq P (⟨dst, loc, op, some (t, want), deps⟩ :: qs) σ K = G0 P (σ.slot t) want ⟨dst, loc, op, some (t, want), deps⟩ qs σ K := rfl
theorem d_nil {σ : St} {fps : List Fp} {F : St → List Fp → Prop} : wdraw P [] σ fps F = F σ fps := rfl
def GXD (P : Program) (b want : Bool) (q : ROp) (qs : List ROp) (σ : St) (fps : List Fp) (F : St → List Fp → Prop) : Prop := (b = want → aeff P q.op q.loc σ.ev (σ.h.only (q.locs σ)) (KontD P q qs σ fps F)) ∧ (b = (!want) → wdraw P qs (σ.eff q.dst (.tup []) []) (fps ++ [(rds q [], wrs q.dst [])]) F)
def G0D (P : Program) (v : TV AC) (want : Bool) (q : ROp) (qs : List ROp) (σ : St) (fps : List Fp) (F : St → List Fp → Prop) : Prop := match v with
  | .c (.s (.pv (.bool b))) => GXD P b want q qs σ fps F
  | .tup [] => wdraw P qs (σ.eff q.dst (.tup []) []) (fps ++ [(rds q [], wrs q.dst [])]) F
  | _ => False
theorem g0d_ap {b want : Bool} {q : ROp} {qs : List ROp} {σ : St} {fps : List Fp} {F : St → List Fp → Prop} : G0D P (.c (.s (.pv (.bool b)))) want q qs σ fps F = GXD P b want q qs σ fps F := rfl
theorem g0d_sk {want : Bool} {q : ROp} {qs : List ROp} {σ : St} {fps : List Fp} {F : St → List Fp → Prop} : G0D P (.tup []) want q qs σ fps F = wdraw P qs (σ.eff q.dst (.tup []) []) (fps ++ [(rds q [], wrs q.dst [])]) F := rfl
theorem gxd_tt {q : ROp} {qs : List ROp} {σ : St} {fps : List Fp} {F : St → List Fp → Prop} : GXD P true true q qs σ fps F = aeff P q.op q.loc σ.ev (σ.h.only (q.locs σ)) (KontD P q qs σ fps F) := by unfold GXD; simp
theorem gxd_ff {q : ROp} {qs : List ROp} {σ : St} {fps : List Fp} {F : St → List Fp → Prop} : GXD P false false q qs σ fps F = aeff P q.op q.loc σ.ev (σ.h.only (q.locs σ)) (KontD P q qs σ fps F) := by unfold GXD; simp
theorem gxd_tf {q : ROp} {qs : List ROp} {σ : St} {fps : List Fp} {F : St → List Fp → Prop} : GXD P true false q qs σ fps F = wdraw P qs (σ.eff q.dst (.tup []) []) (fps ++ [(rds q [], wrs q.dst [])]) F := by unfold GXD; simp
theorem gxd_ft {q : ROp} {qs : List ROp} {σ : St} {fps : List Fp} {F : St → List Fp → Prop} : GXD P false true q qs σ fps F = wdraw P qs (σ.eff q.dst (.tup []) []) (fps ++ [(rds q [], wrs q.dst [])]) F := by unfold GXD; simp
theorem gcaseD {b want : Bool} {q : ROp} {qs : List ROp} {σ : St} {fps : List Fp} {F : St → List Fp → Prop} (h : b = true → GXD P true want q qs σ fps F) (h' : b = false → GXD P false want q qs σ fps F) : GXD P b want q qs σ fps F := by
  cases b
  · exact h' rfl
  · exact h rfl
theorem d_plain {dst : Option Nat} {loc : Nat} {op : AOp} {deps : List Nat} {qs : List ROp} {σ : St} {fps : List Fp} {F : St → List Fp → Prop} : wdraw P (⟨dst, loc, op, none, deps⟩ :: qs) σ fps F = aeff P op loc σ.ev (σ.h.only ((⟨dst, loc, op, none, deps⟩ : ROp).locs σ)) (KontD P ⟨dst, loc, op, none, deps⟩ qs σ fps F) := rfl
theorem d_guard {dst : Option Nat} {loc t : Nat} {op : AOp} {want : Bool} {deps : List Nat} {qs : List ROp} {σ : St} {fps : List Fp} {F : St → List Fp → Prop} : wdraw P (⟨dst, loc, op, some (t, want), deps⟩ :: qs) σ fps F = G0D P (σ.slot t) want ⟨dst, loc, op, some (t, want), deps⟩ qs σ fps F := rfl
theorem k_ap {q : ROp} {qs : List ROp} {σ : St} {K : St → Prop} {v : TV AC} {ws : List (Nat × Nat × LB)} : Kont P q qs σ K v ws = wseq P qs (σ.eff q.dst v ws) K := rfl
theorem kd_ap {q : ROp} {qs : List ROp} {σ : St} {fps : List Fp} {F : St → List Fp → Prop} {v : TV AC} {ws : List (Nat × Nat × LB)} : KontD P q qs σ fps F v ws = wdraw P qs (σ.eff q.dst v ws) (fps ++ [(rds q (q.locs σ), wrs q.dst ws)]) F := rfl
theorem e_ap {qs : List ROp} {Q : Ex → St → Prop} {σ : St} {fps : List Fp} : EndD qs Q σ fps = (chk (qs.map ROp.deps) fps = true ∧ Q .normal σ) := rfl
theorem wrap_zero : IntKind.i64.wrap 0 = 0 := rfl
theorem sz_empty : ByteArray.size ⟨#[]⟩ = 0 := rfl
def vI (n : Int) : TV AC := .c (.s (.pv (.int .i64 n)))
def vB (b : Bool) : TV AC := .c (.s (.pv (.bool b)))
def vS (b : ByteArray) : TV AC := .c (.s (.pv (.string b)))
def vL (e : Nat) (els : List (List SC)) : TV AC := .c (.s (.sl e els))
def rI (n : Int) : TV SC := .c (.pv (.int .i64 n))
def rB (b : Bool) : TV SC := .c (.pv (.bool b))
def rS (b : ByteArray) : TV SC := .c (.pv (.string b))
def rL (e : Nat) (els : List (List SC)) : TV SC := .c (.sl e els)
theorem drop_cons {α : Type} {l : List α} {i : Nat} (h : i < l.length) : l.drop i = l[i] :: l.drop (i + 1) := List.drop_eq_getElem_cons h
theorem take_snoc {α : Type} {l : List α} {i : Nat} (h : i < l.length) : l.take (i + 1) = l.take i ++ [l[i]] := by rw [List.take_add_one, List.getElem?_eq_getElem h]; rfl
def AskIdx {α : Type} (i : Nat) (els : List α) (K : α → Prop) : Prop := ∃ h : i < els.length, K els[i]
theorem askIdx_zero {α : Type} {x : α} {xs : List α} {K : α → Prop} : AskIdx 0 (x :: xs) K = K x := by
  unfold AskIdx; simp
theorem askIdx_succ {α : Type} {i : Nat} {x : α} {xs : List α} {K : α → Prop} : AskIdx (i + 1) (x :: xs) K = AskIdx i xs K := by
  unfold AskIdx; simp
theorem askIdx_map {α γ : Type} {i : Nat} {l : List γ} {f : γ → α} {K : α → Prop} (h : i < l.length) : AskIdx i (l.map f) K = K (f l[i]) := by
  unfold AskIdx; simp [h]
theorem askIdx_at {α : Type} {i : Nat} {l : List α} {K : α → Prop} (h : i < l.length) : AskIdx i l K = K l[i] := by
  unfold AskIdx; simp [h]
def loadK (agg : Bool) (K : KT) : List AC → Prop := fun cs => if agg then K (.agg cs) [] else match cs with
    | [c] => K (.c c) []
    | _ => False
theorem l_agg {K : KT} {cs : List AC} : loadK true K cs = K (.agg cs) [] := rfl
theorem l_one {K : KT} {c : AC} : loadK false K [c] = K (.c c) [] := rfl
def cutK (e off n : Nat) (K : List AC → Prop) (x : List AC) : Prop := off + n ≤ e ∧ K ((x.drop off).take n)
def cutS (e off n : Nat) (K : List AC → Prop) (x : List SC) : Prop := off + n ≤ e ∧ K (((x.drop off).take n).map AC.s)
def rdB (b : LB) (i off n : Nat) (K : List AC → Prop) : Prop := match b with
  | .box ty e els => AskIdx i els (cutK e off n K)
  | .row ty e els => AskIdx i els (cutS e off n K)
  | _ => False
theorem c_ap {e off n : Nat} {K : List AC → Prop} {x : List AC} : cutK e off n K x = (off + n ≤ e ∧ K ((x.drop off).take n)) := rfl
theorem cs_ap {e off n : Nat} {K : List AC → Prop} {x : List SC} : cutS e off n K x = (off + n ≤ e ∧ K (((x.drop off).take n).map AC.s)) := rfl
theorem rd_ptr {h : Hp} {l g i off n : Nat} {K : List AC → Prop} : rd h (.c (.ptr l g i off)) n K = (g = h.gen l ∧ rdB (h.blk l) i off n K) := by
  unfold rd rdB
  simp only
  cases h.blk l <;> rfl
theorem rd_sptr {h : Hp} {cs : List SC} {n : Nat} {K : List AC → Prop} : rd h (.c (.s (.sptr cs))) n K = (n ≤ cs.length ∧ K ((cs.take n).map AC.s)) := rfl
theorem rdB_box {ty e : Nat} {els : List (List AC)} {i off n : Nat} {K : List AC → Prop} : rdB (.box ty e els) i off n K = AskIdx i els (cutK e off n K) := rfl
theorem rdB_row {ty e : Nat} {els : List (List SC)} {i off n : Nat} {K : List AC → Prop} : rdB (.row ty e els) i off n K = AskIdx i els (cutS e off n K) := rfl

variable {d : Nat} {ev : Opd → TV AC} {h : Hp} {K : KT}
def pk (t : Bool) (a b : TV AC) : TV AC := bif t then a else b
theorem pk_true {a b : TV AC} : pk true a b = a := rfl
theorem pk_false {a b : TV AC} : pk false a b = b := rfl
theorem pk_bool {t p q : Bool} : pk t (.c (.s (.pv (.bool p)))) (.c (.s (.pv (.bool q)))) = .c (.s (.pv (.bool (bif t then p else q)))) := by cases t <;> rfl
theorem a_mv {x : Opd} : aeff P (.mv x) d ev h K = K (ev x) [] := rfl
theorem a_pick {c a b : Opd} : aeff P (.pick c a b) d ev h K = match ev c with
    | .c (.s (.pv (.bool t))) => K (pk t (ev a) (ev b)) []
    | _ => False := rfl
theorem a_mk {ty e : Nat} {els : List (List AC)} : aeff P (.mk ty e els) d ev h K = K (.c (.ptr d (h.gen d + 1) 0 0)) [(d, h.gen d + 1, .box ty e els)] := rfl
theorem a_box {ty e : Nat} {x : Opd} : aeff P (.box ty e x) d ev h K = match (ev x).cells with
    | some cs => cs.length = e ∧ K (.c (.ptr d (h.gen d + 1) 0 0)) [(d, h.gen d + 1, .box ty e [cs])]
    | none => False := rfl
theorem a_build {z : List AC} {ps : List (Nat × Nat × Opd)} : aeff P (.build z ps) d ev h K = match fillA ev z ps with
    | some cs => K (.agg cs) []
    | none => False := rfl
theorem a_bslice {ty e len : Nat} {z : List AC} {ps : List (Nat × Nat × Opd)} : aeff P (.bslice ty e z len ps) d ev h K = match fillA ev (List.replicate len z).flatten ps with
    | some cs => match all? (shA h) cs with
      | some ss => K (.c (.own d ((h.app (frz h cs)).gen d + 1))) (frz h cs ++ [(d, (h.app (frz h cs)).gen d + 1, .row ty e (chunk e len ss))])
      | none => False
    | none => False := rfl
theorem a_load {agg : Bool} {n : Nat} {x : Opd} : aeff P (.load agg n x) d ev h K = rd h (ev x) n (loadK agg K) := rfl
def stB (l g ty e : Nat) (els : List (List AC)) (i off n : Nat) (cs : List AC) (K : KT) (x : List AC) : Prop := off + n ≤ e ∧ K .no [(l, g, .box ty e (els.set i (patch x off cs)))]
def stR (l g ty e : Nat) (els : List (List SC)) (i off n : Nat) (ws : List (Nat × Nat × LB)) (ss : List SC) (K : KT) (x : List SC) : Prop := off + n ≤ e ∧ (ws.all fun p => !(p.1 == l)) = true ∧ K .no (ws ++ [(l, g, .row ty e (els.set i (patch x off ss)))])
def stX (h : Hp) (l g : Nat) (b : LB) (i off n : Nat) (cs : List AC) (K : KT) : Prop := match b with
  | .box ty e els => AskIdx i els (stB l g ty e els i off n cs K)
  | .row ty e els => match all? (shA h) cs with
    | some ss => AskIdx i els (stR l g ty e els i off n (frz h cs) ss K)
    | none => False
  | _ => False
theorem stB_ap {l g ty e : Nat} {els : List (List AC)} {i off n : Nat} {cs : List AC} {x : List AC} : stB l g ty e els i off n cs K x = (off + n ≤ e ∧ K .no [(l, g, .box ty e (els.set i (patch x off cs)))]) := rfl
theorem stR_ap {l g ty e : Nat} {els : List (List SC)} {i off n : Nat} {ws : List (Nat × Nat × LB)} {ss : List SC} {x : List SC} : stR l g ty e els i off n ws ss K x = (off + n ≤ e ∧ (ws.all fun p => !(p.1 == l)) = true ∧ K .no (ws ++ [(l, g, .row ty e (els.set i (patch x off ss)))])) := rfl
theorem stX_box {l g ty e : Nat} {els : List (List AC)} {i off n : Nat} {cs : List AC} : stX h l g (.box ty e els) i off n cs K = AskIdx i els (stB l g ty e els i off n cs K) := rfl
theorem stX_row {l g ty e : Nat} {els : List (List SC)} {i off n : Nat} {cs : List AC} : stX h l g (.row ty e els) i off n cs K = match all? (shA h) cs with
    | some ss => AskIdx i els (stR l g ty e els i off n (frz h cs) ss K)
    | none => False := rfl
theorem a_store {n : Nat} {p x : Opd} : aeff P (.store n p x) d ev h K = match ev p, (ev x).cells with
    | .c (.ptr l g i off), some cs => cs.length = n ∧ g = h.gen l ∧ stX h l g (h.blk l) i off n cs K
    | _, _ => False := rfl
theorem a_bin {bl : Bool} {op : BinOp} {x y : Opd} : aeff P (.bin bl op x y) d ev h K = match ev x, ev y with
    | .c (.s (.pv u)), .c (.s (.pv v)) => match binv op u v with
      | some (c, r) => isBool u = bl ∧ c ∧ K (.c (.s (.pv r))) []
      | none => False
    | _, _ => False := rfl
def AskEq (P : Program) (neg : Bool) (t : Nat) (us vs : List Value) (K : KT) : Prop := ∃ r, EqRun P t us vs r ∧ K (.c (.s (.pv (.bool (neg ^^ r))))) []
theorem a_eqs {neg : Bool} {t : Nat} {x y : Opd} : aeff P (.eqs neg t x y) d ev h K = match ev x, ev y with
    | .agg xs, .agg ys => match pvs xs, pvs ys with
      | some us, some vs => AskEq P neg t us vs K
      | _, _ => False
    | _, _ => False := rfl
theorem a_not {x : Opd} : aeff P (.not x) d ev h K = match ev x with
    | .c (.s (.pv (.bool t))) => K (.c (.s (.pv (.bool !t)))) []
    | _ => False := rfl
theorem a_conv {k : IntKind} {x : Opd} : aeff P (.conv k x) d ev h K = match ev x with
    | .c (.s (.pv (.int k' n))) => K (.c (.s (.pv (.int k (k.wrap n))))) []
    | _ => False := rfl
theorem a_b2s {x : Opd} : aeff P (.b2s x) d ev h K = match sliceOf 1 h (ev x) with
    | some (els, _) => match numsOf els with
      | some ns => K (.c (.s (.pv (.string (strOfNums ns))))) []
      | none => False
    | none => False := rfl
theorem a_mkSlice {ty e bytes : Nat} {z : List SC} {l c : Opd} : aeff P (.mkSlice ty e bytes z l c) d ev h K = match ev l, ev c with
    | .c (.s (.pv (.int kl n))), .c (.s (.pv (.int kc m))) => 0 ≤ n ∧ n ≤ m ∧ (bytes : Int) * m ≤ 140737488355328 ∧ m ≤ 9223372036854775807 ∧
        K (.c (.own d (h.gen d + 1))) [(d, h.gen d + 1, .row ty e (List.replicate n.toNat z))]
    | _, _ => False := rfl
theorem a_sub {e : Nat} {x : Opd} {lo hi : Option Opd} : aeff P (.sub e x lo hi) d ev h K = match sliceOf e h (ev x), lenOf h (ev x) with
    | some (els, ws), some n => match bnd ev 0 lo, bnd ev n hi with
      | some l, some m => 0 ≤ l ∧ l ≤ m ∧ m ≤ n ∧ K (.c (.s (.sl e ((els.take m.toNat).drop l.toNat)))) ws
      | _, _ => False
    | _, _ => False := rfl
theorem a_z3 {x : Opd} : aeff P (.z3 x) d ev h K = match lenOf h (ev x) with
    | some _ => K (.c .zc) []
    | none => False := rfl
theorem a_ssub {x : Opd} {lo hi : Option Opd} : aeff P (.ssub x lo hi) d ev h K = match ev x with
    | .c (.s (.pv (.string s))) => match bnd ev 0 lo, bnd ev s.size hi with
      | some l, some m => 0 ≤ l ∧ l ≤ m ∧ m ≤ s.size ∧ K (.c (.s (.pv (.string (s.extract l.toNat m.toNat))))) []
      | _, _ => False
    | _ => False := rfl
theorem a_fld {off : Nat} {x : Opd} : aeff P (.fld off x) d ev h K = match ev x with
    | .c (.s (.sptr cs)) => off ≤ cs.length ∧ K (.c (.s (.sptr (cs.drop off)))) []
    | .c (.ptr l g i o) => g = h.gen l ∧ (h.view l).live = true ∧ K (.c (.ptr l g i (o + off))) []
    | _ => False := rfl
def idxK (K : KT) (x : List SC) : Prop := K (.c (.s (.sptr x))) []
theorem idxK_ap {x : List SC} : idxK K x = K (.c (.s (.sptr x))) [] := rfl
theorem a_idx {e : Nat} {x i : Opd} : aeff P (.idx e x i) d ev h K = match ev i with
    | .c (.s (.pv (.int k n))) => match ev x with
      | .c (.s (.sl e' els)) => e' = e ∧ 0 ≤ n ∧ AskIdx n.toNat els (idxK K)
      | .c (.own l g) => g = h.gen l ∧ match h.blk l with
        | .row ty e' els => e' = e ∧ 0 ≤ n ∧ n.toNat < els.length ∧ K (.c (.ptr l g n.toNat 0)) []
        | .ice (.sl e' els) => e' = e ∧ 0 ≤ n ∧ AskIdx n.toNat els (idxK K)
        | _ => False
      | _ => False
    | _ => False := rfl
theorem a_aidx {cnt e : Nat} {x i : Opd} : aeff P (.aidx cnt e x i) d ev h K = match ev i with
    | .c (.s (.pv (.int k n))) => 0 ≤ n ∧ n < cnt ∧ match ev x with
      | .c (.s (.sptr cs)) => n.toNat * e ≤ cs.length ∧ K (.c (.s (.sptr (cs.drop (n.toNat * e))))) []
      | .c (.ptr l g i0 off) => g = h.gen l ∧ match h.view l with
        | .mem _ _ e' _ => if e' = e ∧ off = 0 then K (.c (.ptr l g (i0 + n.toNat) 0)) [] else K (.c (.ptr l g i0 (off + n.toNat * e))) []
        | _ => False
      | _ => False
    | _ => False := rfl
def sidxK (s : ByteArray) (K : KT) (i : Nat) : Prop := ∃ hn : i < s.size, K (.c (.s (.pv (.int .u8 (s[i].toNat : Int))))) []
theorem a_sidx {x i : Opd} : aeff P (.sidx x i) d ev h K = match ev x, ev i with
    | .c (.s (.pv (.string s))), .c (.s (.pv (.int k n))) => 0 ≤ n ∧ sidxK s K n.toNat
    | _, _ => False := rfl
theorem a_field {agg : Bool} {off n : Nat} {x : Opd} : aeff P (.field agg off n x) d ev h K = match ev x with
    | .agg cs => off + n ≤ cs.length ∧ if agg then K (.agg ((cs.drop off).take n)) [] else match cs[off]? with
      | some c => K (.c c) []
      | none => False
    | _ => False := rfl
theorem a_ext {i : Nat} {x : Opd} : aeff P (.ext i x) d ev h K = match ev x with
    | .tup vs => match vs[i]? with
      | some (true, cs) => K (.agg cs) []
      | some (false, [c]) => K (.c c) []
      | _ => False
    | _ => False := rfl
theorem a_len {x : Opd} : aeff P (.len x) d ev h K = match lenOf h (ev x) with
    | some n => K (.c (.s (.pv (.int .i64 n)))) []
    | none => False := rfl
theorem a_slen {x : Opd} : aeff P (.slen x) d ev h K = match ev x with
    | .c (.s (.pv (.string s))) => K (.c (.s (.pv (.int .i64 s.size)))) []
    | _ => False := rfl
theorem a_app {ty e bytes : Nat} {s x : Opd} : aeff P (.app ty e bytes s x) d ev h K = match sliceOf e h (ev x), lenOf h (ev x) with
    | some (news, _), some m => match ev s with
      | .c .zc => (m : Int) * bytes ≤ 140737488355328 ∧ (m : Int) ≤ 9223372036854775807 ∧ K (.c (.own d (h.gen d + 1))) [(d, h.gen d + 1, .row ty e news)]
      | .c (.own l g) => g = h.gen l ∧ match h.blk l with
        | .row ty' e' els => ty' = ty ∧ e' = e ∧ ((els.length + m : Nat) : Int) * bytes ≤ 140737488355328 ∧ ((els.length + m : Nat) : Int) ≤ 9223372036854775807 ∧
            K (.c (.own l (g + 1))) [(l, g + 1, .row ty e (els ++ news))]
        | _ => False
      | _ => False
    | _, _ => False := rfl
/-- a call stands here: a contract is asked for -/
def Ask (P : Program) (f : Nat) (as : List (TV SC)) (h : Hp) (d : Nat) (xs : List (TV AC)) (K : KT) : Prop := (∃ r, Spec P f as r ∧ after h d xs r K) ∨ CallX P f h xs K
def AskV (P : Program) (f : Nat) (as : List (TV SC)) (h : Hp) (d : Nat) (xs : List (TV AC)) (K : KT) : Prop := ∃ r, Spec P f as r ∧ after h d xs r K
theorem a_call {f : Nat} {args : List Opd} : aeff P (.call f args) d ev h K = match all? (argB h) (args.map ev) with
    | some as => Ask P f as h d (args.map ev) K
    | none => CallX P f h (args.map ev) K := rfl
theorem a_callv {f : Opd} {args : List Opd} : aeff P (.callv f args) d ev h K = match ev f, all? (argB h) (args.map ev) with
    | .c (.s (.fn g caps)), some as => callable P g = true ∧ AskV P g (as ++ caps.map TV.c) h d (args.map ev) K
    | _, _ => False := rfl
theorem a_clo {f : Nat} {caps : List Opd} : aeff P (.clo f caps) d ev h K = match all? (fun x => whole (ev x)) caps with
    | some [] => K (.c (.s (.fn f []))) []
    | some ls => K (.c (.clo f ls)) []
    | none => False := rfl
theorem a_nilc {x : Opd} : aeff P (.nilc x) d ev h K = match ev x with
    | .c (.s (.sptr cs)) => K (ev x) []
    | .c (.s (.fn f caps)) => K (ev x) []
    | .c (.clo f ls) => K (ev x) []
    | .c (.ptr l g i o) => g = h.gen l ∧ (h.view l).live = true ∧ K (ev x) []
    | _ => False := rfl
theorem a_isnil {x : Opd} : aeff P (.isnil x) d ev h K = match ev x with
    | .c (.s (.tag b (.sl _ _))) => K (.c (.s (.pv (.bool b)))) []
    | _ => False := rfl
theorem a_mm {mx : Bool} {x y : Opd} : aeff P (.mm mx x y) d ev h K = match ev x, ev y with
    | .c (.s (.pv (.int k a))), .c (.s (.pv (.int k' b))) => K (.c (.s (.pv (.int k (if mx then max a b else min a b))))) []
    | _, _ => False := rfl
theorem ask {f : Nat} {as : List (TV SC)} {xs : List (TV AC)} {r : Res} (hs : Spec P f as r) (hk : after h d xs r K) : Ask P f as h d xs K := .inl ⟨r, hs, hk⟩
theorem askV {f : Nat} {as : List (TV SC)} {xs : List (TV AC)} {r : Res} (hs : Spec P f as r) (hk : after h d xs r K) : AskV P f as h d xs K := ⟨r, hs, hk⟩
/-- a contract of a function that turns a block of the caller's -/
theorem askX1 {f : Nat} {x0 : TV AC} {xr : List (TV AC)} {as : List (TV SC)} {X : XR} (hs : SpecX P f X as) (ha : all? (argB h) xr = some as) (hk : afterX h x0 xr X K) : CallX P f h (x0 :: xr) K := by
  refine .inl ?_
  unfold CallX0
  simp only [ha]
  exact ⟨X, hs, hk⟩
/-- a contract of a function that hands a row of the call's own through -/
theorem askR {f : Nat} {as : List (TV SC)} {xs : List (TV AC)} (l g : Nat) (rv : TV AC) {css : List (List AC)} (h1 : (h.blk l).isRow = true) (h2 : g = h.gen l) (h3 : okR l g rv = true) (hc : all? TV.cells xs = some css)
    (h4 : (all? (shA h) (restR l g css)).isSome = true) (h5 : ((frz h (restR l g css)).all fun p => !(p.1 == l)) = true) (F : Value → List (TV SC)) (hF : ∀ v, all? (rawT h l g v) xs = some (F v)) (hs : ∀ v, Spec P f (F v) (.val (lowT v rv))) (hk : K rv (frz h (restR l g css))) : Ask P f as h d xs K :=
  .inr (.inr ⟨l, g, rv, h1, h2, h3, by rw [hc]; exact ⟨h4, h5, fun v _ => ⟨F v, hF v, hs v⟩, hk⟩⟩)
theorem askX2 {f : Nat} {x0 : TV AC} {xr : List (TV AC)} {as bs : List (TV SC)} {X : XR} (hs : SpecX P f X as) (ha : all? (argB h) xr = some as) (hk : afterX h x0 xr X K) : Ask P f bs h d (x0 :: xr) K := .inr (askX1 hs ha hk)
theorem askS {f : Nat} {as as' : List (TV SC)} {xs : List (TV AC)} {r : Res} (hs : Spec P f as' r) (ha : asim as as') (hk : after h d xs r K) : Ask P f as h d xs K := .inl ⟨r, hs.sim ha, hk⟩
theorem askEq {neg : Bool} {t : Nat} {us vs : List Value} {r : Bool} (hs : EqRun P t us vs r) (hk : K (.c (.s (.pv (.bool (neg ^^ r))))) []) : AskEq P neg t us vs K := ⟨r, hs, hk⟩
def AF (b : Bool) (h : Hp) (xs : List (TV AC)) (r : TV SC) (K : KT) : Prop := if b = true then K r.lift [] else match all? TV.cells xs with
    | some css => (all? (shA h) css.flatten).isSome = true ∧ K r.lift (frz h css.flatten)
    | none => False
theorem after_val {xs : List (TV AC)} {r : TV SC} : after h d xs (.val r) K = AF r.flat h xs r K := by
  unfold after AF
  cases hf : r.flat with
  | true => rw [if_pos (show (Res.val r).flat = true from hf), if_pos rfl]
  | false =>
    rw [if_neg (by simp [Res.flat, hf]), if_neg (by simp)]
    cases all? TV.cells xs <;> rfl
theorem af_t {xs : List (TV AC)} {r : TV SC} : AF true h xs r K = K r.lift [] := rfl
theorem af_f {xs : List (TV AC)} {r : TV SC} : AF false h xs r K = match all? TV.cells xs with
    | some css => (all? (shA h) css.flatten).isSome = true ∧ K r.lift (frz h css.flatten)
    | none => False := rfl
theorem after_row {xs : List (TV AC)} {ty e : Nat} {els : List (List SC)} : after h d xs (.row ty e els) K = match all? TV.cells xs with
    | some css => (all? (shA h) css.flatten).isSome = true ∧ K (.c (.own d ((h.app (frz h css.flatten)).gen d + 1))) (frz h css.flatten ++ [(d, (h.app (frz h css.flatten)).gen d + 1, .row ty e els)])
    | none => False := by
  unfold after
  rw [if_neg (by simp [Res.flat])]
  cases all? TV.cells xs <;> rfl
theorem after_trow {xs : List (TV AC)} {ty e : Nat} {els : List (List SC)} {rest : List AC} {more : List (Bool × List AC)} : after h d xs (.trow ty e els rest more) K = match all? TV.cells xs with
    | some css => (all? (shA h) css.flatten).isSome = true ∧ K (.tup ((true, .own d ((h.app (frz h css.flatten)).gen d + 1) :: rest) :: more)) (frz h css.flatten ++ [(d, (h.app (frz h css.flatten)).gen d + 1, .row ty e els)])
    | none => False := by
  unfold after
  rw [if_neg (by simp [Res.flat])]
  cases all? TV.cells xs <;> rfl
/-- a loop, by what holds with so many rounds to go -/
theorem loopA {b : ACode} {Q : Ex → St → Prop} {σ : St} (I : Nat → St → Prop) (m : Nat) (h0 : I m σ) (hr : ∀ m σ, I m σ → wpA P b (Ex.then (fun σ' => ∃ m', m' < m ∧ I m' σ') Q) σ) : LoopA (wpA P b) Q σ := ⟨I, m, ⟨σ, .refl σ, h0⟩, hr⟩
theorem shift {b : (Ex → St → Prop) → St → Prop} {Q : Ex → St → Prop} {σ σ' : St} (hs : Sub σ σ') (h : LoopA b Q σ') : LoopA b Q σ := by
  obtain ⟨I, m, ⟨σ1, h1, h2⟩, h3⟩ := h
  exact ⟨I, m, ⟨σ1, hs.trans h1, h2⟩, h3⟩
end
/-! the places of a state -/
theorem only_gen {h : Hp} {L : List Nat} {l : Nat} : (h.only L).gen l = if L.contains l then h.gen l else 0 := rfl
theorem only_blk {h : Hp} {L : List Nat} {l : Nat} : (h.only L).blk l = if L.contains l then h.blk l else .dead := rfl
theorem eff_none {σ : St} {v : TV AC} {ws : List (Nat × Nat × LB)} : σ.eff none v ws = ⟨σ.slot, σ.h.app ws⟩ := rfl
theorem eff_some {σ : St} {t : Nat} {v : TV AC} {ws : List (Nat × Nat × LB)} : σ.eff (some t) v ws = ⟨upd σ.slot t v, σ.h.app ws⟩ := rfl
theorem ev_t {σ : St} {k : Nat} : σ.ev (.t k) = σ.slot k := rfl
theorem ev_k {σ : St} {x : TV AC} : σ.ev (.k x) = x := rfl
theorem app_nil {h : Hp} : h.app [] = h := rfl
theorem app_cons {h : Hp} {l g : Nat} {b : LB} {ws : List (Nat × Nat × LB)} : h.app ((l, g, b) :: ws) = (h.set l g b).app ws := rfl
theorem set_gen {h : Hp} {l g k : Nat} {b : LB} : (h.set l g b).gen k = if k = l then g else h.gen k := rfl
theorem set_blk {h : Hp} {l g k : Nat} {b : LB} : (h.set l g b).blk k = if k = l then b else h.blk k := rfl
theorem upd_ap {α : Type} {f : Nat → α} {k i : Nat} {v : α} : upd f k v i = if i = k then v else f i := rfl
theorem view_eq {h : Hp} {l : Nat} : h.view l = (h.blk l).view := rfl
theorem init_slot {args : List (TV SC)} {i : Nat} : (St.init args).slot i = match args[i]? with
  | some x => x.lift
  | none => .no := rfl
theorem init_gen {args : List (TV SC)} {l : Nat} : (St.init args).h.gen l = 0 := rfl
theorem init_blk {args : List (TV SC)} {l : Nat} : (St.init args).h.blk l = .dead := rfl
end Go.Proofs.Ytbpipdgkkdifgaa
