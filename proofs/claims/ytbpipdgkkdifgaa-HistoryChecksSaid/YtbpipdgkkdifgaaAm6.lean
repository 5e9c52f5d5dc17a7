/- AN ABSTRACT MACHINE over the model, six: what makes memory, and turns it. No condition. -/
import Derived.Test.YtbpipdgkkdifgaaAm5
import Derived.Great.BuildSlice
namespace Go.Proofs.Ytbpipdgkkdifgaa
open Go.RowKit
set_option linter.unusedVariables false

section
variable {P : Program} {O : Nat → Prop} {w0 : Base} {n : Nat} {σ : St} {β : Env} {a : Act} {w : World}
/-- a block of its own is made -/
theorem Rel.fresh (r : Rel O w0 n σ β a w) {w' : World} {d ty e g cap : Nat} {row : Bool} {els : List (List AC)} {lb : LB} {cur : Array Value} (hlb : lb.view = .mem row ty e els) (h0 : 0 < e) (he : ∀ x ∈ els, x.length = e)
    (hw : Below w.heap.size w w') (hg : w.heap.size ≤ g) (hb : Blk w' g ty cur) (hr : RL (RepA σ.h β w (Mine O σ.h β)) els.flatten (cur.toList.take els.flatten.length))
    (hrow : row = true → els.length ≤ cap ∧ cap ≤ maxLen ∧ cur.size = cap * e) :
    Rel O w0 n ⟨σ.slot, σ.h.set d (σ.h.gen d + 1) lb⟩ (upd β d (some g, .slice (some ⟨g, 0, none⟩) els.length cap)) a w' := by
  have t : Turn O σ.h β w w' d (σ.h.gen d + 1) lb (some g) (.slice (some ⟨g, 0, none⟩) els.length cap) :=
    ⟨hw.size, hw.os, hw.tape, hw.output, fun k hk _ => hw.block k hk, fun k hk => .inl (by cases hk; exact hg), .inl ⟨by omega, by rw [hlb]; rfl⟩⟩
  refine t.rel r ?_
  unfold RepB
  rw [Hp.view_at, hlb]
  refine ⟨h0, he, .inr ⟨g, cap, cur, by rw [upd_at], hb, hr.mono (fun x u hx => t.repA r.toRelH hx), fun e1 => ?_⟩⟩
  rw [upd_at]
  obtain ⟨h1, h2, h3⟩ := hrow e1
  exact ⟨rfl, h1, h2, h3⟩
/-- a row of its own, of nothing, without a block -/
theorem Rel.fresh0 (r : Rel O w0 n σ β a w) {d ty e : Nat} (h0 : 0 < e) (A : Option Addr) :
    Rel O w0 n ⟨σ.slot, σ.h.set d (σ.h.gen d + 1) (.row ty e [])⟩ (upd β d (none, .slice A 0 0)) a w := by
  have t : Turn O σ.h β w w d (σ.h.gen d + 1) (.row ty e []) none (.slice A 0 0) :=
    ⟨Nat.le_refl _, rfl, rfl, rfl, fun k hk _ => rfl, fun k hk => by simp at hk, .inl ⟨by omega, rfl⟩⟩
  refine t.rel r ?_
  unfold RepB
  rw [Hp.view_at]
  exact ⟨h0, by simp, .inl ⟨rfl, rfl, by rw [upd_at], A, by rw [upd_at]⟩⟩
theorem own_mk {h : Hp} {O : Nat → Prop} {l g : Nat} {lb : LB} {b : Option Nat} {ty e : Nat} {els : List (List AC)} {A : Option Addr} {k c : Nat} (hlb : lb.view = .mem true ty e els) :
    RepT (RepA (h.set l g lb) (upd β l (b, .slice A k c)) w O) (.c (.own l g)) (.slice A k c) :=
  ⟨rfl, by rw [Hp.gen_at]; exact Nat.le_refl _, fun _ => by rw [Hp.view_at, hlb]; intro _; rw [upd_at]⟩
theorem ptr_mk {h : Hp} {O : Nat → Prop} {l g : Nat} {lb : LB} {b : Nat} {sv : Value} {row : Bool} {ty e : Nat} {els : List (List AC)} (hlb : lb.view = .mem row ty e els) :
    RepT (RepA (h.set l g lb) (upd β l (some b, sv)) w O) (.c (.ptr l g 0 0)) (.pointer (some ⟨b, 0, none⟩)) :=
  ⟨rfl, by rw [Hp.gen_at]; exact Nat.le_refl _, fun _ => by rw [Hp.view_at, hlb]; exact ⟨b, by rw [upd_at], by simp⟩⟩
theorem alloc_below (w : World) (o : Obj) : Below w.heap.size w (w.alloc o) := (Below.refl _ _).alloc (Nat.le_refl _) o
theorem op_mk (r : Rel O w0 n σ β a w) {o : Oper} {d t e : Nat} {ti : TI} {els : List (List AC)} (ho : o.op = .alloc t) (ht : TIs P t ti) (hf : els.flatten = ti.zero) (h0 : 0 < e) (he : ∀ x ∈ els, x.length = e) :
    Ok1 P o a w (Done O w0 n σ a (.c (.ptr d (σ.h.gen d + 1) 0 0)) [(d, σ.h.gen d + 1, .box t e els)]) := by
  obtain ⟨i, dd, h1, h2, h3, h4, h5, h6⟩ := ht.info
  refine Ok1.value (u := .pointer (some ⟨w.heap.size, 0, none⟩)) (w' := w.alloc (.cells ti.zv.cells t)) ?_ ⟨_, r.fresh (cur := ti.zv.cells) (cap := 0) rfl h0 he (alloc_below _ _) (Nat.le_refl _) (Blk.new _ _ _) ?_ (fun e => by simp at e), ptr_mk rfl⟩
  · simp [execOp, ho, Instr.alloc, run_zero' h1 h3, newVar, newRow]
  · rw [hf, ht.len]
    have hz := cacs_ok (h := σ.h) (β := β) (w := w) (O := Mine O σ.h β) ht.zero
    have hl := hz.1
    rw [ht.len] at hl
    rw [List.take_of_length_le (by omega)]
    exact hz
theorem op_box (r : Rel O w0 n σ β a w) {o : Oper} {d t : Nat} {ti : TI} {x : Operand} {x' : Opd} {cs : List AC} (ho : o.op = .box t x) (ex : copd x = some x') (ht : TIs P t ti) (hc : (σ.ev x').cells = some cs) (hl : cs.length = ti.n) :
    Ok1 P o a w (Done O w0 n σ a (.c (.ptr d (σ.h.gen d + 1) 0 0)) [(d, σ.h.gen d + 1, .box t ti.n [cs])]) := by
  obtain ⟨h1, _⟩ := (r.ev ex).cellsInv hc
  refine Ok1.value (u := .pointer (some ⟨w.heap.size, 0, none⟩)) (w' := w.alloc (.cells (a.eval x).cells t)) ?_ ⟨_, r.fresh (cur := (a.eval x).cells) (cap := 0) rfl ht.pos (by simp [hl]) (alloc_below _ _) (Nat.le_refl _) (Blk.new _ _ _) ?_ (fun e => by simp at e), ptr_mk rfl⟩
  · simp [execOp, ho, Instr.box, newVar, newRow]
  · have := h1.1
    simp only [List.flatten_cons, List.flatten_nil, List.append_nil]
    rw [List.take_of_length_le (by omega)]
    exact h1

/-! structs of parts -/
theorem RL.patch {α : Type} {R : α → Value → Prop} {xs cs : List α} {us vs : List Value} (h : RL R xs us) (t : RL R cs vs) (p : Nat) : RL R (patch xs p cs) (patch us p vs) := by
  unfold Go.Proofs.Ytbpipdgkkdifgaa.patch
  rw [t.1]
  exact ((h.take p).append t).append (h.drop _)
theorem patch_length {α : Type} (xs cs : List α) (p : Nat) (h : p + cs.length ≤ xs.length) : (patch xs p cs).length = xs.length := by
  unfold patch
  simp only [List.length_append, List.length_take, List.length_drop]
  omega
theorem zip_patch : ∀ (vs : List Value) (k : Nat) (cells : Array Value) (p : Nat), p + k + vs.length ≤ cells.size →
    (List.foldl (fun (cs : Array Value) (x : Value × Nat) => cs.setIfInBounds (p + x.2) x.1) cells (vs.zipIdx k)).toList = patch cells.toList (p + k) vs := by
  intro vs
  induction vs with
  | nil => intro k cells p h; simp [patch]
  | cons v vs ih =>
    intro k cells p h
    simp only [List.zipIdx_cons, List.foldl_cons]
    rw [ih (k + 1) _ p (by simp at h ⊢; omega)]
    unfold patch
    simp only [Array.toList_setIfInBounds]
    simp only [List.length_cons] at h
    have hl : p + k < cells.toList.length := by simp; omega
    rw [List.set_eq_take_append_cons_drop, if_pos hl]
    have hlt : (List.take (p + k) cells.toList).length = p + k := by simp; omega
    rw [show p + (k + 1) = p + k + 1 by omega]
    have e1 : List.take (p + k + 1) (List.take (p + k) cells.toList ++ v :: List.drop (p + k + 1) cells.toList) = List.take (p + k) cells.toList ++ [v] := by
      rw [List.take_append, hlt, List.take_of_length_le (by omega)]
      simp
    have e2 : List.drop (p + k + 1 + vs.length) (List.take (p + k) cells.toList ++ v :: List.drop (p + k + 1) cells.toList) = List.drop (p + k + (v :: vs).length) cells.toList := by
      rw [List.drop_append, hlt, List.drop_of_length_le (by omega), show p + k + 1 + vs.length - (p + k) = vs.length + 1 by omega]
      simp only [List.drop_succ_cons, List.drop_drop, List.nil_append, List.length_cons]
      congr 1
      omega
    rw [e1, e2]
    simp
theorem fill_ok {h : Hp} {O : Nat → Prop} {place : Nat → Option (Nat × Nat)} : ∀ (parts : List (Nat × Operand)) (ps : List (Nat × Nat × Opd)) (cells : Array Value) (z cs : List AC),
    (∀ x ∈ parts, ∀ y, copd x.2 = some y → RepT (RepA h β w O) (σ.ev y) (a.eval x.2)) →
    all? (fun x => match place x.1, copd x.2 with
      | some (off, sz), some y => some (off, sz, y)
      | _, _ => none) parts = some ps →
    RL (RepA h β w O) z cells.toList → fillA σ.ev z ps = some cs →
    ∃ out, Instr.fill place cells (parts.map fun x => (x.1, a.eval x.2)) = some out ∧ RL (RepA h β w O) cs out.toList := by
  intro parts
  induction parts with
  | nil =>
    intro ps cells z cs _ hp hz hf
    rw [all?_nil hp] at hf
    simp only [fillA, Option.some.injEq] at hf
    subst hf
    exact ⟨cells, rfl, hz⟩
  | cons x xs ih =>
    intro ps cells z cs hev hp hz hf
    obtain ⟨y, ys, h1, h2, rfl⟩ := all?_cons hp
    cases hpl : place x.1 with
    | none => rw [hpl] at h1; simp at h1
    | some os =>
      obtain ⟨off, sz⟩ := os
      cases hcx : copd x.2 with
      | none => rw [hpl, hcx] at h1; simp at h1
      | some y' =>
        rw [hpl, hcx] at h1
        simp only [Option.some.injEq] at h1
        subst h1
        simp only [fillA] at hf
        cases hcc : (σ.ev y').cells with
        | none => rw [hcc] at hf; simp at hf
        | some c =>
          rw [hcc] at hf
          simp only at hf
          split at hf
          · rename_i hcond
            obtain ⟨hl1, hl2⟩ := hcond
            obtain ⟨h3, _⟩ := (hev x (by simp) y' hcx).cellsInv hcc
            have hsz : (a.eval x.2).cells.size = sz := by have := h3.1; simp at this; omega
            have hcz : z.length = cells.size := by have := hz.1; simpa using this
            have hzp := zip_patch (a.eval x.2).cells.toList 0 cells off (by simp; omega)
            obtain ⟨out, h4, h5⟩ := ih ys ((a.eval x.2).cells.toList.zipIdx.foldl (fun (cs : Array Value) (x : Value × Nat) => cs.setIfInBounds (off + x.2) x.1) cells) (patch z off c) cs (fun x hx => hev x (by simp [hx])) h2 (by
              rw [hzp]; exact hz.patch h3 _) hf
            refine ⟨out, ?_, h5⟩
            have hc1 : ¬ (a.eval x.2).cells.size ≠ sz := by omega
            have hc2 : ¬ (off + (a.eval x.2).cells.size > cells.size) := by omega
            rw [← h4]
            simp only [List.map_cons, Instr.fill, hpl]
            rw [if_neg (by simp [hsz]; omega)]
            congr 1
            rw [← Array.foldl_toList]
            simp
          · simp at hf
theorem chunk_flat {α : Type} (e : Nat) : ∀ (k : Nat) (l : List α), l.length = k * e → (chunk e k l).flatten = l ∧ (∀ x ∈ chunk e k l, x.length = e) ∧ (chunk e k l).length = k := by
  intro k
  induction k with
  | zero => intro l h; simp at h; subst h; simp [chunk]
  | succ k ih =>
    intro l h
    rw [Nat.add_mul] at h
    obtain ⟨h1, h2, h3⟩ := ih (l.drop e) (by simp; omega)
    refine ⟨?_, ?_, ?_⟩
    · simp only [chunk, List.flatten_cons, h1, List.take_append_drop]
    · intro x hx
      rcases List.mem_cons.1 hx with rfl | hx
      · simp; omega
      · exact h2 x hx
    · simp [chunk, h3]
def placeOf (P : Program) (t : Nat) : Option (Nat → Option (Nat × Nat)) :=
  match P.underlying t with
  | some (.array _ e) => (P.info? e).map fun ie => fun i => some (i * ie.size, ie.size)
  | some (.struct fields) => (fields.toList.mapM (fun f => (P.info? f.type).map fun i => (f.offset, i.size))).map fun places => (places.toArray[·]?)
  | _ => none
def partsOf (place : Nat → Option (Nat × Nat)) (parts : List (Nat × Operand)) : Option (List (Nat × Nat × Opd)) := all? (fun x => match place x.1, copd x.2 with
      | some (off, sz), some y => some (off, sz, y)
      | _, _ => none) parts
theorem op_build (r : Rel O w0 n σ β a w) {o : Oper} {t : Nat} {ti : TI} {parts : Array (Nat × Operand)} {ps : List (Nat × Nat × Opd)} {place : Nat → Option (Nat × Nat)} {cs : List AC} (ho : o.op = .build t parts) (ht : TIs P t ti)
    (hpl : placeOf P t = some place) (hps : partsOf place parts.toList = some ps) (hf : fillA σ.ev ti.zero ps = some cs) : Ok1 P o a w (Done O w0 n σ a (.agg cs) []) := by
  obtain ⟨out, h1, h2⟩ := fill_ok (place := place) (h := σ.h) (O := Mine O σ.h β) (w := w) parts.toList ps ti.zv.cells ti.zero cs (fun x _ y hy => r.ev hy) hps (cacs_ok ht.zero) hf
  refine Ok1.value (u := .agg out) (w' := w) ?_ (r.pure ⟨out.toList, by simp, h2⟩)
  obtain ⟨i, d, h3, h4, h5, h6, h7, h8⟩ := ht.info
  have hb : P.built t (parts.map fun x => (x.1, a.eval x.2)).toList = some out := by
    rw [Array.toList_map]
    unfold placeOf at hpl
    unfold Program.built
    rw [h4] at hpl
    rw [h3, h4]
    cases d with
    | array m e =>
      simp only [Option.map_eq_some_iff] at hpl
      obtain ⟨ie, hie, rfl⟩ := hpl
      simp only [h5, hie]
      exact h1
    | struct fields =>
      simp only [Option.map_eq_some_iff] at hpl
      obtain ⟨places, hie, rfl⟩ := hpl
      simp only [h5, hie]
      exact h1
    | _ => simp at hpl
  have h9 := run_build w t _ out hb
  simp [execOp, ho, h9]
theorem op_bslice (r : Rel O w0 n σ β a w) {o : Oper} {d t e len : Nat} {ti : TI} {parts : Array (Nat × Operand)} {ps : List (Nat × Nat × Opd)} {cs : List AC} {ss : List SC} (ho : o.op = .buildSlice t len parts) (ht : P.underlying t = some (.slice e)) (hti : TIs P e ti)
    (hps : partsOf (fun i => some (i * ti.n, ti.n)) parts.toList = some ps) (hf : fillA σ.ev (List.replicate len ti.zero).flatten ps = some cs) (hs : all? (shA σ.h) cs = some ss) (hsm : len * ti.n ≤ 16777216) :
    Ok1 P o a w (Done O w0 n σ a (.c (.own d ((σ.h.app (frz σ.h cs)).gen d + 1))) (frz σ.h cs ++ [(d, (σ.h.app (frz σ.h cs)).gen d + 1, .row e ti.n (chunk ti.n len ss))])) := by
  obtain ⟨i, dd, h1, h2, h3, h4, h5, h6⟩ := hti.info
  have hzl : ti.zv.cells.size = ti.n := by
    have := (cacs_ok (h := σ.h) (β := β) (w := w) (O := O) hti.zero).1
    have h := hti.len
    simp at this; omega
  -- the zeros
  let Z : Array Value := (Array.range (len * ti.n)).map (ti.zv.cells[· % ti.zv.cells.size]!)
  have hZ : ∀ m, RL (RepA σ.h β w (Mine O σ.h β)) (List.replicate m ti.zero).flatten ((List.range (m * ti.n)).map (fun k => ti.zv.cells[k % ti.zv.cells.size]!)) := by
    intro m
    have hz := cacs_ok (h := σ.h) (β := β) (w := w) (O := Mine O σ.h β) hti.zero
    have hp := hti.pos
    refine ⟨by simp [hti.len], fun k hk hk' => ?_⟩
    have hk2 : k < m * ti.n := by simpa using hk'
    have hdiv : k / ti.n < m := Nat.div_lt_of_lt_mul (by rw [Nat.mul_comm]; exact hk2)
    have hmod : k % ti.n < ti.n := Nat.mod_lt _ hp
    have hka : k / ti.n * ti.n + k % ti.n = k := by rw [Nat.mul_comm]; exact Nat.div_add_mod k ti.n
    have hg := flatten_get (e := ti.n) (List.replicate m ti.zero) (fun x hx => by rw [List.eq_of_mem_replicate hx]; exact hti.len) (k / ti.n) (by simpa using hdiv) (k % ti.n) hmod
    rw [hka, List.getElem_replicate] at hg
    rw [List.getElem?_eq_getElem hk, List.getElem?_eq_getElem (by rw [hti.len]; exact hmod)] at hg
    have hg2 : ((List.replicate m ti.zero).flatten)[k] = ti.zero[k % ti.n]'(by rw [hti.len]; exact hmod) := by simpa using hg
    rw [hg2]
    have := hz.2 (k % ti.n) (by rw [hti.len]; exact hmod) (by simp [hzl]; exact hmod)
    simp only [List.getElem_map, List.getElem_range, hzl]
    rw [getElem!_pos ti.zv.cells _ (by rw [hzl]; exact hmod)]
    simpa using this
  have hZl : Z.toList = (List.range (len * ti.n)).map (fun k => ti.zv.cells[k % ti.zv.cells.size]!) := by simp [Z, Array.toList_range]
  obtain ⟨out, h7, h8⟩ := fill_ok (place := fun i => some (i * ti.n, ti.n)) (h := σ.h) (O := Mine O σ.h β) (w := w) parts.toList ps Z (List.replicate len ti.zero).flatten cs (fun x _ y hy => r.ev hy) hps (by rw [hZl]; exact hZ len) hf
  have hcl : cs.length = len * ti.n := by
    have : ∀ (ps : List (Nat × Nat × Opd)) (z cs : List AC), fillA σ.ev z ps = some cs → cs.length = z.length := by
      intro ps
      induction ps with
      | nil => intro z cs h; simp [fillA] at h; rw [h]
      | cons p ps ih =>
        intro z cs h
        obtain ⟨off, m, x⟩ := p
        simp only [fillA] at h
        cases hc : (σ.ev x).cells with
        | none => rw [hc] at h; simp at h
        | some c =>
          rw [hc] at h
          simp only at h
          split at h
          · rename_i hcond
            rw [ih _ _ h, patch_length _ _ _ (by omega)]
          · simp at h
    rw [this ps _ cs hf]
    simp [hti.len]
  obtain ⟨r1, r2, r3⟩ := frz_ok cs σ.h r.toRelH
  have r' : Rel O w0 n ⟨σ.slot, σ.h.app (frz σ.h cs)⟩ β a w := ⟨r1, r.hd, r.hn, fun k => (r.slots k).mono (fun x u hx => r2 x u hx)⟩
  have hss : RL (RepS w (Mine O (σ.h.app (frz σ.h cs)) β)) ss out.toList := h8.all hs (fun x y u hx hy hu => r3 x hx y hy u hu)
  obtain ⟨hc1, hc2, hc3⟩ := chunk_flat ti.n len ss (by rw [hss.1, ← h8.1, hcl])
  have hlb : (LB.row e ti.n (chunk ti.n len ss)).view = .mem true e ti.n ((chunk ti.n len ss).map (List.map AC.s)) := rfl
  have hfl : ((chunk ti.n len ss).map (List.map AC.s)).flatten = ss.map AC.s := by rw [← List.map_flatten, hc1]
  have hln : ((chunk ti.n len ss).map (List.map AC.s)).length = len := by rw [List.length_map, hc3]
  have hout : out.size = len * ti.n := by have := h8.1; simp at this; omega
  have hrun : (execOp a.eval o).run P w = .ok (.value (.slice (some ⟨w.heap.size, 0, none⟩) len len)) (w.alloc (.cells out e)) := by
    by_cases h0 : len = 0
    · subst h0
      have h10 : out = Z := by
        have h9 : out.size = 0 := by rw [hout]; simp
        have h11 : Z.size = 0 := by simp [Z]
        rw [Array.size_eq_zero_iff] at h9 h11
        rw [h9, h11]
      have h12 : Z = #[] := by simp [Z]
      rw [h12] at h7
      simp [execOp, ho, Instr.buildSlice, run_underlying ht, run_sizeOf' h1, h4, newRow]
      have h13 : (parts.map fun x => (x.1, a.eval x.2)).toList = parts.toList.map fun x => (x.1, a.eval x.2) := Array.toList_map
      have h14 : ∀ f : Nat → Value, Array.map f (Array.range 0) = #[] := fun f => by simp
      rw [h14, h7]
      simp
    · have hpos : ¬ len * i.size = 0 := by
        have := hti.pos
        rw [h4]
        intro hh
        rcases Nat.mul_eq_zero.1 hh with h | h <;> omega
      have := run_buildSlice (P := P) w t e len (parts.map fun x => (x.1, a.eval x.2)) out i ti.zv ht h1 h3 (by rw [h4]; omega) hpos (by rw [Array.toList_map, h4]; exact h7)
      simp [execOp, ho, this]
  rw [show (len : Nat) = ((chunk ti.n len ss).map (List.map AC.s)).length from hln.symm] at hrun
  refine Ok1.value hrun ?_
  rw [Done]
  rw [Hp.app_append]
  have hfr := r'.fresh (d := d) (cur := out) (cap := len) hlb hti.pos (by intro x hx; obtain ⟨y, hy, rfl⟩ := List.mem_map.1 hx; rw [List.length_map]; exact hc2 y hy) (alloc_below w (.cells out e)) (Nat.le_refl _) (Blk.new _ _ _) (by
      rw [hfl]
      rw [List.take_of_length_le (by rw [List.length_map, hss.1]; exact Nat.le_refl _)]
      exact hss.map AC.s (fun x u hx => hx)) (fun _ => ⟨by rw [hln]; exact Nat.le_refl _, by unfold maxLen; have := hti.pos; have : len ≤ len * ti.n := Nat.le_mul_of_pos_right _ this; omega, hout⟩)
  have hown := own_mk (w := w.alloc (.cells out e)) (O := Mine O ((σ.h.app (frz σ.h cs)).set d ((σ.h.app (frz σ.h cs)).gen d + 1) (.row e ti.n (chunk ti.n len ss))) (upd β d (some w.heap.size, .slice (some ⟨w.heap.size, 0, none⟩) ((chunk ti.n len ss).map (List.map AC.s)).length len))) (β := β) (h := σ.h.app (frz σ.h cs)) (l := d) (g := (σ.h.app (frz σ.h cs)).gen d + 1) (b := some w.heap.size) (A := some ⟨w.heap.size, 0, none⟩) (k := ((chunk ti.n len ss).map (List.map AC.s)).length) (c := len) hlb
  refine ⟨_, hfr, ?_⟩
  rw [hln] at hown ⊢
  exact hown
end
end Go.Proofs.Ytbpipdgkkdifgaa
