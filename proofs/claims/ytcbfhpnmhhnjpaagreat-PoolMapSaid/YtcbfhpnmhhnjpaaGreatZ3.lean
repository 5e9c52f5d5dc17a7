import Derived.Test.YtcbfhpnmhhnjpaaGreatZ2
import Derived.Laws.Slices
set_option linter.unusedVariables false
set_option linter.unusedSimpArgs false
namespace Go.Proofs.YtcbfhpnmhhnjpaaGreat
open Go.RowKit
section
variable {P : Program} {O : Nat → Prop} {w0 : Base} {n : Nat} {σ : St} {β : Env} {a : Act} {w : World}
theorem Rel.fresh (r : Rel O w0 n σ β a w) {w' : World} {d ty e g cap : Nat} {row : Bool} {els : List (List AC)} {lb : LB} {cur : Array Value} (hlb : lb.view = .mem row ty e els) (h0 : 0 < e) (he : ∀ x ∈ els, x.length = e)
    (hw : Below w.heap.size w w') (hg : w.heap.size ≤ g) (hb : Blk w' g ty cur) (hr : RL (RepA σ.h β w (Mine O σ.h β)) els.flatten (cur.toList.take els.flatten.length))
    (hrow : row = true → els.length ≤ cap ∧ cap ≤ maxLen ∧ cur.size = cap * e) :
    Rel O w0 n ⟨σ.slot, σ.h.set d (σ.h.gen d + 1) lb⟩ (upd β d (some g, .slice (some ⟨g, 0, none⟩) els.length cap)) a w' := by
  have t : Turn O σ.h β w w' d (σ.h.gen d + 1) lb (some g) (.slice (some ⟨g, 0, none⟩) els.length cap) :=
    ⟨hw.size, hw.os, hw.tape, hw.output, fun k hk _ => hw.block k hk, fun k hk => .inl (by cases hk; exact hg), .inl ⟨by omega, by rw [hlb]; rfl⟩⟩
  refine t.rel r ?_
  unfold RepB
  rw [Hp.view_at, hlb]
  refine ⟨h0, he, .inr ⟨g, cap, cur, by rw [upd_at], hb, hr.mono (fun x u hx => t.repA r.toRelH hx), fun e1 => ?_⟩⟩
  rw [upd_at]
  obtain ⟨h1, h2, h3⟩ := hrow e1
  exact ⟨rfl, h1, h2, h3⟩
theorem Rel.fresh0 (r : Rel O w0 n σ β a w) {d ty e : Nat} (h0 : 0 < e) (A : Option Addr) :
    Rel O w0 n ⟨σ.slot, σ.h.set d (σ.h.gen d + 1) (.row ty e [])⟩ (upd β d (none, .slice A 0 0)) a w := by
  have t : Turn O σ.h β w w d (σ.h.gen d + 1) (.row ty e []) none (.slice A 0 0) :=
    ⟨Nat.le_refl _, rfl, rfl, rfl, fun k hk _ => rfl, fun k hk => by simp at hk, .inl ⟨by omega, rfl⟩⟩
  refine t.rel r ?_
  unfold RepB
  rw [Hp.view_at]
  exact ⟨h0, by simp, .inl ⟨rfl, rfl, by rw [upd_at], A, by rw [upd_at]⟩⟩
theorem own_mk {h : Hp} {O : Nat → Prop} {l g : Nat} {lb : LB} {b : Option Nat} {ty e : Nat} {els : List (List AC)} {A : Option Addr} {k c : Nat} (hlb : lb.view = .mem true ty e els) :
    RepT (RepA (h.set l g lb) (upd β l (b, .slice A k c)) w O) (.c (.own l g)) (.slice A k c) :=
  ⟨rfl, by rw [Hp.gen_at]; exact Nat.le_refl _, fun _ => by rw [Hp.view_at, hlb]; intro _; rw [upd_at]⟩
theorem ptr_mk {h : Hp} {O : Nat → Prop} {l g : Nat} {lb : LB} {b : Nat} {sv : Value} {row : Bool} {ty e : Nat} {els : List (List AC)} (hlb : lb.view = .mem row ty e els) :
    RepT (RepA (h.set l g lb) (upd β l (some b, sv)) w O) (.c (.ptr l g 0 0)) (.pointer (some ⟨b, 0, none⟩)) :=
  ⟨rfl, by rw [Hp.gen_at]; exact Nat.le_refl _, fun _ => by rw [Hp.view_at, hlb]; exact ⟨b, by rw [upd_at], by simp⟩⟩
theorem alloc_below (w : World) (o : Obj) : Below w.heap.size w (w.alloc o) := (Below.refl _ _).alloc (Nat.le_refl _) o
theorem op_mk (r : Rel O w0 n σ β a w) {o : Oper} {d t e : Nat} {ti : TI} {els : List (List AC)} (ho : o.op = .alloc t) (ht : TIs P t ti) (hf : els.flatten = ti.zero) (h0 : 0 < e) (he : ∀ x ∈ els, x.length = e) :
    Ok1 P o a w (Done O w0 n σ a (.c (.ptr d (σ.h.gen d + 1) 0 0)) [(d, σ.h.gen d + 1, .box t e els)]) := by
  obtain ⟨i, dd, h1, h2, h3, h4, h5, h6⟩ := ht.info
  refine Ok1.value (u := .pointer (some ⟨w.heap.size, 0, none⟩)) (w' := w.alloc (.cells ti.zv.cells t)) ?_ ⟨_, r.fresh (cur := ti.zv.cells) (cap := 0) rfl h0 he (alloc_below _ _) (Nat.le_refl _) (Blk.new _ _ _) ?_ (fun e => by simp at e), ptr_mk rfl⟩
  · simp [execOp, ho, Instr.alloc, run_zero' h1 h3, newVar, newRow]
  · rw [hf, ht.len]
    have hz := cacs_ok (h := σ.h) (β := β) (w := w) (O := Mine O σ.h β) ht.zero
    have hl := hz.1
    rw [ht.len] at hl
    rw [List.take_of_length_le (by omega)]
    exact hz
theorem op_box (r : Rel O w0 n σ β a w) {o : Oper} {d t : Nat} {ti : TI} {x : Operand} {x' : Opd} {cs : List AC} (ho : o.op = .box t x) (ex : copd x = some x') (ht : TIs P t ti) (hc : (σ.ev x').cells = some cs) (hl : cs.length = ti.n) :
    Ok1 P o a w (Done O w0 n σ a (.c (.ptr d (σ.h.gen d + 1) 0 0)) [(d, σ.h.gen d + 1, .box t ti.n [cs])]) := by
  obtain ⟨h1, _⟩ := (r.ev ex).cellsInv hc
  refine Ok1.value (u := .pointer (some ⟨w.heap.size, 0, none⟩)) (w' := w.alloc (.cells (a.eval x).cells t)) ?_ ⟨_, r.fresh (cur := (a.eval x).cells) (cap := 0) rfl ht.pos (by simp [hl]) (alloc_below _ _) (Nat.le_refl _) (Blk.new _ _ _) ?_ (fun e => by simp at e), ptr_mk rfl⟩
  · simp [execOp, ho, Instr.box, newVar, newRow]
  · have := h1.1
    simp only [List.flatten_cons, List.flatten_nil, List.append_nil]
    rw [List.take_of_length_le (by omega)]
    exact h1
theorem RL.patch {α : Type} {R : α → Value → Prop} {xs cs : List α} {us vs : List Value} (h : RL R xs us) (t : RL R cs vs) (p : Nat) : RL R (patch xs p cs) (patch us p vs) := by
  unfold Go.Proofs.YtcbfhpnmhhnjpaaGreat.patch
  rw [t.1]
  exact ((h.take p).append t).append (h.drop _)
theorem patch_length {α : Type} (xs cs : List α) (p : Nat) (h : p + cs.length ≤ xs.length) : (patch xs p cs).length = xs.length := by
  unfold patch
  simp only [List.length_append, List.length_take, List.length_drop]
  omega
theorem zip_patch : ∀ (vs : List Value) (k : Nat) (cells : Array Value) (p : Nat), p + k + vs.length ≤ cells.size →
    (List.foldl (fun (cs : Array Value) (x : Value × Nat) => cs.setIfInBounds (p + x.2) x.1) cells (vs.zipIdx k)).toList = patch cells.toList (p + k) vs := by
  intro vs
  induction vs with
  | nil => intro k cells p h; simp [patch]
  | cons v vs ih =>
    intro k cells p h
    simp only [List.zipIdx_cons, List.foldl_cons]
    rw [ih (k + 1) _ p (by simp at h ⊢; omega)]
    unfold patch
    simp only [Array.toList_setIfInBounds]
    simp only [List.length_cons] at h
    have hl : p + k < cells.toList.length := by simp; omega
    rw [List.set_eq_take_append_cons_drop, if_pos hl]
    have hlt : (List.take (p + k) cells.toList).length = p + k := by simp; omega
    rw [show p + (k + 1) = p + k + 1 by omega]
    have e1 : List.take (p + k + 1) (List.take (p + k) cells.toList ++ v :: List.drop (p + k + 1) cells.toList) = List.take (p + k) cells.toList ++ [v] := by
      rw [List.take_append, hlt, List.take_of_length_le (by omega)]
      simp
    have e2 : List.drop (p + k + 1 + vs.length) (List.take (p + k) cells.toList ++ v :: List.drop (p + k + 1) cells.toList) = List.drop (p + k + (v :: vs).length) cells.toList := by
      rw [List.drop_append, hlt, List.drop_of_length_le (by omega), show p + k + 1 + vs.length - (p + k) = vs.length + 1 by omega]
      simp only [List.drop_succ_cons, List.drop_drop, List.nil_append, List.length_cons]
      congr 1
      omega
    rw [e1, e2]
    simp
theorem fill_ok {h : Hp} {O : Nat → Prop} {place : Nat → Option (Nat × Nat)} : ∀ (parts : List (Nat × Operand)) (ps : List (Nat × Nat × Opd)) (cells : Array Value) (z cs : List AC),
    (∀ x ∈ parts, ∀ y, copd x.2 = some y → RepT (RepA h β w O) (σ.ev y) (a.eval x.2)) →
    all? (fun x => match place x.1, copd x.2 with
      | some (off, sz), some y => some (off, sz, y)
      | _, _ => none) parts = some ps →
    RL (RepA h β w O) z cells.toList → fillA σ.ev z ps = some cs →
    ∃ out, Instr.fill place cells (parts.map fun x => (x.1, a.eval x.2)) = some out ∧ RL (RepA h β w O) cs out.toList := by
  intro parts
  induction parts with
  | nil =>
    intro ps cells z cs _ hp hz hf
    rw [all?_nil hp] at hf
    simp only [fillA, Option.some.injEq] at hf
    subst hf
    exact ⟨cells, rfl, hz⟩
  | cons x xs ih =>
    intro ps cells z cs hev hp hz hf
    obtain ⟨y, ys, h1, h2, rfl⟩ := all?_cons hp
    cases hpl : place x.1 with
    | none => rw [hpl] at h1; simp at h1
    | some os =>
      obtain ⟨off, sz⟩ := os
      cases hcx : copd x.2 with
      | none => rw [hpl, hcx] at h1; simp at h1
      | some y' =>
        rw [hpl, hcx] at h1
        simp only [Option.some.injEq] at h1
        subst h1
        simp only [fillA] at hf
        cases hcc : (σ.ev y').cells with
        | none => rw [hcc] at hf; simp at hf
        | some c =>
          rw [hcc] at hf
          simp only at hf
          split at hf
          · rename_i hcond
            obtain ⟨hl1, hl2⟩ := hcond
            obtain ⟨h3, _⟩ := (hev x (by simp) y' hcx).cellsInv hcc
            have hsz : (a.eval x.2).cells.size = sz := by have := h3.1; simp at this; omega
            have hcz : z.length = cells.size := by have := hz.1; simpa using this
            have hzp := zip_patch (a.eval x.2).cells.toList 0 cells off (by simp; omega)
            obtain ⟨out, h4, h5⟩ := ih ys ((a.eval x.2).cells.toList.zipIdx.foldl (fun (cs : Array Value) (x : Value × Nat) => cs.setIfInBounds (off + x.2) x.1) cells) (patch z off c) cs (fun x hx => hev x (by simp [hx])) h2 (by
              rw [hzp]; exact hz.patch h3 _) hf
            refine ⟨out, ?_, h5⟩
            have hc1 : ¬ (a.eval x.2).cells.size ≠ sz := by omega
            have hc2 : ¬ (off + (a.eval x.2).cells.size > cells.size) := by omega
            rw [← h4]
            simp only [List.map_cons, Instr.fill, hpl]
            rw [if_neg (by simp [hsz]; omega)]
            congr 1
            rw [← Array.foldl_toList]
            simp
          · simp at hf
theorem chunk_flat {α : Type} (e : Nat) : ∀ (k : Nat) (l : List α), l.length = k * e → (chunk e k l).flatten = l ∧ (∀ x ∈ chunk e k l, x.length = e) ∧ (chunk e k l).length = k := by
  intro k
  induction k with
  | zero => intro l h; simp at h; subst h; simp [chunk]
  | succ k ih =>
    intro l h
    rw [Nat.add_mul] at h
    obtain ⟨h1, h2, h3⟩ := ih (l.drop e) (by simp; omega)
    refine ⟨?_, ?_, ?_⟩
    · simp only [chunk, List.flatten_cons, h1, List.take_append_drop]
    · intro x hx
      rcases List.mem_cons.1 hx with rfl | hx
      · simp; omega
      · exact h2 x hx
    · simp [chunk, h3]
def placeOf (P : Program) (t : Nat) : Option (Nat → Option (Nat × Nat)) :=
  match P.underlying t with
  | some (.array _ e) => (P.info? e).map fun ie => fun i => some (i * ie.size, ie.size)
  | some (.struct fields) => (fields.toList.mapM (fun f => (P.info? f.type).map fun i => (f.offset, i.size))).map fun places => (places.toArray[·]?)
  | _ => none
def partsOf (place : Nat → Option (Nat × Nat)) (parts : List (Nat × Operand)) : Option (List (Nat × Nat × Opd)) := all? (fun x => match place x.1, copd x.2 with
      | some (off, sz), some y => some (off, sz, y)
      | _, _ => none) parts
theorem op_build (r : Rel O w0 n σ β a w) {o : Oper} {t : Nat} {ti : TI} {parts : Array (Nat × Operand)} {ps : List (Nat × Nat × Opd)} {place : Nat → Option (Nat × Nat)} {cs : List AC} (ho : o.op = .build t parts) (ht : TIs P t ti)
    (hpl : placeOf P t = some place) (hps : partsOf place parts.toList = some ps) (hf : fillA σ.ev ti.zero ps = some cs) : Ok1 P o a w (Done O w0 n σ a (.agg cs) []) := by
  obtain ⟨out, h1, h2⟩ := fill_ok (place := place) (h := σ.h) (O := Mine O σ.h β) (w := w) parts.toList ps ti.zv.cells ti.zero cs (fun x _ y hy => r.ev hy) hps (cacs_ok ht.zero) hf
  refine Ok1.value (u := .agg out) (w' := w) ?_ (r.pure ⟨out.toList, by simp, h2⟩)
  obtain ⟨i, d, h3, h4, h5, h6, h7, h8⟩ := ht.info
  have hb : P.built t (parts.map fun x => (x.1, a.eval x.2)).toList = some out := by
    rw [Array.toList_map]
    unfold placeOf at hpl
    unfold Program.built
    rw [h4] at hpl
    rw [h3, h4]
    cases d with
    | array m e =>
      simp only [Option.map_eq_some_iff] at hpl
      obtain ⟨ie, hie, rfl⟩ := hpl
      simp only [h5, hie]
      exact h1
    | struct fields =>
      simp only [Option.map_eq_some_iff] at hpl
      obtain ⟨places, hie, rfl⟩ := hpl
      simp only [h5, hie]
      exact h1
    | _ => simp at hpl
  have h9 := run_build w t _ out hb
  simp [execOp, ho, h9]
theorem op_bslice (r : Rel O w0 n σ β a w) {o : Oper} {d t e len : Nat} {ti : TI} {parts : Array (Nat × Operand)} {ps : List (Nat × Nat × Opd)} {cs : List AC} {ss : List SC} (ho : o.op = .buildSlice t len parts) (ht : P.underlying t = some (.slice e)) (hti : TIs P e ti)
    (hps : partsOf (fun i => some (i * ti.n, ti.n)) parts.toList = some ps) (hf : fillA σ.ev (List.replicate len ti.zero).flatten ps = some cs) (hs : all? (shA σ.h) cs = some ss) (hsm : len * ti.n ≤ 16777216) :
    Ok1 P o a w (Done O w0 n σ a (.c (.own d ((σ.h.app (frz σ.h cs)).gen d + 1))) (frz σ.h cs ++ [(d, (σ.h.app (frz σ.h cs)).gen d + 1, .row e ti.n (chunk ti.n len ss))])) := by
  obtain ⟨i, dd, h1, h2, h3, h4, h5, h6⟩ := hti.info
  have hzl : ti.zv.cells.size = ti.n := by
    have := (cacs_ok (h := σ.h) (β := β) (w := w) (O := O) hti.zero).1
    have h := hti.len
    simp at this; omega
  -- the zeros
  let Z : Array Value := (Array.range (len * ti.n)).map (ti.zv.cells[· % ti.zv.cells.size]!)
  have hZ : ∀ m, RL (RepA σ.h β w (Mine O σ.h β)) (List.replicate m ti.zero).flatten ((List.range (m * ti.n)).map (fun k => ti.zv.cells[k % ti.zv.cells.size]!)) := by
    intro m
    have hz := cacs_ok (h := σ.h) (β := β) (w := w) (O := Mine O σ.h β) hti.zero
    have hp := hti.pos
    refine ⟨by simp [hti.len], fun k hk hk' => ?_⟩
    have hk2 : k < m * ti.n := by simpa using hk'
    have hdiv : k / ti.n < m := Nat.div_lt_of_lt_mul (by rw [Nat.mul_comm]; exact hk2)
    have hmod : k % ti.n < ti.n := Nat.mod_lt _ hp
    have hka : k / ti.n * ti.n + k % ti.n = k := by rw [Nat.mul_comm]; exact Nat.div_add_mod k ti.n
    have hg := flatten_get (e := ti.n) (List.replicate m ti.zero) (fun x hx => by rw [List.eq_of_mem_replicate hx]; exact hti.len) (k / ti.n) (by simpa using hdiv) (k % ti.n) hmod
    rw [hka, List.getElem_replicate] at hg
    rw [List.getElem?_eq_getElem hk, List.getElem?_eq_getElem (by rw [hti.len]; exact hmod)] at hg
    have hg2 : ((List.replicate m ti.zero).flatten)[k] = ti.zero[k % ti.n]'(by rw [hti.len]; exact hmod) := by simpa using hg
    rw [hg2]
    have := hz.2 (k % ti.n) (by rw [hti.len]; exact hmod) (by simp [hzl]; exact hmod)
    simp only [List.getElem_map, List.getElem_range, hzl]
    rw [getElem!_pos ti.zv.cells _ (by rw [hzl]; exact hmod)]
    simpa using this
  have hZl : Z.toList = (List.range (len * ti.n)).map (fun k => ti.zv.cells[k % ti.zv.cells.size]!) := by simp [Z, Array.toList_range]
  obtain ⟨out, h7, h8⟩ := fill_ok (place := fun i => some (i * ti.n, ti.n)) (h := σ.h) (O := Mine O σ.h β) (w := w) parts.toList ps Z (List.replicate len ti.zero).flatten cs (fun x _ y hy => r.ev hy) hps (by rw [hZl]; exact hZ len) hf
  have hcl : cs.length = len * ti.n := by
    have : ∀ (ps : List (Nat × Nat × Opd)) (z cs : List AC), fillA σ.ev z ps = some cs → cs.length = z.length := by
      intro ps
      induction ps with
      | nil => intro z cs h; simp [fillA] at h; rw [h]
      | cons p ps ih =>
        intro z cs h
        obtain ⟨off, m, x⟩ := p
        simp only [fillA] at h
        cases hc : (σ.ev x).cells with
        | none => rw [hc] at h; simp at h
        | some c =>
          rw [hc] at h
          simp only at h
          split at h
          · rename_i hcond
            rw [ih _ _ h, patch_length _ _ _ (by omega)]
          · simp at h
    rw [this ps _ cs hf]
    simp [hti.len]
  obtain ⟨r1, r2, r3⟩ := frz_ok cs σ.h r.toRelH
  have r' : Rel O w0 n ⟨σ.slot, σ.h.app (frz σ.h cs)⟩ β a w := ⟨r1, r.hd, r.hn, fun k => (r.slots k).mono (fun x u hx => r2 x u hx)⟩
  have hss : RL (RepS w (Mine O (σ.h.app (frz σ.h cs)) β)) ss out.toList := h8.all hs (fun x y u hx hy hu => r3 x hx y hy u hu)
  obtain ⟨hc1, hc2, hc3⟩ := chunk_flat ti.n len ss (by rw [hss.1, ← h8.1, hcl])
  have hlb : (LB.row e ti.n (chunk ti.n len ss)).view = .mem true e ti.n ((chunk ti.n len ss).map (List.map AC.s)) := rfl
  have hfl : ((chunk ti.n len ss).map (List.map AC.s)).flatten = ss.map AC.s := by rw [← List.map_flatten, hc1]
  have hln : ((chunk ti.n len ss).map (List.map AC.s)).length = len := by rw [List.length_map, hc3]
  have hout : out.size = len * ti.n := by have := h8.1; simp at this; omega
  have hrun : (execOp a.eval o).run P w = .ok (.value (.slice (some ⟨w.heap.size, 0, none⟩) len len)) (w.alloc (.cells out e)) := by
    by_cases h0 : len = 0
    · subst h0
      have h10 : out = Z := by
        have h9 : out.size = 0 := by rw [hout]; simp
        have h11 : Z.size = 0 := by simp [Z]
        rw [Array.size_eq_zero_iff] at h9 h11
        rw [h9, h11]
      have h12 : Z = #[] := by simp [Z]
      rw [h12] at h7
      simp [execOp, ho, Instr.buildSlice, run_underlying ht, run_sizeOf' h1, h4, newRow]
      have h13 : (parts.map fun x => (x.1, a.eval x.2)).toList = parts.toList.map fun x => (x.1, a.eval x.2) := Array.toList_map
      have h14 : ∀ f : Nat → Value, Array.map f (Array.range 0) = #[] := fun f => by simp
      rw [h14, h7]
      simp
    · have hpos : ¬ len * i.size = 0 := by
        have := hti.pos
        rw [h4]
        intro hh
        rcases Nat.mul_eq_zero.1 hh with h | h <;> omega
      have := run_buildSlice (P := P) w t e len (parts.map fun x => (x.1, a.eval x.2)) out i ti.zv ht h1 h3 (by rw [h4]; omega) hpos (by rw [Array.toList_map, h4]; exact h7)
      simp [execOp, ho, this]
  rw [show (len : Nat) = ((chunk ti.n len ss).map (List.map AC.s)).length from hln.symm] at hrun
  refine Ok1.value hrun ?_
  rw [Done]
  rw [Hp.app_append]
  have hfr := r'.fresh (d := d) (cur := out) (cap := len) hlb hti.pos (by intro x hx; obtain ⟨y, hy, rfl⟩ := List.mem_map.1 hx; rw [List.length_map]; exact hc2 y hy) (alloc_below w (.cells out e)) (Nat.le_refl _) (Blk.new _ _ _) (by
      rw [hfl]
      rw [List.take_of_length_le (by rw [List.length_map, hss.1]; exact Nat.le_refl _)]
      exact hss.map AC.s (fun x u hx => hx)) (fun _ => ⟨by rw [hln]; exact Nat.le_refl _, by unfold maxLen; have := hti.pos; have : len ≤ len * ti.n := Nat.le_mul_of_pos_right _ this; omega, hout⟩)
  have hown := own_mk (w := w.alloc (.cells out e)) (O := Mine O ((σ.h.app (frz σ.h cs)).set d ((σ.h.app (frz σ.h cs)).gen d + 1) (.row e ti.n (chunk ti.n len ss))) (upd β d (some w.heap.size, .slice (some ⟨w.heap.size, 0, none⟩) ((chunk ti.n len ss).map (List.map AC.s)).length len))) (β := β) (h := σ.h.app (frz σ.h cs)) (l := d) (g := (σ.h.app (frz σ.h cs)).gen d + 1) (b := some w.heap.size) (A := some ⟨w.heap.size, 0, none⟩) (k := ((chunk ti.n len ss).map (List.map AC.s)).length) (c := len) hlb
  refine ⟨_, hfr, ?_⟩
  rw [hln] at hown ⊢
  exact hown
end
end Go.Proofs.YtcbfhpnmhhnjpaaGreat

namespace Go.Proofs.YtcbfhpnmhhnjpaaGreat
open Go.RowKit
theorem flatten_set {α : Type} {e : Nat} : ∀ (els : List (List α)), (∀ x ∈ els, x.length = e) → ∀ (i : Nat) (hi : i < els.length) (off : Nat) (cs : List α), off + cs.length ≤ e →
    (els.set i (patch els[i] off cs)).flatten = patch els.flatten (i * e + off) cs := by
  intro els
  induction els with
  | nil => intro _ i hi; simp at hi
  | cons x xs ih =>
    intro he i hi off cs hoff
    have hx := he x (by simp)
    cases i with
    | zero =>
      simp only [List.set_cons_zero, List.flatten_cons, List.getElem_cons_zero, Nat.zero_mul, Nat.zero_add]
      unfold patch
      rw [List.take_append_of_le_length (by omega), List.drop_append_of_le_length (by omega)]
      simp
    | succ i =>
      have hi' : i < xs.length := by simpa using hi
      have := ih (fun y hy => he y (by simp [hy])) i hi' off cs hoff
      simp only [List.set_cons_succ, List.flatten_cons, List.getElem_cons_succ]
      rw [this]
      unfold patch
      have e1 : (i + 1) * e + off = x.length + (i * e + off) := by rw [Nat.add_mul]; omega
      rw [e1, List.take_append, List.drop_append]
      have e2 : List.take (x.length + (i * e + off)) x = x := List.take_of_length_le (by omega)
      have e3 : List.drop (x.length + (i * e + off) + cs.length) x = [] := List.drop_of_length_le (by omega)
      rw [e2, e3]
      rw [show x.length + (i * e + off) - x.length = i * e + off by omega, show x.length + (i * e + off) + cs.length - x.length = i * e + off + cs.length by omega]
      simp
theorem take_patch {α : Type} (l : List α) (p : Nat) (xs : List α) (m : Nat) (h : p + xs.length ≤ m) : (patch l p xs).take m = patch (l.take m) p xs := by
  unfold patch
  by_cases hl : p ≤ l.length
  · have e1 : (l.take p).length = p := by simp; omega
    rw [List.take_append, List.take_append, List.length_append, e1]
    rw [List.take_take, Nat.min_eq_right (by omega), List.take_take, Nat.min_eq_left (by omega)]
    rw [List.take_of_length_le (show xs.length ≤ m - p by omega)]
    rw [List.drop_take]
  · have e1 : l.take p = l := List.take_of_length_le (by omega)
    have e2 : l.drop (p + xs.length) = [] := List.drop_of_length_le (by omega)
    have e3 : (l.take m) = l := List.take_of_length_le (by omega)
    rw [e3, e1, e2]
    simp only [List.append_nil]
    rw [List.take_of_length_le (by simp; omega)]
section
variable {P : Program} {O : Nat → Prop} {w0 : Base} {n : Nat} {σ : St} {β : Env} {a : Act} {w : World}
theorem setRow_oth {w : World} {g : Nat} (cs : Array Value) : ∀ k, k < w.heap.size → some k ≠ some g → (w.setRow g cs).heap[k]? = w.heap[k]? :=
  fun k _ h => setRow_other w g k cs (fun e => h (by rw [e]))
theorem run_storeV {t : Nat} {ti : TI} (ht : TIs P t ti) {b off ty : Nat} {cur : Array Value} {u : Value} (hb : Blk w b ty cur) (hu : u.cells.toList.length = ti.n) (h1 : ∀ v ∈ u.cells.toList, v.oneCell' = true) (hf : off + ti.n ≤ cur.size) :
    (storeVar t ⟨b, off, none⟩ u).run P w = .ok () (w.setRow b (patch cur.toList off u.cells.toList).toArray) := by
  obtain ⟨i, d, h2, h3, h4, h5, h6, h7⟩ := ht.info
  have hst := run_storeCells_at P b off ty u.cells.toList 0 cur w hb (by omega) h1
  simp only [Nat.add_zero] at hst
  have hsz : u.cells.size = ti.n := by simpa using hu
  simp only [storeVar, Sem.run_bind, run_sizeOf' h2, Result.andThen_ok, h5, hsz, ne_eq, not_true_eq_false, if_false]
  rw [hst]
  rfl
theorem op_store (r : Rel O w0 n σ β a w) {o : Oper} {x y : Operand} {x' y' : Opd} {t : Nat} {ti : TI} {l g i off ty e : Nat} {row : Bool} {els : List (List AC)} {cs : List AC} {lb : LB} (ho : o.op = .store t x y) (ex : copd x = some x') (ey : copd y = some y') (ht : TIs P t ti)
    (hx : σ.ev x' = .c (.ptr l g i off)) (hc : (σ.ev y').cells = some cs) (hl : cs.length = ti.n) (hg : g = σ.h.gen l) (hv : σ.h.view l = .mem row ty e els) (hi : i < els.length) (hoff : off + ti.n ≤ e)
    (hlb : ∃ cs', lb.view = .mem row ty e (els.set i (patch els[i] off cs')) ∧ cs'.length = cs.length ∧ ∀ us, us = (a.eval y).cells.toList → RL (RepA σ.h β w (Mine O σ.h β)) cs us → RL (RepA σ.h β w (Mine O σ.h β)) cs' us) :
    Ok1 P o a w (Done O w0 n σ a .no [(l, g, lb)]) := by
  obtain ⟨cs', hlb, hcl, hcs⟩ := hlb
  have h1 := r.ev ex
  rw [hx] at h1
  obtain ⟨b, hb, hu⟩ := r.place h1 hg hv
  obtain ⟨h2, _⟩ := (r.ev ey).cellsInv hc
  have h3 := r.blks l
  unfold RepB at h3
  rw [hv] at h3
  simp only at h3
  obtain ⟨h0, he, ⟨_, h4, _⟩ | ⟨b', cap, cur, h4, h5, h6, h7⟩⟩ := h3
  · subst h4; simp at hi
  rw [hb] at h4
  obtain rfl : b = b' := by simpa using h4
  have hpl : i * e + off + ti.n ≤ els.flatten.length := by
    have := flatten_lt els he i hi (e - 1) (by omega)
    omega
  have hcz : els.flatten.length ≤ cur.size := by
    have := h6.1
    simp only [List.length_take, Array.length_toList] at this
    omega
  have hrun := run_storeV (P := P) ht (off := i * e + off) h5 (u := a.eval y) (by rw [← h2.1]; exact hl) (by
    intro v hv
    obtain ⟨k, hk, rfl⟩ := List.getElem_of_mem hv
    exact RepA.one (h2.2 k (by rw [h2.1]; exact hk) hk)) (by omega)
  let sv := (β l).2
  have hβ : upd β l (some b, sv) = β := by
    funext k
    by_cases hk : k = l
    · rw [hk, upd_at, ← hb]
    · rw [upd_ne _ _ hk]
  have t : Turn O σ.h β w (w.setRow b (patch cur.toList (i * e + off) (a.eval y).cells.toList).toArray) l g lb (some b) sv :=
    ⟨by simp, rfl, rfl, rfl, setRow_oth _, fun k hk => .inr ⟨by rw [hv]; rfl, by rw [hb]; exact hk⟩, .inr ⟨hg, row, ty, e, els, _, hv, hlb, by rw [← hb]⟩⟩
  have hrel := t.rel r (by
    unfold RepB
    rw [Hp.view_at, hlb]
    refine ⟨h0, fun z hz => ?_, .inr ⟨b, cap, (patch cur.toList (i * e + off) (a.eval y).cells.toList).toArray, by rw [upd_at], ?_, ?_, fun hr => ?_⟩⟩
    · rcases List.mem_or_eq_of_mem_set hz with hz | rfl
      · exact he z hz
      · rw [patch_length _ _ _ (by rw [he _ (List.getElem_mem hi)]; omega)]; exact he _ (List.getElem_mem hi)
    · exact setRow_heap w b cur _ ty (0, 0) h5
    · rw [flatten_set els he i hi off cs' (by omega)]
      rw [patch_length _ _ _ (by omega)]
      simp only
      rw [take_patch _ _ _ _ (by rw [← h2.1]; omega)]
      exact (h6.patch (hcs _ rfl h2) _).mono (fun z u hz => t.repA r.toRelH hz)
    · obtain ⟨k1, k2, k3, k4⟩ := h7 hr
      rw [upd_at]
      refine ⟨by rw [List.length_set]; exact k1, by rw [List.length_set]; exact k2, k3, ?_⟩
      have : (patch cur.toList (i * e + off) (a.eval y).cells.toList).length = cur.toList.length := patch_length _ _ _ (by rw [← h2.1]; simp; omega)
      simpa [k4] using this)
  refine Ok1.skip (w' := w.setRow b (patch cur.toList (i * e + off) (a.eval y).cells.toList).toArray) ?_ ⟨_, hrel, trivial⟩
  simp [execOp, ho, hu, Instr.storeAt, Instr.sureAddr, hrun]
theorem op_mkSlice (r : Rel O w0 n σ β a w) {o : Oper} {d t e : Nat} {ti : TI} {x y : Operand} {x' y' : Opd} {kl kc : IntKind} {l c : Int} {zs : List SC} (ho : o.op = .makeSlice t x y) (ex : copd x = some x') (ey : copd y = some y') (ht : P.underlying t = some (.slice e)) (hti : TIs P e ti)
    (hx : σ.ev x' = .c (.s (.pv (.int kl l)))) (hy : σ.ev y' = .c (.s (.pv (.int kc c)))) (h0 : 0 ≤ l) (hlc : l ≤ c) (hby : (ti.bytes : Int) * c ≤ 140737488355328) (h63 : c ≤ 9223372036854775807) (hz : all? sh0 ti.zero = some zs) :
    Ok1 P o a w (Done O w0 n σ a (.c (.own d (σ.h.gen d + 1))) [(d, σ.h.gen d + 1, .row e ti.n (List.replicate l.toNat zs))]) := by
  obtain ⟨i, dd, h1, h2, h3, h4, h5, h6⟩ := hti.info
  have hx2 := r.ev ex
  rw [hx] at hx2
  have hx3 := hx2.pvInv
  have hy2 := r.ev ey
  rw [hy] at hy2
  have hy3 := hy2.pvInv
  have hrun := run_make (P := P) w t e i ti.zv ht h1 h3 kl kc l c h0 hlc (by rw [h5]; omega) h63
  have hzr := cacs_ok (h := σ.h) (β := β) (w := w) (O := Mine O σ.h β) hti.zero
  have hzs : RL (RepS w (Mine O σ.h β)) zs ti.zv.cells.toList := hzr.all hz (fun x y u _ hy hu => sh0_ok hy hu)
  have hzl : ti.zv.cells.size = ti.n := by have := hzr.1; have h := hti.len; simp at this; omega
  have hp := hti.pos
  have hzsl : zs.length = ti.n := by rw [hzs.1]; simpa using hzl
  have hln : ((List.replicate l.toNat zs).map (List.map AC.s)).length = l.toNat := by simp
  have hlb : (LB.row e ti.n (List.replicate l.toNat zs)).view = .mem true e ti.n ((List.replicate l.toNat zs).map (List.map AC.s)) := rfl
  have hmul : l.toNat * ti.n ≤ c.toNat * ti.n := Nat.mul_le_mul_right _ (by omega)
  have hcells : RL (RepA σ.h β w (Mine O σ.h β)) ((List.replicate l.toNat zs).map (List.map AC.s)).flatten ((madeCells ti.zv.cells (c.toNat * i.size)).toList.take ((List.replicate l.toNat zs).map (List.map AC.s)).flatten.length) := by
    have hfl : ((List.replicate l.toNat zs).map (List.map AC.s)).flatten = ((List.replicate l.toNat zs).flatten).map AC.s := by rw [← List.map_flatten]
    have hflen : (List.replicate l.toNat zs).flatten.length = l.toNat * ti.n := by simp [hzsl]
    rw [hfl, List.length_map, hflen]
    refine RL.map AC.s (S := RepS w (Mine O σ.h β)) ⟨by rw [hflen, List.length_take, Array.length_toList, size_madeCells, h4, Nat.min_eq_left hmul], fun k hk hk' => ?_⟩ (fun x u hx => hx)
    have hk2 : k < l.toNat * ti.n := by rw [hflen] at hk; exact hk
    have hdiv : k / ti.n < l.toNat := Nat.div_lt_of_lt_mul (by rw [Nat.mul_comm]; exact hk2)
    have hmod : k % ti.n < ti.n := Nat.mod_lt _ hp
    have hka : k / ti.n * ti.n + k % ti.n = k := by rw [Nat.mul_comm]; exact Nat.div_add_mod k ti.n
    have hg := flatten_get (e := ti.n) (List.replicate l.toNat zs) (fun x hx => by rw [List.eq_of_mem_replicate hx]; exact hzsl) (k / ti.n) (by simpa using hdiv) (k % ti.n) hmod
    rw [hka, List.getElem_replicate] at hg
    rw [List.getElem?_eq_getElem hk, List.getElem?_eq_getElem (by rw [hzsl]; exact hmod)] at hg
    have hg2 : ((List.replicate l.toNat zs).flatten)[k] = zs[k % ti.n]'(by rw [hzsl]; exact hmod) := by simpa using hg
    rw [hg2]
    have := hzs.2 (k % ti.n) (by rw [hzsl]; exact hmod) (by simp [hzl]; exact hmod)
    simp only [List.getElem_take, Array.getElem_toList, madeCells, Array.getElem_map, Array.getElem_range, hzl]
    rw [getElem!_pos ti.zv.cells _ (by rw [hzl]; exact hmod)]
    simpa using this
  have hfr := r.fresh (d := d) (g := w.heap.size) (cap := c.toNat) hlb hp (by intro x hx; obtain ⟨y, hy, rfl⟩ := List.mem_map.1 hx; rw [List.length_map, List.eq_of_mem_replicate hy]; exact hzsl)
    (alloc_below w (.cells (madeCells ti.zv.cells (c.toNat * i.size)) e)) (Nat.le_refl _) (Blk.new _ _ _) hcells (fun _ => ⟨by rw [hln]; omega, by unfold maxLen; omega, by rw [size_madeCells, h4]⟩)
  have hown := own_mk (w := w.alloc (.cells (madeCells ti.zv.cells (c.toNat * i.size)) e)) (O := Mine O (σ.h.set d (σ.h.gen d + 1) (.row e ti.n (List.replicate l.toNat zs))) (upd β d (some w.heap.size, .slice (some ⟨w.heap.size, 0, none⟩) ((List.replicate l.toNat zs).map (List.map AC.s)).length c.toNat))) (β := β) (h := σ.h) (l := d) (g := σ.h.gen d + 1) (b := some w.heap.size) (A := some ⟨w.heap.size, 0, none⟩) (k := ((List.replicate l.toNat zs).map (List.map AC.s)).length) (c := c.toNat) hlb
  refine Ok1.value (u := .slice (some ⟨w.heap.size, 0, none⟩) l.toNat c.toNat) (w' := w.alloc (.cells (madeCells ti.zv.cells (c.toNat * i.size)) e)) ?_ ⟨_, hfr, ?_⟩
  · simp [execOp, ho, hx3, hy3, hrun]
  · rw [hln] at hown ⊢
    exact hown
end
end Go.Proofs.YtcbfhpnmhhnjpaaGreat

namespace Go.Proofs.YtcbfhpnmhhnjpaaGreat
open Go.RowKit
theorem flatten_takeE {α : Type} {e : Nat} : ∀ (els : List (List α)), (∀ x ∈ els, x.length = e) → ∀ k, (els.take k).flatten = els.flatten.take (k * e) := by
  intro els
  induction els with
  | nil => intro _ k; simp
  | cons x xs ih =>
    intro he k
    cases k with
    | zero => simp
    | succ k =>
      have hx := he x (by simp)
      simp only [List.take_succ_cons, List.flatten_cons, ih (fun y hy => he y (by simp [hy]))]
      have e2 : x.take (x.length + k * e) = x := List.take_of_length_le (by omega)
      rw [List.take_append, show (k + 1) * e = x.length + k * e by rw [Nat.add_mul]; omega, e2]
      rw [show x.length + k * e - x.length = k * e by omega]
theorem flatten_dropE {α : Type} {e : Nat} : ∀ (els : List (List α)), (∀ x ∈ els, x.length = e) → ∀ k, (els.drop k).flatten = els.flatten.drop (k * e) := by
  intro els
  induction els with
  | nil => intro _ k; simp
  | cons x xs ih =>
    intro he k
    cases k with
    | zero => simp
    | succ k =>
      have hx := he x (by simp)
      simp only [List.drop_succ_cons, List.flatten_cons, ih (fun y hy => he y (by simp [hy]))]
      have e2 : x.drop (x.length + k * e) = [] := List.drop_of_length_le (by omega)
      rw [List.drop_append, show (k + 1) * e = x.length + k * e by rw [Nat.add_mul]; omega, e2]
      rw [show x.length + k * e - x.length = k * e by omega]
      simp
def coptd : Option Operand → Option (Option Opd)
  | none => some none
  | some x => (copd x).map some
section
variable {P : Program} {O : Nat → Prop} {w0 : Base} {n : Nat} {σ : St} {β : Env} {a : Act} {w : World}
theorem bnd_ok (r : Rel O w0 n σ β a w) {lo : Option Operand} {lo' : Option Opd} (e : coptd lo = some lo') {dflt : Nat} {l : Int} (hb : bnd σ.ev dflt lo' = some l) : (lo = none ∧ l = dflt) ∨ ∃ x k, lo = some x ∧ a.eval x = .int k l := by
  cases lo with
  | none =>
    simp only [coptd, Option.some.injEq] at e
    subst e
    simp only [bnd, Option.some.injEq] at hb
    exact .inl ⟨rfl, hb.symm⟩
  | some x =>
    simp only [coptd, Option.map_eq_some_iff] at e
    obtain ⟨x', h1, rfl⟩ := e
    unfold bnd at hb
    simp only at hb
    split at hb
    · rename_i h2
      simp only [Option.some.injEq] at hb
      subst hb
      have h3 := r.ev h1
      rw [h2] at h3
      exact .inr ⟨x, _, rfl, h3.pvInv⟩
    · simp at hb
theorem run_bounds (sl : Bool) (len cap : Nat) (lo hi : Option Value) (l m : Int) (hl : (lo = none ∧ l = 0) ∨ ∃ k, lo = some (.int k l)) (hm : (hi = none ∧ m = len) ∨ ∃ k, hi = some (.int k m)) (h0 : 0 ≤ l) (h1 : l ≤ m) (h2 : m ≤ len) (h3 : len ≤ cap) (w : World) :
    (Instr.sliceBounds sl len cap lo hi none).run P w = .ok (l.toNat, m.toNat, cap) w := by
  have hm0 : 0 ≤ m := by omega
  have hmc : m ≤ (cap : Int) := by omega
  have hlm : l ≤ ((m.toNat : Nat) : Int) := by omega
  rcases hm with ⟨rfl, rfl⟩ | ⟨k, rfl⟩
  · rcases hl with ⟨rfl, rfl⟩ | ⟨k', rfl⟩
    · simp [Instr.sliceBounds]
    · simp [Instr.sliceBounds, run_sliceBound, h0, h1]
  · rcases hl with ⟨rfl, rfl⟩ | ⟨k', rfl⟩
    · simp [Instr.sliceBounds, run_sliceBound, hm0, hmc]
    · have e1 := run_sliceBound (P := P) w k' l m.toNat .sliceB h0 hlm
      simp [Instr.sliceBounds, run_sliceBound, hm0, hmc, e1]
theorem mem_part {α : Type} {l : List α} {p q : Nat} {x : α} (h : x ∈ (l.take q).drop p) : x ∈ l := List.mem_of_mem_take (List.mem_of_mem_drop h)
theorem RepS.part {O : Nat → Prop} {w : World} {e : Nat} {els : List (List SC)} {A : Option Addr} {cap : Nat} (hx : RepS w O (.sl e els) (.slice A els.length cap)) {l m : Nat} (h1 : l ≤ m) (h2 : m ≤ els.length) :
    RepS w O (.sl e ((els.take m).drop l)) (.slice (if cap = l then A else A.map (·.add (l * e))) (m - l) (cap - l)) := by
  by_cases hlm : l = m
  · subst hlm
    have e1 : (els.take l).drop l = [] := List.drop_of_length_le (by simp; omega)
    rw [e1, Nat.sub_self]
    obtain ⟨h0, hm⟩ : 0 < e ∧ cap ≤ maxLen := by
      cases hx with
      | sl0 h0 hm => exact ⟨h0, hm⟩
      | sl h0 _ hm => exact ⟨h0, hm⟩
    exact .sl0 h0 (by omega)
  · generalize hu : Value.slice A els.length cap = u at hx
    cases hx with
    | sl0 h0 hm => simp at h2; omega
    | sl h0 hcap hm hb hO he hl hr hc =>
      rename_i b off cap' us
      simp only [Value.slice.injEq, true_and] at hu
      obtain ⟨rfl, rfl⟩ := hu
      rw [if_neg (by omega)]
      simp only [Option.map_some, add_off]
      have hlen : ((els.take m).drop l).length = m - l := by simp; omega
      have hfl : ((els.take m).drop l).flatten = (els.flatten.take (m * e)).drop (l * e) := by
        rw [flatten_dropE _ (fun x hx => he x (List.mem_of_mem_take hx)), flatten_takeE _ he]
      have hRL : RL (RepS w O) els.flatten us := ⟨hl, hr⟩
      have h3 := (hRL.take (m * e)).drop (l * e)
      rw [← hfl] at h3
      rw [← hlen]
      refine .sl (us := (us.take (m * e)).drop (l * e)) h0 (by rw [hlen]; omega) (by omega) hb hO (fun x hx => he x (mem_part hx)) h3.1 h3.2 (fun i a => ?_)
      rw [List.getElem_drop, List.getElem_take, Nat.add_assoc]
      exact hc _ (by simp at a; omega)
theorem op_sub (r : Rel O w0 n σ β a w) {o : Oper} {x : Operand} {x' : Opd} {t e : Nat} {ti : TI} {lo hi : Option Operand} {lo' hi' : Option Opd} {els : List (List SC)} {ws : List (Nat × Nat × LB)} {m : Nat} {p q : Int} (ho : o.op = .slice t x lo hi none) (ex : copd x = some x') (el : coptd lo = some lo') (eh : coptd hi = some hi')
    (ht : P.underlying t = some (.slice e)) (hti : TIs P e ti) (hs : sliceOf ti.n σ.h (σ.ev x') = some (els, ws)) (hm : lenOf σ.h (σ.ev x') = some m) (hp : bnd σ.ev 0 lo' = some p) (hq : bnd σ.ev m hi' = some q) (h0 : 0 ≤ p) (h1 : p ≤ q) (h2 : q ≤ m) :
    Ok1 P o a w (Done O w0 n σ a (.c (.s (.sl ti.n ((els.take q.toNat).drop p.toNat)))) ws) := by
  obtain ⟨i, dd, i1, i2, i3, i4, i5, i6⟩ := hti.info
  have hS := sliceOf_ok hs
  have hln := hS.len hm
  subst hln
  obtain ⟨r1, r2, r3⟩ := hS.froz r.toRelH (r.ev ex)
  have r' : Rel O w0 n ⟨σ.slot, σ.h.app ws⟩ β a w := ⟨r1, r.hd, r.hn, fun k => (r.slots k).mono (fun x u hx => r2 x u hx)⟩
  have hx2 : RepS w (Mine O (σ.h.app ws) β) (.sl ti.n els) (a.eval x) := by
    rcases r3 with ⟨rfl, A, h⟩ | h
    · rw [h]; exact .sl0 hti.pos (by unfold maxLen; omega)
    · exact h
  obtain ⟨A, cap, hu, hc1, hc2⟩ := hx2.slForm
  rw [hu] at hx2
  have hlo := bnd_ok r el hp
  have hhi := bnd_ok r eh hq
  have hrun := run_bounds (P := P) true els.length cap (lo.map a.eval) (hi.map a.eval) p q (by
    rcases hlo with ⟨rfl, h⟩ | ⟨y, k, rfl, h⟩
    · exact .inl ⟨rfl, h⟩
    · exact .inr ⟨k, by simp [h]⟩) (by
    rcases hhi with ⟨rfl, h⟩ | ⟨y, k, rfl, h⟩
    · exact .inl ⟨rfl, h⟩
    · exact .inr ⟨k, by simp [h]⟩) h0 h1 h2 hc1 w
  refine Ok1.value (u := .slice (if cap = p.toNat then A else A.map (·.add (p.toNat * ti.n))) (q.toNat - p.toNat) (cap - p.toNat)) (w' := w) ?_ ⟨β, r', ?_⟩
  · simp only [execOp, ho, hu, Instr.sliceAt, Sem.run_bind, run_underlying ht, Result.andThen_ok, Instr.slice]
    have e0 : (none : Option Operand).map a.eval = none := rfl
    rw [e0, hrun]
    simp [run_sizeOf' i1, i4]
  · exact hx2.part (by omega) (by omega)
theorem op_z3 (r : Rel O w0 n σ β a w) {o : Oper} {x : Operand} {x' : Opd} {t e : Nat} {ti : TI} {k1 k2 k3 : IntKind} {lo : Option Operand} {m : Nat} (ho : o.op = .slice t x lo (some (.const (.int k2 0))) (some (.const (.int k3 0)))) (hlo : lo = none ∨ lo = some (.const (.int k1 0))) (ex : copd x = some x')
    (ht : P.underlying t = some (.slice e)) (hti : TIs P e ti) (hm : lenOf σ.h (σ.ev x') = some m) : Ok1 P o a w (Done O w0 n σ a (.c .zc) []) := by
  obtain ⟨i, dd, i1, i2, i3, i4, i5, i6⟩ := hti.info
  obtain ⟨A, cap, hu⟩ := lenOf_ok r (r.ev ex) hm
  refine Ok1.value (u := .slice A 0 0) (w' := w) ?_ (r.pure ⟨A, rfl⟩)
  have ec : ∀ v, a.eval (.const v) = v := fun v => rfl
  rcases hlo with rfl | rfl <;> simp [execOp, ho, hu, Instr.sliceAt, run_underlying ht, Instr.slice, Instr.sliceBounds, ec, run_sliceBound, run_sizeOf' i1]
theorem op_ssub (r : Rel O w0 n σ β a w) {o : Oper} {x : Operand} {x' : Opd} {t : Nat} {lo hi : Option Operand} {lo' hi' : Option Opd} {s : ByteArray} {p q : Int} (ho : o.op = .slice t x lo hi none) (ex : copd x = some x') (el : coptd lo = some lo') (eh : coptd hi = some hi')
    (ht : P.underlying t = some .string) (hx : σ.ev x' = .c (.s (.pv (.string s)))) (hp : bnd σ.ev 0 lo' = some p) (hq : bnd σ.ev s.size hi' = some q) (h0 : 0 ≤ p) (h1 : p ≤ q) (h2 : q ≤ s.size) :
    Ok1 P o a w (Done O w0 n σ a (.c (.s (.pv (.string (s.extract p.toNat q.toNat))))) []) := by
  have hx2 := r.ev ex
  rw [hx] at hx2
  have hu := hx2.pvInv
  have hlo := bnd_ok r el hp
  have hhi := bnd_ok r eh hq
  have hrun := run_bounds (P := P) false s.size s.size (lo.map a.eval) (hi.map a.eval) p q (by
    rcases hlo with ⟨rfl, h⟩ | ⟨y, k, rfl, h⟩
    · exact .inl ⟨rfl, h⟩
    · exact .inr ⟨k, by simp [h]⟩) (by
    rcases hhi with ⟨rfl, h⟩ | ⟨y, k, rfl, h⟩
    · exact .inl ⟨rfl, h⟩
    · exact .inr ⟨k, by simp [h]⟩) h0 h1 h2 (Nat.le_refl _) w
  refine Ok1.value (u := .string (s.extract p.toNat q.toNat)) (w' := w) ?_ (r.pure (pv_mk rfl))
  simp only [execOp, ho, hu, Instr.sliceAt, Sem.run_bind, run_underlying ht, Result.andThen_ok, Instr.slice]
  simp [hrun]
theorem op_sidx (r : Rel O w0 n σ β a w) {o : Oper} {x y : Operand} {x' y' : Opd} {t : Nat} {k : IntKind} {m : Int} {s : ByteArray} (ho : o.op = .index t x y) (ex : copd x = some x') (ey : copd y = some y') (ht : P.underlying t = some .string)
    (hx : σ.ev x' = .c (.s (.pv (.string s)))) (hy : σ.ev y' = .c (.s (.pv (.int k m)))) (h0 : 0 ≤ m) (hn : m.toNat < s.size) : Ok1 P o a w (Done O w0 n σ a (.c (.s (.pv (.int .u8 (s[m.toNat].toNat : Int))))) []) := by
  have hx2 := r.ev ex
  rw [hx] at hx2
  have hu := hx2.pvInv
  have hy2 := r.ev ey
  rw [hy] at hy2
  have hv := hy2.pvInv
  refine Ok1.value (u := .int .u8 (s[m.toNat].toNat : Int)) (w' := w) ?_ (r.pure (pv_mk rfl))
  have hg : s[m.toNat]? = some s[m.toNat] := getElem?_pos s m.toNat hn
  simp [execOp, ho, hu, hv, Instr.index, asIntOf, run_underlying ht, h0, hg]
theorem op_field (r : Rel O w0 n σ β a w) {o : Oper} {x : Operand} {x' : Opd} {t k : Nat} {fs : Array Field} {f : Field} {ti : TI} {cs : List AC} {v : TV AC} (ho : o.op = .field t x k) (ex : copd x = some x') (ht : P.underlying t = some (.struct fs)) (hf : fs[k]? = some f) (hti : TIs P f.type ti)
    (hx : σ.ev x' = .agg cs) (hl : f.offset + ti.n ≤ cs.length) (hv : if ti.agg then v = .agg ((cs.drop f.offset).take ti.n) else ∃ c, cs[f.offset]? = some c ∧ v = .c c) : Ok1 P o a w (Done O w0 n σ a v []) := by
  obtain ⟨i, dd, i1, i2, i3, i4, i5, i6⟩ := hti.info
  have hx2 := r.ev ex
  rw [hx] at hx2
  obtain ⟨us, hu, hr⟩ := hx2
  cases hag : ti.agg with
  | true =>
    rw [hag] at hv
    simp only [if_true] at hv
    subst hv
    refine Ok1.value (u := .agg (us.toArray.extract f.offset (f.offset + ti.n))) (w' := w) ?_ (r.pure ⟨(us.drop f.offset).take ti.n, ?_, (hr.drop _).take _⟩)
    · simp [execOp, ho, hu, Instr.field, run_underlying ht, hf, asAgg, part, run_isAgg' i2, i6, hag, run_sizeOf' i1, i4]
    · simp
  | false =>
    rw [hag] at hv
    simp only [Bool.false_eq_true, if_false] at hv
    obtain ⟨c, h1, rfl⟩ := hv
    obtain ⟨u, h2, h3⟩ := hr.get h1
    refine Ok1.value (u := u) (w' := w) ?_ (r.pure h3)
    have h4 : us.toArray[f.offset]? = some u := by simpa using h2
    simp [execOp, ho, hu, Instr.field, run_underlying ht, hf, asAgg, part, run_isAgg' i2, i6, hag, h2]
theorem op_ext (r : Rel O w0 n σ β a w) {o : Oper} {x : Operand} {x' : Opd} {k : Nat} {vs : List (Bool × List AC)} {v : TV AC} (ho : o.op = .extract x k) (ex : copd x = some x') (hx : σ.ev x' = .tup vs)
    (hv : (∃ cs, vs[k]? = some (true, cs) ∧ v = .agg cs) ∨ (∃ c, vs[k]? = some (false, [c]) ∧ v = .c c)) : Ok1 P o a w (Done O w0 n σ a v []) := by
  have hx2 := r.ev ex
  rw [hx] at hx2
  obtain ⟨us, hu, hl, hr⟩ := hx2
  rcases hv with ⟨cs, h1, rfl⟩ | ⟨c, h1, rfl⟩
  · obtain ⟨hk, h2⟩ := List.getElem?_eq_some_iff.1 h1
    obtain ⟨ws, h3, h4⟩ := (hr k hk (by omega)).1 (by rw [h2])
    rw [h2] at h4
    refine Ok1.value (u := us[k]) (w' := w) ?_ (r.pure ⟨ws, h3, h4⟩)
    simp [execOp, ho, hu, Instr.extract, show k < us.length by omega]
  · obtain ⟨hk, h2⟩ := List.getElem?_eq_some_iff.1 h1
    obtain ⟨y, h3, h4⟩ := (hr k hk (by omega)).2 (by rw [h2])
    rw [h2] at h3
    simp only [List.cons.injEq, and_true] at h3
    subst h3
    refine Ok1.value (u := us[k]) (w' := w) ?_ (r.pure h4)
    simp [execOp, ho, hu, Instr.extract, show k < us.length by omega]
theorem pvs_ok {h : Hp} {O : Nat → Prop} : ∀ {xs : List AC} {us : List Value} {vs : List Value}, pvs xs = some vs → RL (RepA h β w O) xs us → us = vs := by
  intro xs
  induction xs with
  | nil => intro us vs h1 h2; simp [pvs] at h1; rw [h2.nil_inv, h1]
  | cons x xs ih =>
    intro us vs h1 h2
    obtain ⟨u, us', rfl, h3, h4⟩ := h2.cons_inv
    cases x with
    | s x =>
      cases x with
      | pv v =>
        simp only [pvs, Option.map_eq_some_iff] at h1
        obtain ⟨vs', h5, rfl⟩ := h1
        rw [RepS.flat h3, ih h5 h4]
      | _ => simp [pvs] at h1
    | _ => simp [pvs] at h1
theorem op_eqs (r : Rel O w0 n σ β a w) {o : Oper} {neg : Bool} {x y : Operand} {x' y' : Opd} {t ty : Nat} {xs ys : List AC} {us vs : List Value} {b : Bool} (ho : o.op = .binOp (if neg then .neq else .eql) t x y ty) (ex : copd x = some x') (ey : copd y = some y') (hg : P.eqGuardType P.depth t = false)
    (hx : σ.ev x' = .agg xs) (hy : σ.ev y' = .agg ys) (hxs : pvs xs = some us) (hys : pvs ys = some vs) (hr : EqRun P t us vs b) : Ok1 P o a w (Done O w0 n σ a (.c (.s (.pv (.bool (neg ^^ b))))) []) := by
  have hx2 := r.ev ex
  rw [hx] at hx2
  obtain ⟨us', hu, hru⟩ := hx2
  have hy2 := r.ev ey
  rw [hy] at hy2
  obtain ⟨vs', hv, hrv⟩ := hy2
  rw [pvs_ok hxs hru] at hu
  rw [pvs_ok hys hrv] at hv
  refine Ok1.value (u := .bool (neg ^^ b)) (w' := w) ?_ (r.pure (pv_mk rfl))
  have h1 := hr w
  cases neg with
  | false =>
    simp only [Bool.false_eq_true, if_false] at ho
    simp only [execOp, ho, hu, hv, Sem.run_bind, run_eqGuard_agg (hm := hg), Result.andThen_ok, h1]
    simp
  | true =>
    simp only [if_true] at ho
    rw [run_eql_struct] at h1
    have h2 : (binOp .neq t (.agg us.toArray) (.agg vs.toArray)).run P w = .ok (.bool !b) w := by
      rw [run_neq_struct]
      cases h3 : (Op.equalIn 10000 t (.agg us.toArray) (.agg vs.toArray)).run P w with
      | ok r1 w1 =>
        rw [h3] at h1
        simp only [Result.andThen_ok, Result.ok.injEq, Value.bool.injEq] at h1
        obtain ⟨rfl, rfl⟩ := h1
        rfl
      | halt q w1 => rw [h3] at h1; simp at h1
    simp only [execOp, ho, hu, hv, Sem.run_bind, run_eqGuard_agg (hm := hg), Result.andThen_ok, h2]
    simp
theorem op_mm (r : Rel O w0 n σ β a w) {o : Oper} {mx : Bool} {x y : Operand} {x' y' : Opd} {ts : Array TypeId} {k k' : IntKind} {p q : Int} (ho : o.op = .call { callee := .builtin (if mx then .max else .min), args := #[x, y], argTypes := ts }) (ex : copd x = some x') (ey : copd y = some y')
    (hx : σ.ev x' = .c (.s (.pv (.int k p)))) (hy : σ.ev y' = .c (.s (.pv (.int k' q)))) : Ok1 P o a w (Done O w0 n σ a (.c (.s (.pv (.int k (if mx then max p q else min p q))))) []) := by
  have hx2 := r.ev ex
  rw [hx] at hx2
  have hu := hx2.pvInv
  have hy2 := r.ev ey
  rw [hy] at hy2
  have hv := hy2.pvInv
  refine Ok1.value (u := .int k (if mx then max p q else min p q)) (w' := w) ?_ (r.pure (pv_mk rfl))
  cases mx with
  | true =>
    have : (if q > p then q else p) = max p q := by split <;> omega
    simp [execOp, ho, resolve, invoke, builtin, hu, hv, Builtin.max_, Builtin.max2, this]
  | false =>
    have : (if q < p then q else p) = min p q := by split <;> omega
    simp [execOp, ho, resolve, invoke, builtin, hu, hv, Builtin.min_, Builtin.min2, this]
end
end Go.Proofs.YtcbfhpnmhhnjpaaGreat

