/- AN ABSTRACT MACHINE over the model, five: what is read, and where; stores. No condition. -/
import Derived.Test.YtbpipdgkkdifgaaAm4
import Derived.Laws.Cover3
namespace Go.Proofs.Ytbpipdgkkdifgaa
open Go.RowKit
set_option linter.unusedVariables false

theorem add_off (b off j : Nat) : (⟨b, off, none⟩ : Addr).add j = ⟨b, off + j, none⟩ := by
  unfold Addr.add
  by_cases hj : j = 0
  · subst hj; simp
  · simp [hj]
section
variable {P : Program} {O : Nat → Prop} {w0 : Base} {h : Hp} {β : Env} {w : World}
theorem run_isAgg' {t : Nat} {d : TypeDesc} (hd : P.underlying t = some d) (w : World) : (isAgg t).run P w = .ok (tyAgg d) w := by
  cases d <;> simp [isAgg, run_underlying hd, tyAgg]
theorem run_sizeOf' {t : Nat} {i : TypeInfo} (hi : P.info? t = some i) (w : World) : (sizeOf t).run P w = .ok i.size w := by
  simp [sizeOf, typeInfo, hi]
theorem run_zero' {t : Nat} {i : TypeInfo} {z : Value} (hi : P.info? t = some i) (hz : i.zero = some z) (w : World) : (zeroValue t).run P w = .ok z w := by
  simp [zeroValue, typeInfo, hi, hz]
theorem run_loadV {t : Nat} {ti : TI} (ht : TIs P t ti) {b off : Nat} (us : List Value) (hl : us.length = ti.n) (hc : ∀ j (hj : j < us.length), w.cell? ⟨b, off + j, none⟩ = some us[j]) :
    ∃ u, (loadVar t ⟨b, off, none⟩).run P w = .ok u w ∧ (ti.agg = true → u = .agg us.toArray) ∧ (ti.agg = false → us = [u]) := by
  obtain ⟨i, d, h1, h2, h3, h4, h5, h6⟩ := ht.info
  have hc' : ∀ j v, us[j]? = some v → w.cell? ((⟨b, off, none⟩ : Addr).add j) = some v := by
    intro j v hv
    obtain ⟨hj, rfl⟩ := List.getElem?_eq_some_iff.1 hv
    rw [add_off]; exact hc j hj
  cases hag : ti.agg with
  | true =>
    refine ⟨.agg us.toArray, ?_, fun _ => rfl, fun e => by simp at e⟩
    have := run_loadCells_list (P := P) w ⟨b, off, none⟩ us hc'
    simp only [loadVar, Sem.run_bind, run_isAgg' h2, Result.andThen_ok, h6, hag, if_true, run_sizeOf' h1, h4, ← hl, this, Sem.run_pure]
  | false =>
    have h7 := ht.one hag
    rw [h7] at hl
    obtain ⟨u, rfl⟩ := List.length_eq_one_iff.1 hl
    refine ⟨u, ?_, fun e => by simp at e, fun _ => rfl⟩
    have := hc 0 (by simp)
    simp only [Nat.add_zero, List.getElem_cons_zero] at this
    simp only [loadVar, Sem.run_bind, run_isAgg' h2, Result.andThen_ok, h6, hag, Bool.false_eq_true, if_false]
    simp [load, Sem.run, this]
theorem rd_ok (r : RelH O w0 h β w) {x : TV AC} {u : Value} (hx : RepT (RepA h β w (Mine O h β)) x u) {m : Nat} {K : List AC → Prop} (hk : rd h x m K) :
    ∃ cs b off us, K cs ∧ u = .pointer (some ⟨b, off, none⟩) ∧ cs.length = m ∧ RL (RepA h β w (Mine O h β)) cs us ∧ ∀ j (hj : j < us.length), w.cell? ⟨b, off + j, none⟩ = some us[j] := by
  unfold rd at hk
  split at hk
  · rename_i cs
    obtain ⟨h1, h2⟩ := hk
    cases hx with
    | sptr hb hO hl hr hc =>
      rename_i b off us
      refine ⟨_, b, off, us.take m, h2, rfl, by simp; omega, ?_, fun j hj => ?_⟩
      · have h3 : RL (RepS w (Mine O h β)) cs us := ⟨hl, hr⟩
        exact (h3.take m).map AC.s (fun x u hx => hx)
      · rw [List.getElem_take]; exact hc j (by simp at hj; omega)
  · rename_i l g i off
    obtain ⟨hg, h1⟩ := hk
    have h2 := hx.2.2 hg
    cases hb : h.blk l with
    | box ty e els =>
      rw [hb] at h1
      obtain ⟨hi, h3, h4⟩ := h1
      have hv : h.view l = .mem false ty e els := by unfold Hp.view; rw [hb]; rfl
      rw [hv] at h2
      obtain ⟨b, h5, rfl⟩ := h2
      obtain ⟨us, h6, h7, h8⟩ := r.at_ hv hi h5
      refine ⟨_, b, i * e + off, (us.drop off).take m, h4, rfl, by simp [h7.1]; omega, (h7.drop off).take m, fun j hj => ?_⟩
      rw [List.getElem_take, List.getElem_drop, Nat.add_assoc]
      exact h8 _ (by simp at hj; omega)
    | row ty e els =>
      rw [hb] at h1
      obtain ⟨hi, h3, h4⟩ := h1
      have hv : h.view l = .mem true ty e (els.map (List.map AC.s)) := by unfold Hp.view; rw [hb]; rfl
      rw [hv] at h2
      obtain ⟨b, h5, rfl⟩ := h2
      obtain ⟨us, h6, h7, h8⟩ := r.at_ hv (i := i) (by simpa using hi) h5
      rw [List.getElem_map] at h7
      refine ⟨_, b, i * e + off, (us.drop off).take m, h4, rfl, ?_, ?_, fun j hj => ?_⟩
      · have := h7.1
        simp at this
        simp
        omega
      · have := (h7.drop off).take m
        rw [← List.map_drop, ← List.map_take] at this
        exact this
      · rw [List.getElem_take, List.getElem_drop, Nat.add_assoc]
        exact h8 _ (by simp at hj; omega)
    | dead => rw [hb] at h1; exact h1.elim
    | ice x => rw [hb] at h1; exact h1.elim
  · exact hk.elim
end
section
variable {P : Program} {O : Nat → Prop} {w0 : Base} {n : Nat} {σ : St} {β : Env} {a : Act} {w : World}
theorem op_load (r : Rel O w0 n σ β a w) {o : Oper} {x : Operand} {x' : Opd} {t : Nat} {ti : TI} {v : TV AC} (ho : o.op = .load t x) (ex : copd x = some x') (ht : TIs P t ti)
    (hk : rd σ.h (σ.ev x') ti.n (fun cs => if ti.agg then v = .agg cs else ∃ c, cs = [c] ∧ v = .c c)) : Ok1 P o a w (Done O w0 n σ a v []) := by
  obtain ⟨cs, b, off, us, hv, hu, hl, hr, hc⟩ := rd_ok r.toRelH (r.ev ex) hk
  obtain ⟨u, h1, h2, h3⟩ := run_loadV ht (us := us) (by rw [← hr.1]; exact hl) hc
  refine Ok1.value (u := u) (w' := w) ?_ (r.pure ?_)
  · simp [execOp, ho, hu, Instr.loadAt, Instr.sureAddr, h1]
  · cases hag : ti.agg with
    | true =>
      rw [hag] at hv
      simp only [if_true] at hv
      subst hv
      exact ⟨us, h2 hag, hr⟩
    | false =>
      rw [hag] at hv
      simp only [Bool.false_eq_true, if_false] at hv
      obtain ⟨c, rfl, rfl⟩ := hv
      have := h3 hag
      subst this
      exact hr.head
/-- the place that a pointer is -/
theorem Rel.place (r : Rel O w0 n σ β a w) {l g i off : Nat} {u : Value} (hx : RepA σ.h β w (Mine O σ.h β) (.ptr l g i off) u) (hg : g = σ.h.gen l) {row : Bool} {ty e : Nat} {els : List (List AC)} (hv : σ.h.view l = .mem row ty e els) :
    ∃ b, (β l).1 = some b ∧ u = .pointer (some ⟨b, i * e + off, none⟩) := by
  have h2 := hx.2.2 hg
  rw [hv] at h2
  exact h2
theorem op_fld (r : Rel O w0 n σ β a w) {o : Oper} {x : Operand} {x' : Opd} {t k : Nat} {fs : Array Field} {f : Field} {ti : TI} {v : TV AC} (ho : o.op = .fieldAddr t x k) (ex : copd x = some x') (ht : P.underlying t = some (.struct fs)) (hf : fs[k]? = some f) (hti : TIs P f.type ti)
    (hk : (∃ cs, σ.ev x' = .c (.s (.sptr cs)) ∧ f.offset ≤ cs.length ∧ v = .c (.s (.sptr (cs.drop f.offset)))) ∨ (∃ l g i q, σ.ev x' = .c (.ptr l g i q) ∧ g = σ.h.gen l ∧ (σ.h.view l).live = true ∧ v = .c (.ptr l g i (q + f.offset)))) :
    Ok1 P o a w (Done O w0 n σ a v []) := by
  obtain ⟨ii, d, h1, h2, h3, h4, h5, h6⟩ := hti.info
  have hsz : ¬ ii.size = 0 := by have := hti.pos; omega
  have hrun : ∀ b off, a.eval x = .pointer (some ⟨b, off, none⟩) → (execOp a.eval o).run P w = .ok (.value (.pointer (some ⟨b, off + f.offset, none⟩))) w := by
    intro b off e
    simp [execOp, ho, e, Instr.fieldAt, Instr.sureAddr, run_underlying ht, hf, fieldPlace, run_sizeOf' h1, hsz, add_off]
  have hx := r.ev ex
  rcases hk with ⟨cs, e, hoff, rfl⟩ | ⟨l, g, i, q, e, hg, hl, rfl⟩
  · rw [e] at hx
    generalize hu : a.eval x = u at hx
    cases hx with
    | sptr hb hO hln hr hc =>
      rename_i b off us
      refine Ok1.value (hrun b off hu) (r.pure ?_)
      refine RepS.sptr (us := us.drop f.offset) hb hO (by simp [hln]) (fun i a b => ?_) (fun i a => ?_)
      · rw [List.getElem_drop, List.getElem_drop]; exact hr _ _ _
      · rw [List.getElem_drop, Nat.add_assoc]; exact hc _ (by simp at a; omega)
  · rw [e] at hx
    cases hv : σ.h.view l with
    | mem row ty e' els =>
      obtain ⟨b, hb, hu⟩ := r.place hx hg hv
      refine Ok1.value (hrun b _ hu) (r.pure ?_)
      refine ⟨rfl, hx.2.1, fun _ => ?_⟩
      rw [hv]
      exact ⟨b, hb, by rw [Nat.add_assoc]⟩
    | dead => rw [hv] at hl; simp [VB.live] at hl
    | ice y => rw [hv] at hl; simp [VB.live] at hl
theorem op_nilc (r : Rel O w0 n σ β a w) {o : Oper} {x : Operand} {x' : Opd} (ho : o.op = .nilCheck x) (ex : copd x = some x')
    (hk : (∃ cs, σ.ev x' = .c (.s (.sptr cs))) ∨ (∃ f cs, σ.ev x' = .c (.s (.fn f cs))) ∨ (∃ f cs, σ.ev x' = .c (.clo f cs)) ∨ (∃ l g i q, σ.ev x' = .c (.ptr l g i q) ∧ g = σ.h.gen l ∧ (σ.h.view l).live = true)) :
    Ok1 P o a w (Done O w0 n σ a (σ.ev x') []) := by
  have hx := r.ev ex
  refine Ok1.value (u := a.eval x) (w' := w) ?_ (r.pure hx)
  rcases hk with ⟨cs, e⟩ | ⟨f, cs, e⟩ | ⟨f, cs, e⟩ | ⟨l, g, i, q, e, hg, hl⟩
  · rw [e] at hx
    generalize hu : a.eval x = u at hx
    cases hx with
    | sptr hb hO hln hr hc => simp [execOp, ho, hu]
  · rw [e] at hx
    generalize hu : a.eval x = u at hx
    cases hx with
    | fn hl hr => simp [execOp, ho, hu]
  · rw [e] at hx
    obtain ⟨us, hu, _⟩ := hx
    simp [execOp, ho, hu]
  · rw [e] at hx
    cases hv : σ.h.view l with
    | mem row ty e' els =>
      obtain ⟨b, hb, hu⟩ := r.place hx hg hv
      simp [execOp, ho, hu]
    | dead => rw [hv] at hl; simp [VB.live] at hl
    | ice y => rw [hv] at hl; simp [VB.live] at hl

/-- the slices that a value may be -/
inductive SlOf (e : Nat) (h : Hp) : TV AC → List (List SC) → List (Nat × Nat × LB) → Prop
  | zc : SlOf e h (.c .zc) [] []
  | s {els : List (List SC)} : SlOf e h (.c (.s (.sl e els))) els []
  | tag {b : Bool} {els : List (List SC)} : SlOf e h (.c (.s (.tag b (.sl e els)))) els []
  | row {l ty : Nat} {els : List (List SC)} (hk : h.blk l = .row ty e els) : SlOf e h (.c (.own l (h.gen l))) els [(l, h.gen l, .ice (.sl e els))]
  | ice {l : Nat} {els : List (List SC)} (hk : h.blk l = .ice (.sl e els)) : SlOf e h (.c (.own l (h.gen l))) els []
theorem sliceOf_ok {e : Nat} {h : Hp} {x : TV AC} {els : List (List SC)} {ws : List (Nat × Nat × LB)} (hs : sliceOf e h x = some (els, ws)) : SlOf e h x els ws := by
  unfold sliceOf at hs
  split at hs
  · simp only [Option.some.injEq, Prod.mk.injEq] at hs; obtain ⟨rfl, rfl⟩ := hs; exact .zc
  · split at hs
    · rename_i he
      subst he
      simp only [Option.some.injEq, Prod.mk.injEq] at hs; obtain ⟨rfl, rfl⟩ := hs; exact .s
    · simp at hs
  · split at hs
    · rename_i he
      subst he
      simp only [Option.some.injEq, Prod.mk.injEq] at hs; obtain ⟨rfl, rfl⟩ := hs; exact .tag
    · simp at hs
  · split at hs
    · rename_i hg
      subst hg
      split at hs
      · rename_i hk
        split at hs
        · rename_i he
          subst he
          simp only [Option.some.injEq, Prod.mk.injEq] at hs; obtain ⟨rfl, rfl⟩ := hs; exact .row hk
        · simp at hs
      · rename_i hk
        split at hs
        · rename_i he
          subst he
          simp only [Option.some.injEq, Prod.mk.injEq] at hs; obtain ⟨rfl, rfl⟩ := hs; exact .ice hk
        · simp at hs
      · simp at hs
    · simp at hs
  · simp at hs
theorem SlOf.len {e : Nat} {h : Hp} {x : TV AC} {els : List (List SC)} {ws : List (Nat × Nat × LB)} (hs : SlOf e h x els ws) {m : Nat} (hm : lenOf h x = some m) : m = els.length := by
  cases hs with
  | zc => simp [lenOf] at hm; exact hm.symm
  | s => simp [lenOf] at hm; exact hm.symm
  | tag => simp [lenOf] at hm; exact hm.symm
  | row hk => simp [lenOf, hk] at hm; exact hm.symm
  | ice hk => simp [lenOf, hk] at hm; exact hm.symm
/-- how a slice lies in memory, if it is handed on: like a shared one; or it has no room -/
theorem SlOf.froz {e : Nat} {h : Hp} (r : RelH O w0 h β w) {x : TV AC} {els : List (List SC)} {ws : List (Nat × Nat × LB)} (hs : SlOf e h x els ws) {u : Value} (hx : RepT (RepA h β w (Mine O h β)) x u) :
    RelH O w0 (h.app ws) β w ∧ (∀ x v, RepA h β w (Mine O h β) x v → RepA (h.app ws) β w (Mine O (h.app ws) β) x v) ∧
      ((els = [] ∧ ∃ A, u = .slice A 0 0) ∨ RepS w (Mine O (h.app ws) β) (.sl e els) u) := by
  cases hs with
  | zc => obtain ⟨A, rfl⟩ := hx; exact ⟨r, fun _ _ h => h, .inl ⟨rfl, A, rfl⟩⟩
  | s => exact ⟨r, fun _ _ h => h, .inr hx⟩
  | tag => cases hx with
    | tag h hb => exact ⟨r, fun _ _ h => h, .inr h⟩
  | row hk =>
    rename_i l ty
    obtain ⟨r1, r2⟩ := r.freeze hk
    refine ⟨r1, r2, .inr ?_⟩
    have h3 := (r2 (.own l (h.gen l)) u hx).2.2 (by rw [Hp.gen_at])
    rw [Hp.view_at] at h3
    exact h3
  | ice hk =>
    rename_i l
    have h2 := hx.2.2 rfl
    have hv : h.view l = .ice (.sl e els) := by unfold Hp.view; rw [hk]; rfl
    rw [hv] at h2
    exact ⟨r, fun _ _ h => h, .inr h2⟩
theorem SlOf.rep {e : Nat} {h : Hp} (r : RelH O w0 h β w) {x : TV AC} {els : List (List SC)} {ws : List (Nat × Nat × LB)} (hs : SlOf e h x els ws) {u : Value} (hx : RepT (RepA h β w (Mine O h β)) x u) :
    (els = [] ∧ ∃ A, u = .slice A 0 0) ∨ RepS w O (.sl e els) u := by
  obtain ⟨_, _, h3 | h3⟩ := hs.froz r hx
  · exact .inl h3
  · exact .inr (RepS.less h3 (fun b hb => .inl hb))
theorem numsOf_ok : ∀ {els : List (List SC)} {ns : List Int}, numsOf els = some ns → els = ns.map fun n => [SC.pv (.int .u8 n)] := by
  intro els
  induction els with
  | nil => intro ns h; simp [numsOf] at h; subst h; rfl
  | cons x xs ih =>
    intro ns h
    unfold numsOf at h
    split at h
    · simp at *
    · rename_i n ys heq
      simp only [List.cons.injEq] at heq
      obtain ⟨rfl, rfl⟩ := heq
      simp only [Option.map_eq_some_iff] at h
      obtain ⟨ms, h1, rfl⟩ := h
      rw [ih h1]; rfl
    · simp at h
theorem RepS.slForm {e : Nat} {els : List (List SC)} {u : Value} (hx : RepS w O (.sl e els) u) : ∃ A cap, u = .slice A els.length cap ∧ els.length ≤ cap ∧ cap ≤ maxLen := by
  cases hx with
  | sl0 h0 hm => exact ⟨_, _, rfl, Nat.zero_le _, hm⟩
  | sl h0 hcap hm => exact ⟨_, _, rfl, hcap, hm⟩
theorem lenOf_ok (r : Rel O w0 n σ β a w) {x : TV AC} {u : Value} (hx : RepT (RepA σ.h β w (Mine O σ.h β)) x u) {m : Nat} (hm : lenOf σ.h x = some m) : ∃ A cap, u = .slice A m cap := by
  have key : ∀ e els ws, SlOf e σ.h x els ws → ∃ A cap, u = .slice A m cap := by
    intro e els ws hs
    have h1 := hs.len hm
    rcases hs.rep r.toRelH hx with ⟨rfl, A, rfl⟩ | h2
    · subst h1; exact ⟨A, 0, rfl⟩
    · obtain ⟨A, cap, h3, _⟩ := RepS.slForm h2
      subst h1; exact ⟨A, cap, h3⟩
  unfold lenOf at hm
  split at hm
  · exact key 1 _ _ .zc
  · exact key _ _ _ .s
  · exact key _ _ _ .tag
  · split at hm
    · rename_i hg
      subst hg
      split at hm
      · rename_i hk; exact key _ _ _ (.row hk)
      · rename_i hk; exact key _ _ _ (.ice hk)
      · simp at hm
    · simp at hm
  · simp at hm
theorem op_len (r : Rel O w0 n σ β a w) {o : Oper} {x : Operand} {x' : Opd} {t : Nat} {m e : Nat} (ho : o.op = .call { callee := .builtin .len, args := #[x], argTypes := #[t] }) (ex : copd x = some x') (ht : P.underlying t = some (.slice e))
    (hm : lenOf σ.h (σ.ev x') = some m) : Ok1 P o a w (Done O w0 n σ a (.c (.s (.pv (.int .i64 m)))) []) := by
  obtain ⟨A, cap, hu⟩ := lenOf_ok r (r.ev ex) hm
  refine Ok1.value (u := .int .i64 m) (w' := w) ?_ (r.pure (pv_mk rfl))
  simp [execOp, ho, resolve, invoke, builtin, hu, Builtin.len_, run_underlying ht, goInt]
theorem op_slen (r : Rel O w0 n σ β a w) {o : Oper} {x : Operand} {x' : Opd} {t : Nat} {s : ByteArray} (ho : o.op = .call { callee := .builtin .len, args := #[x], argTypes := #[t] }) (ex : copd x = some x') (ht : P.underlying t = some .string)
    (hs : σ.ev x' = .c (.s (.pv (.string s)))) : Ok1 P o a w (Done O w0 n σ a (.c (.s (.pv (.int .i64 s.size)))) []) := by
  have hx := r.ev ex
  rw [hs] at hx
  have hu := hx.pvInv
  refine Ok1.value (u := .int .i64 s.size) (w' := w) ?_ (r.pure (pv_mk rfl))
  simp [execOp, ho, resolve, invoke, builtin, hu, Builtin.len_, run_underlying ht, goInt]
theorem op_b2s (r : Rel O w0 n σ β a w) {o : Oper} {x : Operand} {x' : Opd} {src dst e : Nat} {els : List (List SC)} {ws : List (Nat × Nat × LB)} {ns : List Int} (ho : o.op = .convert src dst x) (ex : copd x = some x') (hs : P.underlying src = some (.slice e)) (he : P.underlying e = some (.int .u8)) (hd : P.underlying dst = some .string)
    (hx : sliceOf 1 σ.h (σ.ev x') = some (els, ws)) (hn : numsOf els = some ns) : Ok1 P o a w (Done O w0 n σ a (.c (.s (.pv (.string (strOfNums ns))))) []) := by
  have h1 := r.ev ex
  have hconv : (convert src dst (a.eval x)).run P w = .ok (.string (strOfNums ns)) w := by
    have hels := numsOf_ok hn
    have hz : ∀ (A : Option Addr) (c : Nat), ns = [] → (convert src dst (.slice A 0 c)).run P w = .ok (.string (strOfNums ns)) w := by
      intro A c h
      subst h
      rw [run_convert_bytes_string w src dst e _ 0 c hs he hd]
      cases A <;> simp [Conv.bytesToString, loadCells]
      all_goals rfl
    rcases (sliceOf_ok hx).rep r.toRelH h1 with ⟨h2, A, hA⟩ | h2
    · rw [hA]
      refine hz A 0 ?_
      rw [h2] at hels
      simpa using hels.symm
    · generalize a.eval x = u at h2
      cases h2 with
      | sl0 h0 hm => exact hz _ _ (by simpa using hels.symm)
      | @sl e' els' b off cap us h0 hcap hm hb hO he' hl hr hc =>
        have hf : els.flatten = ns.map fun n => SC.pv (.int .u8 n) := by
          have key : ∀ l : List Int, (l.map fun n => [SC.pv (.int .u8 n)]).flatten = l.map fun n => SC.pv (.int .u8 n) := by
            intro l; induction l with
            | nil => rfl
            | cons a l ih => simp only [List.map_cons, List.flatten_cons, ih]; rfl
          rw [hels]; exact key ns
        have hln : els.length = ns.length := by rw [hels]; simp
        rw [hln]
        refine run_convert_bytes_arg w src e hs he b off ns.length cap ns rfl (fun i hi => ?_) dst hd
        have hif : i < els.flatten.length := by rw [hf]; simpa using hi
        have hiu : i < us.length := by omega
        rw [hc i hiu]
        have h5 := hr i hif hiu
        have h6 : els.flatten[i] = SC.pv (.int .u8 ns[i]) := by simp only [hf, List.getElem_map]
        rw [h6] at h5
        rw [RepS.flat h5]
        simp [List.getD, List.getElem?_eq_getElem hi]
  refine Ok1.value (u := .string (strOfNums ns)) (w' := w) ?_ (r.pure (pv_mk rfl))
  simp only [execOp, ho, Sem.run_bind, hconv, Result.andThen_ok, Sem.run_pure]
theorem op_isnil (r : Rel O w0 n σ β a w) {o : Oper} {x : Operand} {x' : Opd} {t ty e : Nat} {b : Bool} {y : SC} (ho : o.op = .binOp .eql t x (.const (.slice none 0 0)) ty) (ex : copd x = some x') (ht : P.underlying t = some (.slice e))
    (hx : σ.ev x' = .c (.s (.tag b y))) (hsl : ∃ A k c, a.eval x = .slice A k c) : Ok1 P o a w (Done O w0 n σ a (.c (.s (.pv (.bool b)))) []) := by
  have h1 := r.ev ex
  rw [hx] at h1
  obtain ⟨A, k, c, hu⟩ := hsl
  rw [hu] at h1
  cases h1 with
  | tag h hb =>
    refine Ok1.value (u := .bool b) (w' := w) ?_ (r.pure (pv_mk rfl))
    have ec : a.eval (.const (.slice none 0 0)) = .slice none 0 0 := rfl
    subst hb
    cases A with
    | none => simp [execOp, ho, hu, ec, eqGuard, binOp, run_equal_slice_nil (h := ht), nilV]
    | some A => simp [execOp, ho, hu, ec, eqGuard, binOp, run_equal_slice_nil (h := ht), nilV]
theorem op_idxS (r : Rel O w0 n σ β a w) {o : Oper} {x y : Operand} {y' : Opd} {t e : Nat} {ti : TI} {k : IntKind} {m : Int} {els : List (List SC)} (ho : o.op = .indexAddr t x y) (ey : copd y = some y') (ht : P.underlying t = some (.slice e)) (hti : TIs P e ti)
    (hy : σ.ev y' = .c (.s (.pv (.int k m)))) (h0 : 0 ≤ m) (hn : m.toNat < els.length) (hS : RepS w (Mine O σ.h β) (.sl ti.n els) (a.eval x)) : Ok1 P o a w (Done O w0 n σ a (.c (.s (.sptr els[m.toNat]))) []) := by
  obtain ⟨ii, d, h1, h2, h3, h4, h5, h6⟩ := hti.info
  have h7 := r.ev ey
  rw [hy] at h7
  have h8 := h7.pvInv
  generalize hu : a.eval x = u at hS
  cases hS with
  | sl0 => simp at hn
  | sl hp hcap hm hb hO he hl hr hc =>
    rename_i b off cap us
    have hlt : m < (els.length : Int) := by omega
    refine Ok1.value (u := .pointer (some ⟨b, off + m.toNat * ti.n, none⟩)) (w' := w) ?_ (r.pure ?_)
    · simp [execOp, ho, hu, h8, Instr.indexAt, run_underlying ht, asIntOf, h0, hlt, run_sizeOf' h1, h4, add_off]
    · have hRL : RL (RepS w (Mine O σ.h β)) els.flatten us := ⟨hl, hr⟩
      have h9 := (hRL.drop (m.toNat * ti.n)).take ti.n
      rw [flatten_take els he _ hn] at h9
      refine RepS.sptr (us := (us.drop (m.toNat * ti.n)).take ti.n) hb hO h9.1 h9.2 (fun i a => ?_)
      rw [List.getElem_take, List.getElem_drop, Nat.add_assoc]
      exact hc _ (by simp at a; omega)
theorem op_idxO (r : Rel O w0 n σ β a w) {o : Oper} {x y : Operand} {x' y' : Opd} {t e l g ty : Nat} {ti : TI} {k : IntKind} {m : Int} {els : List (List SC)} (ho : o.op = .indexAddr t x y) (ex : copd x = some x') (ey : copd y = some y') (ht : P.underlying t = some (.slice e)) (hti : TIs P e ti)
    (hy : σ.ev y' = .c (.s (.pv (.int k m)))) (hx : σ.ev x' = .c (.own l g)) (hg : g = σ.h.gen l) (hk : σ.h.blk l = .row ty ti.n els) (h0 : 0 ≤ m) (hn : m.toNat < els.length) : Ok1 P o a w (Done O w0 n σ a (.c (.ptr l g m.toNat 0)) []) := by
  obtain ⟨ii, d, h1, h2, h3, h4, h5, h6⟩ := hti.info
  have h7 := r.ev ey
  rw [hy] at h7
  have h8 := h7.pvInv
  have h9 := r.ev ex
  rw [hx] at h9
  have h10 := h9.2.2 hg
  have hv : σ.h.view l = .mem true ty ti.n (els.map (List.map AC.s)) := by unfold Hp.view; rw [hk]; rfl
  rw [hv] at h10
  have h11 := h10 rfl
  have h12 := r.blks l
  unfold RepB at h12
  rw [hv] at h12
  simp only at h12
  obtain ⟨_, _, ⟨_, h13, _⟩ | ⟨b, cap, cur, h13, h14, h15, h16⟩⟩ := h12
  · have : els = [] := by simpa using h13
    subst this; simp at hn
  · rw [(h16 trivial).1] at h11
    have hln : (els.map (List.map AC.s)).length = els.length := by simp
    rw [hln] at h11
    have hlt : m < (els.length : Int) := by omega
    refine Ok1.value (u := .pointer (some ⟨b, m.toNat * ti.n, none⟩)) (w' := w) ?_ (r.pure ?_)
    · simp [execOp, ho, h11, h8, Instr.indexAt, run_underlying ht, asIntOf, h0, hlt, run_sizeOf' h1, h4, add_off]
    · refine ⟨rfl, h9.2.1, fun _ => ?_⟩
      rw [hv]
      exact ⟨b, h13, by simp⟩
theorem op_aidx (r : Rel O w0 n σ β a w) {o : Oper} {x y : Operand} {x' y' : Opd} {t cnt e : Nat} {ti : TI} {k : IntKind} {m : Int} {v : TV AC} (ho : o.op = .indexAddr t x y) (ex : copd x = some x') (ey : copd y = some y') (ht : P.underlying t = some (.array cnt e)) (hti : TIs P e ti)
    (hy : σ.ev y' = .c (.s (.pv (.int k m)))) (h0 : 0 ≤ m) (hn : m < cnt)
    (hk : (∃ cs, σ.ev x' = .c (.s (.sptr cs)) ∧ m.toNat * ti.n ≤ cs.length ∧ v = .c (.s (.sptr (cs.drop (m.toNat * ti.n))))) ∨ (∃ l g i off row ty e' els, σ.ev x' = .c (.ptr l g i off) ∧ g = σ.h.gen l ∧ σ.h.view l = .mem row ty e' els ∧
      ((e' = ti.n ∧ off = 0 ∧ v = .c (.ptr l g (i + m.toNat) 0)) ∨ v = .c (.ptr l g i (off + m.toNat * ti.n))))) : Ok1 P o a w (Done O w0 n σ a v []) := by
  obtain ⟨ii, d, h1, h2, h3, h4, h5, h6⟩ := hti.info
  have h7 := r.ev ey
  rw [hy] at h7
  have h8 := h7.pvInv
  have hrun : ∀ b off, a.eval x = .pointer (some ⟨b, off, none⟩) → (execOp a.eval o).run P w = .ok (.value (.pointer (some ⟨b, off + m.toNat * ti.n, none⟩))) w := by
    intro b off e
    simp [execOp, ho, e, h8, Instr.indexAt, Instr.sureAddr, run_underlying ht, asIntOf, h0, hn, run_sizeOf' h1, h4, add_off]
  have hx := r.ev ex
  rcases hk with ⟨cs, e, hoff, rfl⟩ | ⟨l, g, i, q, row, ty, e', els, e, hg, hv, hk⟩
  · rw [e] at hx
    generalize hu : a.eval x = u at hx
    cases hx with
    | sptr hb hO hln hr hc =>
      rename_i b off us
      refine Ok1.value (hrun b off hu) (r.pure ?_)
      refine RepS.sptr (us := us.drop (m.toNat * ti.n)) hb hO (by simp [hln]) (fun i a b => ?_) (fun i a => ?_)
      · rw [List.getElem_drop, List.getElem_drop]; exact hr _ _ _
      · rw [List.getElem_drop, Nat.add_assoc]; exact hc _ (by simp at a; omega)
  · rw [e] at hx
    obtain ⟨b, hb, hu⟩ := r.place hx hg hv
    refine Ok1.value (hrun b _ hu) (r.pure ?_)
    rcases hk with ⟨rfl, rfl, rfl⟩ | rfl
    · refine ⟨rfl, hx.2.1, fun _ => ?_⟩
      rw [hv]
      exact ⟨b, hb, by rw [Nat.add_mul]; simp⟩
    · refine ⟨rfl, hx.2.1, fun _ => ?_⟩
      rw [hv]
      exact ⟨b, hb, by rw [Nat.add_assoc]⟩
end
end Go.Proofs.Ytbpipdgkkdifgaa
