/- AN ABSTRACT MACHINE over the model, twelve: the model's operations, compiled. No condition. -/
import Derived.Test.YtbpipdgkkdifgaaAm11
namespace Go.Proofs.Ytbpipdgkkdifgaa
open Go.RowKit
set_option linter.unusedVariables false

def scalarT : TypeDesc → Bool
  | .bool | .int _ | .string => true
  | _ => false
def isNilK : Operand → Bool
  | .const (.slice none 0 0) => true
  | _ => false
theorem isNilK_ok {x : Operand} (h : isNilK x = true) : x = .const (.slice none 0 0) := by
  unfold isNilK at h
  split at h
  · rfl
  · simp at h
def boolT : TypeDesc → Bool
  | .bool => true
  | _ => false
def isZero : Operand → Bool
  | .const (.int _ 0) => true
  | _ => false
theorem isZero_ok {x : Operand} (h : isZero x = true) : ∃ k, x = .const (.int k 0) := by
  unfold isZero at h
  split at h
  · exact ⟨_, rfl⟩
  · simp at h
def compSlice (P : Program) (t : Nat) (x : Operand) (lo hi mx : Option Operand) : Option AOp :=
  match mx with
  | none => match P.underlying t, copd x, coptd lo, coptd hi with
    | some (.slice e), some x, some lo, some hi => match tinf P e with
      | some te => some (.sub te.n x lo hi)
      | none => none
    | some .string, some x, some lo, some hi => some (.ssub x lo hi)
    | _, _, _, _ => none
  | some m => match P.underlying t, copd x, hi with
    | some (.slice e), some x, some h => match tinf P e with
      | some _ => if isZero h = true ∧ isZero m = true ∧ lo.all isZero = true then some (.z3 x) else none
      | none => none
    | _, _, _ => none
def comp1 (P : Program) (o : Oper) : Option AOp :=
  match o.op with
  | .move x => (copd x).map AOp.mv
  | .assign x => (copd x).map AOp.mv
  | .pick c x y => match copd c, copd x, copd y with
    | some c, some x, some y => some (.pick c x y)
    | _, _, _ => none
  | .alloc t => match tinf P t with
    | some ti => match P.underlying t with
      | some (.array m e) => match tinf P e with
        | some te => if m * te.n = ti.n then some (.mk t te.n (chunk te.n m ti.zero)) else none
        | none => none
      | _ => some (.mk t ti.n [ti.zero])
    | none => none
  | .box t x => match tinf P t, copd x with
    | some ti, some x => some (.box t ti.n x)
    | _, _ => none
  | .build t parts => match tinf P t, placeOf P t with
    | some ti, some pl => match partsOf pl parts.toList with
      | some ps => some (.build ti.zero ps)
      | none => none
    | _, _ => none
  | .buildSlice t len parts => match P.underlying t with
    | some (.slice e) => match tinf P e with
      | some te => match partsOf (fun i => some (i * te.n, te.n)) parts.toList with
        | some ps => if len * te.n ≤ 16777216 then some (.bslice e te.n te.zero len ps) else none
        | none => none
      | none => none
    | _ => none
  | .load t x => match tinf P t, copd x with
    | some ti, some x => some (.load ti.agg ti.n x)
    | _, _ => none
  | .store t x y => match tinf P t, copd x, copd y with
    | some ti, some x, some y => some (.store ti.n x y)
    | _, _, _ => none
  | .nilCheck x => (copd x).map AOp.nilc
  | .binOp op t x y0 _ => match P.underlying t, copd x, copd y0 with
    | some d, some x, some y =>
      if scalarT d then some (.bin (boolT d) op x y)
      else match d, op with
        | .struct _, .eql => if P.eqGuardType P.depth t = false then some (.eqs false t x y) else none
        | .struct _, .neq => if P.eqGuardType P.depth t = false then some (.eqs true t x y) else none
        | .slice _, .eql => if isNilK y0 then some (.isnil x) else none
        | _, _ => none
    | _, _, _ => none
  | .unOp .not _ x => (copd x).map AOp.not
  | .convert src dst x => match P.underlying src, P.underlying dst, copd x with
    | some (.int _), some (.int k), some x => some (.conv k x)
    | some (.slice e), some .string, some x => match P.underlying e with
      | some (.int .u8) => some (.b2s x)
      | _ => none
    | _, _, _ => none
  | .makeSlice t l c => match P.underlying t, copd l, copd c with
    | some (.slice e), some l, some c => match tinf P e with
      | some te => match all? sh0 te.zero with
        | some zs => some (.mkSlice e te.n te.bytes zs l c)
        | none => none
      | none => none
    | _, _, _ => none
  | .slice t x lo hi mx => compSlice P t x lo hi mx
  | .fieldAddr t x k => match P.underlying t, copd x with
    | some (.struct fs), some x => match fs[k]? with
      | some f => match tinf P f.type with
        | some _ => some (.fld f.offset x)
        | none => none
      | none => none
    | _, _ => none
  | .indexAddr t x y => match P.underlying t, copd x, copd y with
    | some (.slice e), some x, some y => match tinf P e with
      | some te => some (.idx te.n x y)
      | none => none
    | some (.array m e), some x, some y => match tinf P e with
      | some te => some (.aidx m te.n x y)
      | none => none
    | _, _, _ => none
  | .index t x y => match P.underlying t, copd x, copd y with
    | some .string, some x, some y => some (.sidx x y)
    | _, _, _ => none
  | .field t x k => match P.underlying t, copd x with
    | some (.struct fs), some x => match fs[k]? with
      | some f => match tinf P f.type with
        | some ti => some (.field ti.agg f.offset ti.n x)
        | none => none
      | none => none
    | _, _ => none
  | .extract x k => (copd x).map (AOp.ext k)
  | .makeFunc (.func f) first caps => if first.toList.isEmpty then (all? copd caps.toList).map (AOp.clo f) else none
  | .call c => match c.callee, c.args.toList, c.argTypes.toList with
    | .builtin .len, [x], [t] => match P.underlying t, copd x with
      | some .string, some x => some (.slen x)
      | some (.slice _), some x => some (.len x)
      | _, _ => none
    | .builtin .append, [x, y], [t, t'] => if t = t' then match P.underlying t, copd x, copd y with
        | some (.slice e), some x, some y => match tinf P e with
          | some te => some (.app e te.n te.bytes x y)
          | none => none
        | _, _, _ => none
      else none
    | .builtin .max, [x, y], _ => match copd x, copd y with
      | some x, some y => some (.mm true x y)
      | _, _ => none
    | .builtin .min, [x, y], _ => match copd x, copd y with
      | some x, some y => some (.mm false x y)
      | _, _ => none
    | .value (.func f), args, _ => if callable P f = true then (all? copd args).map (AOp.call f) else none
    | .value (.tmp t), args, _ => (all? copd args).map (AOp.callv (.t t))
    | _, _, _ => none
  | _ => none
section
variable {P : Program} {O : Nat → Prop} {w0 : Base} {n : Nat} {σ : St} {β : Env} {a : Act} {w : World}
theorem comp1_ok {o : Oper} {ao : AOp} (hc : comp1 P o = some ao) {d : Nat} (r : Rel O w0 n σ β a w) {v : TV AC} {ws : List (Nat × Nat × LB)} (he : aeff P ao d σ.ev σ.h (fun v' ws' => v' = v ∧ ws' = ws)) :
    Ok1 P o a w (Done O w0 n σ a v ws) := by
  obtain ⟨dst, op, ty, pos, aft, gd⟩ := o
  unfold comp1 at hc
  cases op with
  | move x =>
    simp only [Option.map_eq_some_iff] at hc
    obtain ⟨x', h1, rfl⟩ := hc
    obtain ⟨rfl, rfl⟩ := he
    exact op_mv r (.inl rfl) h1
  | assign x =>
    simp only [Option.map_eq_some_iff] at hc
    obtain ⟨x', h1, rfl⟩ := hc
    obtain ⟨rfl, rfl⟩ := he
    exact op_mv r (.inr rfl) h1
  | pick c x y =>
    simp only at hc
    split at hc
    · rename_i c' x' y' h1 h2 h3
      simp only [Option.some.injEq] at hc
      subst hc
      simp only [aeff] at he
      split at he
      · rename_i t h4
        obtain ⟨rfl, rfl⟩ := he
        exact op_pick r rfl h1 h2 h3 h4
      · exact he.elim
    · simp at hc
  | alloc t =>
    simp only at hc
    split at hc
    · rename_i ti h1
      have hti := tinf_ok h1
      split at hc
      · rename_i m e h2
        split at hc
        · rename_i te h3
          have hte := tinf_ok h3
          split at hc
          · rename_i h4
            simp only [Option.some.injEq] at hc
            subst hc
            obtain ⟨rfl, rfl⟩ := he
            obtain ⟨h5, h6, h7⟩ := chunk_flat te.n m ti.zero (by rw [hti.len]; exact h4.symm)
            exact op_mk r rfl hti h5 hte.pos h6
          · simp at hc
        · simp at hc
      · simp only [Option.some.injEq] at hc
        subst hc
        obtain ⟨rfl, rfl⟩ := he
        exact op_mk r rfl hti (by simp) hti.pos (by simp [hti.len])
    · simp at hc
  | box t x =>
    simp only at hc
    split at hc
    · rename_i ti x' h1 h2
      simp only [Option.some.injEq] at hc
      subst hc
      simp only [aeff] at he
      split at he
      · rename_i cs h3
        obtain ⟨h4, rfl, rfl⟩ := he
        exact op_box r rfl h2 (tinf_ok h1) h3 h4
      · exact he.elim
    · simp at hc
  | build t parts =>
    simp only at hc
    split at hc
    · rename_i ti pl h1 h2
      split at hc
      · rename_i ps h3
        simp only [Option.some.injEq] at hc
        subst hc
        simp only [aeff] at he
        split at he
        · rename_i cs h4
          obtain ⟨rfl, rfl⟩ := he
          exact op_build r rfl (tinf_ok h1) h2 h3 h4
        · exact he.elim
      · simp at hc
    · simp at hc
  | buildSlice t len parts =>
    simp only at hc
    split at hc
    · rename_i e h1
      split at hc
      · rename_i te h2
        split at hc
        · rename_i ps h3
          split at hc
          · rename_i h4
            simp only [Option.some.injEq] at hc
            subst hc
            simp only [aeff] at he
            split at he
            · rename_i cs h5
              split at he
              · rename_i ss h6
                obtain ⟨rfl, rfl⟩ := he
                exact op_bslice r rfl h1 (tinf_ok h2) h3 h5 h6 h4
              · exact he.elim
            · exact he.elim
          · simp at hc
        · simp at hc
      · simp at hc
    · simp at hc
  | load t x =>
    simp only at hc
    split at hc
    · rename_i ti x' h1 h2
      simp only [Option.some.injEq] at hc
      subst hc
      simp only [aeff] at he
      have key : (∀ cs, (if ti.agg = true then TV.agg cs = v ∧ ([] : List (Nat × Nat × LB)) = ws else match cs with
          | [c] => TV.c c = v ∧ ([] : List (Nat × Nat × LB)) = ws
          | _ => False) → (if ti.agg then v = .agg cs else ∃ c, cs = [c] ∧ v = .c c) ∧ ws = []) := by
        intro cs hcs
        cases hag : ti.agg with
        | true => rw [hag] at hcs; simp only [if_true] at hcs ⊢; exact ⟨hcs.1.symm, hcs.2.symm⟩
        | false =>
          rw [hag] at hcs
          simp only [Bool.false_eq_true, if_false] at hcs ⊢
          split at hcs
          · rename_i c; exact ⟨⟨c, rfl, hcs.1.symm⟩, hcs.2.symm⟩
          · exact hcs.elim
      have hws : ws = [] := by
        obtain ⟨cs, _, _, _, hk, _⟩ := rd_ok r.toRelH (r.ev h2) he
        exact (key cs hk).2
      subst hws
      refine op_load r rfl h2 (tinf_ok h1) ?_
      have mono : ∀ {x : TV AC} {m : Nat} {K K' : List AC → Prop}, (∀ cs, K cs → K' cs) → rd σ.h x m K → rd σ.h x m K' := by
        intro x m K K' hKK hr
        unfold rd at hr ⊢
        split at hr
        · exact ⟨hr.1, hKK _ hr.2⟩
        · rename_i l g i off
          refine ⟨hr.1, ?_⟩
          have hr2 := hr.2
          cases hk : σ.h.blk l with
          | dead => rw [hk] at hr2; exact hr2.elim
          | box ty e els => rw [hk] at hr2; obtain ⟨a, b, c⟩ := hr2; exact ⟨a, b, hKK _ c⟩
          | row ty e els => rw [hk] at hr2; obtain ⟨a, b, c⟩ := hr2; exact ⟨a, b, hKK _ c⟩
          | ice z => rw [hk] at hr2; exact hr2.elim
        · exact hr.elim
      exact mono (fun cs h => (key cs h).1) he
    · simp at hc
  | store t x y =>
    simp only at hc
    split at hc
    · rename_i ti x' y' h1 h2 h3
      simp only [Option.some.injEq] at hc
      subst hc
      simp only [aeff] at he
      split at he
      · rename_i l g i off cs h4 h5
        obtain ⟨h6, h7, h8⟩ := he
        cases hk : σ.h.blk l with
        | dead => rw [hk] at h8; exact h8.elim
        | ice z => rw [hk] at h8; exact h8.elim
        | box ty' e els =>
          rw [hk] at h8
          obtain ⟨hi, hoff, rfl, rfl⟩ := h8
          have hv : σ.h.view l = .mem false ty' e els := by unfold Hp.view; rw [hk]; rfl
          exact op_store r rfl h2 h3 (tinf_ok h1) h4 h5 h6 h7 hv hi hoff ⟨cs, rfl, rfl, fun us _ h => h⟩
        | row ty' e els =>
          rw [hk] at h8
          simp only at h8
          split at h8
          · rename_i ss h9
            obtain ⟨hi, hoff, hws, rfl, rfl⟩ := h8
            have hk' : (σ.h.app (frz σ.h cs)).blk l = .row ty' e els := (Hp.app_blk_ne _ _ _ hws).trans hk
            have hv : (σ.h.app (frz σ.h cs)).view l = .mem true ty' e (els.map (List.map AC.s)) := by unfold Hp.view; rw [hk']; rfl
            obtain ⟨r1, r2, r3⟩ := frz_ok cs σ.h r.toRelH
            have r' : Rel O w0 n ⟨σ.slot, σ.h.app (frz σ.h cs)⟩ β a w := ⟨r1, r.hd, r.hn, fun k => (r.slots k).mono (fun x u hx => r2 x u hx)⟩
            have hev : ∀ z, St.ev ⟨σ.slot, σ.h.app (frz σ.h cs)⟩ z = σ.ev z := fun z => by cases z <;> rfl
            have hsl : ss.length = cs.length := by
              have : ∀ (cs : List AC) (ss : List SC), all? (shA σ.h) cs = some ss → ss.length = cs.length := by
                intro cs
                induction cs with
                | nil => intro ss h; rw [all?_nil h]; rfl
                | cons c cs ih =>
                  intro ss h
                  obtain ⟨y, ys, _, h2, rfl⟩ := all?_cons h
                  simp [ih ys h2]
              exact this cs ss h9
            have hold : RL (RepA σ.h β w (Mine O σ.h β)) cs (a.eval y).cells.toList := ((r.ev h3).cellsInv h5).1
            have he : Done O w0 n σ a .no (frz σ.h cs ++ [(l, g, .row ty' e (els.set i (patch els[i] off ss)))]) = Done O w0 n ⟨σ.slot, σ.h.app (frz σ.h cs)⟩ a .no [(l, g, .row ty' e (els.set i (patch els[i] off ss)))] := by
              unfold Done
              simp only [Hp.app_append]
            rw [he]
            refine op_store r' rfl h2 h3 (tinf_ok h1) (by rw [hev]; exact h4) (by rw [hev]; exact h5) h6 (by rw [frz_gen]; exact h7) hv (by simpa using hi) hoff ⟨ss.map AC.s, ?_, by simp [hsl], fun us hu _ => ?_⟩
            · simp only [LB.view, List.map_set, List.getElem_map]
              congr 2
              unfold patch
              simp
            · subst hu
              exact (hold.all h9 (fun x y u hx hy hu => r3 x hx y hy u hu)).map AC.s (fun x u hx => hx)
          · exact h8.elim
      · exact he.elim
    · simp at hc
  | nilCheck x =>
    simp only [Option.map_eq_some_iff] at hc
    obtain ⟨x', h1, rfl⟩ := hc
    simp only [aeff] at he
    split at he
    · rename_i cs h2; obtain ⟨rfl, rfl⟩ := he; exact op_nilc r rfl h1 (.inl ⟨cs, h2⟩)
    · rename_i f cs h2; obtain ⟨rfl, rfl⟩ := he; exact op_nilc r rfl h1 (.inr (.inl ⟨f, cs, h2⟩))
    · rename_i f cs h2; obtain ⟨rfl, rfl⟩ := he; exact op_nilc r rfl h1 (.inr (.inr (.inl ⟨f, cs, h2⟩)))
    · rename_i l g i q h2; obtain ⟨h3, h4, rfl, rfl⟩ := he; exact op_nilc r rfl h1 (.inr (.inr (.inr ⟨l, g, i, q, h2, h3, h4⟩)))
    · exact he.elim
  | binOp op t x y yt =>
    simp only at hc
    split at hc
    · rename_i dd x' y' h1 h2 h3
      split at hc
      · rename_i hsc
        simp only [Option.some.injEq] at hc
        subst hc
        simp only [aeff] at he
        split at he
        · rename_i u u2 h4 h5
          split at he
          · rename_i c z h6
            obtain ⟨hb, h7, rfl, rfl⟩ := he
            refine op_bin r rfl h2 h3 h1 ?_ h4 h5 h6 h7 (fun p _ hp _ => ?_)
            · cases dd <;> first | rfl | simp [scalarT] at hsc
            · subst hp
              cases dd <;> first | rfl | simp [isBool, boolT] at hb
          · exact he.elim
        · exact he.elim
      · split at hc
        · split at hc
          · rename_i h6
            simp only [Option.some.injEq] at hc
            subst hc
            simp only [aeff] at he
            split at he
            · rename_i xs ys h7 h8
              split at he
              · rename_i us vs h9 h10
                obtain ⟨b, h11, rfl, rfl⟩ := he
                exact op_eqs (neg := false) r rfl h2 h3 h6 h7 h8 h9 h10 h11
              · exact he.elim
            · exact he.elim
          · simp at hc
        · split at hc
          · rename_i h6
            simp only [Option.some.injEq] at hc
            subst hc
            simp only [aeff] at he
            split at he
            · rename_i xs ys h7 h8
              split at he
              · rename_i us vs h9 h10
                obtain ⟨b, h11, rfl, rfl⟩ := he
                exact op_eqs (neg := true) r rfl h2 h3 h6 h7 h8 h9 h10 h11
              · exact he.elim
            · exact he.elim
          · simp at hc
        · split at hc
          · rename_i e0 _ hk
            simp only [Option.some.injEq] at hc
            subst hc
            simp only [aeff] at he
            split at he
            · rename_i b e1 els1 h7
              obtain ⟨rfl, rfl⟩ := he
              have h8 := r.ev h2
              rw [h7] at h8
              obtain rfl := isNilK_ok hk
              have h9 : ∃ A k c, a.eval x = .slice A k c := by
                generalize a.eval x = u at h8
                cases h8 with
                | tag h _ => obtain ⟨A, cap, h10, _⟩ := h.slForm; exact ⟨A, _, cap, h10⟩
              exact op_isnil r rfl h2 h1 h7 h9
            · exact he.elim
          · simp at hc
        · simp at hc
    · simp at hc
  | unOp op t x =>
    cases op with
    | not =>
      simp only [Option.map_eq_some_iff] at hc
      obtain ⟨x', h1, rfl⟩ := hc
      simp only [aeff] at he
      split at he
      · rename_i t h2
        obtain ⟨rfl, rfl⟩ := he
        exact op_not r rfl h1 h2
      · exact he.elim
    | _ => simp at hc
  | convert src dt x =>
    simp only at hc
    split at hc
    · rename_i k1 k x' h1 h2 h3
      simp only [Option.some.injEq] at hc
      subst hc
      simp only [aeff] at he
      split at he
      · rename_i k' m h4
        obtain ⟨rfl, rfl⟩ := he
        exact op_conv r rfl h3 h1 h2 h4
      · exact he.elim
    · rename_i e x' h1 h2 h3
      split at hc
      · rename_i h4
        simp only [Option.some.injEq] at hc
        subst hc
        simp only [aeff] at he
        split at he
        · rename_i els ws' h5
          split at he
          · rename_i ns h6
            obtain ⟨rfl, rfl⟩ := he
            exact op_b2s r rfl h3 h1 h4 h2 h5 h6
          · exact he.elim
        · exact he.elim
      · simp at hc
    · simp at hc
  | makeSlice t l c =>
    simp only at hc
    split at hc
    · rename_i e l' c' h1 h2 h3
      split at hc
      · rename_i te h4
        split at hc
        · rename_i zs h5
          simp only [Option.some.injEq] at hc
          subst hc
          simp only [aeff] at he
          split at he
          · rename_i kl p kc q h6 h7
            obtain ⟨h8, h9, h10, h11, rfl, rfl⟩ := he
            exact op_mkSlice r rfl h2 h3 h1 (tinf_ok h4) h6 h7 h8 h9 h10 h11 h5
          · exact he.elim
        · simp at hc
      · simp at hc
    · simp at hc
  | fieldAddr t x k =>
    simp only at hc
    split at hc
    · rename_i fs x' h1 h2
      split at hc
      · rename_i f h3
        split at hc
        · rename_i ti h4
          simp only [Option.some.injEq] at hc
          subst hc
          simp only [aeff] at he
          split at he
          · rename_i cs h5
            obtain ⟨h6, rfl, rfl⟩ := he
            exact op_fld r rfl h2 h1 h3 (tinf_ok h4) (.inl ⟨cs, h5, h6, rfl⟩)
          · rename_i l g i q h5
            obtain ⟨h6, h7, rfl, rfl⟩ := he
            exact op_fld r rfl h2 h1 h3 (tinf_ok h4) (.inr ⟨l, g, i, q, h5, h6, h7, rfl⟩)
          · exact he.elim
        · simp at hc
      · simp at hc
    · simp at hc
  | extract x k =>
    simp only [Option.map_eq_some_iff] at hc
    obtain ⟨x', h1, rfl⟩ := hc
    simp only [aeff] at he
    split at he
    · rename_i vs h2
      split at he
      · rename_i cs h3; obtain ⟨rfl, rfl⟩ := he; exact op_ext r rfl h1 h2 (.inl ⟨cs, h3, rfl⟩)
      · rename_i c h3; obtain ⟨rfl, rfl⟩ := he; exact op_ext r rfl h1 h2 (.inr ⟨c, h3, rfl⟩)
      · exact he.elim
    · exact he.elim
  | field t x k =>
    simp only at hc
    split at hc
    · rename_i fs x' h1 h2
      split at hc
      · rename_i f h3
        split at hc
        · rename_i ti h4
          simp only [Option.some.injEq] at hc
          subst hc
          simp only [aeff] at he
          split at he
          · rename_i cs h5
            obtain ⟨h6, he⟩ := he
            cases hag : ti.agg with
            | true =>
              rw [hag] at he
              simp only [if_true] at he
              obtain ⟨rfl, rfl⟩ := he
              exact op_field r rfl h2 h1 h3 (tinf_ok h4) h5 h6 (by rw [hag]; rfl)
            | false =>
              rw [hag] at he
              simp only [Bool.false_eq_true, if_false] at he
              split at he
              · rename_i c h7
                obtain ⟨rfl, rfl⟩ := he
                exact op_field r rfl h2 h1 h3 (tinf_ok h4) h5 h6 (by rw [hag]; exact ⟨c, h7, rfl⟩)
              · exact he.elim
          · exact he.elim
        · simp at hc
      · simp at hc
    · simp at hc
  | index t x y =>
    simp only at hc
    split at hc
    · rename_i x' y' h1 h2 h3
      simp only [Option.some.injEq] at hc
      subst hc
      simp only [aeff] at he
      split at he
      · rename_i s k m h4 h5
        obtain ⟨h6, h7, rfl, rfl⟩ := he
        exact op_sidx r rfl h2 h3 h1 h4 h5 h6 h7
      · exact he.elim
    · simp at hc
  | indexAddr t x y =>
    simp only at hc
    split at hc
    · rename_i e x' y' h1 h2 h3
      split at hc
      · rename_i te h4
        simp only [Option.some.injEq] at hc
        subst hc
        have hte := tinf_ok h4
        simp only [aeff] at he
        split at he
        · rename_i k m h5
          split at he
          · rename_i e' els h6
            obtain ⟨rfl, h7, h8, rfl, rfl⟩ := he
            refine op_idxS r rfl h3 h1 hte h5 h7 h8 ?_
            have := r.ev h2
            rw [h6] at this
            exact this
          · rename_i l g h6
            obtain ⟨hg, he⟩ := he
            cases hk : σ.h.blk l with
            | dead => rw [hk] at he; exact he.elim
            | box ty' e' els => rw [hk] at he; exact he.elim
            | row ty' e' els =>
              rw [hk] at he
              obtain ⟨rfl, h7, h8, rfl, rfl⟩ := he
              exact op_idxO r rfl h2 h3 h1 hte h5 h6 hg hk h7 h8
            | ice z =>
              rw [hk] at he
              cases z with
              | sl e' els =>
                obtain ⟨rfl, h7, h8, rfl, rfl⟩ := he
                refine op_idxS r rfl h3 h1 hte h5 h7 h8 ?_
                have := r.ev h2
                rw [h6] at this
                have h9 := this.2.2 hg
                have hv : σ.h.view l = .ice (.sl te.n els) := by unfold Hp.view; rw [hk]; rfl
                rw [hv] at h9
                exact h9
              | _ => exact he.elim
          · exact he.elim
        · exact he.elim
      · simp at hc
    · rename_i m0 e x' y' h1 h2 h3
      split at hc
      · rename_i te h4
        simp only [Option.some.injEq] at hc
        subst hc
        have hte := tinf_ok h4
        simp only [aeff] at he
        split at he
        · rename_i k m h5
          obtain ⟨h6, h7, he⟩ := he
          split at he
          · rename_i cs h8
            obtain ⟨h9, rfl, rfl⟩ := he
            exact op_aidx r rfl h2 h3 h1 hte h5 h6 h7 (.inl ⟨cs, h8, h9, rfl⟩)
          · rename_i l g i0 off h8
            obtain ⟨hg, he⟩ := he
            cases hv : σ.h.view l with
            | dead => rw [hv] at he; exact he.elim
            | ice z => rw [hv] at he; exact he.elim
            | mem row ty' e' els =>
              rw [hv] at he
              simp only at he
              split at he
              · rename_i h9
                obtain ⟨rfl, rfl⟩ := he
                exact op_aidx r rfl h2 h3 h1 hte h5 h6 h7 (.inr ⟨l, g, i0, off, row, ty', e', els, h8, hg, hv, .inl ⟨h9.1, h9.2, rfl⟩⟩)
              · obtain ⟨rfl, rfl⟩ := he
                exact op_aidx r rfl h2 h3 h1 hte h5 h6 h7 (.inr ⟨l, g, i0, off, row, ty', e', els, h8, hg, hv, .inr rfl⟩)
          · exact he.elim
        · exact he.elim
      · simp at hc
    · simp at hc
  | slice t x lo hi mx =>
    cases mx with
    | none =>
      simp only [compSlice] at hc
      split at hc
      · rename_i e x' lo' hi' h1 h2 h3 h4
        split at hc
        · rename_i te h5
          simp only [Option.some.injEq] at hc
          subst hc
          simp only [aeff] at he
          split at he
          · rename_i els ws' m h6 h7
            split at he
            · rename_i p q h8 h9
              obtain ⟨h10, h11, h12, rfl, rfl⟩ := he
              exact op_sub r rfl h2 h3 h4 h1 (tinf_ok h5) h6 h7 h8 h9 h10 h11 h12
            · exact he.elim
          · exact he.elim
        · simp at hc
      · rename_i x' lo' hi' h1 h2 h3 h4
        simp only [Option.some.injEq] at hc
        subst hc
        simp only [aeff] at he
        split at he
        · rename_i s h6
          split at he
          · rename_i p q h8 h9
            obtain ⟨h10, h11, h12, rfl, rfl⟩ := he
            exact op_ssub r rfl h2 h3 h4 h1 h6 h8 h9 h10 h11 h12
          · exact he.elim
        · exact he.elim
      · simp at hc
    | some mx =>
      simp only [compSlice] at hc
      split at hc
      · rename_i e x' h' h1 h2
        split at hc
        · rename_i te h4
          split at hc
          · rename_i h5
            simp only [Option.some.injEq] at hc
            subst hc
            obtain ⟨z1, z2, z3⟩ := h5
            obtain ⟨k2, rfl⟩ := isZero_ok z1
            obtain ⟨k3, rfl⟩ := isZero_ok z2
            have z4 : ∃ k1, lo = none ∨ lo = some (.const (.int k1 0)) := by
              cases lo with
              | none => exact ⟨.i64, .inl rfl⟩
              | some l => obtain ⟨k, rfl⟩ := isZero_ok (x := l) (by simpa using z3); exact ⟨k, .inr rfl⟩
            obtain ⟨k1, z4⟩ := z4
            simp only [aeff] at he
            split at he
            · rename_i m h6
              obtain ⟨rfl, rfl⟩ := he
              exact op_z3 (k1 := k1) r rfl z4 h2 h1 (tinf_ok h4) h6
            · exact he.elim
          · simp at hc
        · simp at hc
      · simp at hc
  | makeFunc fn first caps =>
    cases fn with
    | func f =>
      simp only at hc
      split at hc
      · rename_i hf
        simp only [Option.map_eq_some_iff] at hc
        obtain ⟨caps', h1, rfl⟩ := hc
        have hfe : first = #[] := by
          have : first.toList = [] := by simpa using hf
          exact Array.toList_eq_nil_iff.1 this
        subst hfe
        simp only [aeff] at he
        split at he
        · rename_i h2
          obtain ⟨rfl, rfl⟩ := he
          have hce : caps' = [] := by
            cases caps' with
            | nil => rfl
            | cons x xs => obtain ⟨_, _, _, _, h⟩ := all?_cons h2; simp at h
          subst hce
          have hcc : caps = #[] := by
            have : caps.toList = [] := by
              cases hl : caps.toList with
              | nil => rfl
              | cons x xs => rw [hl] at h1; obtain ⟨_, _, _, _, h⟩ := all?_cons h1; simp at h
            exact Array.toList_eq_nil_iff.1 this
          subst hcc
          exact op_fn r rfl
        · rename_i ls h2 h3
          obtain ⟨rfl, rfl⟩ := he
          exact op_clo r rfl h1 h3
        · exact he.elim
      · simp at hc
    | _ => simp at hc
  | call c =>
    obtain ⟨cal, args, ats⟩ := c
    simp only at hc
    have mk : ∀ {args : Array Operand} {l : List Operand}, args.toList = l → args = l.toArray := fun h => by rw [← h]
    have mk2 : ∀ {args : Array TypeId} {l : List TypeId}, args.toList = l → args = l.toArray := fun h => by rw [← h]
    split at hc
    · rename_i x t ha ht
      rw [mk ha, mk2 ht]
      split at hc
      · rename_i x' h1 h2
        simp only [Option.some.injEq] at hc
        subst hc
        simp only [aeff] at he
        split at he
        · rename_i s h3
          obtain ⟨rfl, rfl⟩ := he
          exact op_slen r rfl h2 h1 h3
        · exact he.elim
      · rename_i e x' h1 h2
        simp only [Option.some.injEq] at hc
        subst hc
        simp only [aeff] at he
        split at he
        · rename_i m h3
          obtain ⟨rfl, rfl⟩ := he
          exact op_len r rfl h2 h1 h3
        · exact he.elim
      · simp at hc
    · rename_i x y t t' ha ht
      rw [mk ha, mk2 ht]
      split at hc
      · rename_i htt
        subst htt
        split at hc
        · rename_i e x' y' h1 h2 h3
          split at hc
          · rename_i te h4
            simp only [Option.some.injEq] at hc
            subst hc
            simp only [aeff] at he
            split at he
            · rename_i news ws' m h5 h6
              have hm := (sliceOf_ok h5).len h6
              subst hm
              split at he
              · rename_i h7
                obtain ⟨h8, h9, rfl, rfl⟩ := he
                exact op_app0 r rfl h2 h3 h1 (tinf_ok h4) h7 h5 h8 h9
              · rename_i l g h7
                obtain ⟨hg, he⟩ := he
                cases hk : σ.h.blk l with
                | row ty' e' els =>
                  rw [hk] at he
                  obtain ⟨rfl, rfl, h8, h9, rfl, rfl⟩ := he
                  exact op_app1 r rfl h2 h3 h1 (tinf_ok h4) h7 hg hk h5 h8 h9
                | dead => rw [hk] at he; exact he.elim
                | box ty' e' els => rw [hk] at he; exact he.elim
                | ice z => rw [hk] at he; exact he.elim
              · exact he.elim
            · exact he.elim
          · simp at hc
        · simp at hc
      · simp at hc
    · rename_i x y ha
      rw [mk ha]
      split at hc
      · rename_i x' y' h1 h2
        simp only [Option.some.injEq] at hc
        subst hc
        simp only [aeff] at he
        split at he
        · rename_i k p k' q h3 h4
          obtain ⟨rfl, rfl⟩ := he
          exact op_mm (mx := true) r rfl h1 h2 h3 h4
        · exact he.elim
      · simp at hc
    · rename_i x y ha
      rw [mk ha]
      split at hc
      · rename_i x' y' h1 h2
        simp only [Option.some.injEq] at hc
        subst hc
        simp only [aeff] at he
        split at he
        · rename_i k p k' q h3 h4
          obtain ⟨rfl, rfl⟩ := he
          exact op_mm (mx := false) r rfl h1 h2 h3 h4
        · exact he.elim
      · simp at hc
    · rename_i f
      split at hc
      · rename_i hcl
        simp only [Option.map_eq_some_iff] at hc
        obtain ⟨args', h1, rfl⟩ := hc
        simp only [aeff] at he
        split at he
        · rename_i as h2
          rcases he with ⟨res, h3, h4⟩ | he
          · exact op_call (caps := []) (capsS := []) r rfl rfl .nil hcl h1 h2 (by simpa using h3) h4
          · exact op_callX r rfl rfl hcl h1 he
        · exact op_callX r rfl rfl hcl h1 he
      · simp at hc
    · rename_i t
      simp only [Option.map_eq_some_iff] at hc
      obtain ⟨args', h1, rfl⟩ := hc
      simp only [aeff] at he
      split at he
      · rename_i g caps as h2 h3
        obtain ⟨hcl, res, h4, h5⟩ := he
        have h6 := r.ev (x := .tmp t) rfl
        rw [h2] at h6
        generalize hu : a.eval (.tmp t) = u at h6
        cases h6 with
        | fn hl hr =>
          rename_i us
          exact op_call r rfl hu ⟨hl, hr⟩ hcl h1 h3 h4 h5
      · exact he.elim
    · simp at hc
  | _ => simp at hc
end
end Go.Proofs.Ytbpipdgkkdifgaa
