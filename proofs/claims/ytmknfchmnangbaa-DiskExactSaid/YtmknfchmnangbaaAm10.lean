/- AN ABSTRACT MACHINE over the model, ten: calls, closures. No condition. -/
import Derived.Test.YtmknfchmnangbaaAm9
namespace Go.Proofs.Ytmknfchmnangbaa
open Go.RowKit
set_option linter.unusedVariables false

section
variable {P : Program} {O : Nat → Prop} {w0 : World} {n : Nat} {σ : St} {β : Env} {a : Act} {w : World}
theorem argB_ok {h : Hp} (r : RelH O w0 h β w) {x : TV AC} {y : TV SC} {u : Value} (hs : argB h x = some y) (hx : RepT (RepA h β w (Mine O h β)) x u) : RepT (RepS w O) y u := by
  unfold argB at hs
  split at hs
  · simp only [Option.map_eq_some_iff] at hs
    obtain ⟨z, h1, rfl⟩ := hs
    exact shB_ok r h1 hx
  · simp only [Option.map_eq_some_iff] at hs
    obtain ⟨z, h1, rfl⟩ := hs
    obtain ⟨us, rfl, h2⟩ := hx
    exact ⟨us, rfl, h2.all h1 (fun x y u _ hy hu => shB_ok r hy hu)⟩
  · simp at hs
theorem shB_eq {h : Hp} {x : AC} (hs : (shA h x).isSome = true) : shB h x = shA h x := by
  cases x with
  | s x => rfl
  | zc => rfl
  | own l g => rfl
  | ptr l g i off => simp [shA] at hs
  | clo f ls => simp [shA] at hs
theorem all?_some {α γ : Type} {f : α → Option γ} : ∀ {xs : List α}, (all? f xs).isSome = true → ∀ x ∈ xs, (f x).isSome = true := by
  intro xs
  induction xs with
  | nil => intro _ x hx; simp at hx
  | cons y ys ih =>
    intro h x hx
    cases h2 : all? f (y :: ys) with
    | none => rw [h2] at h; simp at h
    | some zs =>
      obtain ⟨z, zs', h3, h4, rfl⟩ := all?_cons h2
      rcases List.mem_cons.1 hx with rfl | hx
      · rw [h3]; rfl
      · exact ih (by rw [h4]; rfl) x hx
/-- arguments that are handed on for good -/
theorem argB_froz {h : Hp} (r : RelH O w0 h β w) {xs : List (TV AC)} {ys : List (TV SC)} {us : List Value} {css : List (List AC)} (hs : all? (argB h) xs = some ys) (hc : all? TV.cells xs = some css) (hA : (all? (shA h) css.flatten).isSome = true)
    (hx : RL (RepT (RepA h β w (Mine O h β))) xs us) : RL (RepT (RepS w (Mine O (h.app (frz h css.flatten)) β))) ys us := by
  obtain ⟨r1, r2, r3⟩ := frz_ok css.flatten h r
  have hsome := all?_some hA
  have key : ∀ (xs : List (TV AC)) (css' : List (List AC)) (ys : List (TV SC)) (us : List Value), all? TV.cells xs = some css' → (∀ c ∈ css', ∀ x ∈ c, x ∈ css.flatten) → all? (argB h) xs = some ys → RL (RepT (RepA h β w (Mine O h β))) xs us →
      RL (RepT (RepS w (Mine O (h.app (frz h css.flatten)) β))) ys us := by
    intro xs
    induction xs with
    | nil =>
      intro css' ys us h1 h2 h3 h4
      rw [all?_nil h3, h4.nil_inv]
      exact .nil
    | cons x xs ih =>
      intro css' ys us h1 h2 h3 h4
      obtain ⟨c, css'', h5, h6, rfl⟩ := all?_cons h1
      obtain ⟨y, ys', h7, h8, rfl⟩ := all?_cons h3
      obtain ⟨u, us', rfl, h9, h10⟩ := h4.cons_inv
      refine .cons ?_ (ih css'' ys' us' h6 (fun c hc => h2 c (by simp [hc])) h8 h10)
      have hmem := h2 c (by simp)
      cases x with
      | no => simp [TV.cells] at h5
      | tup vs => simp [TV.cells] at h5
      | c x =>
        simp only [TV.cells, Option.some.injEq] at h5
        subst h5
        have hm := hmem x (by simp)
        simp only [argB, Option.map_eq_some_iff] at h7
        obtain ⟨z, h11, rfl⟩ := h7
        rw [shB_eq (hsome x hm)] at h11
        exact r3 x hm z h11 u h9
      | agg zs =>
        simp only [TV.cells, Option.some.injEq] at h5
        subst h5
        simp only [argB, Option.map_eq_some_iff] at h7
        obtain ⟨z, h11, rfl⟩ := h7
        obtain ⟨vs, rfl, h12⟩ := h9
        exact ⟨vs, rfl, h12.all h11 (fun x y u hx hy hu => by
          rw [shB_eq (hsome x (hmem x hx))] at hy
          exact r3 x (hmem x hx) y hy u hu)⟩
  exact key xs css ys us hc (fun c hc x hx => List.mem_flatten.2 ⟨c, hc, hx⟩) hs hx
theorem isPv_inv {x : SC} (h : x.isPv = true) : ∃ v, x = .pv v := by cases x <;> simp [SC.isPv] at h; exact ⟨_, rfl⟩
theorem lift_flat {h : Hp} {w' : World} {O O' : Nat → Prop} {x : TV SC} {v : Value} (hf : x.flat = true) (hx : RepT (RepS w' O) x v) : RepT (RepA h β w' O') x.lift v := by
  have key : ∀ {z : SC} {u : Value}, z.isPv = true → RepS w' O z u → RepS w' O' z u := by
    intro z u hz hu
    obtain ⟨q, rfl⟩ := isPv_inv hz
    cases hu with
    | pv hp => exact .pv hp
  cases x with
  | no => trivial
  | c x => exact key hf hx
  | agg xs =>
    obtain ⟨us, rfl, h1⟩ := hx
    simp only [TV.flat, List.all_eq_true] at hf
    exact ⟨us, rfl, RL.map AC.s (h1.monoMem (fun x u hx _ hu => key (hf x hx) hu)) (fun x u hu => hu)⟩
  | tup vs =>
    obtain ⟨us, rfl, h1, h2⟩ := hx
    simp only [TV.flat, List.all_eq_true] at hf
    refine ⟨us, rfl, by simpa using h1, fun i a b => ?_⟩
    simp only [List.length_map] at a
    simp only [List.getElem_map]
    have hfi := hf vs[i] (List.getElem_mem a)
    refine ⟨fun e => ?_, fun e => ?_⟩
    · obtain ⟨ws, h3, h4⟩ := (h2 i a b).1 e
      exact ⟨ws, h3, RL.map AC.s (h4.monoMem (fun x u hx _ hu => key (hfi x hx) hu)) (fun x u hu => hu)⟩
    · obtain ⟨x, h3, h4⟩ := (h2 i a b).2 e
      refine ⟨.s x, by rw [h3]; rfl, key (hfi x (by rw [h3]; simp)) h4⟩
theorem lift_ok {h : Hp} {w' : World} {O : Nat → Prop} {x : TV SC} {v : Value} (hx : RepT (RepS w' O) x v) : RepT (RepA h β w' O) x.lift v := by
  cases x with
  | no => trivial
  | c x => exact hx
  | agg xs =>
    obtain ⟨us, rfl, h1⟩ := hx
    exact ⟨us, rfl, h1.map AC.s (fun x u hu => hu)⟩
  | tup vs =>
    obtain ⟨us, rfl, h1, h2⟩ := hx
    refine ⟨us, rfl, by simpa using h1, fun i a b => ?_⟩
    simp only [List.length_map] at a
    simp only [List.getElem_map]
    refine ⟨fun e => ?_, fun e => ?_⟩
    · obtain ⟨ws, h3, h4⟩ := (h2 i a b).1 e
      exact ⟨ws, h3, h4.map AC.s (fun x u hu => hu)⟩
    · obtain ⟨x, h3, h4⟩ := (h2 i a b).2 e
      exact ⟨.s x, by rw [h3]; rfl, h4⟩
theorem run_callFunc' {f : Nat} (hc : callable P f = true) (args : Array Value) (w : World) : (callFunc f args).run P w = .ok (.enter f args) w := by
  unfold callable at hc
  cases hf : P.funcs[f]? with
  | none => rw [hf] at hc; simp at hc
  | some fn =>
    rw [hf] at hc
    simp only [Bool.and_eq_true, Bool.not_eq_true', beq_eq_false_iff_ne, ne_eq] at hc
    cases h : fn.body with
    | none => rw [h] at hc; simp at hc
    | some b => simp [callFunc, hf, hc.1, h]
theorem RL.evs (r : Rel O w0 n σ β a w) : ∀ {args : List Operand} {args' : List Opd}, all? copd args = some args' → RL (RepT (RepA σ.h β w (Mine O σ.h β))) (args'.map σ.ev) (args.map a.eval) := by
  intro args
  induction args with
  | nil => intro args' h; rw [all?_nil h]; exact .nil
  | cons x xs ih =>
    intro args' h
    obtain ⟨y, ys, h1, h2, rfl⟩ := all?_cons h
    exact .cons (r.ev h1) (ih h2)
theorem op_call (r : Rel O w0 n σ β a w) {o : Oper} {f : Operand} {args : Array Operand} {ats : Array TypeId} {args' : List Opd} {g d : Nat} {capsS : List SC} {caps : List Value} {as : List (TV SC)} {res : Res} {v : TV AC} {ws : List (Nat × Nat × LB)}
    (ho : o.op = .call { callee := .value f, args := args, argTypes := ats }) (hf : a.eval f = .func (.func g) #[] caps.toArray) (hcaps : RL (RepS w (Mine O σ.h β)) capsS caps) (hcl : callable P g = true)
    (hargs : all? copd args.toList = some args') (has : all? (argB σ.h) (args'.map σ.ev) = some as) (hspec : Spec P g (as ++ capsS.map TV.c) res) (haft : after σ.h d (args'.map σ.ev) res (fun v' ws' => v' = v ∧ ws' = ws)) :
    Ok1 P o a w (Done O w0 n σ a v ws) := by
  have hrun : (execOp a.eval o).run P w = .ok (.enter g (args.toList.map a.eval ++ caps).toArray) w := by
    have h1 := run_callFunc' hcl (args.map a.eval ++ caps.toArray) w
    have h2 : (args.toList.map a.eval ++ caps).toArray = args.map a.eval ++ caps.toArray := by
      apply Array.ext'
      simp
    rw [h2]
    simp [execOp, ho, resolve, hf, Deferred.ofValue, invoke, h1]
  have hev := RL.evs r hargs
  have lt : ∀ b, O b → b < w.heap.size := fun b hb => Nat.lt_of_lt_of_le (r.hO b hb) r.below.size
  unfold after at haft
  by_cases hfl : res.flat = true
  · rw [if_pos hfl] at haft
    cases res with
    | row ty e els => simp [Res.flat] at hfl
    | val rv =>
      obtain ⟨rfl, rfl⟩ := haft
      have hA : RL (RepT (RepS w O)) as (args.toList.map a.eval) := hev.all has (fun x y u _ hy hu => argB_ok r.toRelH hy hu)
      have hC : RL (RepT (RepS w O)) (capsS.map TV.c) caps := hcaps.map TV.c (fun x u hx => RepS.less hx (fun b hb => .inl hb))
      refine Ok1.call hrun ((hspec w O _ lt (hA.append hC)).mono ?_)
      rintro e w' ⟨u, rfl, hu, hb⟩
      exact ⟨u, rfl, β, r.world hb, lift_flat hfl hu⟩
  · rw [if_neg hfl] at haft
    cases hcc : all? TV.cells (args'.map σ.ev) with
    | none => rw [hcc] at haft; exact haft.elim
    | some css =>
      rw [hcc] at haft
      simp only at haft
      obtain ⟨hsh, haft⟩ := haft
      obtain ⟨r1, r2, r3⟩ := frz_ok css.flatten σ.h r.toRelH
      have r' : Rel O w0 n ⟨σ.slot, σ.h.app (frz σ.h css.flatten)⟩ β a w := ⟨r1, r.hd, r.hn, fun k => (r.slots k).mono (fun x u hx => r2 x u hx)⟩
      have hA := argB_froz r.toRelH has hcc hsh hev
      have hC : RL (RepT (RepS w (Mine O (σ.h.app (frz σ.h css.flatten)) β))) (capsS.map TV.c) caps := hcaps.map TV.c (fun x u hx => r2 (.s x) u hx)
      refine Ok1.call hrun ((hspec w (Mine O (σ.h.app (frz σ.h css.flatten)) β) _ (fun b hb => r1.lt hb) (hA.append hC)).mono ?_)
      rintro e w' ⟨u, rfl, hu, hb⟩
      refine ⟨u, rfl, ?_⟩
      cases res with
      | val rv =>
        obtain ⟨rfl, rfl⟩ := haft
        exact ⟨β, r'.world hb, lift_ok hu⟩
      | row ty e els =>
        obtain ⟨rfl, rfl⟩ := haft
        unfold Done
        rw [Hp.app_append]
        generalize hH : σ.h.app (frz σ.h css.flatten) = H at *
        obtain ⟨h0, he, ⟨rfl, A, rfl⟩ | ⟨b, cap, cur, rfl, hg, hB, hcap, hm, hcs, hr⟩⟩ := hu
        · exact ⟨_, (r'.world hb).fresh0 (d := d) h0 A, own_mk rfl⟩
        · have hlb : (LB.row ty e els).view = .mem true ty e (els.map (List.map AC.s)) := rfl
          have hln : (els.map (List.map AC.s)).length = els.length := by simp
          have hfe : (els.map (List.map AC.s)).flatten = els.flatten.map AC.s := by rw [← List.map_flatten]
          have t : Turn O H β w w' d (H.gen d + 1) (.row ty e els) (some b) (.slice (some ⟨b, 0, none⟩) els.length cap) :=
            ⟨hb.size, hb.os, hb.tape, hb.output, fun k hk _ => hb.block k hk, fun k hk => .inl (by cases hk; exact hg), .inl ⟨by omega, rfl⟩⟩
          refine ⟨upd β d (some b, .slice (some ⟨b, 0, none⟩) els.length cap), t.rel r' ?_, own_mk hlb⟩
          unfold RepB
          rw [Hp.view_at, hlb]
          refine ⟨h0, fun x hx => ?_, .inr ⟨b, cap, cur, by rw [upd_at], hB, ?_, fun _ => ?_⟩⟩
          · obtain ⟨y, hy, rfl⟩ := List.mem_map.1 hx; rw [List.length_map]; exact he y hy
          · rw [hfe, List.length_map]
            refine hr.map AC.s (fun x u hx => RepS.less hx (fun k => ?_))
            rintro (h1 | ⟨l, h1, h2⟩)
            · exact .inl (.inl h1)
            · by_cases el : l = d
              · subst el; rw [upd_at] at h2; exact .inr (by simpa using h2.symm)
              · rw [upd_ne _ _ el] at h2
                rw [Hp.view_ne _ _ _ el] at h1
                exact .inl (.inr ⟨l, h1, h2⟩)
          · rw [upd_at, hln]
            exact ⟨rfl, hcap, hm, hcs⟩
theorem op_fn (r : Rel O w0 n σ β a w) {o : Oper} {f : Nat} (ho : o.op = .makeFunc (.func f) #[] #[]) : Ok1 P o a w (Done O w0 n σ a (.c (.s (.fn f []))) []) := by
  refine Ok1.value (u := .func (.func f) #[] #[]) (w' := w) ?_ (r.pure (RepS.fn (us := []) rfl (fun i h => by simp at h)))
  simp [execOp, ho, Instr.makeFunc]
theorem op_clo (r : Rel O w0 n σ β a w) {o : Oper} {f : Nat} {caps : Array Operand} {caps' : List Opd} {ls : List (Nat × Nat)} (ho : o.op = .makeFunc (.func f) #[] caps) (hc : all? copd caps.toList = some caps')
    (hl : all? (fun x => whole (σ.ev x)) caps' = some ls) : Ok1 P o a w (Done O w0 n σ a (.c (.clo f ls)) []) := by
  have hev := RL.evs r hc
  refine Ok1.value (u := .func (.func f) #[] (caps.map a.eval)) (w' := w) ?_ (r.pure ⟨caps.toList.map a.eval, by congr 1; apply Array.ext'; simp, ?_⟩)
  · simp [execOp, ho, Instr.makeFunc]
  · have key : ∀ (caps' : List Opd) (us : List Value) (ls : List (Nat × Nat)), RL (RepT (RepA σ.h β w (Mine O σ.h β))) (caps'.map σ.ev) us → all? (fun x => whole (σ.ev x)) caps' = some ls → RL (fun (p : Nat × Nat) u => p.2 ≤ σ.h.gen p.1 ∧ (p.2 = σ.h.gen p.1 → match σ.h.view p.1 with
          | .mem _ _ _ _ => ∃ b, (β p.1).1 = some b ∧ u = .pointer (some ⟨b, 0, none⟩)
          | _ => True)) ls us := by
      intro caps'
      induction caps' with
      | nil => intro us ls h1 h2; rw [all?_nil h2, h1.nil_inv]; exact .nil
      | cons x xs ih =>
        intro us ls h1 h2
        obtain ⟨p, ls', h3, h4, rfl⟩ := all?_cons h2
        obtain ⟨u, us', rfl, h5, h6⟩ := h1.cons_inv
        refine .cons ?_ (ih us' ls' h6 h4)
        unfold whole at h3
        split at h3
        · rename_i l g heq
          simp only [Option.some.injEq] at h3
          subst h3
          rw [heq] at h5
          refine ⟨h5.2.1, fun e => ?_⟩
          have := h5.2.2 e
          cases hv : σ.h.view l with
          | mem row ty e' els => rw [hv] at this; simpa using this
          | dead => trivial
          | ice y => trivial
        · simp at h3
    exact key caps' _ ls hev hl
end
end Go.Proofs.Ytmknfchmnangbaa
