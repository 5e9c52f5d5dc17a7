import Derived.Test.YtcbfhpnmhhnjpaaGreatZ4
set_option linter.unusedVariables false
set_option linter.unusedSimpArgs false
namespace Go.Proofs.YtcbfhpnmhhnjpaaGreat
open Go.RowKit
section
variable {P : Program} {O : Nat → Prop} {w0 : Base} {n : Nat} {σ : St} {β : Env} {a : Act} {w : World}
theorem argB_ok {h : Hp} (r : RelH O w0 h β w) {x : TV AC} {y : TV SC} {u : Value} (hs : argB h x = some y) (hx : RepT (RepA h β w (Mine O h β)) x u) : RepT (RepS w O) y u := by
  unfold argB at hs
  split at hs
  · simp only [Option.map_eq_some_iff] at hs
    obtain ⟨z, h1, rfl⟩ := hs
    exact shB_ok r h1 hx
  · simp only [Option.map_eq_some_iff] at hs
    obtain ⟨z, h1, rfl⟩ := hs
    obtain ⟨us, rfl, h2⟩ := hx
    exact ⟨us, rfl, h2.all h1 (fun x y u _ hy hu => shB_ok r hy hu)⟩
  · simp at hs
theorem shB_eq {h : Hp} {x : AC} (hs : (shA h x).isSome = true) : shB h x = shA h x := by
  cases x with
  | s x => rfl
  | zc => rfl
  | own l g => rfl
  | ptr l g i off => simp [shA] at hs
  | clo f ls => simp [shA] at hs
theorem all?_some {α γ : Type} {f : α → Option γ} : ∀ {xs : List α}, (all? f xs).isSome = true → ∀ x ∈ xs, (f x).isSome = true := by
  intro xs
  induction xs with
  | nil => intro _ x hx; simp at hx
  | cons y ys ih =>
    intro h x hx
    cases h2 : all? f (y :: ys) with
    | none => rw [h2] at h; simp at h
    | some zs =>
      obtain ⟨z, zs', h3, h4, rfl⟩ := all?_cons h2
      rcases List.mem_cons.1 hx with rfl | hx
      · rw [h3]; rfl
      · exact ih (by rw [h4]; rfl) x hx
theorem argB_froz2 {h : Hp} (r : RelH O w0 h β w) {xs : List (TV AC)} {ys : List (TV SC)} {us : List Value} {css : List (List AC)} {fl : List AC} (hfl : ∀ c ∈ css, ∀ x ∈ c, x ∈ fl) (hs : all? (argB h) xs = some ys) (hc : all? TV.cells xs = some css) (hA : (all? (shA h) fl).isSome = true)
    (hx : RL (RepT (RepA h β w (Mine O h β))) xs us) : RL (RepT (RepS w (Mine O (h.app (frz h fl)) β))) ys us := by
  obtain ⟨r1, r2, r3⟩ := frz_ok fl h r
  have hsome := all?_some hA
  have key : ∀ (xs : List (TV AC)) (css' : List (List AC)) (ys : List (TV SC)) (us : List Value), all? TV.cells xs = some css' → (∀ c ∈ css', ∀ x ∈ c, x ∈ fl) → all? (argB h) xs = some ys → RL (RepT (RepA h β w (Mine O h β))) xs us →
      RL (RepT (RepS w (Mine O (h.app (frz h fl)) β))) ys us := by
    intro xs
    induction xs with
    | nil =>
      intro css' ys us h1 h2 h3 h4
      rw [all?_nil h3, h4.nil_inv]
      exact .nil
    | cons x xs ih =>
      intro css' ys us h1 h2 h3 h4
      obtain ⟨c, css'', h5, h6, rfl⟩ := all?_cons h1
      obtain ⟨y, ys', h7, h8, rfl⟩ := all?_cons h3
      obtain ⟨u, us', rfl, h9, h10⟩ := h4.cons_inv
      refine .cons ?_ (ih css'' ys' us' h6 (fun c hc => h2 c (by simp [hc])) h8 h10)
      have hmem := h2 c (by simp)
      cases x with
      | no => simp [TV.cells] at h5
      | tup vs => simp [TV.cells] at h5
      | c x =>
        simp only [TV.cells, Option.some.injEq] at h5
        subst h5
        have hm := hmem x (by simp)
        simp only [argB, Option.map_eq_some_iff] at h7
        obtain ⟨z, h11, rfl⟩ := h7
        rw [shB_eq (hsome x hm)] at h11
        exact r3 x hm z h11 u h9
      | agg zs =>
        simp only [TV.cells, Option.some.injEq] at h5
        subst h5
        simp only [argB, Option.map_eq_some_iff] at h7
        obtain ⟨z, h11, rfl⟩ := h7
        obtain ⟨vs, rfl, h12⟩ := h9
        exact ⟨vs, rfl, h12.all h11 (fun x y u hx hy hu => by
          rw [shB_eq (hsome x (hmem x hx))] at hy
          exact r3 x (hmem x hx) y hy u hu)⟩
  exact key xs css ys us hc hfl hs hx
theorem argB_froz {h : Hp} (r : RelH O w0 h β w) {xs : List (TV AC)} {ys : List (TV SC)} {us : List Value} {css : List (List AC)} (hs : all? (argB h) xs = some ys) (hc : all? TV.cells xs = some css) (hA : (all? (shA h) css.flatten).isSome = true)
    (hx : RL (RepT (RepA h β w (Mine O h β))) xs us) : RL (RepT (RepS w (Mine O (h.app (frz h css.flatten)) β))) ys us :=
  argB_froz2 r (fun c hc x hx => List.mem_flatten.2 ⟨c, hc, hx⟩) hs hc hA hx
theorem isPv_inv {x : SC} (h : x.isPv = true) : ∃ v, x = .pv v := by cases x <;> simp [SC.isPv] at h; exact ⟨_, rfl⟩
theorem lift_flat {h : Hp} {w' : World} {O O' : Nat → Prop} {x : TV SC} {v : Value} (hf : x.flat = true) (hx : RepT (RepS w' O) x v) : RepT (RepA h β w' O') x.lift v := by
  have key : ∀ {z : SC} {u : Value}, z.isPv = true → RepS w' O z u → RepS w' O' z u := by
    intro z u hz hu
    obtain ⟨q, rfl⟩ := isPv_inv hz
    cases hu with
    | pv hp => exact .pv hp
  cases x with
  | no => trivial
  | c x => exact key hf hx
  | agg xs =>
    obtain ⟨us, rfl, h1⟩ := hx
    simp only [TV.flat, List.all_eq_true] at hf
    exact ⟨us, rfl, RL.map AC.s (h1.monoMem (fun x u hx _ hu => key (hf x hx) hu)) (fun x u hu => hu)⟩
  | tup vs =>
    obtain ⟨us, rfl, h1, h2⟩ := hx
    simp only [TV.flat, List.all_eq_true] at hf
    refine ⟨us, rfl, by simpa using h1, fun i a b => ?_⟩
    simp only [List.length_map] at a
    simp only [List.getElem_map]
    have hfi := hf vs[i] (List.getElem_mem a)
    refine ⟨fun e => ?_, fun e => ?_⟩
    · obtain ⟨ws, h3, h4⟩ := (h2 i a b).1 e
      exact ⟨ws, h3, RL.map AC.s (h4.monoMem (fun x u hx _ hu => key (hfi x hx) hu)) (fun x u hu => hu)⟩
    · obtain ⟨x, h3, h4⟩ := (h2 i a b).2 e
      refine ⟨.s x, by rw [h3]; rfl, key (hfi x (by rw [h3]; simp)) h4⟩
theorem lift_ok {h : Hp} {w' : World} {O : Nat → Prop} {x : TV SC} {v : Value} (hx : RepT (RepS w' O) x v) : RepT (RepA h β w' O) x.lift v := by
  cases x with
  | no => trivial
  | c x => exact hx
  | agg xs =>
    obtain ⟨us, rfl, h1⟩ := hx
    exact ⟨us, rfl, h1.map AC.s (fun x u hu => hu)⟩
  | tup vs =>
    obtain ⟨us, rfl, h1, h2⟩ := hx
    refine ⟨us, rfl, by simpa using h1, fun i a b => ?_⟩
    simp only [List.length_map] at a
    simp only [List.getElem_map]
    refine ⟨fun e => ?_, fun e => ?_⟩
    · obtain ⟨ws, h3, h4⟩ := (h2 i a b).1 e
      exact ⟨ws, h3, h4.map AC.s (fun x u hu => hu)⟩
    · obtain ⟨x, h3, h4⟩ := (h2 i a b).2 e
      exact ⟨.s x, by rw [h3]; rfl, h4⟩
theorem run_callFunc' {f : Nat} (hc : callable P f = true) (args : Array Value) (w : World) : (callFunc f args).run P w = .ok (.enter f args) w := by
  unfold callable at hc
  cases hf : P.funcs[f]? with
  | none => rw [hf] at hc; simp at hc
  | some fn =>
    rw [hf] at hc
    simp only [Bool.and_eq_true, Bool.not_eq_true', beq_eq_false_iff_ne, ne_eq] at hc
    cases h : fn.body with
    | none => rw [h] at hc; simp at hc
    | some b => simp [callFunc, hf, hc.1, h]
theorem RL.evs (r : Rel O w0 n σ β a w) : ∀ {args : List Operand} {args' : List Opd}, all? copd args = some args' → RL (RepT (RepA σ.h β w (Mine O σ.h β))) (args'.map σ.ev) (args.map a.eval) := by
  intro args
  induction args with
  | nil => intro args' h; rw [all?_nil h]; exact .nil
  | cons x xs ih =>
    intro args' h
    obtain ⟨y, ys, h1, h2, rfl⟩ := all?_cons h
    exact .cons (r.ev h1) (ih h2)
theorem easy_rep {h : Hp} {w' : World} {O : Nat → Prop} {x : AC} {v : Value} (hx : easyA x v) : RepA h β w' O x v := by
  cases x with
  | s x => cases x with
    | pv x => obtain ⟨rfl, hp⟩ := hx; exact RepS.pv hp
    | _ => exact hx.elim
  | zc => exact hx
  | own l g => exact hx.elim
  | ptr l g i off => exact hx.elim
  | clo f ls => exact hx.elim
theorem trow_rep {h : Hp} {w' : World} {O : Nat → Prop} {x : AC} {u : Value} {rest : List AC} {us vs : List Value} {more : List (Bool × List AC)} (hx : RepA h β w' O x u) (hr : RL easyA rest us) (hm : RepT easyA (.tup more) (.tuple vs.toArray)) :
    RepT (RepA h β w' O) (.tup ((true, x :: rest) :: more)) (.tuple (.agg (u :: us).toArray :: vs).toArray) := by
  obtain ⟨vs', e1, h1, h2⟩ := hm
  have e2 : vs = vs' := by simpa using e1
  subst e2
  refine ⟨.agg (u :: us).toArray :: vs, rfl, by simp [h1], fun i a b => ?_⟩
  cases i with
  | zero => exact ⟨fun _ => ⟨u :: us, rfl, .cons hx (hr.mono (fun x u hx => easy_rep hx))⟩, fun e => by simp at e⟩
  | succ i =>
    simp only [List.getElem_cons_succ]
    have a' : i < more.length := by simpa using a
    have b' : i < vs.length := by simpa using b
    refine ⟨fun e => ?_, fun e => ?_⟩
    · obtain ⟨ws, h3, h4⟩ := (h2 i a' b').1 e
      exact ⟨ws, h3, h4.mono (fun x u hx => easy_rep hx)⟩
    · obtain ⟨x, h3, h4⟩ := (h2 i a' b').2 e
      exact ⟨x, h3, easy_rep h4⟩
theorem op_call (r : Rel O w0 n σ β a w) {o : Oper} {f : Operand} {args : Array Operand} {ats : Array TypeId} {args' : List Opd} {g d : Nat} {capsS : List SC} {caps : List Value} {as : List (TV SC)} {res : Res} {v : TV AC} {ws : List (Nat × Nat × LB)}
    (ho : o.op = .call { callee := .value f, args := args, argTypes := ats }) (hf : a.eval f = .func (.func g) #[] caps.toArray) (hcaps : RL (RepS w (Mine O σ.h β)) capsS caps) (hcl : callable P g = true)
    (hargs : all? copd args.toList = some args') (has : all? (argB σ.h) (args'.map σ.ev) = some as) (hspec : Spec P g (as ++ capsS.map TV.c) res) (haft : after σ.h d (args'.map σ.ev) res (fun v' ws' => v' = v ∧ ws' = ws)) :
    Ok1 P o a w (Done O w0 n σ a v ws) := by
  have hrun : (execOp a.eval o).run P w = .ok (.enter g (args.toList.map a.eval ++ caps).toArray) w := by
    have h1 := run_callFunc' hcl (args.map a.eval ++ caps.toArray) w
    have h2 : (args.toList.map a.eval ++ caps).toArray = args.map a.eval ++ caps.toArray := by
      apply Array.ext'
      simp
    rw [h2]
    simp [execOp, ho, resolve, hf, Deferred.ofValue, invoke, h1]
  have hev := RL.evs r hargs
  have lt : ∀ b, O b → b < w.heap.size := fun b hb => r.lt (.inl hb)
  unfold after at haft
  by_cases hfl : res.flat = true
  · rw [if_pos hfl] at haft
    cases res with
    | row ty e els => simp [Res.flat] at hfl
    | trow ty e els rest more => simp [Res.flat] at hfl
    | val rv =>
      obtain ⟨rfl, rfl⟩ := haft
      have hA : RL (RepT (RepS w O)) as (args.toList.map a.eval) := hev.all has (fun x y u _ hy hu => argB_ok r.toRelH hy hu)
      have hC : RL (RepT (RepS w O)) (capsS.map TV.c) caps := hcaps.map TV.c (fun x u hx => RepS.less hx (fun b hb => .inl hb))
      refine Ok1.call hrun ((hspec w O _ lt (hA.append hC)).mono ?_)
      rintro e w' ⟨u, rfl, hu, hb⟩
      exact ⟨u, rfl, β, r.world hb, lift_flat hfl hu⟩
  · rw [if_neg hfl] at haft
    cases hcc : all? TV.cells (args'.map σ.ev) with
    | none => rw [hcc] at haft; exact haft.elim
    | some css =>
      rw [hcc] at haft
      simp only at haft
      obtain ⟨hsh, haft⟩ := haft
      obtain ⟨r1, r2, r3⟩ := frz_ok css.flatten σ.h r.toRelH
      have r' : Rel O w0 n ⟨σ.slot, σ.h.app (frz σ.h css.flatten)⟩ β a w := ⟨r1, r.hd, r.hn, fun k => (r.slots k).mono (fun x u hx => r2 x u hx)⟩
      have hA := argB_froz r.toRelH has hcc hsh hev
      have hC : RL (RepT (RepS w (Mine O (σ.h.app (frz σ.h css.flatten)) β))) (capsS.map TV.c) caps := hcaps.map TV.c (fun x u hx => r2 (.s x) u hx)
      refine Ok1.call hrun ((hspec w (Mine O (σ.h.app (frz σ.h css.flatten)) β) _ (fun b hb => r1.lt hb) (hA.append hC)).mono ?_)
      rintro e w' ⟨u, rfl, hu, hb⟩
      refine ⟨u, rfl, ?_⟩
      cases res with
      | val rv =>
        obtain ⟨rfl, rfl⟩ := haft
        exact ⟨β, r'.world hb, lift_ok hu⟩
      | row ty e els =>
        obtain ⟨rfl, rfl⟩ := haft
        unfold Done
        rw [Hp.app_append]
        generalize hH : σ.h.app (frz σ.h css.flatten) = H at *
        obtain ⟨h0, he, ⟨rfl, A, rfl⟩ | ⟨b, cap, cur, rfl, hg, hB, hcap, hm, hcs, hr⟩⟩ := hu
        · exact ⟨_, (r'.world hb).fresh0 (d := d) h0 A, own_mk rfl⟩
        · have hlb : (LB.row ty e els).view = .mem true ty e (els.map (List.map AC.s)) := rfl
          have hln : (els.map (List.map AC.s)).length = els.length := by simp
          have hfe : (els.map (List.map AC.s)).flatten = els.flatten.map AC.s := by rw [← List.map_flatten]
          have t : Turn O H β w w' d (H.gen d + 1) (.row ty e els) (some b) (.slice (some ⟨b, 0, none⟩) els.length cap) :=
            ⟨hb.size, hb.os, hb.tape, hb.output, fun k hk _ => hb.block k hk, fun k hk => .inl (by cases hk; exact hg), .inl ⟨by omega, rfl⟩⟩
          refine ⟨upd β d (some b, .slice (some ⟨b, 0, none⟩) els.length cap), t.rel r' ?_, own_mk hlb⟩
          unfold RepB
          rw [Hp.view_at, hlb]
          refine ⟨h0, fun x hx => ?_, .inr ⟨b, cap, cur, by rw [upd_at], hB, ?_, fun _ => ?_⟩⟩
          · obtain ⟨y, hy, rfl⟩ := List.mem_map.1 hx; rw [List.length_map]; exact he y hy
          · rw [hfe, List.length_map]
            refine hr.map AC.s (fun x u hx => RepS.less hx (fun k => ?_))
            rintro (h1 | ⟨l, h1, h2⟩)
            · exact .inl (.inl h1)
            · by_cases el : l = d
              · subst el; rw [upd_at] at h2; exact .inr (by simpa using h2.symm)
              · rw [upd_ne _ _ el] at h2
                rw [Hp.view_ne _ _ _ el] at h1
                exact .inl (.inr ⟨l, h1, h2⟩)
          · rw [upd_at, hln]
            exact ⟨rfl, hcap, hm, hcs⟩
      | trow ty e els rest more =>
        obtain ⟨rfl, rfl⟩ := haft
        obtain ⟨u, us, vs, rfl, hu, hre, hmo⟩ := hu
        unfold Done
        rw [Hp.app_append]
        generalize hH : σ.h.app (frz σ.h css.flatten) = H at *
        obtain ⟨h0, he, ⟨rfl, A, rfl⟩ | ⟨b, cap, cur, rfl, hg, hB, hcap, hm, hcs, hr⟩⟩ := hu
        · exact ⟨_, (r'.world hb).fresh0 (d := d) h0 A, trow_rep (own_mk rfl) hre hmo⟩
        · have hlb : (LB.row ty e els).view = .mem true ty e (els.map (List.map AC.s)) := rfl
          have hln : (els.map (List.map AC.s)).length = els.length := by simp
          have hfe : (els.map (List.map AC.s)).flatten = els.flatten.map AC.s := by rw [← List.map_flatten]
          have t : Turn O H β w w' d (H.gen d + 1) (.row ty e els) (some b) (.slice (some ⟨b, 0, none⟩) els.length cap) :=
            ⟨hb.size, hb.os, hb.tape, hb.output, fun k hk _ => hb.block k hk, fun k hk => .inl (by cases hk; exact hg), .inl ⟨by omega, rfl⟩⟩
          refine ⟨upd β d (some b, .slice (some ⟨b, 0, none⟩) els.length cap), t.rel r' ?_, trow_rep (own_mk hlb) hre hmo⟩
          unfold RepB
          rw [Hp.view_at, hlb]
          refine ⟨h0, fun x hx => ?_, .inr ⟨b, cap, cur, by rw [upd_at], hB, ?_, fun _ => ?_⟩⟩
          · obtain ⟨y, hy, rfl⟩ := List.mem_map.1 hx; rw [List.length_map]; exact he y hy
          · rw [hfe, List.length_map]
            refine hr.map AC.s (fun x u hx => RepS.less hx (fun k => ?_))
            rintro (h1 | ⟨l, h1, h2⟩)
            · exact .inl (.inl h1)
            · by_cases el : l = d
              · subst el; rw [upd_at] at h2; exact .inr (by simpa using h2.symm)
              · rw [upd_ne _ _ el] at h2
                rw [Hp.view_ne _ _ _ el] at h1
                exact .inl (.inr ⟨l, h1, h2⟩)
          · rw [upd_at, hln]
            exact ⟨rfl, hcap, hm, hcs⟩
theorem RelH.lend {H : Hp} (r : RelH O w0 H β w) {l : Nat} {row : Bool} {ty e b : Nat} {els : List (List AC)} {els1 : List (List SC)} (hv : H.view l = .mem row ty e els) (hb : (β l).1 = some b)
    (hsh : ∀ us : List Value, RL (RepA H β w (Mine O H β)) els.flatten us → RL (RepS w (Mine O H β)) els1.flatten us) (hlen : els1.map List.length = els.map List.length) :
    0 < e ∧ (∀ k, (Mine O H β k ∧ k ≠ b) → k < w.heap.size ∧ k ≠ b) ∧ ∃ cap, HoldX w (fun k => Mine O H β k ∧ k ≠ b) row ty e els1 b cap ∧ (row = true → (β l).2 = .slice (some ⟨b, 0, none⟩) els1.length cap) := by
  have h1 := r.blks l
  unfold RepB at h1
  rw [hv] at h1
  simp only at h1
  have hl2 : els1.length = els.length := by have := congrArg List.length hlen; simpa using this
  have hf2 : els1.flatten.length = els.flatten.length := by rw [List.length_flatten, List.length_flatten, hlen]
  obtain ⟨h0, he, ⟨_, _, h2, _⟩ | ⟨b', cap, cur, h2, h3, h4, h5⟩⟩ := h1
  · rw [hb] at h2; simp at h2
  · rw [hb] at h2
    obtain rfl : b = b' := by simpa using h2
    refine ⟨h0, fun k hk => ⟨r.lt hk.1, hk.2⟩, cap, ⟨fun x hx => ?_, cur, h3, ?_, fun hr => ?_⟩, fun hr => ?_⟩
    · have : x.length ∈ els1.map List.length := List.mem_map_of_mem hx
      rw [hlen] at this
      obtain ⟨y, hy, hyl⟩ := List.mem_map.1 this
      rw [← hyl]; exact he y hy
    · rw [hf2]
      refine (hsh _ h4).mono (fun x u hx => RepS.less hx (fun k => ?_))
      rintro (hk | rfl)
      · exact hk.1
      · exact .inr ⟨l, by rw [hv]; rfl, hb⟩
    · obtain ⟨_, m2, m3, m4⟩ := h5 hr
      rw [hl2]; exact ⟨m2, m3, m4⟩
    · rw [hl2]; exact (h5 hr).1
theorem Rel.turnX (r : Rel O w0 n σ β a w) {l g : Nat} {row : Bool} {ty e b b' cap' : Nat} {els : List (List AC)} {els' : List (List SC)} {lb : LB} {sv : Value} {w' : World} (hv : σ.h.view l = .mem row ty e els) (hb : (β l).1 = some b) (h0 : 0 < e)
    (hlb : lb.view = .mem row ty e (els'.map (List.map AC.s))) (hX : HoldX w' (fun k => Mine O σ.h β k ∧ k ≠ b) row ty e els' b' cap') (hsv : row = true → sv = .slice (some ⟨b', 0, none⟩) els'.length cap')
    (hw : b' = b ∧ Kept b w w' ∨ w.heap.size ≤ b' ∧ Below w.heap.size w w') (hn : σ.h.gen l < g ∨ g = σ.h.gen l ∧ b' = b ∧ β l = (some b, sv)) :
    Rel O w0 n { σ with h := σ.h.set l g lb } (upd β l (some b', sv)) a w' ∧ (∀ x v, RepS w' (fun k => (Mine O σ.h β k ∧ k ≠ b) ∨ k = b') x v → RepS w' (Mine O (σ.h.set l g lb) (upd β l (some b', sv))) x v) := by
  have t : Turn O σ.h β w w' l g lb (some b') sv := by
    refine ⟨?_, ?_, ?_, ?_, fun k hk hne => ?_, fun k hk => ?_, ?_⟩
    · rcases hw with ⟨_, h1⟩ | ⟨_, h1⟩; exact h1.1; exact h1.size
    · rcases hw with ⟨_, h1⟩ | ⟨_, h1⟩; exact h1.2.1; exact h1.os
    · rcases hw with ⟨_, h1⟩ | ⟨_, h1⟩; exact h1.2.2.1; exact h1.tape
    · rcases hw with ⟨_, h1⟩ | ⟨_, h1⟩; exact h1.2.2.2.1; exact h1.output
    · rcases hw with ⟨h2, h1⟩ | ⟨_, h1⟩
      · exact h1.2.2.2.2 k hk (fun e => hne (by rw [e, h2]))
      · exact h1.block k hk
    · obtain rfl : b' = k := by simpa using hk
      rcases hw with ⟨h2, h1⟩ | ⟨h2, h1⟩
      · exact .inr ⟨by rw [hv]; rfl, by rw [hb, h2]⟩
      · exact .inl h2
    · rcases hn with h1 | ⟨h1, h2, h3⟩
      · exact .inl ⟨h1, by rw [hlb]; rfl⟩
      · exact .inr ⟨h1, row, ty, e, els, _, hv, hlb, by rw [h3, h2]⟩
  have hs : ∀ x v, RepS w' (fun k => (Mine O σ.h β k ∧ k ≠ b) ∨ k = b') x v → RepS w' (Mine O (σ.h.set l g lb) (upd β l (some b', sv))) x v := by
    intro x v hx
    refine RepS.less hx (fun k => ?_)
    rintro (h1 | ⟨l', h1, h2⟩)
    · refine .inl ⟨.inl h1, fun e => ?_⟩
      rw [e] at h1
      exact r.base l b (by rw [hv]; rfl) hb (r.hO b h1)
    · by_cases el : l' = l
      · subst el; rw [upd_at] at h2; exact .inr (by simpa using h2.symm)
      · rw [upd_ne _ _ el] at h2
        rw [Hp.view_ne _ _ _ el] at h1
        refine .inl ⟨.inr ⟨l', h1, h2⟩, fun e => el (r.inj l' l k h1 (by rw [hv]; rfl) h2 (by rw [hb, e]))⟩
  refine ⟨t.rel r ?_, hs⟩
  unfold RepB
  rw [Hp.view_at, hlb]
  obtain ⟨he, cur, hB, hr, hc⟩ := hX
  have hfe : (els'.map (List.map AC.s)).flatten = els'.flatten.map AC.s := by rw [← List.map_flatten]
  have hln : (els'.map (List.map AC.s)).length = els'.length := by simp
  refine ⟨h0, fun x hx => ?_, .inr ⟨b', cap', cur, by rw [upd_at], hB, ?_, fun hrow => ?_⟩⟩
  · obtain ⟨y, hy, rfl⟩ := List.mem_map.1 hx; rw [List.length_map]; exact he y hy
  · rw [hfe, List.length_map]
    exact hr.map AC.s (fun x u hx => hs x u hx)
  · rw [upd_at, hln]
    exact ⟨hsv hrow, hc hrow⟩
theorem map_s_len (els : List (List SC)) : els.map List.length = (els.map (List.map AC.s)).map List.length := by simp
theorem all2_len {h : Hp} : ∀ {els : List (List AC)} {els1 : List (List SC)}, all? (all? (shA h)) els = some els1 → els1.map List.length = els.map List.length := by
  intro els
  induction els with
  | nil => intro els1 h1; rw [all?_nil h1]; rfl
  | cons x xs ih =>
    intro els1 h1
    obtain ⟨y, ys, h2, h3, rfl⟩ := all?_cons h1
    simp only [List.map_cons, ih h3]
    congr 1
    have key : ∀ {x : List AC} {y : List SC}, all? (shA h) x = some y → y.length = x.length := by
      intro x
      induction x with
      | nil => intro y h4; rw [all?_nil h4]; rfl
      | cons z zs ih2 =>
        intro y h4
        obtain ⟨q, qs, _, h5, rfl⟩ := all?_cons h4
        simp [ih2 h5]
    exact key h2
theorem all2_flat {h : Hp} : ∀ {els : List (List AC)} {els1 : List (List SC)}, all? (all? (shA h)) els = some els1 → all? (shA h) els.flatten = some els1.flatten := by
  intro els
  induction els with
  | nil => intro els1 h1; rw [all?_nil h1]; rfl
  | cons x xs ih =>
    intro els1 h1
    obtain ⟨y, ys, h2, h3, rfl⟩ := all?_cons h1
    have key : ∀ {x : List AC} {y : List SC} {zs : List AC} {qs : List SC}, all? (shA h) x = some y → all? (shA h) zs = some qs → all? (shA h) (x ++ zs) = some (y ++ qs) := by
      intro x
      induction x with
      | nil => intro y zs qs h4 h5; rw [all?_nil h4]; exact h5
      | cons z x ih2 =>
        intro y zs qs h4 h5
        obtain ⟨q, y', h6, h7, rfl⟩ := all?_cons h4
        show all? (shA h) (z :: (x ++ zs)) = some (q :: (y' ++ qs))
        simp only [all?, h6, ih2 h7 h5]
    exact key h2 (ih h3)
theorem op_callX0 (r : Rel O w0 n σ β a w) {o : Oper} {f : Operand} {args : Array Operand} {ats : Array TypeId} {args' : List Opd} {g : Nat} {v : TV AC} {ws : List (Nat × Nat × LB)}
    (ho : o.op = .call { callee := .value f, args := args, argTypes := ats }) (hf : a.eval f = .func (.func g) #[] #[]) (hcl : callable P g = true)
    (hargs : all? copd args.toList = some args') (hX : CallX0 P g σ.h (args'.map σ.ev) (fun v' ws' => v' = v ∧ ws' = ws)) : Ok1 P o a w (Done O w0 n σ a v ws) := by
  have hrun : (execOp a.eval o).run P w = .ok (.enter g (args.toList.map a.eval).toArray) w := by
    have h1 := run_callFunc' hcl (args.map a.eval) w
    have h2 : (args.toList.map a.eval).toArray = args.map a.eval := by
      apply Array.ext'
      simp
    rw [h2]
    simp [execOp, ho, resolve, hf, Deferred.ofValue, invoke, h1]
  have hev := RL.evs r hargs
  unfold CallX0 at hX
  split at hX
  · exact hX.elim
  rename_i x0 xr hxs
  rw [hxs] at hev
  obtain ⟨v0, vs, hvs, h0, hr0⟩ := hev.cons_inv
  rw [hvs] at hrun
  cases has : all? (argB σ.h) xr with
  | none => rw [has] at hX; exact hX.elim
  | some as =>
  rw [has] at hX
  obtain ⟨X, ⟨he0, hs1, hs2⟩, haft⟩ := hX
  unfold afterX at haft
  cases hcc : all? TV.cells xr with
  | none => rw [hcc] at haft; exact haft.elim
  | some css =>
  rw [hcc] at haft
  simp only at haft
  obtain ⟨hsh, haft⟩ := haft
  obtain ⟨r1, r2, r3⟩ := frz_ok (css.flatten ++ boxX σ.h x0) σ.h r.toRelH
  have hA := argB_froz2 r.toRelH (fl := css.flatten ++ boxX σ.h x0) (fun c hc x hx => List.mem_append_left _ (List.mem_flatten.2 ⟨c, hc, hx⟩)) has hcc hsh hr0
  have hsome := all?_some hsh
  generalize hH : σ.h.app (frz σ.h (css.flatten ++ boxX σ.h x0)) = H at *
  have r' : Rel O w0 n ⟨σ.slot, H⟩ β a w := ⟨r1, r.hd, r.hn, fun k => (r.slots k).mono (fun x u hx => r2 x u hx)⟩
  -- the block, as the callee has it
  have lend : ∀ {l b : Nat}, blkX σ.h H l X → (H.blk l = σ.h.blk l → True) → (∀ els, σ.h.blk l = .box X.ty X.e els → els.flatten = boxX σ.h x0) → (β l).1 = some b →
      ∃ (els0 : List (List AC)) (cap : Nat), H.view l = .mem X.row X.ty X.e els0 ∧ (∀ k, (Mine O H β k ∧ k ≠ b) → k < w.heap.size ∧ k ≠ b) ∧ HoldX w (fun k => Mine O H β k ∧ k ≠ b) X.row X.ty X.e X.els b cap ∧ (X.row = true → (β l).2 = .slice (some ⟨b, 0, none⟩) X.els.length cap) := by
    intro l b hb _ hbox hbl
    unfold blkX at hb
    split at hb
    · rename_i ty e els hk
      obtain ⟨c1, rfl, rfl, rfl, c2⟩ := hb
      have hv : H.view l = .mem true X.ty X.e (X.els.map (List.map AC.s)) := by unfold Hp.view; rw [c2]; rfl
      obtain ⟨_, k2, cap, k3, k4⟩ := r1.lend (els1 := X.els) hv hbl (fun us hus => by
        rw [← List.map_flatten] at hus
        refine ⟨by have := hus.1; rw [List.length_map] at this; exact this, fun i a b => ?_⟩
        have := hus.2 i (by rw [List.length_map]; exact a) b
        rw [List.getElem_map] at this
        exact this) (map_s_len _)
      rw [c1]
      exact ⟨_, cap, hv, k2, k3, k4⟩
    · rename_i ty e els hk
      obtain ⟨c1, rfl, rfl, c3, c2⟩ := hb
      have hv0 : σ.h.view l = .mem false X.ty X.e els := by unfold Hp.view; rw [hk]; rfl
      have hv : H.view l = .mem false X.ty X.e els := by unfold Hp.view; rw [c2]; rfl
      have hcells : ∃ cur : Array Value, Blk w b X.ty cur ∧ RL (RepA σ.h β w (Mine O σ.h β)) els.flatten (cur.toList.take els.flatten.length) := by
        have h1 := r.toRelH.blks l
        unfold RepB at h1
        rw [hv0] at h1
        simp only at h1
        obtain ⟨_, _, ⟨h2, _⟩ | ⟨b', cap, cur, h2, h3, h4, h5⟩⟩ := h1
        · simp at h2
        · rw [hbl] at h2
          obtain rfl : b = b' := by simpa using h2
          exact ⟨cur, h3, h4⟩
      obtain ⟨cur0, hB0, hR0⟩ := hcells
      have hlen2 := all2_len c3
      have hf2 : X.els.flatten.length = els.flatten.length := by rw [List.length_flatten, List.length_flatten, hlen2]
      have hR1 : RL (RepS w (Mine O H β)) X.els.flatten (cur0.toList.take els.flatten.length) := hR0.all (all2_flat c3) (fun x y u hx hy hu => by
        exact r3 x (List.mem_append_right _ (by rw [← hbox els hk]; exact hx)) y hy u hu)
      have h1 := r1.blks l
      unfold RepB at h1
      rw [hv] at h1
      simp only at h1
      obtain ⟨h00, he, _⟩ := h1
      rw [c1]
      refine ⟨els, 0, hv, fun k hk => ⟨r1.lt hk.1, hk.2⟩, ⟨fun x hx => ?_, cur0, hB0, ?_, fun hr => by simp at hr⟩, fun hr => by simp at hr⟩
      · have : x.length ∈ X.els.map List.length := List.mem_map_of_mem hx
        rw [hlen2] at this
        obtain ⟨y, hy, hyl⟩ := List.mem_map.1 this
        rw [← hyl]; exact he y hy
      · rw [hf2]
        refine hR1.mono (fun x u hx => RepS.less hx (fun k => ?_))
        rintro (hk | rfl)
        · exact hk.1
        · exact .inr ⟨l, by rw [hv]; rfl, hbl⟩
    · exact hb.elim
  have rest : ∀ {l b : Nat} {els0 : List (List AC)}, H.view l = .mem X.row X.ty X.e els0 → (β l).1 = some b → RL (RepT (RepS w (fun k => (Mine O H β k ∧ k ≠ b) ∨ k = b))) as vs := by
    intro l b els0 hv hbl
    exact hA.mono (fun x u hx => hx.mono (fun y q hy => RepS.less hy (fun k => by
      rintro (hk | rfl)
      · exact hk.1
      · exact .inr ⟨l, by rw [hv]; rfl, hbl⟩)))
  have hlbv : X.lb.view = .mem X.row X.ty X.e (X.els'.map (List.map AC.s)) := by
    unfold XR.lb
    cases X.row <;> rfl
  -- what is behind the call
  have fini : ∀ {l b cap gl : Nat} {els0 : List (List AC)}, H.view l = .mem X.row X.ty X.e els0 → (β l).1 = some b → gl = H.gen l → (X.row = true → (β l).2 = .slice (some ⟨b, 0, none⟩) X.els.length cap) → (X.arg = none → X.row = true) →
      retX X l gl (frz σ.h (css.flatten ++ boxX σ.h x0)) (fun v' ws' => v' = v ∧ ws' = ws) → ∀ (ex : Ending) (w' : World), (∃ u, ex = .returned u ∧ match X.ret with
        | none => ∃ b' cap', u = .slice (some ⟨b', 0, none⟩) X.els'.length cap' ∧ HoldX w' (fun k => Mine O H β k ∧ k ≠ b) true X.ty X.e X.els' b' cap' ∧ (b' = b ∧ Kept b w w' ∨ w.heap.size ≤ b' ∧ Below w.heap.size w w')
        | some rr => RepT (RepS w' (fun k => (Mine O H β k ∧ k ≠ b) ∨ k = b)) rr u ∧ HoldX w' (fun k => Mine O H β k ∧ k ≠ b) X.row X.ty X.e X.els' b cap ∧ X.els'.length = X.els.length ∧ Kept b w w') →
      ∃ u, ex = .returned u ∧ Done O w0 n σ a v ws u w' := by
    rintro l b cap gl els0 hv hbl hg hsl hrow hret ex w' ⟨u, rfl, hu⟩
    refine ⟨u, rfl, ?_⟩
    unfold Done
    unfold retX at hret
    cases hXr : X.ret with
    | none =>
      rw [hXr] at hu hret
      simp only at hu hret
      obtain ⟨harg, rfl, rfl⟩ := hret
      have hrw := hrow harg
      obtain ⟨b', cap', rfl, k1, k2⟩ := hu
      rw [← hrw] at k1
      obtain ⟨q1, q2⟩ := r'.turnX (g := gl + 1) (sv := .slice (some ⟨b', 0, none⟩) X.els'.length cap') hv hbl he0 hlbv k1 (fun _ => rfl) k2 (.inl (by show H.gen l < _; omega))
      rw [Hp.app_append, hH]
      refine ⟨_, q1, ?_⟩
      rw [hrw] at hlbv
      refine ⟨rfl, ?_, fun _ => ?_⟩
      · show gl + 1 ≤ (H.set l (gl + 1) X.lb).gen l
        rw [Hp.gen_at]; exact Nat.le_refl _
      · show match (H.set l (gl + 1) X.lb).view l with
          | .mem row _ _ _ => row = true → _ = (upd β l _ l).2
          | .ice x => _
          | .dead => True
        rw [Hp.view_at, hlbv, upd_at]
        intro _; rfl
    | some rr =>
      rw [hXr] at hu hret
      simp only at hu hret
      obtain ⟨rfl, rfl⟩ := hret
      obtain ⟨k0, k1, k2, k3⟩ := hu
      obtain ⟨q1, q2⟩ := r'.turnX (g := gl) (sv := (β l).2) hv hbl he0 hlbv k1 (fun hr => by rw [hsl hr, k2]) (.inl ⟨rfl, k3⟩) (.inr ⟨hg, rfl, by rw [← hbl]⟩)
      rw [Hp.app_append, hH]
      exact ⟨_, q1, lift_ok (k0.mono (fun x u hx => q2 x u hx))⟩
  cases x0 with
  | c y =>
    cases y with
    | own l gl =>
      obtain ⟨harg, hrow, hg, hb, hret⟩ := haft
      have h0' : RepA σ.h β w (Mine O σ.h β) (.own l gl) v0 := h0
      have h1 := r2 _ _ h0'
      have hb' := hb
      unfold blkX at hb'
      split at hb'
      · rename_i ty e els hk
        obtain ⟨_, rfl, rfl, rfl, c2⟩ := hb'
        have hv : H.view l = .mem true X.ty X.e (X.els.map (List.map AC.s)) := by unfold Hp.view; rw [c2]; rfl
        have h2 := h1.2.2 hg
        rw [hv] at h2
        have h3 := h2 rfl
        subst h3
        have h4 := r1.blks l
        unfold RepB at h4
        rw [hv] at h4
        simp only at h4
        obtain ⟨_, _, ⟨_, hemp, hnb, A, hA0⟩ | ⟨b, cap, cur, hbl, _⟩⟩ := h4
        · have hem : X.els = [] := by simpa using hemp
          rw [hA0] at hrun
          refine Ok1.call hrun ((hs2 hem harg w (Mine O H β) A vs (fun k hk => r1.lt hk) hA).mono ?_)
          rintro ex w' ⟨u, rfl, hbw, hu⟩
          refine ⟨u, rfl, ?_⟩
          unfold Done
          unfold retX at hret
          have r'' := r'.world hbw
          have hlb2 : X.lb.view = .mem true X.ty X.e (X.els'.map (List.map AC.s)) := by rw [hlbv, hrow]
          cases hXr : X.ret with
          | none =>
            rw [hXr] at hu hret
            simp only at hu hret
            obtain ⟨_, rfl, rfl⟩ := hret
            rw [Hp.app_append, hH]
            have hlbe : X.lb = .row X.ty X.e X.els' := by unfold XR.lb; rw [hrow]; rfl
            rw [hlbe]
            obtain ⟨_, he, ⟨hem', A', rfl⟩ | ⟨b, cap, cur, rfl, hgb, hB, hcap, hm, hcs, hr⟩⟩ := hu
            · have t : Turn O H β w' w' l (gl + 1) (.row X.ty X.e X.els') none (.slice A' 0 0) :=
                ⟨Nat.le_refl _, rfl, rfl, rfl, fun k _ _ => rfl, fun k hk => by simp at hk, .inl ⟨by omega, rfl⟩⟩
              refine ⟨upd β l (none, .slice A' 0 0), t.rel r'' ?_, own_mk rfl⟩
              unfold RepB
              rw [Hp.view_at]
              simp only [LB.view]
              exact ⟨he0, fun x hx => by rw [hem'] at hx; simp at hx, .inl ⟨trivial, by simp [hem'], by rw [upd_at], A', by rw [upd_at]⟩⟩
            · have hln : (X.els'.map (List.map AC.s)).length = X.els'.length := by simp
              have hfe : (X.els'.map (List.map AC.s)).flatten = X.els'.flatten.map AC.s := by rw [← List.map_flatten]
              have t : Turn O H β w w' l (gl + 1) (.row X.ty X.e X.els') (some b) (.slice (some ⟨b, 0, none⟩) X.els'.length cap) :=
                ⟨hbw.size, hbw.os, hbw.tape, hbw.output, fun k hk _ => hbw.block k hk, fun k hk => .inl (by cases hk; exact hgb), .inl ⟨by omega, rfl⟩⟩
              refine ⟨upd β l (some b, .slice (some ⟨b, 0, none⟩) X.els'.length cap), t.rel r' ?_, own_mk rfl⟩
              unfold RepB
              rw [Hp.view_at]
              simp only [LB.view]
              refine ⟨he0, fun x hx => ?_, .inr ⟨b, cap, cur, by rw [upd_at], hB, ?_, fun _ => ?_⟩⟩
              · obtain ⟨y, hy, rfl⟩ := List.mem_map.1 hx; rw [List.length_map]; exact he y hy
              · rw [hfe, List.length_map]
                refine hr.map AC.s (fun x u hx => RepS.less hx (fun k => ?_))
                rintro (h1 | ⟨l', h1, h2⟩)
                · exact .inl (.inl h1)
                · by_cases el : l' = l
                  · subst el; rw [upd_at] at h2; exact .inr (by simpa using h2.symm)
                  · rw [upd_ne _ _ el] at h2
                    rw [Hp.view_ne _ _ _ el] at h1
                    exact .inl (.inr ⟨l', h1, h2⟩)
              · rw [upd_at, hln]
                exact ⟨rfl, hcap, hm, hcs⟩
          | some rr =>
            rw [hXr] at hu hret
            simp only at hu hret
            obtain ⟨rfl, rfl⟩ := hret
            obtain ⟨k0, hem'⟩ := hu
            rw [Hp.app_append, hH]
            have hlbe : X.lb = .row X.ty X.e X.els := by unfold XR.lb; rw [hrow, hem', hem]; rfl
            have hset : ∀ y, (H.set l gl X.lb).view y = H.view y ∧ (H.set l gl X.lb).gen y = H.gen y := by
              intro y
              by_cases el : y = l
              · subst el
                rw [Hp.view_at, Hp.gen_at, hlbe]
                refine ⟨?_, hg⟩
                unfold Hp.view; rw [c2]
              · rw [Hp.view_ne _ _ _ el, Hp.gen_ne _ _ _ el]; exact ⟨rfl, rfl⟩
            have heq : H.set l gl X.lb = H := by
              unfold Hp.set
              have e1 : upd H.gen l gl = H.gen := by
                funext y
                by_cases el : y = l
                · rw [el, upd_at]; exact hg
                · rw [upd_ne _ _ el]
              have e2 : upd H.blk l X.lb = H.blk := by
                funext y
                by_cases el : y = l
                · rw [el, upd_at, hlbe, c2]
                · rw [upd_ne _ _ el]
              rw [e1, e2]
            show ∃ β', Rel O w0 n ⟨σ.slot, H.set l gl X.lb⟩ β' a w' ∧ RepT (RepA (H.set l gl X.lb) β' w' (Mine O (H.set l gl X.lb) β')) rr.lift u
            rw [heq]
            exact ⟨β, r'', lift_ok k0⟩
        · obtain ⟨els0, cap', k1, k2, k3, k4⟩ := lend hb (fun _ => trivial) (fun els hk2 => by rw [hk] at hk2; simp at hk2) hbl
          have hval : X.val b cap' = (β l).2 := by unfold XR.val; rw [harg]; exact (k4 hrow).symm
          refine Ok1.call hrun ?_
          rw [← hval]
          exact (hs1 w _ b cap' vs k2 k3 (rest k1 hbl)).mono (fun ex w' hq => fini k1 hbl hg k4 (fun _ => hrow) hret ex w' hq)
      · rename_i ty e els hk
        rw [hb'.1] at hrow; simp at hrow
      · exact hb'.elim
    | ptr l gl i off =>
      obtain ⟨harg, hg, hb, hret⟩ := haft
      have h0' : RepA σ.h β w (Mine O σ.h β) (.ptr l gl i off) v0 := h0
      have h1 := r2 _ _ h0'
      have hvw : ∃ row els0, H.view l = .mem row X.ty X.e els0 := by
        have hb' := hb
        unfold blkX at hb'
        split at hb'
        · obtain ⟨_, rfl, rfl, _, c2⟩ := hb'; exact ⟨_, _, by unfold Hp.view; rw [c2]; rfl⟩
        · obtain ⟨_, rfl, rfl, _, c2⟩ := hb'; exact ⟨_, _, by unfold Hp.view; rw [c2]; rfl⟩
        · exact hb'.elim
      obtain ⟨row, els0', hvw⟩ := hvw
      have h2 := h1.2.2 hg
      rw [hvw] at h2
      obtain ⟨b, hbl, rfl⟩ := h2
      obtain ⟨els0, cap', k1, k2, k3, k4⟩ := lend hb (fun _ => trivial) (fun els hk2 => by simp only [boxX, hk2]) hbl
      have hval : X.val b cap' = .pointer (some ⟨b, i * X.e + off, none⟩) := by unfold XR.val; rw [harg]
      refine Ok1.call hrun ?_
      rw [← hval]
      exact (hs1 w _ b cap' vs k2 k3 (rest k1 hbl)).mono (fun ex w' hq => fini k1 hbl hg k4 (fun ha => by rw [harg] at ha; simp at ha) hret ex w' hq)
    | _ => exact haft.elim
  | _ => exact haft.elim
theorem op_fn (r : Rel O w0 n σ β a w) {o : Oper} {f : Nat} (ho : o.op = .makeFunc (.func f) #[] #[]) : Ok1 P o a w (Done O w0 n σ a (.c (.s (.fn f []))) []) := by
  refine Ok1.value (u := .func (.func f) #[] #[]) (w' := w) ?_ (r.pure (RepS.fn (us := []) rfl (fun i h => by simp at h)))
  simp [execOp, ho, Instr.makeFunc]
theorem op_clo (r : Rel O w0 n σ β a w) {o : Oper} {f : Nat} {caps : Array Operand} {caps' : List Opd} {ls : List (Nat × Nat)} (ho : o.op = .makeFunc (.func f) #[] caps) (hc : all? copd caps.toList = some caps')
    (hl : all? (fun x => whole (σ.ev x)) caps' = some ls) : Ok1 P o a w (Done O w0 n σ a (.c (.clo f ls)) []) := by
  have hev := RL.evs r hc
  refine Ok1.value (u := .func (.func f) #[] (caps.map a.eval)) (w' := w) ?_ (r.pure ⟨caps.toList.map a.eval, by congr 1; apply Array.ext'; simp, ?_⟩)
  · simp [execOp, ho, Instr.makeFunc]
  · have key : ∀ (caps' : List Opd) (us : List Value) (ls : List (Nat × Nat)), RL (RepT (RepA σ.h β w (Mine O σ.h β))) (caps'.map σ.ev) us → all? (fun x => whole (σ.ev x)) caps' = some ls → RL (fun (p : Nat × Nat) u => p.2 ≤ σ.h.gen p.1 ∧ (p.2 = σ.h.gen p.1 → match σ.h.view p.1 with
          | .mem _ _ _ _ => ∃ b, (β p.1).1 = some b ∧ u = .pointer (some ⟨b, 0, none⟩)
          | _ => True)) ls us := by
      intro caps'
      induction caps' with
      | nil => intro us ls h1 h2; rw [all?_nil h2, h1.nil_inv]; exact .nil
      | cons x xs ih =>
        intro us ls h1 h2
        obtain ⟨p, ls', h3, h4, rfl⟩ := all?_cons h2
        obtain ⟨u, us', rfl, h5, h6⟩ := h1.cons_inv
        refine .cons ?_ (ih us' ls' h6 h4)
        unfold whole at h3
        split at h3
        · rename_i l g heq
          simp only [Option.some.injEq] at h3
          subst h3
          rw [heq] at h5
          refine ⟨h5.2.1, fun e => ?_⟩
          have := h5.2.2 e
          cases hv : σ.h.view l with
          | mem row ty e' els => rw [hv] at this; simpa using this
          | dead => trivial
          | ice y => trivial
        · simp at h3
    exact key caps' _ ls hev hl
theorem rawT_froz {h : Hp} (r : RelH O w0 h β w) {l g : Nat} {v0 : Value} (hv0 : plain v0 = true) {xs : List (TV AC)} {ys : List (TV SC)} {us : List Value} {css : List (List AC)} (hs : all? (rawT h l g v0) xs = some ys) (hc : all? TV.cells xs = some css)
    (hA : (all? (shA h) (restR l g css)).isSome = true) (hrow : ∀ u, RepA h β w (Mine O h β) (.own l g) u → u = v0)
    (hx : RL (RepT (RepA h β w (Mine O h β))) xs us) : RL (RepT (RepS w (Mine O (h.app (frz h (restR l g css))) β))) ys us := by
  obtain ⟨r1, r2, r3⟩ := frz_ok (restR l g css) h r
  have hsome := all?_some hA
  have cell : ∀ x y u, x ∈ css.flatten → rawC h l g v0 x = some y → RepA h β w (Mine O h β) x u → RepS w (Mine O (h.app (frz h (restR l g css))) β) y u := by
    intro x y u hm hy hu
    unfold rawC at hy
    cases hi : isRow l g x with
    | true =>
      rw [hi] at hy
      obtain rfl : SC.pv v0 = y := by simpa using hy
      cases x with
      | own l' g' =>
        simp only [isRow, Bool.and_eq_true, beq_iff_eq] at hi
        obtain ⟨rfl, rfl⟩ := hi
        rw [hrow u hu]
        exact .pv hv0
      | _ => simp [isRow] at hi
    | false =>
      rw [hi] at hy
      exact r3 x (List.mem_filter.2 ⟨hm, by rw [hi]; rfl⟩) y hy u hu
  have key : ∀ (xs : List (TV AC)) (css' : List (List AC)) (ys : List (TV SC)) (us : List Value), all? TV.cells xs = some css' → (∀ c ∈ css', c ∈ css) → all? (rawT h l g v0) xs = some ys → RL (RepT (RepA h β w (Mine O h β))) xs us →
      RL (RepT (RepS w (Mine O (h.app (frz h (restR l g css))) β))) ys us := by
    intro xs
    induction xs with
    | nil =>
      intro css' ys us h1 h2 h3 h4
      rw [all?_nil h3, h4.nil_inv]
      exact .nil
    | cons x xs ih =>
      intro css' ys us h1 h2 h3 h4
      obtain ⟨c, css'', h5, h6, rfl⟩ := all?_cons h1
      obtain ⟨y, ys', h7, h8, rfl⟩ := all?_cons h3
      obtain ⟨u, us', rfl, h9, h10⟩ := h4.cons_inv
      refine .cons ?_ (ih css'' ys' us' h6 (fun c hc => h2 c (by simp [hc])) h8 h10)
      have hmem := h2 c (by simp)
      cases x with
      | no => simp [TV.cells] at h5
      | tup vs => simp [TV.cells] at h5
      | c x =>
        simp only [TV.cells, Option.some.injEq] at h5
        subst h5
        simp only [rawT, Option.map_eq_some_iff] at h7
        obtain ⟨z, h11, rfl⟩ := h7
        exact cell x z u (List.mem_flatten.2 ⟨_, hmem, by simp⟩) h11 h9
      | agg zs =>
        simp only [TV.cells, Option.some.injEq] at h5
        subst h5
        simp only [rawT, Option.map_eq_some_iff] at h7
        obtain ⟨zs', h11, rfl⟩ := h7
        obtain ⟨us2, rfl, h12⟩ := h9
        exact ⟨us2, rfl, h12.all h11 (fun x y u hx hy hu => cell x y u (List.mem_flatten.2 ⟨_, hmem, hx⟩) hy hu)⟩
  exact key xs css ys us hc (fun c hc => hc) hs hx
theorem op_callR (r : Rel O w0 n σ β a w) {o : Oper} {f : Operand} {args : Array Operand} {ats : Array TypeId} {args' : List Opd} {g : Nat} {v : TV AC} {ws : List (Nat × Nat × LB)}
    (ho : o.op = .call { callee := .value f, args := args, argTypes := ats }) (hf : a.eval f = .func (.func g) #[] #[]) (hcl : callable P g = true)
    (hargs : all? copd args.toList = some args') (hX : CallR P g σ.h (args'.map σ.ev) (fun v' ws' => v' = v ∧ ws' = ws)) : Ok1 P o a w (Done O w0 n σ a v ws) := by
  have hrun : (execOp a.eval o).run P w = .ok (.enter g (args.toList.map a.eval).toArray) w := by
    have h1 := run_callFunc' hcl (args.map a.eval) w
    have h2 : (args.toList.map a.eval).toArray = args.map a.eval := by
      apply Array.ext'
      simp
    rw [h2]
    simp [execOp, ho, resolve, hf, Deferred.ofValue, invoke, h1]
  have hev := RL.evs r hargs
  obtain ⟨l, g0, rv, hrow, hg, hok, hX⟩ := hX
  cases hcc : all? TV.cells (args'.map σ.ev) with
  | none => rw [hcc] at hX; exact hX.elim
  | some css =>
  rw [hcc] at hX
  simp only at hX
  obtain ⟨hsh, hfz, hspec, rfl, rfl⟩ := hX
  obtain ⟨r1, r2, r3⟩ := frz_ok (restR l g0 css) σ.h r.toRelH
  have hbk := Hp.app_blk_ne (frz σ.h (restR l g0 css)) σ.h l hfz
  have hgn := frz_gen (restR l g0 css) σ.h l
  obtain ⟨ty, e, els, hbl⟩ : ∃ ty e els, σ.h.blk l = .row ty e els := by
    cases hb : σ.h.blk l with
    | row ty e els => exact ⟨ty, e, els, rfl⟩
    | _ => rw [hb] at hrow; simp [LB.isRow] at hrow
  have hv1 : σ.h.view l = .mem true ty e (els.map (List.map AC.s)) := by unfold Hp.view; rw [hbl]; rfl
  have hp : plain (β l).2 = true := by
    have h4 := r.toRelH.blks l
    unfold RepB at h4
    rw [hv1] at h4
    simp only at h4
    obtain ⟨_, _, ⟨_, _, _, A, hA0⟩ | ⟨b, cap, cur, _, _, _, hs⟩⟩ := h4
    · rw [hA0]; rfl
    · rw [(hs trivial).1]; rfl
  obtain ⟨as, has, hs⟩ := hspec (β l).2 hp
  have hA := rawT_froz r.toRelH hp has hcc hsh (fun u hu => by
    have := hu.2.2 hg
    rw [hv1] at this
    exact this rfl) hev
  have r' : Rel O w0 n ⟨σ.slot, σ.h.app (frz σ.h (restR l g0 css))⟩ β a w := ⟨r1, r.hd, r.hn, fun k => (r.slots k).mono (fun x u hx => r2 x u hx)⟩
  have hv2 : (σ.h.app (frz σ.h (restR l g0 css))).view l = .mem true ty e (els.map (List.map AC.s)) := by unfold Hp.view; rw [hbk, hbl]; rfl
  refine Ok1.call hrun ((hs w (Mine O (σ.h.app (frz σ.h (restR l g0 css))) β) _ (fun b hb => r1.lt hb) hA).mono ?_)
  rintro ex w' ⟨u, rfl, hu, hb⟩
  refine ⟨u, rfl, β, r'.world hb, ?_⟩
  have cell : ∀ x u, okCR l g0 x = true → RepS w' (Mine O (σ.h.app (frz σ.h (restR l g0 css))) β) (lowC (β l).2 x) u → RepA (σ.h.app (frz σ.h (restR l g0 css))) β w' (Mine O (σ.h.app (frz σ.h (restR l g0 css))) β) x u := by
    intro x u hx hu
    cases x with
    | s z => exact hu
    | own l' g' =>
      simp only [okCR, AC.isS, isRow, Bool.false_or, Bool.and_eq_true, beq_iff_eq] at hx
      obtain ⟨rfl, rfl⟩ := hx
      have hu2 : RepS w' (Mine O (σ.h.app (frz σ.h (restR l' g' css))) β) (.pv (β l').2) u := hu
      cases hu2 with
      | pv hp2 =>
        refine ⟨plain_one hp2, by rw [hgn, hg]; exact Nat.le_refl _, fun _ => ?_⟩
        rw [hv2]
        intro _; rfl
    | _ => simp [okCR, AC.isS, isRow] at hx
  cases rv with
  | no => trivial
  | c x => exact cell x u hok hu
  | agg xs =>
    obtain ⟨us, rfl, h1⟩ := hu
    simp only [okR, List.all_eq_true] at hok
    refine ⟨us, rfl, by have := h1.1; rw [List.length_map] at this; exact this, fun i a b => ?_⟩
    have := h1.2 i (by rw [List.length_map]; exact a) b
    rw [List.getElem_map] at this
    exact cell _ _ (hok _ (List.getElem_mem a)) this
  | tup vs =>
    obtain ⟨us, rfl, h1, h2⟩ := hu
    simp only [okR, List.all_eq_true] at hok
    refine ⟨us, rfl, by simpa using h1, fun i a b => ?_⟩
    have h3 := h2 i (by simpa using a) b
    simp only [List.getElem_map] at h3
    have hoki := hok vs[i] (List.getElem_mem a)
    refine ⟨fun e => ?_, fun e => ?_⟩
    · obtain ⟨ws, h4, h5⟩ := h3.1 e
      refine ⟨ws, h4, by have := h5.1; rw [List.length_map] at this; exact this, fun j c d => ?_⟩
      have := h5.2 j (by rw [List.length_map]; exact c) d
      rw [List.getElem_map] at this
      exact cell _ _ (hoki _ (List.getElem_mem c)) this
    · obtain ⟨x, h4, h5⟩ := h3.2 e
      cases hvi : vs[i].2 with
      | nil => rw [hvi] at h4; simp at h4
      | cons y ys =>
        rw [hvi] at h4 hoki
        simp only [List.map_cons, List.cons.injEq, List.map_eq_nil_iff] at h4
        obtain ⟨rfl, rfl⟩ := h4
        exact ⟨y, rfl, cell _ _ (hoki y (by simp)) h5⟩
theorem sOf_some {x : AC} {y : SC} (h : sOf x = some y) : x = .s y := by
  cases x <;> simp [sOf] at h
  rw [h]
theorem sOf_map : ∀ {xs : List AC} {ys : List SC}, all? sOf xs = some ys → xs = ys.map AC.s
  | [], ys, h => by rw [all?_nil h]; rfl
  | x :: xs, ys, h => by
    obtain ⟨y, ys', h1, h2, rfl⟩ := all?_cons h
    rw [sOf_some h1, sOf_map h2]; rfl
theorem argS_rep {h : Hp} {O' : Nat → Prop} : ∀ {xs : List (TV AC)} {ys : List (TV SC)} {us : List Value}, all? argS xs = some ys → RL (RepT (RepA h β w O')) xs us → RL (RepT (RepS w O')) ys us
  | [], ys, us, h1, h2 => by rw [all?_nil h1, h2.nil_inv]; exact .nil
  | x :: xs, ys, us, h1, h2 => by
    obtain ⟨y, ys', h3, h4, rfl⟩ := all?_cons h1
    obtain ⟨u, us', rfl, h5, h6⟩ := h2.cons_inv
    refine .cons ?_ (argS_rep h4 h6)
    cases x with
    | c x =>
      simp only [argS, Option.map_eq_some_iff] at h3
      obtain ⟨z, h7, rfl⟩ := h3
      rw [sOf_some h7] at h5
      exact h5
    | agg cs =>
      simp only [argS, Option.map_eq_some_iff] at h3
      obtain ⟨z, h7, rfl⟩ := h3
      rw [sOf_map h7] at h5
      obtain ⟨vs, rfl, h8⟩ := h5
      refine ⟨vs, rfl, by have := h8.1; rw [List.length_map] at this; exact this, fun i a b => ?_⟩
      have := h8.2 i (by rw [List.length_map]; exact a) b
      rw [List.getElem_map] at this
      exact this
    | _ => simp [argS] at h3
theorem rl_split {α : Type} {R : α → Value → Prop} : ∀ {xs : List α} {y : α} {zs : List α} {us : List Value}, RL R (xs ++ y :: zs) us → ∃ us1 v us2, us = us1 ++ v :: us2 ∧ RL R xs us1 ∧ R y v ∧ RL R zs us2
  | [], y, zs, us, h => by
    obtain ⟨u, us', rfl, h1, h2⟩ := RL.cons_inv h
    exact ⟨[], u, us', rfl, .nil, h1, h2⟩
  | x :: xs, y, zs, us, h => by
    obtain ⟨u, us', rfl, h1, h2⟩ := RL.cons_inv h
    obtain ⟨us1, v, us2, rfl, h3, h4, h5⟩ := rl_split h2
    exact ⟨u :: us1, v, us2, rfl, .cons h1 h3, h4, h5⟩
theorem rl_unmap {h : Hp} {O' : Nat → Prop} {xs : List SC} {us : List Value} (hr : RL (RepA h β w O') (xs.map AC.s) us) : RL (RepS w O') xs us :=
  ⟨by have := hr.1; rw [List.length_map] at this; exact this, fun i a b => by have := hr.2 i (by rw [List.length_map]; exact a) b; rw [List.getElem_map] at this; exact this⟩
set_option maxHeartbeats 1000000 in
theorem op_callW (r : Rel O w0 n σ β a w) {o : Oper} {f : Operand} {args : Array Operand} {ats : Array TypeId} {args' : List Opd} {g : Nat} {v : TV AC} {ws : List (Nat × Nat × LB)}
    (ho : o.op = .call { callee := .value f, args := args, argTypes := ats }) (hf : a.eval f = .func (.func g) #[] #[]) (hcl : callable P g = true)
    (hargs : all? copd args.toList = some args') (hX : CallW P g σ.h (args'.map σ.ev) (fun v' ws' => v' = v ∧ ws' = ws)) : Ok1 P o a w (Done O w0 n σ a v ws) := by
  have hrun : (execOp a.eval o).run P w = .ok (.enter g (args.toList.map a.eval).toArray) w := by
    have h1 := run_callFunc' hcl (args.map a.eval) w
    have h2 : (args.toList.map a.eval).toArray = args.map a.eval := by
      apply Array.ext'
      simp
    rw [h2]
    simp [execOp, ho, resolve, hf, Deferred.ofValue, invoke, h1]
  have hev := RL.evs r hargs
  unfold CallW at hX
  split at hX
  case h_2 => exact hX.elim
  rename_i l gl i off xr hxs
  rw [hxs] at hev
  obtain ⟨v0, vs, hvs, h0, hr0⟩ := hev.cons_inv
  rw [hvs] at hrun
  cases has : all? argS xr with
  | none => rw [has] at hX; exact hX.elim
  | some as =>
  rw [has] at hX
  obtain ⟨X, q, gq, x, hspec, rfl, rfl, hgl, hgq, hql, hbl, hbq, hlen1, hlen2, rfl, rfl⟩ := hX
  subst hgl hgq
  have hvl : σ.h.view l = .mem false X.ty (X.pre.length + 1 + X.post.length) [X.pre.map AC.s ++ x :: X.post.map AC.s] := by unfold Hp.view; rw [hbl]; rfl
  have hA := argS_rep has hr0
  have hxl : (X.xs.map (List.map AC.s)).length = X.xs.length := by simp
  have hxf : (X.xs.map (List.map AC.s)).flatten = X.xs.flatten.map AC.s := by rw [← List.map_flatten]
  -- the pointer
  have h02 := h0.2.2 rfl
  rw [hvl] at h02
  simp only at h02
  obtain ⟨b, hb, rfl⟩ := h02
  have e0 : 0 * (X.pre.length + 1 + X.post.length) + 0 = 0 := by omega
  rw [e0] at hrun
  -- the box
  have hB := r.blks l
  unfold RepB at hB
  rw [hvl] at hB
  simp only at hB
  obtain ⟨hep, hee, ⟨hB1, _⟩ | ⟨b1, cap1, cur, hB1, hBk, hRL, _⟩⟩ := hB
  · simp at hB1
  rw [hb] at hB1
  obtain rfl : b = b1 := by simpa using hB1
  have hcl2 : ([X.pre.map AC.s ++ x :: X.post.map AC.s].flatten) = X.pre.map AC.s ++ x :: X.post.map AC.s := by simp
  have hcl3 : (X.pre.map AC.s ++ x :: X.post.map AC.s).length = X.pre.length + 1 + X.post.length := by simp; omega
  rw [hcl2, hcl3] at hRL
  obtain ⟨us1, sv, us2, hus, hp1, hp2, hp3⟩ := rl_split hRL
  have hmb : Mine O σ.h β b := .inr ⟨l, by rw [hvl]; rfl, hb⟩
  obtain ⟨bo, hHR, hown⟩ : ∃ bo : Option Nat, HoldR w (fun k => (Mine O σ.h β k ∧ k ≠ b ∧ bo ≠ some k) ∨ k = b ∨ bo = some k) X.rty X.re X.xs bo sv ∧ ∀ k, bo = some k → (σ.h.view q).live = true ∧ (β q).1 = some k := by
    rcases hbq with ⟨rfl, hbq⟩ | ⟨rfl, hbx, hb0, _⟩
    · have hvq : σ.h.view q = .mem true X.rty X.re (X.xs.map (List.map AC.s)) := by unfold Hp.view; rw [hbq]; rfl
      have hp22 := hp2.2.2 rfl
      rw [hvq] at hp22
      have hsv : sv = (β q).2 := hp22 rfl
      have hQ := r.blks q
      unfold RepB at hQ
      rw [hvq] at hQ
      simp only at hQ
      obtain ⟨hq0, hqe, hQ⟩ := hQ
      have hmq : ∀ k, (β q).1 = some k → Mine O σ.h β k := fun k hk => .inr ⟨q, by rw [hvq]; rfl, hk⟩
      have hOO : ∀ k, (((Mine O σ.h β k ∧ k ≠ b ∧ (β q).1 ≠ some k) ∨ k = b ∨ (β q).1 = some k)) → Mine O σ.h β k := by
        rintro k (h1 | rfl | h1)
        · exact h1.1
        · exact hmb
        · exact hmq k h1
      refine ⟨(β q).1, ⟨hq0, fun x hx => by simpa using hqe (x.map AC.s) (List.mem_map_of_mem hx), ?_⟩, fun k hk => ⟨by rw [hvq]; rfl, hk⟩⟩
      rcases hQ with ⟨_, h5, h7, A, h6⟩ | ⟨b2, cap, cur2, h5, h6, h7, h8⟩
      · exact .inl ⟨by simpa using h5, h7, A, by rw [hsv, h6]⟩
      · obtain ⟨k1, k2, k3, k4⟩ := h8 trivial
        rw [hxl] at k1 k2
        rw [hxf, List.length_map] at h7
        exact .inr ⟨b2, cap, cur2, h5, by rw [hsv, k1], h6, (rl_unmap h7).mono (fun x u hx => RepS.less hx hOO), k2, k3, k4⟩
    · obtain ⟨A, hA⟩ := hp2
      exact ⟨none, ⟨hb0, fun x hx => by rw [hbx] at hx; simp at hx, .inl ⟨hbx, rfl, A, hA⟩⟩, fun k hk => by simp at hk⟩
  have hq0 : 0 < X.re := hHR.1
  have hmq : ∀ k, bo = some k → Mine O σ.h β k := fun k hk => .inr ⟨q, (hown k hk).1, (hown k hk).2⟩
  have hne : bo ≠ some b := fun e => hql (r.inj q l b (hown b e).1 (by rw [hvl]; rfl) (hown b e).2 hb)
  have hOO : ∀ k, (((Mine O σ.h β k ∧ k ≠ b ∧ bo ≠ some k) ∨ k = b ∨ bo = some k)) → Mine O σ.h β k := by
    rintro k (h1 | rfl | h1)
    · exact h1.1
    · exact hmb
    · exact hmq k h1
  refine Ok1.call hrun ((hspec w (fun k => Mine O σ.h β k ∧ k ≠ b ∧ bo ≠ some k) b bo sv vs (fun k hk => ⟨r.lt hk.1, hk.2⟩) hne ⟨cur, us1, us2, hBk, hus, (rl_unmap hp1).mono (fun x u hx => RepS.less hx hOO), (rl_unmap hp3).mono (fun x u hx => RepS.less hx hOO)⟩ hHR (hA.mono (fun x u hx => hx.mono (fun y z hy => RepS.less hy hOO)))).mono ?_)
  rintro ex w' ⟨u, bo', sv', rfl, hu, ⟨cur', us1', us2', hBk', hus', hpre', hpost'⟩, ⟨_, hxe', hxs'⟩, hkp⟩
  obtain ⟨k1, k2, k3, k4, k5, k6⟩ := hkp
  refine ⟨u, rfl, ?_⟩
  -- the state behind it
  let h' : Hp := (σ.h.set q (σ.h.gen q + 1) (.row X.rty X.re X.xs')).set l (σ.h.gen l) (.box X.ty (X.pre.length + 1 + X.post.length) [X.pre'.map AC.s ++ .own q (σ.h.gen q + 1) :: X.post'.map AC.s])
  let β' : Env := upd β q (bo', sv')
  have gl : h'.gen l = σ.h.gen l := Hp.gen_at _ _ _ _
  have gq : h'.gen q = σ.h.gen q + 1 := by show ((σ.h.set q _ _).set l _ _).gen q = _; rw [Hp.gen_ne _ _ _ hql, Hp.gen_at]
  have go : ∀ k, k ≠ l → k ≠ q → h'.gen k = σ.h.gen k := fun k e1 e2 => by show ((σ.h.set q _ _).set l _ _).gen k = _; rw [Hp.gen_ne _ _ _ e1, Hp.gen_ne _ _ _ e2]
  have vl : h'.view l = .mem false X.ty (X.pre.length + 1 + X.post.length) [X.pre'.map AC.s ++ .own q (σ.h.gen q + 1) :: X.post'.map AC.s] := Hp.view_at _ _ _ _
  have vq : h'.view q = .mem true X.rty X.re (X.xs'.map (List.map AC.s)) := by show ((σ.h.set q _ _).set l _ _).view q = _; rw [Hp.view_ne _ _ _ hql, Hp.view_at]; rfl
  have vo : ∀ k, k ≠ l → k ≠ q → h'.view k = σ.h.view k := fun k e1 e2 => by show ((σ.h.set q _ _).set l _ _).view k = _; rw [Hp.view_ne _ _ _ e1, Hp.view_ne _ _ _ e2]
  have bl : β' l = β l := upd_ne _ _ (fun e => hql e.symm)
  have bq : β' q = (bo', sv') := upd_at _ _ _
  have bn : ∀ k, k ≠ q → β' k = β k := fun k e => upd_ne _ _ e
  have mine' : ∀ k, Mine O h' β' k → Mine O σ.h β k ∧ k ≠ b ∧ bo ≠ some k ∨ k = b ∨ bo' = some k := by
    rintro k (hk | ⟨l', hl', hk⟩)
    · refine .inl ⟨.inl hk, fun e => ?_, fun e => ?_⟩
      · rw [e] at hk; exact r.base l b (by rw [hvl]; rfl) hb (r.hO b hk)
      · exact r.base q k (hown k e).1 (hown k e).2 (r.hO k hk)
    · by_cases e1 : l' = l
      · subst e1; rw [bl, hb] at hk; exact .inr (.inl (by simpa using hk.symm))
      by_cases e2 : l' = q
      · subst e2; rw [bq] at hk; exact .inr (.inr hk)
      · rw [vo l' e1 e2] at hl'
        rw [bn l' e2] at hk
        exact .inl ⟨.inr ⟨l', hl', hk⟩, fun e => e1 (r.inj l' l k hl' (by rw [hvl]; rfl) hk (by rw [hb, e])), fun e => e2 (r.inj l' q k hl' (hown k e).1 hk (hown k e).2)⟩
  have sold : ∀ x u, RepS w (Mine O σ.h β) x u → RepS w' (Mine O h' β') x u := by
    intro x u hx
    refine hx.mono k1 (fun k hk1 hk2 => ⟨k5 k hk1 (fun e => hk2 (e ▸ hmb)) (fun e => hk2 (hmq k e)), fun hk3 => ?_⟩)
    rcases mine' k hk3 with h3 | rfl | h3
    · exact hk2 h3.1
    · exact hk2 hmb
    · rcases (k6 k h3).1 with h4 | h4
      · exact hk2 (hmq k h4)
      · omega
  have snew : ∀ x u, RepS w' (fun k => (Mine O σ.h β k ∧ k ≠ b ∧ bo ≠ some k) ∨ k = b ∨ bo' = some k) x u → RepS w' (Mine O h' β') x u := fun x u hx => RepS.less hx mine'
  have aold : ∀ x u, RepA σ.h β w (Mine O σ.h β) x u → RepA h' β' w' (Mine O h' β') x u := by
    intro x u hx
    cases x with
    | s x => exact sold _ _ hx
    | zc => exact hx
    | own k gk =>
      refine ⟨hx.1, ?_⟩
      by_cases e1 : k = l
      · subst e1
        rw [gl, vl]
        exact ⟨hx.2.1, fun _ h => by simp at h⟩
      by_cases e2 : k = q
      · subst e2
        rw [gq]
        exact ⟨by have := hx.2.1; omega, fun e => by have := hx.2.1; omega⟩
      · rw [go k e1 e2, vo k e1 e2]
        refine ⟨hx.2.1, fun e => ?_⟩
        have h4 := hx.2.2 e
        cases hk : σ.h.view k with
        | mem row ty e' els => rw [hk] at h4; simp only at h4 ⊢; rw [bn k e2]; exact h4
        | dead => trivial
        | ice y => rw [hk] at h4; exact sold _ _ h4
    | ptr k gk i off =>
      refine ⟨hx.1, ?_⟩
      by_cases e1 : k = l
      · subst e1
        rw [gl, vl]
        refine ⟨hx.2.1, fun e => ?_⟩
        have h4 := hx.2.2 e
        rw [hvl] at h4
        rw [bl]; exact h4
      by_cases e2 : k = q
      · subst e2
        rw [gq]
        exact ⟨by have := hx.2.1; omega, fun e => by have := hx.2.1; omega⟩
      · rw [go k e1 e2, vo k e1 e2, bn k e2]
        exact hx.2
    | clo fn ls =>
      obtain ⟨us, rfl, h1⟩ := hx
      refine ⟨us, rfl, h1.mono (fun p u hp => ?_)⟩
      by_cases e1 : p.1 = l
      · rw [e1] at hp ⊢
        rw [gl, vl]
        refine ⟨hp.1, fun e => ?_⟩
        have h4 := hp.2 e
        rw [hvl] at h4
        rw [bl]; exact h4
      by_cases e2 : p.1 = q
      · rw [e2] at hp ⊢
        rw [gq]
        exact ⟨by have := hp.1; omega, fun e => by have := hp.1; omega⟩
      · rw [go _ e1 e2, vo _ e1 e2, bn _ e2]
        exact hp
  have hrel : Rel O w0 n ⟨σ.slot, h'⟩ β' a w' := by
    refine ⟨⟨fun l' => ?_, fun l1 l2 k h1 h2 h3 h4 => ?_, fun l' k h1 h2 => ?_, ?_, r.hO, fun l' p h1 h2 => ?_⟩, r.hd, r.hn, fun k => (r.slots k).mono aold⟩
    · by_cases e1 : l' = l
      · subst e1
        unfold RepB
        rw [vl]
        simp only
        refine ⟨hep, fun x hx => ?_, .inr ⟨b, cap1, cur', by rw [bl]; exact hb, hBk', ?_, fun h => by simp at h⟩⟩
        · rw [List.mem_singleton.1 hx]; simp [hlen1, hlen2]; omega
        · have e3 : [X.pre'.map AC.s ++ .own q (σ.h.gen q + 1) :: X.post'.map AC.s].flatten = X.pre'.map AC.s ++ .own q (σ.h.gen q + 1) :: X.post'.map AC.s := by simp
          have e4 : (X.pre'.map AC.s ++ .own q (σ.h.gen q + 1) :: X.post'.map AC.s).length = X.pre'.length + 1 + X.post'.length := by simp; omega
          rw [e3, e4, hus']
          refine (hpre'.map AC.s (fun x u hx => snew x u hx)).append (.cons ?_ (hpost'.map AC.s (fun x u hx => snew x u hx)))
          refine ⟨?_, by rw [gq]; exact Nat.le_refl _, fun _ => ?_⟩
          · rcases hxs' with ⟨_, _, A, rfl⟩ | ⟨_, _, _, _, rfl, _⟩ <;> rfl
          · rw [vq]; intro _; rw [bq]
      by_cases e2 : l' = q
      · subst e2
        unfold RepB
        rw [vq]
        simp only
        refine ⟨hq0, fun x hx => ?_, ?_⟩
        · obtain ⟨y, hy, rfl⟩ := List.mem_map.1 hx; rw [List.length_map]; exact hxe' y hy
        · have e3 : (X.xs'.map (List.map AC.s)).flatten = X.xs'.flatten.map AC.s := by rw [← List.map_flatten]
          rcases hxs' with ⟨h5, h6, A, h7⟩ | ⟨b2, cap, cur2, h5, h6, h7, h8, h9, h10, h11⟩
          · exact .inl ⟨trivial, by rw [h5]; rfl, by rw [bq]; exact h6, A, by rw [bq]; exact h7⟩
          · refine .inr ⟨b2, cap, cur2, by rw [bq]; exact h5, h7, ?_, fun _ => ⟨by rw [bq, List.length_map]; exact h6, by rw [List.length_map]; exact h9, h10, h11⟩⟩
            rw [e3, List.length_map]
            exact h8.map AC.s (fun x u hx => snew x u hx)
      · have := r.blks l'
        unfold RepB at this ⊢
        rw [vo l' e1 e2]
        cases hk : σ.h.view l' with
        | mem row ty e els =>
          rw [hk] at this
          simp only at this ⊢
          rw [bn l' e2]
          obtain ⟨q0, q1, q2 | ⟨b3, cap, cur3, q2, q3, q4, q5⟩⟩ := this
          · exact ⟨q0, q1, .inl q2⟩
          · refine ⟨q0, q1, .inr ⟨b3, cap, cur3, q2, ?_, q4.mono aold, q5⟩⟩
            have hlive : (σ.h.view l').live = true := by rw [hk]; rfl
            unfold Blk at q3 ⊢
            rw [k5 b3 (r.lt (.inr ⟨l', hlive, q2⟩)) (fun e => e1 (r.inj l' l b3 hlive (by rw [hvl]; rfl) q2 (by rw [hb, e]))) (fun e => e2 (r.inj l' q b3 hlive (hown b3 e).1 q2 (hown b3 e).2))]
            exact q3
        | dead => trivial
        | ice x => trivial
    · have key : ∀ l1, (h'.view l1).live = true → (β' l1).1 = some k → (l1 = q ∧ bo' = some k) ∨ (l1 ≠ q ∧ (σ.h.view l1).live = true ∧ (β l1).1 = some k) := by
        intro l1 h1 h3
        by_cases e2 : l1 = q
        · subst e2; rw [bq] at h3; exact .inl ⟨rfl, h3⟩
        · rw [bn l1 e2] at h3
          refine .inr ⟨e2, ?_, h3⟩
          by_cases e1 : l1 = l
          · subst e1; rw [hvl]; rfl
          · rw [vo l1 e1 e2] at h1; exact h1
      have clash : ∀ l1, bo' = some k → l1 ≠ q → (σ.h.view l1).live = true → (β l1).1 = some k → False := by
        intro l1 h1 h2 h3 h4
        rcases (k6 k h1).1 with h5 | h5
        · exact h2 (r.inj l1 q k h3 (hown k h5).1 h4 (hown k h5).2)
        · have := r.lt (b := k) (.inr ⟨l1, h3, h4⟩); omega
      rcases key l1 h1 h3 with ⟨rfl, p1⟩ | ⟨p1, p2, p3⟩
      · rcases key l2 h2 h4 with ⟨rfl, p4⟩ | ⟨p4, p5, p6⟩
        · rfl
        · exact (clash l2 p1 p4 p5 p6).elim
      · rcases key l2 h2 h4 with ⟨rfl, p4⟩ | ⟨p4, p5, p6⟩
        · exact (clash l1 p4 p1 p2 p3).elim
        · exact r.inj l1 l2 k p2 p5 p3 p6
    · by_cases e2 : l' = q
      · subst e2
        rw [bq] at h2
        rcases (k6 k h2).1 with h5 | h5
        · exact r.base l' k (hown k h5).1 (hown k h5).2
        · intro h6; have := w0.lt k h6; have := r.below.size; omega
      · rw [bn l' e2] at h2
        by_cases e1 : l' = l
        · subst e1; exact r.base l' k (by rw [hvl]; rfl) h2
        · rw [vo l' e1 e2] at h1; exact r.base l' k h1 h2
    · refine ⟨k2.trans r.below.os, k3.trans r.below.tape, k4.trans r.below.output, Nat.le_trans r.below.size k1, fun k hk => ?_⟩
      have hlt : k < w.heap.size := Nat.lt_of_lt_of_le (w0.lt k hk) r.below.size
      rw [k5 k hlt (fun e => r.base l b (by rw [hvl]; rfl) hb (e ▸ hk)) (fun e => r.base q k (hown k e).1 (hown k e).2 hk)]
      exact r.below.block k hk
    · by_cases e2 : l' = q
      · subst e2; rw [show (⟨σ.slot, h'⟩ : St).h.gen l' = _ from gq] at h2; omega
      · rw [bn l' e2]
        by_cases e1 : l' = l
        · subst e1; rw [show (⟨σ.slot, h'⟩ : St).h.gen l' = _ from gl] at h2; exact r.keep l' p h1 h2
        · rw [show (⟨σ.slot, h'⟩ : St).h.gen l' = _ from go l' e1 e2] at h2; exact r.keep l' p h1 h2
  exact ⟨β', hrel, lift_ok (hu.mono (fun x u hx => snew x u hx))⟩
theorem op_callX (r : Rel O w0 n σ β a w) {o : Oper} {f : Operand} {args : Array Operand} {ats : Array TypeId} {args' : List Opd} {g : Nat} {v : TV AC} {ws : List (Nat × Nat × LB)}
    (ho : o.op = .call { callee := .value f, args := args, argTypes := ats }) (hf : a.eval f = .func (.func g) #[] #[]) (hcl : callable P g = true)
    (hargs : all? copd args.toList = some args') (hX : CallX P g σ.h (args'.map σ.ev) (fun v' ws' => v' = v ∧ ws' = ws)) : Ok1 P o a w (Done O w0 n σ a v ws) :=
  hX.elim (op_callX0 r ho hf hcl hargs) (fun h => h.elim (op_callR r ho hf hcl hargs) (op_callW r ho hf hcl hargs))
end
end Go.Proofs.YtcbfhpnmhhnjpaaGreat

