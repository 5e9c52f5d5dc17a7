import Derived.Test.YtcbfhpnmhhnjpaaGreatZ23
set_option linter.unusedVariables false
set_option linter.unusedSimpArgs false
namespace Go.Proofs.YtcbfhpnmhhnjpaaGreat
open Go.RowKit
def WR.e (X : WR) : Nat := X.pre.length + 1 + X.post.length
def St.initW (X : WR) (loc lor : Nat) (rest : List (TV SC)) : St :=
  ⟨fun i => match (TV.c (.ptr loc 0 0 0) :: rest.map TV.lift)[i]? with
    | some x => x
    | none => .no, ⟨fun _ => 0, upd (upd (fun _ => .dead) lor (.row X.rty X.re X.xs)) loc (.box X.ty X.e [X.pre.map AC.s ++ .own lor 0 :: X.post.map AC.s])⟩⟩
theorem initW_slot {X : WR} {loc lor : Nat} {rest : List (TV SC)} {i : Nat} : (St.initW X loc lor rest).slot i = match (TV.c (.ptr loc 0 0 0) :: rest.map TV.lift)[i]? with
    | some x => x
    | none => .no := rfl
theorem initW_blk {X : WR} {loc lor : Nat} {rest : List (TV SC)} {i : Nat} : (St.initW X loc lor rest).h.blk i = if i = loc then .box X.ty X.e [X.pre.map AC.s ++ .own lor 0 :: X.post.map AC.s] else if i = lor then .row X.rty X.re X.xs else .dead := rfl
def cellsW (h : Hp) (X : WR) (loc : Nat) (cs : List AC) : Prop := ∃ r g, cs = X.pre'.map AC.s ++ .own r g :: X.post'.map AC.s ∧ r ≠ loc ∧ g = h.gen r ∧ h.blk r = .row X.rty X.re X.xs'
def lbW (h : Hp) (X : WR) (loc : Nat) (b : LB) : Prop := match b with
  | .box ty e [cs] => ty = X.ty ∧ e = X.e ∧ cellsW h X loc cs
  | _ => False
def finW (rs : List RA) (X : WR) (loc : Nat) (σ : St) : Prop :=
  outs σ rs [] fun vs => match all? (fun p : Bool × List AC => (all? sOf p.2).map fun ys => (p.1, ys)) vs with
    | some ys => tsim (mkTV ys) X.ret ∧ σ.h.gen loc = 0 ∧ lbW σ.h X loc (σ.h.blk loc)
    | none => False
section
variable {P : Program} {n : Nat}
theorem spec_w (hm : P.follows .mixedOrders = true) {f : Nat} {ac : ACode} {rs : List RA} (hf : FnIs P f ac rs n) (loc lor : Nat) (hll : lor ≠ loc) {X : WR} {rest : List (TV SC)} (hl1 : X.pre'.length = X.pre.length) (hl2 : X.post'.length = X.post.length) (hn : rest.length + 1 ≤ n)
    (h : wpA P ac (Post (finW rs X loc)) (St.initW X loc lor rest)) : SpecW P f X rest := by
  obtain ⟨fn, h1, h3, h24, h5⟩ := hf.ok
  obtain ⟨c, h2, h4⟩ := Option.bind_eq_some_iff.1 h24
  intro w O b bo sv us hO hbo hold hrow hus
  obtain ⟨cur, us1, us2, hblk, hcur, hpre, hpost⟩ := hold
  obtain ⟨hre, hxe, hxs⟩ := hrow
  let B : Base := ⟨w, fun k => k < w.heap.size ∧ k ≠ b ∧ bo ≠ some k, fun _ h => h.1, fun l q => l = loc ∧ q = (b, undef)⟩
  let β0 : Env := fun l => if l = loc then (some b, undef) else if l = lor then (bo, sv) else (none, undef)
  have hβ : β0 loc = (some b, undef) := if_pos rfl
  have hβr : β0 lor = (bo, sv) := by show (if lor = loc then _ else if lor = lor then _ else _) = _; rw [if_neg hll, if_pos rfl]
  have hview : (St.initW X loc lor rest).h.view loc = .mem false X.ty X.e [X.pre.map AC.s ++ .own lor 0 :: X.post.map AC.s] := by
    unfold Hp.view; rw [initW_blk, if_pos rfl]; rfl
  have hviewr : (St.initW X loc lor rest).h.view lor = .mem true X.rty X.re (X.xs.map (List.map AC.s)) := by
    unfold Hp.view; rw [initW_blk, if_neg hll, if_pos rfl]; rfl
  have hdead : ∀ l, l ≠ loc → l ≠ lor → (St.initW X loc lor rest).h.view l = .dead := by
    intro l e1 e2
    unfold Hp.view; rw [initW_blk, if_neg e1, if_neg e2]; rfl
  have hmine : ∀ k, Mine O (St.initW X loc lor rest).h β0 k → O k ∨ k = b ∨ bo = some k := by
    rintro k (h6 | ⟨l, h6, h7⟩)
    · exact .inl h6
    · by_cases e1 : l = loc
      · subst e1; rw [hβ] at h7; exact .inr (.inl (by simpa using h7.symm))
      by_cases e2 : l = lor
      · subst e2; rw [hβr] at h7; exact .inr (.inr h7)
      · rw [hdead l e1 e2] at h6; simp [VB.live] at h6
  have hs0 : ∀ x u, RepS w (fun k => O k ∨ k = b ∨ bo = some k) x u → RepS w (Mine O (St.initW X loc lor rest).h β0) x u := fun x u hx => RepS.less hx hmine
  have hinit : Rel O B n (St.initW X loc lor rest) β0 { tmps := (.pointer (some ⟨b, 0, none⟩) :: us).toArray ++ Array.replicate (n - (Value.pointer (some ⟨b, 0, none⟩) :: us).toArray.size) undef, defers := [] } w := by
    refine ⟨⟨fun l => ?_, fun l l' k h6 h7 h8 h9 => ?_, fun l k h6 h7 => ?_, B.keeps_refl, fun k hk => hO k hk, fun l q hl _ => ?_⟩, rfl, ?_, fun t => ?_⟩
    · by_cases e1 : l = loc
      · subst e1
        unfold RepB
        rw [hview]
        refine ⟨by unfold WR.e; omega, fun x hx => ?_, .inr ⟨b, 0, cur, by rw [hβ], hblk, ?_, fun hr => by simp at hr⟩⟩
        · rw [List.mem_singleton.1 hx]; unfold WR.e; simp; omega
        · have e3 : [X.pre.map AC.s ++ .own lor 0 :: X.post.map AC.s].flatten = X.pre.map AC.s ++ .own lor 0 :: X.post.map AC.s := by simp
          have e4 : (X.pre.map AC.s ++ .own lor 0 :: X.post.map AC.s).length = X.pre.length + 1 + X.post.length := by simp; omega
          rw [e3, e4, hcur]
          refine (hpre.map AC.s (fun x u hx => hs0 x u hx)).append (.cons ?_ (hpost.map AC.s (fun x u hx => hs0 x u hx)))
          refine ⟨?_, Nat.le_refl _, fun _ => ?_⟩
          · rcases hxs with ⟨_, _, A, rfl⟩ | ⟨_, _, _, _, rfl, _⟩ <;> rfl
          · rw [hviewr]; intro _; rw [hβr]
      by_cases e2 : l = lor
      · subst e2
        unfold RepB
        rw [hviewr]
        refine ⟨hre, fun x hx => ?_, ?_⟩
        · obtain ⟨y, hy, rfl⟩ := List.mem_map.1 hx; rw [List.length_map]; exact hxe y hy
        · have e3 : (X.xs.map (List.map AC.s)).flatten = X.xs.flatten.map AC.s := by rw [← List.map_flatten]
          rcases hxs with ⟨h6, h7, A, h8⟩ | ⟨b2, cap, cur2, h6, h7, h8, h9, h10, h11, h12⟩
          · exact .inl ⟨rfl, by rw [h6]; rfl, by rw [hβr]; exact h7, A, by rw [hβr]; exact h8⟩
          · refine .inr ⟨b2, cap, cur2, by rw [hβr]; exact h6, h8, ?_, fun _ => ⟨by rw [hβr, List.length_map]; exact h7, by rw [List.length_map]; exact h10, h11, h12⟩⟩
            rw [e3, List.length_map]
            exact h9.map AC.s (fun x u hx => hs0 x u hx)
      · unfold RepB; rw [hdead l e1 e2]; trivial
    · have key : ∀ l1, ((St.initW X loc lor rest).h.view l1).live = true → (β0 l1).1 = some k → l1 = loc ∧ k = b ∨ l1 = lor ∧ bo = some k := by
        intro l1 q1 q2
        by_cases e1 : l1 = loc
        · subst e1; rw [hβ] at q2; exact .inl ⟨rfl, by simpa using q2.symm⟩
        by_cases e2 : l1 = lor
        · subst e2; rw [hβr] at q2; exact .inr ⟨rfl, q2⟩
        · rw [hdead l1 e1 e2] at q1; simp [VB.live] at q1
      rcases key l h6 h8 with ⟨rfl, q1⟩ | ⟨rfl, q1⟩ <;> rcases key l' h7 h9 with ⟨rfl, q2⟩ | ⟨rfl, q2⟩
      · rfl
      · exact (hbo (q1 ▸ q2)).elim
      · exact (hbo (q2 ▸ q1)).elim
      · rfl
    · rcases hmine k (.inr ⟨l, h6, h7⟩) with h8 | h8 | h8
      · by_cases e1 : l = loc
        · subst e1; rw [hβ] at h7
          obtain rfl : b = k := by simpa using h7
          exact fun ho => ho.2.1 rfl
        by_cases e2 : l = lor
        · subst e2; rw [hβr] at h7
          exact fun ho => ho.2.2 h7
        · rw [hdead l e1 e2] at h6; simp [VB.live] at h6
      · exact fun ho => ho.2.1 h8
      · exact fun ho => ho.2.2 h8
    · obtain ⟨rfl, rfl⟩ := hl
      exact hβ
    · have := hus.1
      simp; omega
    · have hR : RL (RepT (RepA (St.initW X loc lor rest).h β0 w (Mine O (St.initW X loc lor rest).h β0))) (TV.c (.ptr loc 0 0 0) :: rest.map TV.lift) (.pointer (some ⟨b, 0, none⟩) :: us) := by
        refine .cons ?_ (hus.map TV.lift fun x u hx => lift_ok (hx.mono fun x u hx => hs0 x u hx))
        refine ⟨rfl, Nat.le_refl _, fun _ => ?_⟩
        rw [hview]
        exact ⟨b, by rw [hβ], by simp⟩
      rw [initW_slot]
      cases hx : (TV.c (.ptr loc 0 0 0) :: rest.map TV.lift)[t]? with
      | none => trivial
      | some x =>
        obtain ⟨u, h6, h7⟩ := hR.get hx
        have h8 : ((.pointer (some ⟨b, 0, none⟩) :: us).toArray ++ Array.replicate (n - (Value.pointer (some ⟨b, 0, none⟩) :: us).toArray.size) undef).getD t undef = u := by
          obtain ⟨h9, h10⟩ := List.getElem?_eq_some_iff.1 h6
          rw [Array.getD_eq_getD_getElem?, Array.getElem?_append_left (by simpa using h9)]
          simp [h6]
        rw [h8]
        exact h7
  subst h3
  refine calls_of_wp h1 h2 (wpA_ok (O := O) (w0 := B) hm h4 (fun ex σ β a w' hq hr => ?_) hinit h)
  have key : finW rs X loc σ → bodyPost P fn (fun ex w' => ∃ v bo' sv', ex = .returned v ∧ RepT (RepS w' (fun k => O k ∨ k = b ∨ bo' = some k)) X.ret v ∧
    HoldW w' (fun k => O k ∨ k = b ∨ bo' = some k) X.ty X.pre' X.post' b sv' ∧ HoldR w' (fun k => O k ∨ k = b ∨ bo' = some k) X.rty X.re X.xs' bo' sv' ∧ Kept2 b bo bo' w w') .ret a w' := by
    intro hfin
    obtain ⟨vs', us', k1, k2, us2', k3, k4⟩ := outs_ok hr fn.results.toList rs [] [] h5 hfin .nil
    rw [List.nil_append] at k3
    subst k3
    split at k1
    case h_2 => exact k1.elim
    rename_i ys hys
    obtain ⟨k1, kg, kb⟩ := k1
    have hβl := hr.keep loc (b, undef) ⟨rfl, rfl⟩ kg
    unfold lbW at kb
    split at kb
    case h_2 => exact kb.elim
    rename_i ty e cs hk
    obtain ⟨rfl, rfl, r, gr, rfl, hrl, rfl, hbr⟩ := kb
    have hvl : σ.h.view loc = .mem false X.ty X.e [X.pre'.map AC.s ++ .own r (σ.h.gen r) :: X.post'.map AC.s] := by unfold Hp.view; rw [hk]; rfl
    have hvr : σ.h.view r = .mem true X.rty X.re (X.xs'.map (List.map AC.s)) := by unfold Hp.view; rw [hbr]; rfl
    have hm2 : ∀ k, O k ∨ k = b ∨ (β r).1 = some k → Mine O σ.h β k := by
      rintro k (h6 | rfl | h6)
      · exact .inl h6
      · exact .inr ⟨loc, by rw [hvl]; rfl, by rw [hβl]⟩
      · exact .inr ⟨r, by rw [hvr]; rfl, h6⟩
    have hBx := hr.blks loc
    unfold RepB at hBx
    rw [hvl] at hBx
    simp only at hBx
    obtain ⟨_, _, ⟨hB1, _⟩ | ⟨b1, cap1, cur', hB1, hBk, hRL, _⟩⟩ := hBx
    · simp at hB1
    rw [hβl] at hB1
    obtain rfl : b = b1 := by simpa using hB1
    have e3 : [X.pre'.map AC.s ++ .own r (σ.h.gen r) :: X.post'.map AC.s].flatten = X.pre'.map AC.s ++ .own r (σ.h.gen r) :: X.post'.map AC.s := by simp
    have e4 : (X.pre'.map AC.s ++ .own r (σ.h.gen r) :: X.post'.map AC.s).length = X.pre'.length + 1 + X.post'.length := by simp; omega
    rw [e3, e4] at hRL
    obtain ⟨us1', sv', us2', hus', hp1, hp2, hp3⟩ := rl_split hRL
    have hp22 := hp2.2.2 rfl
    rw [hvr] at hp22
    have hsv : sv' = (β r).2 := hp22 rfl
    have hQ := hr.blks r
    unfold RepB at hQ
    rw [hvr] at hQ
    simp only at hQ
    obtain ⟨hq0, hqe, hQ⟩ := hQ
    have hxl : (X.xs'.map (List.map AC.s)).length = X.xs'.length := by simp
    have hxf : (X.xs'.map (List.map AC.s)).flatten = X.xs'.flatten.map AC.s := by rw [← List.map_flatten]
    have k5 : RL (fun (p : Bool × List SC) u => (p.1 = true → ∃ ws : List Value, u = .agg ws.toArray ∧ RL (RepS w' (fun k => O k ∨ k = b ∨ (β r).1 = some k)) p.2 ws) ∧ (p.1 = false → ∃ x, p.2 = [x] ∧ RepS w' (fun k => O k ∨ k = b ∨ (β r).1 = some k) x u)) ys us' := k2.all hys (fun x y u hx hy hu => by
      simp only [Option.map_eq_some_iff] at hy
      obtain ⟨zs, k6, rfl⟩ := hy
      have hz := sOf_map k6
      refine ⟨fun e => ?_, fun e => ?_⟩
      · obtain ⟨ws, k7, k8⟩ := hu.1 e
        rw [hz] at k8
        exact ⟨ws, k7, (rl_unmap k8).mono (fun x u hx => RepS.less hx hm2)⟩
      · obtain ⟨x', k7, k8⟩ := hu.2 e
        rw [hz] at k7
        obtain ⟨z, rfl⟩ : ∃ z, zs = [z] := by
          cases zs with
          | nil => simp at k7
          | cons z zs => cases zs with
            | nil => exact ⟨z, rfl⟩
            | cons => simp at k7
        simp only [List.map_cons, List.map_nil, List.cons.injEq, and_true] at k7
        subst k7
        exact ⟨z, rfl, RepS.less k8 hm2⟩)
    refine ⟨hr.hd, _, run_results k4, _, (β r).1, sv', rfl, k1.rep (mkTV_rep k5.1 k5.2), ⟨cur', us1', us2', hBk, hus', (rl_unmap hp1).mono (fun x u hx => RepS.less hx hm2), (rl_unmap hp3).mono (fun x u hx => RepS.less hx hm2)⟩, ⟨hq0, fun x hx => by simpa using hqe (x.map AC.s) (List.mem_map_of_mem hx), ?_⟩, ⟨hr.below.size, hr.below.os, hr.below.tape, hr.below.output, fun k h6 h7 h8 => hr.below.block k ⟨h6, h7, h8⟩, fun k h6 => ⟨?_, ?_⟩⟩⟩
    · rcases hQ with ⟨_, h5, h7, A, h6⟩ | ⟨b2, cap, cur2, h5, h6, h7, h8⟩
      · exact .inl ⟨by simpa using h5, h7, A, by rw [hsv, h6]⟩
      · obtain ⟨m1, m2, m3, m4⟩ := h8 trivial
        rw [hxl] at m1 m2
        rw [hxf, List.length_map] at h7
        exact .inr ⟨b2, cap, cur2, h5, by rw [hsv, m1], h6, (rl_unmap h7).mono (fun x u hx => RepS.less hx hm2), m2, m3, m4⟩
    · have hnold := hr.base r k (by rw [hvr]; rfl) h6
      by_cases hlt : k < w.heap.size
      · have hkb : k ≠ b := fun e => hrl (hr.inj r loc k (by rw [hvr]; rfl) (by rw [hvl]; rfl) h6 (by rw [hβl, e]))
        left
        by_cases hq : bo = some k
        · exact hq
        · exact (hnold ⟨hlt, hkb, hq⟩).elim
      · right; omega
    · exact fun e => hrl (hr.inj r loc k (by rw [hvr]; rfl) (by rw [hvl]; rfl) h6 (by rw [hβl, e]))
  cases ex with
  | normal => exact key hq
  | ret => exact key hq
  | exit id => exact hq.elim
end
end Go.Proofs.YtcbfhpnmhhnjpaaGreat

namespace Go.Proofs.YtcbfhpnmhhnjpaaGreat
open Go.RowKit
def encWk (w : Wk) : List SC := [.sl 3 (w.f.ck.fr.map encFr), .pv (.int .i64 w.f.ck.hand), .sl 2 (w.f.tb.map encSl), .sl 3 (w.f.pg.map encPg), .sl 2 (w.f.dt.map encIt), .sl 1 (w.d.sectors.map encS), .sl 2 (w.d.cache.map encWr), .pv (.int .i64 w.now)]
def wkA (w : Wk) (r g : Nat) : List AC := [.s (.sl 3 (w.f.ck.fr.map encFr)), .s (.pv (.int .i64 w.f.ck.hand)), .s (.sl 2 (w.f.tb.map encSl)), .s (.sl 3 (w.f.pg.map encPg)), .s (.sl 2 (w.f.dt.map encIt)), .s (.sl 1 (w.d.sectors.map encS)), .s (.sl 2 (w.d.cache.map encWr)), .s (.pv (.int .i64 w.now)), .own r g]
abbrev tWk : Nat := 108
abbrev tJo : Nat := 122
def WK (w w' : Wk) (ret : TV SC) : WR := ⟨tWk, encWk w, [], tJo, 3, w.done.map encJo, encWk w', [], w'.done.map encJo, ret⟩
section
variable {w w' : Wk} {ret : TV SC} {rest : List (TV SC)}
theorem wk_slot {i : Nat} : (St.initW (WK w w' ret) 900 901 rest).slot i = match (TV.c (.ptr 900 0 0 0) :: rest.map TV.lift)[i]? with
    | some x => x
    | none => .no := rfl
theorem wk_gen {i : Nat} : (St.initW (WK w w' ret) 900 901 rest).h.gen i = 0 := rfl
theorem wk_box : (St.initW (WK w w' ret) 900 901 rest).h.blk 900 = .box tWk 9 [wkA w 901 0] := rfl
theorem wk_row : (St.initW (WK w w' ret) 900 901 rest).h.blk 901 = .row tJo 3 (w.done.map encJo) := rfl
theorem wk_fin {rs : List RA} {σ : St} : finW rs (WK w w' ret) 900 σ = outs σ rs [] fun vs => match all? (fun p : Bool × List AC => (all? sOf p.2).map fun ys => (p.1, ys)) vs with
    | some ys => tsim (mkTV ys) ret ∧ σ.h.gen 900 = 0 ∧ lbW σ.h (WK w w' ret) 900 (σ.h.blk 900)
    | none => False := rfl
theorem wk_lb {h : Hp} {cs : List AC} {r g : Nat} (hc : cs = wkA w' r g) (hr : r ≠ 900) (hg : g = h.gen r) (hb : h.blk r = .row tJo 3 (w'.done.map encJo)) : lbW h (WK w w' ret) 900 (.box tWk 9 [cs]) := by
  subst hc
  exact ⟨rfl, rfl, r, g, rfl, hr, hg, hb⟩
theorem askWK {P : Program} {f l g d : Nat} {bs : List (TV SC)} (r gr : Nat) {h : Hp} {xr : List (TV AC)} {us : List (TV SC)} {K : TV AC → List (Nat × Nat × LB) → Prop} (hs : SpecW P f (WK w w' ret) us) (ha : all? argS xr = some us)
    (hp : g = h.gen l ∧ gr = h.gen r ∧ r ≠ l ∧ h.blk l = .box tWk 9 [wkA w r gr] ∧ h.blk r = .row tJo 3 (w.done.map encJo)) (hk : K ret.lift [(r, gr + 1, .row tJo 3 (w'.done.map encJo)), (l, g, .box tWk 9 [wkA w' r (gr + 1)])]) : Ask P f bs h d (.c (.ptr l g 0 0) :: xr) K :=
  .inr (askW hs ha hp.1 hp.2.1 hp.2.2.1 hp.2.2.2.1 rfl rfl hp.2.2.2.2 rfl rfl hk)
end
def encFramed (x : Pg × Int × Bool) : TV SC := .tup [(true, encPg x.1), (false, [.pv (.int .i64 x.2.1)]), (false, [.pv (.bool x.2.2)])]
theorem framed_spec (w : Wk) (id : Int) (h : Rt w.f) : SpecW Tryz.prog 113 (WK w w (encFramed (Po.framed w id))) [rI id] := by
  refine spec_w mixed fn113 900 901 (by simp) rfl rfl (by simp) ?_
  unfold ac113
  simp -implicitDefEqProofs only [↓aP, aR, ↓reduceIte, reduceCtorEq, seval, wk_slot, wk_gen, wk_box, wk_row, wkA]
  have hff := rt_find h id
  refine ask (fFind_spec w.f id (rt_sh h)) ?_
  rw [hff]
  cases hf : (Ta.find w.f.tb id).2
  · simp -implicitDefEqProofs only [↓aP, aR, ↓reduceIte, reduceCtorEq, seval, wk_slot, wk_gen, wk_box, wk_row, wkA, encSlot, hf, wk_fin, sOf]
    exact ⟨.eq (by unfold Po.framed; rw [hff, hf]; rfl), wk_lb rfl (by decide) rfl rfl⟩
  · obtain ⟨k, hk, e1, e2, e3⟩ := rt_found h (id := id) (x := (Ta.find w.f.tb id).1) (by rw [← hf])
    have hc : k < w.f.ck.fr.length := by have := h.same; omega
    simp -implicitDefEqProofs only [↓aP, aR, ↓reduceIte, reduceCtorEq, seval, wk_slot, wk_gen, wk_box, wk_row, wkA, encSlot, hf, e1, askIdx_map, hk, hc, encPg, encFr, wk_fin, sOf]
    refine ⟨by decide +kernel, .eq ?_, wk_lb rfl (by decide) rfl rfl⟩
    unfold Po.framed
    rw [hff, hf, e1, if_neg (by simp)]
    show _ = encFramed (w.f.pg.getD k zP, (w.f.ck.fr.getD k zF).pins, true)
    rw [pg_getD hk, fr_getD hc]; rfl
theorem turn_spec (w : Wk) (x : Fs × Int) : SpecW Tryz.prog 114 (WK w (Po.turn w x) (rI x.2)) [.agg (encFs x.1), rI x.2] := by
  refine spec_w mixed fn114 900 901 (by simp) rfl rfl (by simp) ?_
  unfold ac114
  by_cases h0 : x.2 = 0
  · have e : Po.turn w x = ⟨x.1, w.d, w.now, w.done⟩ := if_pos h0
    simp -implicitDefEqProofs only [↓aP, aR, ↓reduceIte, reduceCtorEq, seval, wk_slot, wk_gen, wk_box, wk_row, wkA, encFs, h0, wk_fin, sOf]
    exact wk_lb (by rw [e]; rfl) (by decide) rfl (by rw [e]; rfl)
  · have e : Po.turn w x = w := if_neg h0
    have d0 : (x.2 == 0) = false := beq_eq_false_iff_ne.2 h0
    simp -implicitDefEqProofs only [↓aP, aR, ↓reduceIte, reduceCtorEq, seval, wk_slot, wk_gen, wk_box, wk_row, wkA, encFs, h0, d0, wk_fin, sOf]
    exact wk_lb (by rw [e]; rfl) (by decide) rfl (by rw [e]; rfl)
theorem set_spec (w : Wk) (p : Pg) (h1 : w.done.length ≤ 1000000) (h2 : (stepsS w.d p).length ≤ 1000000) : SpecW Tryz.prog 149 (WK w (Po.set w p) (.tup [])) [.agg (encPg p)] := by
  refine spec_w mixed fn149 900 901 (by simp) rfl rfl (by simp) ?_
  unfold ac149
  simp -implicitDefEqProofs only [↓aP, aR, ↓reduceIte, reduceCtorEq, seval, wk_slot, wk_gen, wk_box, wk_row, wkA, encPg]
  refine ask (ssteps_spec w.d p) ?_
  simp -implicitDefEqProofs only [↓aP, aR, ↓reduceIte, reduceCtorEq, seval, wk_slot, wk_gen, wk_box, wk_row, wkA, encPg, List.length_map]
  refine ⟨by omega, by omega, by decide +kernel, ?_⟩
  refine ask (sset_spec w.d p) ?_
  simp -implicitDefEqProofs only [↓aP, aR, ↓reduceIte, reduceCtorEq, seval, wk_slot, wk_gen, wk_box, wk_row, wkA, encPg, encSet, encDk, wk_fin, sOf]
  refine ⟨by decide +kernel, wk_lb rfl (by decide) rfl ?_⟩
  show LB.row tJo 3 (w.done.map encJo ++ (stepsS w.d p).map encJo) = _
  rw [← List.map_append]; rfl
theorem del_spec (w : Wk) (id : Int) (h1 : w.done.length ≤ 1000000) (h2 : (stepsS w.d ⟨id, 0, ⟨#[]⟩⟩).length ≤ 1000000) : SpecW Tryz.prog 122 (WK w (Po.del w id) (.tup [])) [rI id] := by
  refine spec_w mixed fn122 900 901 (by simp) rfl rfl (by simp) ?_
  unfold ac122
  simp -implicitDefEqProofs only [↓aP, aR, ↓reduceIte, reduceCtorEq, seval, wk_slot, wk_gen, wk_box, wk_row, wkA, encPg]
  refine ask (ssteps_spec w.d ⟨id, 0, ⟨#[]⟩⟩) ?_
  simp -implicitDefEqProofs only [↓aP, aR, ↓reduceIte, reduceCtorEq, seval, wk_slot, wk_gen, wk_box, wk_row, wkA, encPg, List.length_map]
  refine ⟨by omega, by omega, by decide +kernel, ?_⟩
  refine ask (sdel_spec w.d id) ?_
  simp -implicitDefEqProofs only [↓aP, aR, ↓reduceIte, reduceCtorEq, seval, wk_slot, wk_gen, wk_box, wk_row, wkA, encPg, encSet, encDk, wk_fin, sOf]
  refine wk_lb rfl (by decide) rfl ?_
  show LB.row tJo 3 (w.done.map encJo ++ (stepsS w.d ⟨id, 0, ⟨#[]⟩⟩).map encJo) = _
  rw [← List.map_append]; rfl
theorem pinned_spec (w : Wk) (id : Int) (h : Rt w.f) : SpecW Tryz.prog 118 (WK w w (.tup [(true, encPg (Po.pinned w id).1), (false, [.pv (.bool (Po.pinned w id).2)])])) [rI id] := by
  refine spec_w mixed fn118 900 901 (by simp) rfl rfl (by simp) ?_
  unfold ac118
  simp -implicitDefEqProofs only [↓aP, aR, ↓reduceIte, reduceCtorEq, seval, wk_slot, wk_gen, wk_box, wk_row]
  refine askWK 901 0 (framed_spec w id h) (by simp -implicitDefEqProofs only [↓aP, aR, ↓reduceIte, reduceCtorEq, seval, argS, sOf]) (by simp -implicitDefEqProofs only [↓aP, aR, ↓reduceIte, reduceCtorEq, seval, wk_slot, wk_gen, wk_box, wk_row]) ?_
  cases hf : (Po.framed w id).2.2
  · have e : Po.pinned w id = ((Po.framed w id).1, false) := by unfold Po.pinned; rw [hf]; rfl
    rw [e]
    simp -implicitDefEqProofs only [↓aP, aR, ↓reduceIte, reduceCtorEq, seval, wk_slot, wk_gen, wk_box, wk_row, encFramed, encPg, hf, wk_fin, sOf]
    exact wk_lb rfl (by decide) rfl rfl
  · have e : Po.pinned w id = ((Po.framed w id).1, decide (0 < (Po.framed w id).2.1)) := by unfold Po.pinned; rw [hf]; rfl
    rw [e]
    simp -implicitDefEqProofs only [↓aP, aR, ↓reduceIte, reduceCtorEq, seval, wk_slot, wk_gen, wk_box, wk_row, encFramed, encPg, hf, wk_fin, sOf]
    exact wk_lb rfl (by decide) rfl rfl
theorem back_spec (w : Wk) (p : Pg) (h : Rt w.f) (h1 : w.done.length ≤ 1000000) (h2 : (stepsS w.d p).length ≤ 1000000) : SpecW Tryz.prog 124 (WK w (Po.back w p) (.tup [])) [.agg (encPg p)] := by
  refine spec_w mixed fn124 900 901 (by simp) rfl rfl (by simp) ?_
  unfold ac124
  simp -implicitDefEqProofs only [↓aP, aR, ↓reduceIte, reduceCtorEq, seval, wk_slot, wk_gen, wk_box, wk_row, encPg]
  refine askWK 901 0 (set_spec w p h1 h2) (by simp -implicitDefEqProofs only [↓aP, aR, ↓reduceIte, reduceCtorEq, seval, argS, sOf, encPg]) (by simp -implicitDefEqProofs only [↓aP, aR, ↓reduceIte, reduceCtorEq, seval, wk_slot, wk_gen, wk_box, wk_row]) ?_
  simp -implicitDefEqProofs only [↓aP, aR, ↓reduceIte, reduceCtorEq, seval, wk_slot, wk_gen, wk_box, wk_row, wkA]
  refine ask (fclean_spec (Po.set w p).f p.id (rt_sh h)) ?_
  simp -implicitDefEqProofs only [↓aP, aR, ↓reduceIte, reduceCtorEq, seval, wk_slot, wk_gen, wk_box, wk_row, wkA, encF2, encFs]
  refine askWK 901 1 (turn_spec (Po.set w p) (Fm.clean (Po.set w p).f p.id)) (by simp -implicitDefEqProofs only [↓aP, aR, ↓reduceIte, reduceCtorEq, seval, argS, sOf, encFs]) (by simp -implicitDefEqProofs only [↓aP, aR, ↓reduceIte, reduceCtorEq, seval, wk_slot, wk_gen, wk_box, wk_row, wkA]) ?_
  simp -implicitDefEqProofs only [↓aP, aR, ↓reduceIte, reduceCtorEq, seval, wk_slot, wk_gen, wk_box, wk_row, wkA, wk_fin, sOf]
  exact ⟨by decide +kernel, wk_lb rfl (by decide) rfl rfl⟩
end Go.Proofs.YtcbfhpnmhhnjpaaGreat

namespace Go.Proofs.YtcbfhpnmhhnjpaaGreat
open Go.RowKit
theorem Gp.go {x : Wk} {D M : List Pg} {W : Int → Int} (h : Gp x D M W) (he : (Fm.room x.f).2.2.2 = 0) (hd : (Fm.room x.f).2.2.1 = true) : ∃ D', Gp (Po.back (Po.room1 x) (Fm.room x.f).2.1) D' M W ∧ (Po.back (Po.room1 x) (Fm.room x.f).2.1).f.dt.length + 1 = x.f.dt.length ∧
    (Po.back (Po.room1 x) (Fm.room x.f).2.1).done.length = x.done.length + 10 ∧ Rt (Po.room1 x).f ∧ (stepsS (Po.room1 x).d (Fm.room x.f).2.1).length = 10 ∧ (Po.room1 x).done = x.done := by
  cases ha : anyFree x.f
  · cases hp : allPin x.f
    · obtain ⟨k, hk, hc, hz, hpin, hw, hcase⟩ := room_c h.rt ha hp
      have hs := h.swept hw
      rcases hcase with ⟨_, e⟩ | ⟨hsi, e⟩
      · rw [e] at hd; cases hd
      · have hi : hasI x.f.dt x.f.pg[k].id := (since_iff h.dyr).1 hsi
        have e1 : Po.room1 x = ⟨⟨(sweepC x.f.ck).1, x.f.tb, x.f.pg, x.f.dt⟩, x.d, x.now, x.done⟩ := by unfold Po.room1 Po.turn; rw [e]; rfl
        have e2 : (Fm.room x.f).2.1 = x.f.pg[k] := by rw [e]
        rw [e1, e2]
        have hbe : (Po.back ⟨⟨(sweepC x.f.ck).1, x.f.tb, x.f.pg, x.f.dt⟩, x.d, x.now, x.done⟩ x.f.pg[k]).f = ⟨(sweepC x.f.ck).1, x.f.tb, x.f.pg, (cleanI x.f.dt x.f.pg[k].id).1⟩ ∧ (Po.back ⟨⟨(sweepC x.f.ck).1, x.f.tb, x.f.pg, x.f.dt⟩, x.d, x.now, x.done⟩ x.f.pg[k]).d = (setS x.d x.f.pg[k]).1 ∧ (Po.back ⟨⟨(sweepC x.f.ck).1, x.f.tb, x.f.pg, x.f.dt⟩, x.d, x.now, x.done⟩ x.f.pg[k]).now = x.now ∧ (Po.back ⟨⟨(sweepC x.f.ck).1, x.f.tb, x.f.pg, x.f.dt⟩, x.d, x.now, x.done⟩ x.f.pg[k]).done = x.done ++ stepsS x.d x.f.pg[k] := hs.back_eq (k := k) hk hz
        obtain ⟨b1, b2, b3, b4⟩ := hbe
        have hst : (stepsS x.d x.f.pg[k]).length = 10 := h.steps_len (okP_of (rt_at h.rt hk hz).2.1)
        refine ⟨_, hs.back (k := k) hk hz, ?_, ?_, hs.rt, hst, rfl⟩
        · rw [b1]; exact (clean_yes h.dyr hi).2
        · rw [b4, List.length_append, hst]
    · have e := room_busy h.rt ha hp
      rw [e] at hd; cases hd
  · have e := room_free h.rt ha
    rw [e] at hd; cases hd
theorem room_spec (w : Wk) {D M : List Pg} {W : Int → Int} (h : Gp w D M W) (hd : w.done.length ≤ 1000) : SpecW Tryz.prog 143 (WK w (Po.room (w.f.dt.length + 1) w).1 (rI (Po.room (w.f.dt.length + 1) w).2)) [] := by
  refine spec_w mixed fn143 900 901 (by simp) rfl rfl (by simp) ?_
  unfold ac143
  simp -implicitDefEqProofs only [↓aP, aR, ↓reduceIte, reduceCtorEq, seval, wk_slot, wk_gen, wk_box, wk_row]
  refine loopA (fun n σ => ∃ (x : Wk) (g : Nat), Po.room (w.f.dt.length + 1) w = Po.room (n + 1) x ∧ x.f.dt.length ≤ n ∧ (∃ D', Gp x D' M W) ∧ x.done.length + 10 * x.f.dt.length ≤ 2000 ∧ σ.slot 0 = .c (.ptr 900 0 0 0) ∧ σ.h.gen 900 = 0 ∧ σ.h.gen 901 = g ∧ σ.h.blk 900 = .box tWk 9 [wkA x 901 g] ∧ σ.h.blk 901 = .row tJo 3 (x.done.map encJo)) w.f.dt.length ?_ ?_
  · refine ⟨w, 0, rfl, Nat.le_refl _, ⟨D, h⟩, by have := h.dt_len; omega, ?_⟩
    simp -implicitDefEqProofs only [↓aP, aR, ↓reduceIte, reduceCtorEq, seval, wk_slot, wk_gen, wk_box, wk_row]
  rintro n σ ⟨x, g, hx1, hx2, ⟨D', hx3⟩, hx4, s0, g900, g901, b900, b901⟩
  simp -implicitDefEqProofs only [↓aP, aR, ↓reduceIte, reduceCtorEq, seval, s0, g900, g901, b900, b901, wkA]
  refine ask (froom_spec x.f (rt_sh hx3.rt)) ?_
  have et : Po.room1 x = Po.turn x ((Fm.room x.f).1, (Fm.room x.f).2.2.2) := rfl
  have ht := turn_spec x ((Fm.room x.f).1, (Fm.room x.f).2.2.2)
  rw [← et] at ht
  simp -implicitDefEqProofs only [↓aP, aR, ↓reduceIte, reduceCtorEq, seval, s0, g900, g901, b900, b901, wkA, encRoom, encFs, encPg]
  refine askWK 901 g ht (by simp -implicitDefEqProofs only [↓aP, aR, ↓reduceIte, reduceCtorEq, seval, argS, sOf, encFs]) (by simp -implicitDefEqProofs only [↓aP, aR, ↓reduceIte, reduceCtorEq, seval, s0, g900, g901, b900, b901, wkA]) ?_
  by_cases he : (Fm.room x.f).2.2.2 = 0
  · cases hdi : (Fm.room x.f).2.2.1
    · have er : Po.room (n + 1) x = (Po.room1 x, (Fm.room x.f).2.2.2) := if_pos (.inr hdi)
      simp -implicitDefEqProofs only [↓aP, aR, ↓reduceIte, reduceCtorEq, seval, s0, g900, g901, b900, b901, wkA, he, hdi, wk_fin, sOf]
      rw [hx1, er]
      exact ⟨he.symm, wk_lb rfl (by decide) rfl rfl⟩
    · have er : Po.room (n + 1) x = Po.room n (Po.back (Po.room1 x) (Fm.room x.f).2.1) := if_neg (by rw [he, hdi]; simp)
      obtain ⟨D2, g1, g2, g3, g4, g5, g6⟩ := hx3.go he hdi
      simp -implicitDefEqProofs only [↓aP, aR, ↓reduceIte, reduceCtorEq, seval, s0, g900, g901, b900, b901, wkA, he, hdi]
      refine askWK 901 (g + 1) (back_spec (Po.room1 x) (Fm.room x.f).2.1 g4 (by rw [g6]; omega) (by omega)) (by simp -implicitDefEqProofs only [↓aP, aR, ↓reduceIte, reduceCtorEq, seval, argS, sOf, encPg]) (by simp -implicitDefEqProofs only [↓aP, aR, ↓reduceIte, reduceCtorEq, seval, s0, g900, g901, b900, b901, wkA]) ?_
      simp -implicitDefEqProofs only [↓aP, aR, ↓reduceIte, reduceCtorEq, seval, s0, g900, g901, b900, b901, wkA]
      refine ⟨n - 1, by omega, Po.back (Po.room1 x) (Fm.room x.f).2.1, g + 1 + 1, ?_, by omega, ⟨D2, g1⟩, by omega, ?_⟩
      · rw [hx1, er, show n - 1 + 1 = n by omega]
      · simp -implicitDefEqProofs only [↓aP, aR, ↓reduceIte, reduceCtorEq, seval, s0, g900, g901, b900, b901, wkA]
  · have er : Po.room (n + 1) x = (Po.room1 x, (Fm.room x.f).2.2.2) := if_pos (.inl he)
    have d0 : ((Fm.room x.f).2.2.2 != 0) = true := by simp [he]
    simp -implicitDefEqProofs only [↓aP, aR, ↓reduceIte, reduceCtorEq, seval, s0, g900, g901, b900, b901, wkA, he, d0, wk_fin, sOf]
    rw [hx1, er]
    exact ⟨rfl, wk_lb rfl (by decide) rfl rfl⟩
end Go.Proofs.YtcbfhpnmhhnjpaaGreat

namespace Go.Proofs.YtcbfhpnmhhnjpaaGreat
open Go.RowKit
theorem turn_ne {w : Wk} {x : Fs × Int} (h : x.2 ≠ 0) : Po.turn w x = w := if_neg h
def encPE (x : Wk × Pg × Int) : TV SC := .tup [(true, encPg x.2.1), (false, [.pv (.int .i64 x.2.2)])]
section
variable {D M : List Pg} {W : Int → Int}
theorem load_spec (w : Wk) (h : Gp w D M W) (hd : w.done.length ≤ 1000) (p : Pg) (fresh : Bool) : SpecW Tryz.prog 117 (WK w (Po.load w p fresh).1 (encPE (Po.load w p fresh))) [.agg (encPg p), rB fresh] := by
  refine spec_w mixed fn117 900 901 (by simp) rfl rfl (by simp) ?_
  unfold ac117
  simp -implicitDefEqProofs only [↓aP, aR, ↓reduceIte, reduceCtorEq, seval, wk_slot, wk_gen, wk_box, wk_row, encPg]
  have hs := room_spec w h hd
  obtain ⟨D', g, _⟩ := Gp.room (w.f.dt.length + 1) h (by omega)
  obtain ⟨w1, e1, hr⟩ : ∃ a b, Po.room (w.f.dt.length + 1) w = (a, b) := ⟨_, _, rfl⟩
  rw [hr] at hs g
  refine askWK 901 0 hs (by simp -implicitDefEqProofs only [↓aP, aR, ↓reduceIte, reduceCtorEq, seval, argS, sOf]) (by simp -implicitDefEqProofs only [↓aP, aR, ↓reduceIte, reduceCtorEq, seval, wk_slot, wk_gen, wk_box, wk_row]) ?_
  by_cases h0 : e1 = 0
  · have e : Po.load w p fresh = Po.load1 w1 p fresh := by unfold Po.load; rw [hr, if_neg (by simp [h0])]
    simp -implicitDefEqProofs only [↓aP, aR, ↓reduceIte, reduceCtorEq, seval, wk_slot, wk_gen, wk_box, wk_row, wkA, h0]
    refine ask (fload_spec w1.f p w1.now fresh (rt_sh g.rt)) ?_
    simp -implicitDefEqProofs only [↓aP, aR, ↓reduceIte, reduceCtorEq, seval, wk_slot, wk_gen, wk_box, wk_row, wkA, encFs]
    refine askWK 901 1 (turn_spec w1 (Fm.load w1.f p w1.now fresh)) (by simp -implicitDefEqProofs only [↓aP, aR, ↓reduceIte, reduceCtorEq, seval, argS, sOf, encFs]) (by simp -implicitDefEqProofs only [↓aP, aR, ↓reduceIte, reduceCtorEq, seval, wk_slot, wk_gen, wk_box, wk_row, wkA]) ?_
    by_cases hx : (Fm.load w1.f p w1.now fresh).2 = 0
    · have e2 : Po.load1 w1 p fresh = (Po.turn w1 (Fm.load w1.f p w1.now fresh), p, 0) := if_neg (by simp [hx])
      rw [e, e2]
      simp -implicitDefEqProofs only [↓aP, aR, ↓reduceIte, reduceCtorEq, seval, wk_slot, wk_gen, wk_box, wk_row, wkA, hx, encPE, encPg, wk_fin, sOf]
      (first | exact wk_lb rfl (by decide) rfl rfl | exact ⟨by decide +kernel, wk_lb rfl (by decide) rfl rfl⟩ | exact ⟨rfl, wk_lb rfl (by decide) rfl rfl⟩ | exact ⟨.eq rfl, wk_lb rfl (by decide) rfl rfl⟩ | exact ⟨by decide +kernel, .eq rfl, wk_lb rfl (by decide) rfl rfl⟩)
    · have e2 : Po.load1 w1 p fresh = (w1, zP, (Fm.load w1.f p w1.now fresh).2) := if_pos hx
      have d0 : ((Fm.load w1.f p w1.now fresh).2 != 0) = true := by simp [hx]
      rw [e, e2, turn_ne hx]
      simp -implicitDefEqProofs only [↓aP, aR, ↓reduceIte, reduceCtorEq, seval, wk_slot, wk_gen, wk_box, wk_row, wkA, hx, d0, encPE, encPg, zP, wk_fin, sOf]
      (first | exact wk_lb rfl (by decide) rfl rfl | exact ⟨by decide +kernel, wk_lb rfl (by decide) rfl rfl⟩ | exact ⟨rfl, wk_lb rfl (by decide) rfl rfl⟩ | exact ⟨.eq rfl, wk_lb rfl (by decide) rfl rfl⟩ | exact ⟨by decide +kernel, .eq rfl, wk_lb rfl (by decide) rfl rfl⟩)
  · have e : Po.load w p fresh = (w1, zP, e1) := by unfold Po.load; rw [hr, if_pos h0]
    have d0 : (e1 != 0) = true := by simp [h0]
    rw [e]
    simp -implicitDefEqProofs only [↓aP, aR, ↓reduceIte, reduceCtorEq, seval, wk_slot, wk_gen, wk_box, wk_row, wkA, h0, d0, encPE, encPg, zP, wk_fin, sOf]
    (first | exact wk_lb rfl (by decide) rfl rfl | exact ⟨by decide +kernel, wk_lb rfl (by decide) rfl rfl⟩ | exact ⟨rfl, wk_lb rfl (by decide) rfl rfl⟩ | exact ⟨.eq rfl, wk_lb rfl (by decide) rfl rfl⟩ | exact ⟨by decide +kernel, .eq rfl, wk_lb rfl (by decide) rfl rfl⟩)
theorem pread_spec (w : Wk) (id : Int) (h : Rt w.f) : SpecW Tryz.prog 75 (WK w (Po.read w id).1 (encPE (Po.read w id))) [rI id] := by
  refine spec_w mixed fn75 900 901 (by simp) rfl rfl (by simp) ?_
  unfold ac75
  simp -implicitDefEqProofs only [↓aP, aR, ↓reduceIte, reduceCtorEq, seval, wk_slot, wk_gen, wk_box, wk_row]
  refine askWK 901 0 (pinned_spec w id h) (by simp -implicitDefEqProofs only [↓aP, aR, ↓reduceIte, reduceCtorEq, seval, argS, sOf]) (by simp -implicitDefEqProofs only [↓aP, aR, ↓reduceIte, reduceCtorEq, seval, wk_slot, wk_gen, wk_box, wk_row]) ?_
  cases hp : (Po.pinned w id).2
  · have e : Po.read w id = (w, zP, 12) := if_pos hp
    rw [e]
    simp -implicitDefEqProofs only [↓aP, aR, ↓reduceIte, reduceCtorEq, seval, wk_slot, wk_gen, wk_box, wk_row, wkA, hp, encPE, encPg, zP, wk_fin, sOf]
    (first | exact wk_lb rfl (by decide) rfl rfl | exact ⟨by decide +kernel, wk_lb rfl (by decide) rfl rfl⟩ | exact ⟨rfl, wk_lb rfl (by decide) rfl rfl⟩ | exact ⟨.eq rfl, wk_lb rfl (by decide) rfl rfl⟩ | exact ⟨by decide +kernel, .eq rfl, wk_lb rfl (by decide) rfl rfl⟩)
  · have e : Po.read w id = (w, (Po.pinned w id).1, 0) := if_neg (by simp [hp])
    rw [e]
    simp -implicitDefEqProofs only [↓aP, aR, ↓reduceIte, reduceCtorEq, seval, wk_slot, wk_gen, wk_box, wk_row, wkA, hp, encPE, encPg, wk_fin, sOf]
    (first | exact wk_lb rfl (by decide) rfl rfl | exact ⟨by decide +kernel, wk_lb rfl (by decide) rfl rfl⟩ | exact ⟨rfl, wk_lb rfl (by decide) rfl rfl⟩ | exact ⟨.eq rfl, wk_lb rfl (by decide) rfl rfl⟩ | exact ⟨by decide +kernel, .eq rfl, wk_lb rfl (by decide) rfl rfl⟩)
theorem pwrite_spec (w : Wk) (id : Int) (b : ByteArray) (h : Rt w.f) (hw : (Po.pinned w id).2 = true → Rt (Po.turn w (Fm.write w.f id b w.now)).f) : SpecW Tryz.prog 76 (WK w (Po.write w id b).1 (encPE (Po.write w id b))) [rI id, rS b] := by
  refine spec_w mixed fn76 900 901 (by simp) rfl rfl (by simp) ?_
  unfold ac76
  simp -implicitDefEqProofs only [↓aP, aR, ↓reduceIte, reduceCtorEq, seval, wk_slot, wk_gen, wk_box, wk_row]
  refine askWK 901 0 (pinned_spec w id h) (by simp -implicitDefEqProofs only [↓aP, aR, ↓reduceIte, reduceCtorEq, seval, argS, sOf]) (by simp -implicitDefEqProofs only [↓aP, aR, ↓reduceIte, reduceCtorEq, seval, wk_slot, wk_gen, wk_box, wk_row]) ?_
  cases hp : (Po.pinned w id).2
  · have e : Po.write w id b = (w, zP, 12) := if_pos hp
    rw [e]
    simp -implicitDefEqProofs only [↓aP, aR, ↓reduceIte, reduceCtorEq, seval, wk_slot, wk_gen, wk_box, wk_row, wkA, hp, encPE, encPg, zP, wk_fin, sOf]
    (first | exact wk_lb rfl (by decide) rfl rfl | exact ⟨by decide +kernel, wk_lb rfl (by decide) rfl rfl⟩ | exact ⟨rfl, wk_lb rfl (by decide) rfl rfl⟩ | exact ⟨.eq rfl, wk_lb rfl (by decide) rfl rfl⟩ | exact ⟨by decide +kernel, .eq rfl, wk_lb rfl (by decide) rfl rfl⟩)
  · simp -implicitDefEqProofs only [↓aP, aR, ↓reduceIte, reduceCtorEq, seval, wk_slot, wk_gen, wk_box, wk_row, wkA, hp, encPg]
    refine ask (fwrite_spec w.f id b w.now (rt_sh h)) ?_
    simp -implicitDefEqProofs only [↓aP, aR, ↓reduceIte, reduceCtorEq, seval, wk_slot, wk_gen, wk_box, wk_row, wkA, encF2, encFs]
    refine askWK 901 1 (turn_spec w (Fm.write w.f id b w.now)) (by simp -implicitDefEqProofs only [↓aP, aR, ↓reduceIte, reduceCtorEq, seval, argS, sOf, encFs]) (by simp -implicitDefEqProofs only [↓aP, aR, ↓reduceIte, reduceCtorEq, seval, wk_slot, wk_gen, wk_box, wk_row, wkA]) ?_
    by_cases hx : (Fm.write w.f id b w.now).2 = 0
    · have e : Po.write w id b = Po.read (Po.turn w (Fm.write w.f id b w.now)) id := by unfold Po.write; rw [if_neg (by simp [hp]), if_neg (by simp [hx])]
      rw [e]
      simp -implicitDefEqProofs only [↓aP, aR, ↓reduceIte, reduceCtorEq, seval, wk_slot, wk_gen, wk_box, wk_row, wkA, hx, encPg]
      (try with_reducible refine And.intro (by decide +kernel) ?_)
      refine askWK 901 2 (pread_spec (Po.turn w (Fm.write w.f id b w.now)) id (hw hp)) (by simp -implicitDefEqProofs only [↓aP, aR, ↓reduceIte, reduceCtorEq, seval, argS, sOf, encFs]) (by simp -implicitDefEqProofs only [↓aP, aR, ↓reduceIte, reduceCtorEq, seval, wk_slot, wk_gen, wk_box, wk_row, wkA]) ?_
      simp -implicitDefEqProofs only [↓aP, aR, ↓reduceIte, reduceCtorEq, seval, wk_slot, wk_gen, wk_box, wk_row, wkA, hx, encPE, encPg, wk_fin, sOf]
      (first | exact wk_lb rfl (by decide) rfl rfl | exact ⟨by decide +kernel, wk_lb rfl (by decide) rfl rfl⟩ | exact ⟨rfl, wk_lb rfl (by decide) rfl rfl⟩ | exact ⟨.eq rfl, wk_lb rfl (by decide) rfl rfl⟩ | exact ⟨by decide +kernel, .eq rfl, wk_lb rfl (by decide) rfl rfl⟩)
    · have e : Po.write w id b = (w, zP, (Fm.write w.f id b w.now).2) := by unfold Po.write; rw [if_neg (by simp [hp]), if_pos hx]
      have d0 : ((Fm.write w.f id b w.now).2 != 0) = true := by simp [hx]
      rw [e, turn_ne hx]
      simp -implicitDefEqProofs only [↓aP, aR, ↓reduceIte, reduceCtorEq, seval, wk_slot, wk_gen, wk_box, wk_row, wkA, hx, d0, encPE, encPg, zP, wk_fin, sOf]
      (first | exact wk_lb rfl (by decide) rfl rfl | exact ⟨by decide +kernel, wk_lb rfl (by decide) rfl rfl⟩ | exact ⟨rfl, wk_lb rfl (by decide) rfl rfl⟩ | exact ⟨.eq rfl, wk_lb rfl (by decide) rfl rfl⟩ | exact ⟨by decide +kernel, .eq rfl, wk_lb rfl (by decide) rfl rfl⟩)
theorem unpin_spec (w : Wk) (id : Int) (h : Rt w.f) : SpecW Tryz.prog 77 (WK w (Po.unpin w id).1 (rI (Po.unpin w id).2)) [rI id] := by
  refine spec_w mixed fn77 900 901 (by simp) rfl rfl (by simp) ?_
  unfold ac77
  simp -implicitDefEqProofs only [↓aP, aR, ↓reduceIte, reduceCtorEq, seval, wk_slot, wk_gen, wk_box, wk_row]
  refine askWK 901 0 (pinned_spec w id h) (by simp -implicitDefEqProofs only [↓aP, aR, ↓reduceIte, reduceCtorEq, seval, argS, sOf]) (by simp -implicitDefEqProofs only [↓aP, aR, ↓reduceIte, reduceCtorEq, seval, wk_slot, wk_gen, wk_box, wk_row]) ?_
  cases hp : (Po.pinned w id).2
  · have e : Po.unpin w id = (w, 12) := if_pos hp
    rw [e]
    simp -implicitDefEqProofs only [↓aP, aR, ↓reduceIte, reduceCtorEq, seval, wk_slot, wk_gen, wk_box, wk_row, wkA, hp, encPg, wk_fin, sOf]
    (first | exact wk_lb rfl (by decide) rfl rfl | exact ⟨by decide +kernel, wk_lb rfl (by decide) rfl rfl⟩ | exact ⟨rfl, wk_lb rfl (by decide) rfl rfl⟩ | exact ⟨.eq rfl, wk_lb rfl (by decide) rfl rfl⟩ | exact ⟨by decide +kernel, .eq rfl, wk_lb rfl (by decide) rfl rfl⟩)
  · have e : Po.unpin w id = (Po.turn w (Fm.unpin w.f id), (Fm.unpin w.f id).2) := if_neg (by simp [hp])
    rw [e]
    simp -implicitDefEqProofs only [↓aP, aR, ↓reduceIte, reduceCtorEq, seval, wk_slot, wk_gen, wk_box, wk_row, wkA, hp, encPg]
    refine ask (funpin_spec w.f id (rt_sh h)) ?_
    simp -implicitDefEqProofs only [↓aP, aR, ↓reduceIte, reduceCtorEq, seval, wk_slot, wk_gen, wk_box, wk_row, wkA, encF2, encFs]
    refine askWK 901 1 (turn_spec w (Fm.unpin w.f id)) (by simp -implicitDefEqProofs only [↓aP, aR, ↓reduceIte, reduceCtorEq, seval, argS, sOf, encFs]) (by simp -implicitDefEqProofs only [↓aP, aR, ↓reduceIte, reduceCtorEq, seval, wk_slot, wk_gen, wk_box, wk_row, wkA]) ?_
    simp -implicitDefEqProofs only [↓aP, aR, ↓reduceIte, reduceCtorEq, seval, wk_slot, wk_gen, wk_box, wk_row, wkA, wk_fin, sOf]
    (first | exact wk_lb rfl (by decide) rfl rfl | exact ⟨by decide +kernel, wk_lb rfl (by decide) rfl rfl⟩ | exact ⟨rfl, wk_lb rfl (by decide) rfl rfl⟩ | exact ⟨.eq rfl, wk_lb rfl (by decide) rfl rfl⟩ | exact ⟨by decide +kernel, .eq rfl, wk_lb rfl (by decide) rfl rfl⟩)
end
end Go.Proofs.YtcbfhpnmhhnjpaaGreat

namespace Go.Proofs.YtcbfhpnmhhnjpaaGreat
open Go.RowKit
section
variable {D M : List Pg} {W : Int → Int}
theorem fetch_spec (w : Wk) (h : Gp w D M W) (hd : w.done.length ≤ 1000) (id : Int) : SpecW Tryz.prog 73 (WK w (Po.fetch w id).1 (encPE (Po.fetch w id))) [rI id] := by
  refine spec_w mixed fn73 900 901 (by simp) rfl rfl (by simp) ?_
  unfold ac73
  simp -implicitDefEqProofs only [↓aP, aR, ↓reduceIte, reduceCtorEq, seval, wk_slot, wk_gen, wk_box, wk_row]
  refine askWK 901 0 (framed_spec w id h.rt) (by simp -implicitDefEqProofs only [↓aP, aR, ↓reduceIte, reduceCtorEq, seval, argS, sOf]) (by simp -implicitDefEqProofs only [↓aP, aR, ↓reduceIte, reduceCtorEq, seval, wk_slot, wk_gen, wk_box, wk_row]) ?_
  cases hf : (Po.framed w id).2.2
  · simp -implicitDefEqProofs only [↓aP, aR, ↓reduceIte, reduceCtorEq, seval, wk_slot, wk_gen, wk_box, wk_row, wkA, encFramed, hf, encPg]
    refine ask (sget_spec w.d id) ?_
    by_cases hg : (getS w.d id).2 = 0
    · have e : Po.fetch w id = Po.load w (getS w.d id).1 false := by unfold Po.fetch; rw [if_neg (by simp [hf]), if_neg (by simp [hg])]
      rw [e]
      simp -implicitDefEqProofs only [↓aP, aR, ↓reduceIte, reduceCtorEq, seval, wk_slot, wk_gen, wk_box, wk_row, wkA, encGet, encDk, hg, encPg]
      refine askWK 901 1 (load_spec w h hd (getS w.d id).1 false) (by simp -implicitDefEqProofs only [↓aP, aR, ↓reduceIte, reduceCtorEq, seval, argS, sOf, encPg]) (by simp -implicitDefEqProofs only [↓aP, aR, ↓reduceIte, reduceCtorEq, seval, wk_slot, wk_gen, wk_box, wk_row, wkA]) ?_
      simp -implicitDefEqProofs only [↓aP, aR, ↓reduceIte, reduceCtorEq, seval, wk_slot, wk_gen, wk_box, wk_row, wkA, encPE, encPg, wk_fin, sOf]
      (first | exact wk_lb rfl (by decide) rfl rfl | exact ⟨by decide +kernel, wk_lb rfl (by decide) rfl rfl⟩ | exact ⟨rfl, wk_lb rfl (by decide) rfl rfl⟩ | exact ⟨.eq rfl, wk_lb rfl (by decide) rfl rfl⟩ | exact ⟨by decide +kernel, .eq rfl, wk_lb rfl (by decide) rfl rfl⟩)
    · have e : Po.fetch w id = (w, zP, (getS w.d id).2) := by unfold Po.fetch; rw [if_neg (by simp [hf]), if_pos hg]
      have d0 : ((getS w.d id).2 != 0) = true := by simp [hg]
      rw [e]
      simp -implicitDefEqProofs only [↓aP, aR, ↓reduceIte, reduceCtorEq, seval, wk_slot, wk_gen, wk_box, wk_row, wkA, encGet, encDk, hg, d0, encPE, encPg, zP, wk_fin, sOf]
      (first | exact wk_lb rfl (by decide) rfl rfl | exact ⟨by decide +kernel, wk_lb rfl (by decide) rfl rfl⟩ | exact ⟨rfl, wk_lb rfl (by decide) rfl rfl⟩ | exact ⟨.eq rfl, wk_lb rfl (by decide) rfl rfl⟩ | exact ⟨by decide +kernel, .eq rfl, wk_lb rfl (by decide) rfl rfl⟩)
  · simp -implicitDefEqProofs only [↓aP, aR, ↓reduceIte, reduceCtorEq, seval, wk_slot, wk_gen, wk_box, wk_row, wkA, encFramed, hf, encPg]
    refine ask (fpin_spec w.f id (rt_sh h.rt)) ?_
    simp -implicitDefEqProofs only [↓aP, aR, ↓reduceIte, reduceCtorEq, seval, wk_slot, wk_gen, wk_box, wk_row, wkA, encF2, encFs]
    refine askWK 901 1 (turn_spec w (Fm.pin w.f id)) (by simp -implicitDefEqProofs only [↓aP, aR, ↓reduceIte, reduceCtorEq, seval, argS, sOf, encFs]) (by simp -implicitDefEqProofs only [↓aP, aR, ↓reduceIte, reduceCtorEq, seval, wk_slot, wk_gen, wk_box, wk_row, wkA]) ?_
    by_cases hx : (Fm.pin w.f id).2 = 0
    · have e : Po.fetch w id = (Po.turn w (Fm.pin w.f id), (Po.framed w id).1, 0) := by unfold Po.fetch; rw [if_pos hf, if_neg (by simp [hx])]
      rw [e]
      simp -implicitDefEqProofs only [↓aP, aR, ↓reduceIte, reduceCtorEq, seval, wk_slot, wk_gen, wk_box, wk_row, wkA, hx, encPE, encPg, wk_fin, sOf]
      (first | exact wk_lb rfl (by decide) rfl rfl | exact ⟨by decide +kernel, wk_lb rfl (by decide) rfl rfl⟩ | exact ⟨rfl, wk_lb rfl (by decide) rfl rfl⟩ | exact ⟨.eq rfl, wk_lb rfl (by decide) rfl rfl⟩ | exact ⟨by decide +kernel, .eq rfl, wk_lb rfl (by decide) rfl rfl⟩)
    · have e : Po.fetch w id = (w, zP, (Fm.pin w.f id).2) := by unfold Po.fetch; rw [if_pos hf, if_pos hx]
      have d0 : ((Fm.pin w.f id).2 != 0) = true := by simp [hx]
      rw [e, turn_ne hx]
      simp -implicitDefEqProofs only [↓aP, aR, ↓reduceIte, reduceCtorEq, seval, wk_slot, wk_gen, wk_box, wk_row, wkA, hx, d0, encPE, encPg, zP, wk_fin, sOf]
      (first | exact wk_lb rfl (by decide) rfl rfl | exact ⟨by decide +kernel, wk_lb rfl (by decide) rfl rfl⟩ | exact ⟨rfl, wk_lb rfl (by decide) rfl rfl⟩ | exact ⟨.eq rfl, wk_lb rfl (by decide) rfl rfl⟩ | exact ⟨by decide +kernel, .eq rfl, wk_lb rfl (by decide) rfl rfl⟩)
theorem create_spec (w : Wk) (h : Gp w D M W) (hd : w.done.length ≤ 1000) (id : Int) : SpecW Tryz.prog 74 (WK w (Po.create w id).1 (encPE (Po.create w id))) [rI id] := by
  refine spec_w mixed fn74 900 901 (by simp) rfl rfl (by simp) ?_
  unfold ac74
  simp -implicitDefEqProofs only [↓aP, aR, ↓reduceIte, reduceCtorEq, seval, wk_slot, wk_gen, wk_box, wk_row]
  refine askWK 901 0 (framed_spec w id h.rt) (by simp -implicitDefEqProofs only [↓aP, aR, ↓reduceIte, reduceCtorEq, seval, argS, sOf]) (by simp -implicitDefEqProofs only [↓aP, aR, ↓reduceIte, reduceCtorEq, seval, wk_slot, wk_gen, wk_box, wk_row]) ?_
  cases hf : (Po.framed w id).2.2
  · simp -implicitDefEqProofs only [↓aP, aR, ↓reduceIte, reduceCtorEq, seval, wk_slot, wk_gen, wk_box, wk_row, wkA, encFramed, hf, encPg]
    refine ask (sget_spec w.d id) ?_
    by_cases hg : (getS w.d id).2 = 0
    · have e : Po.create w id = (w, zP, 4) := by unfold Po.create; rw [if_neg (by simp [hf]), if_pos hg]
      rw [e]
      simp -implicitDefEqProofs only [↓aP, aR, ↓reduceIte, reduceCtorEq, seval, wk_slot, wk_gen, wk_box, wk_row, wkA, encGet, encDk, hg, encPE, encPg, zP, wk_fin, sOf]
      (first | exact wk_lb rfl (by decide) rfl rfl | exact ⟨by decide +kernel, wk_lb rfl (by decide) rfl rfl⟩ | exact ⟨rfl, wk_lb rfl (by decide) rfl rfl⟩ | exact ⟨.eq rfl, wk_lb rfl (by decide) rfl rfl⟩ | exact ⟨by decide +kernel, .eq rfl, wk_lb rfl (by decide) rfl rfl⟩)
    have d0 : ((getS w.d id).2 == 0) = false := beq_eq_false_iff_ne.2 hg
    by_cases hg3 : (getS w.d id).2 = 3
    · have e : Po.create w id = Po.load w ⟨id, 1, ⟨#[]⟩⟩ true := by unfold Po.create; rw [if_neg (by simp [hf]), if_neg hg, if_pos hg3]
      rw [e]
      simp -implicitDefEqProofs only [↓aP, aR, ↓reduceIte, reduceCtorEq, seval, wk_slot, wk_gen, wk_box, wk_row, wkA, encGet, encDk, hg3, encPg]
      refine askWK 901 1 (load_spec w h hd ⟨id, 1, ⟨#[]⟩⟩ true) (by simp -implicitDefEqProofs only [↓aP, aR, ↓reduceIte, reduceCtorEq, seval, argS, sOf, encPg]) (by simp -implicitDefEqProofs only [↓aP, aR, ↓reduceIte, reduceCtorEq, seval, wk_slot, wk_gen, wk_box, wk_row, wkA]) ?_
      simp -implicitDefEqProofs only [↓aP, aR, ↓reduceIte, reduceCtorEq, seval, wk_slot, wk_gen, wk_box, wk_row, wkA, encPE, encPg, wk_fin, sOf]
      (first | exact wk_lb rfl (by decide) rfl rfl | exact ⟨by decide +kernel, wk_lb rfl (by decide) rfl rfl⟩ | exact ⟨rfl, wk_lb rfl (by decide) rfl rfl⟩ | exact ⟨.eq rfl, wk_lb rfl (by decide) rfl rfl⟩ | exact ⟨by decide +kernel, .eq rfl, wk_lb rfl (by decide) rfl rfl⟩)
    · have e : Po.create w id = (w, zP, (getS w.d id).2) := by unfold Po.create; rw [if_neg (by simp [hf]), if_neg hg, if_neg hg3]
      have d3 : ((getS w.d id).2 == 3) = false := beq_eq_false_iff_ne.2 hg3
      rw [e]
      simp -implicitDefEqProofs only [↓aP, aR, ↓reduceIte, reduceCtorEq, seval, wk_slot, wk_gen, wk_box, wk_row, wkA, encGet, encDk, hg, hg3, d0, d3, encPE, encPg, zP, wk_fin, sOf]
      (first | exact wk_lb rfl (by decide) rfl rfl | exact ⟨by decide +kernel, wk_lb rfl (by decide) rfl rfl⟩ | exact ⟨rfl, wk_lb rfl (by decide) rfl rfl⟩ | exact ⟨.eq rfl, wk_lb rfl (by decide) rfl rfl⟩ | exact ⟨by decide +kernel, .eq rfl, wk_lb rfl (by decide) rfl rfl⟩)
  · have e : Po.create w id = (w, zP, 4) := if_pos hf
    rw [e]
    simp -implicitDefEqProofs only [↓aP, aR, ↓reduceIte, reduceCtorEq, seval, wk_slot, wk_gen, wk_box, wk_row, wkA, encFramed, hf, encPE, encPg, zP, wk_fin, sOf]
    (first | exact wk_lb rfl (by decide) rfl rfl | exact ⟨by decide +kernel, wk_lb rfl (by decide) rfl rfl⟩ | exact ⟨rfl, wk_lb rfl (by decide) rfl rfl⟩ | exact ⟨.eq rfl, wk_lb rfl (by decide) rfl rfl⟩ | exact ⟨by decide +kernel, .eq rfl, wk_lb rfl (by decide) rfl rfl⟩)
theorem drop_spec (w : Wk) (h : Gp w D M W) (hd : w.done.length ≤ 1000) {id : Int} (hid : 1 ≤ id ∧ id ≤ 16) : SpecW Tryz.prog 78 (WK w (Po.drop w id).1 (rI (Po.drop w id).2)) [rI id] := by
  refine spec_w mixed fn78 900 901 (by simp) rfl rfl (by simp) ?_
  unfold ac78
  obtain ⟨s, es, ks⟩ := h.disk
  have hst : ∀ f, (stepsS (⟨f, w.d, w.now, w.done⟩ : Wk).d ⟨id, 0, ⟨#[]⟩⟩).length ≤ 1000000 := fun f => by
    show (stepsS w.d ⟨id, 0, ⟨#[]⟩⟩).length ≤ 1000000
    rw [es, steps_del (p := ⟨id, 0, ⟨#[]⟩⟩) Jn.h35 ks.ok hid ⟨rfl, rfl⟩]; show (10 : Nat) ≤ 1000000; omega
  have htd : ∀ x, (Po.turn w x).d = w.d ∧ (Po.turn w x).done = w.done := fun x => by unfold Po.turn; split <;> exact ⟨rfl, rfl⟩
  simp -implicitDefEqProofs only [↓aP, aR, ↓reduceIte, reduceCtorEq, seval, wk_slot, wk_gen, wk_box, wk_row]
  refine askWK 901 0 (framed_spec w id h.rt) (by simp -implicitDefEqProofs only [↓aP, aR, ↓reduceIte, reduceCtorEq, seval, argS, sOf]) (by simp -implicitDefEqProofs only [↓aP, aR, ↓reduceIte, reduceCtorEq, seval, wk_slot, wk_gen, wk_box, wk_row]) ?_
  simp -implicitDefEqProofs only [↓aP, aR, ↓reduceIte, reduceCtorEq, seval, wk_slot, wk_gen, wk_box, wk_row, wkA, encFramed, encPg]
  refine ask (sget_spec w.d id) ?_
  by_cases hp : 0 < (Po.framed w id).2.1
  · have e : Po.drop w id = (w, 6) := if_pos hp
    rw [e]
    simp -implicitDefEqProofs only [↓aP, aR, ↓reduceIte, reduceCtorEq, seval, wk_slot, wk_gen, wk_box, wk_row, wkA, encGet, encDk, hp, encPg, wk_fin, sOf]
    (first | exact wk_lb rfl (by decide) rfl rfl | exact ⟨by decide +kernel, wk_lb rfl (by decide) rfl rfl⟩ | exact ⟨rfl, wk_lb rfl (by decide) rfl rfl⟩ | exact ⟨.eq rfl, wk_lb rfl (by decide) rfl rfl⟩ | exact ⟨by decide +kernel, .eq rfl, wk_lb rfl (by decide) rfl rfl⟩)
  cases hf : (Po.framed w id).2.2
  · by_cases hg : (getS w.d id).2 = 0
    · have e : Po.drop w id = (Po.del w id, 0) := by unfold Po.drop; rw [if_neg hp, if_neg (by simp [hf]), if_neg (by simp [hg])]
      rw [e]
      simp -implicitDefEqProofs only [↓aP, aR, ↓reduceIte, reduceCtorEq, seval, wk_slot, wk_gen, wk_box, wk_row, wkA, encGet, encDk, hp, hf, hg, encPg]
      refine askWK 901 1 (del_spec w id (by omega) (hst w.f)) (by simp -implicitDefEqProofs only [↓aP, aR, ↓reduceIte, reduceCtorEq, seval, argS, sOf]) (by simp -implicitDefEqProofs only [↓aP, aR, ↓reduceIte, reduceCtorEq, seval, wk_slot, wk_gen, wk_box, wk_row, wkA]) ?_
      simp -implicitDefEqProofs only [↓aP, aR, ↓reduceIte, reduceCtorEq, seval, wk_slot, wk_gen, wk_box, wk_row, wkA, wk_fin, sOf]
      (first | exact wk_lb rfl (by decide) rfl rfl | exact ⟨by decide +kernel, wk_lb rfl (by decide) rfl rfl⟩ | exact ⟨rfl, wk_lb rfl (by decide) rfl rfl⟩ | exact ⟨.eq rfl, wk_lb rfl (by decide) rfl rfl⟩ | exact ⟨by decide +kernel, .eq rfl, wk_lb rfl (by decide) rfl rfl⟩)
    · have e : Po.drop w id = (w, 3) := by unfold Po.drop; rw [if_neg hp, if_neg (by simp [hf]), if_pos hg]
      have d0 : ((getS w.d id).2 != 0) = true := by simp [hg]
      rw [e]
      simp -implicitDefEqProofs only [↓aP, aR, ↓reduceIte, reduceCtorEq, seval, wk_slot, wk_gen, wk_box, wk_row, wkA, encGet, encDk, hp, hf, hg, d0, encPg, wk_fin, sOf]
      (first | exact wk_lb rfl (by decide) rfl rfl | exact ⟨by decide +kernel, wk_lb rfl (by decide) rfl rfl⟩ | exact ⟨rfl, wk_lb rfl (by decide) rfl rfl⟩ | exact ⟨.eq rfl, wk_lb rfl (by decide) rfl rfl⟩ | exact ⟨by decide +kernel, .eq rfl, wk_lb rfl (by decide) rfl rfl⟩)
  · simp -implicitDefEqProofs only [↓aP, aR, ↓reduceIte, reduceCtorEq, seval, wk_slot, wk_gen, wk_box, wk_row, wkA, encGet, encDk, hp, hf, encPg]
    refine ask (fdrop_spec w.f id (rt_sh h.rt)) ?_
    simp -implicitDefEqProofs only [↓aP, aR, ↓reduceIte, reduceCtorEq, seval, wk_slot, wk_gen, wk_box, wk_row, wkA, encF2, encFs]
    refine askWK 901 1 (turn_spec w (Fm.drop w.f id)) (by simp -implicitDefEqProofs only [↓aP, aR, ↓reduceIte, reduceCtorEq, seval, argS, sOf, encFs]) (by simp -implicitDefEqProofs only [↓aP, aR, ↓reduceIte, reduceCtorEq, seval, wk_slot, wk_gen, wk_box, wk_row, wkA]) ?_
    by_cases hg : (getS w.d id).2 = 3
    · have e : Po.drop w id = (Po.turn w (Fm.drop w.f id), 0) := by unfold Po.drop; rw [if_neg hp, if_pos hf, if_neg (by simp [hg])]
      rw [e]
      simp -implicitDefEqProofs only [↓aP, aR, ↓reduceIte, reduceCtorEq, seval, wk_slot, wk_gen, wk_box, wk_row, wkA, hg, wk_fin, sOf]
      (first | exact wk_lb rfl (by decide) rfl rfl | exact ⟨by decide +kernel, wk_lb rfl (by decide) rfl rfl⟩ | exact ⟨rfl, wk_lb rfl (by decide) rfl rfl⟩ | exact ⟨.eq rfl, wk_lb rfl (by decide) rfl rfl⟩ | exact ⟨by decide +kernel, .eq rfl, wk_lb rfl (by decide) rfl rfl⟩)
    · have e : Po.drop w id = (Po.del (Po.turn w (Fm.drop w.f id)) id, 0) := by unfold Po.drop; rw [if_neg hp, if_pos hf, if_pos hg]
      have d0 : ((getS w.d id).2 != 3) = true := by simp [hg]
      rw [e]
      simp -implicitDefEqProofs only [↓aP, aR, ↓reduceIte, reduceCtorEq, seval, wk_slot, wk_gen, wk_box, wk_row, wkA, hg, d0]
      (try with_reducible refine And.intro (by decide +kernel) ?_)
      refine askWK 901 2 (del_spec (Po.turn w (Fm.drop w.f id)) id (by rw [(htd _).2]; omega) (by rw [(htd _).1]; exact hst w.f)) (by simp -implicitDefEqProofs only [↓aP, aR, ↓reduceIte, reduceCtorEq, seval, argS, sOf]) (by simp -implicitDefEqProofs only [↓aP, aR, ↓reduceIte, reduceCtorEq, seval, wk_slot, wk_gen, wk_box, wk_row, wkA]) ?_
      simp -implicitDefEqProofs only [↓aP, aR, ↓reduceIte, reduceCtorEq, seval, wk_slot, wk_gen, wk_box, wk_row, wkA, wk_fin, sOf]
      (first | exact wk_lb rfl (by decide) rfl rfl | exact ⟨by decide +kernel, wk_lb rfl (by decide) rfl rfl⟩ | exact ⟨rfl, wk_lb rfl (by decide) rfl rfl⟩ | exact ⟨.eq rfl, wk_lb rfl (by decide) rfl rfl⟩ | exact ⟨by decide +kernel, .eq rfl, wk_lb rfl (by decide) rfl rfl⟩)
theorem flush_spec (w : Wk) (h : Gp w D M W) (hd : w.done.length ≤ 1000) {id : Int} (hid : 1 ≤ id ∧ id ≤ 16) : SpecW Tryz.prog 79 (WK w (Po.flush w id).1 (rI (Po.flush w id).2)) [rI id] := by
  refine spec_w mixed fn79 900 901 (by simp) rfl rfl (by simp) ?_
  unfold ac79
  simp -implicitDefEqProofs only [↓aP, aR, ↓reduceIte, reduceCtorEq, seval, wk_slot, wk_gen, wk_box, wk_row]
  refine askWK 901 0 (framed_spec w id h.rt) (by simp -implicitDefEqProofs only [↓aP, aR, ↓reduceIte, reduceCtorEq, seval, argS, sOf]) (by simp -implicitDefEqProofs only [↓aP, aR, ↓reduceIte, reduceCtorEq, seval, wk_slot, wk_gen, wk_box, wk_row]) ?_
  cases hf : (Po.framed w id).2.2
  · simp -implicitDefEqProofs only [↓aP, aR, ↓reduceIte, reduceCtorEq, seval, wk_slot, wk_gen, wk_box, wk_row, wkA, encFramed, hf, encPg]
    refine ask (sget_spec w.d id) ?_
    by_cases hg : (getS w.d id).2 = 0
    · have e : Po.flush w id = (w, 0) := by unfold Po.flush; rw [if_pos hf, if_neg (by simp [hg])]
      rw [e]
      simp -implicitDefEqProofs only [↓aP, aR, ↓reduceIte, reduceCtorEq, seval, wk_slot, wk_gen, wk_box, wk_row, wkA, encGet, encDk, hg, encPg, wk_fin, sOf]
      (first | exact wk_lb rfl (by decide) rfl rfl | exact ⟨by decide +kernel, wk_lb rfl (by decide) rfl rfl⟩ | exact ⟨rfl, wk_lb rfl (by decide) rfl rfl⟩ | exact ⟨.eq rfl, wk_lb rfl (by decide) rfl rfl⟩ | exact ⟨by decide +kernel, .eq rfl, wk_lb rfl (by decide) rfl rfl⟩)
    · have e : Po.flush w id = (w, 3) := by unfold Po.flush; rw [if_pos hf, if_pos hg]
      have d0 : ((getS w.d id).2 != 0) = true := by simp [hg]
      rw [e]
      simp -implicitDefEqProofs only [↓aP, aR, ↓reduceIte, reduceCtorEq, seval, wk_slot, wk_gen, wk_box, wk_row, wkA, encGet, encDk, hg, d0, encPg, wk_fin, sOf]
      (first | exact wk_lb rfl (by decide) rfl rfl | exact ⟨by decide +kernel, wk_lb rfl (by decide) rfl rfl⟩ | exact ⟨rfl, wk_lb rfl (by decide) rfl rfl⟩ | exact ⟨.eq rfl, wk_lb rfl (by decide) rfl rfl⟩ | exact ⟨by decide +kernel, .eq rfl, wk_lb rfl (by decide) rfl rfl⟩)
  · have hok : (stepsS w.d (Po.framed w id).1).length ≤ 1000000 := by
      rcases h.find hid with ⟨k, hk, hc, hfk, e2, hp, hM, hok, hfr⟩ | ⟨_, _, _, h4, _⟩
      · rw [show (Po.framed w id).1 = w.f.pg[k] by rw [hfr]; exact hM, h.steps_len (Gp.okP_of hok)]; omega
      · rw [h4] at hf; cases hf
    simp -implicitDefEqProofs only [↓aP, aR, ↓reduceIte, reduceCtorEq, seval, wk_slot, wk_gen, wk_box, wk_row, wkA, encFramed, hf, encPg]
    refine ask (dSince_spec w.f.dt id (by have := h.dt_len; omega)) ?_
    cases hs : (sinceI w.f.dt id).2
    · have e : Po.flush w id = (w, 0) := by unfold Po.flush; rw [if_neg (by simp [hf]), if_neg (by simp [hs])]
      rw [e]
      simp -implicitDefEqProofs only [↓aP, aR, ↓reduceIte, reduceCtorEq, seval, wk_slot, wk_gen, wk_box, wk_row, wkA, hs, encPg, wk_fin, sOf]
      (first | exact wk_lb rfl (by decide) rfl rfl | exact ⟨by decide +kernel, wk_lb rfl (by decide) rfl rfl⟩ | exact ⟨rfl, wk_lb rfl (by decide) rfl rfl⟩ | exact ⟨.eq rfl, wk_lb rfl (by decide) rfl rfl⟩ | exact ⟨by decide +kernel, .eq rfl, wk_lb rfl (by decide) rfl rfl⟩)
    · have e : Po.flush w id = (Po.back w (Po.framed w id).1, 0) := by unfold Po.flush; rw [if_neg (by simp [hf]), if_pos hs]
      rw [e]
      simp -implicitDefEqProofs only [↓aP, aR, ↓reduceIte, reduceCtorEq, seval, wk_slot, wk_gen, wk_box, wk_row, wkA, hs, encPg]
      refine askWK 901 1 (back_spec w (Po.framed w id).1 h.rt (by omega) hok) (by simp -implicitDefEqProofs only [↓aP, aR, ↓reduceIte, reduceCtorEq, seval, argS, sOf, encPg]) (by simp -implicitDefEqProofs only [↓aP, aR, ↓reduceIte, reduceCtorEq, seval, wk_slot, wk_gen, wk_box, wk_row, wkA]) ?_
      simp -implicitDefEqProofs only [↓aP, aR, ↓reduceIte, reduceCtorEq, seval, wk_slot, wk_gen, wk_box, wk_row, wkA, wk_fin, sOf]
      (first | exact wk_lb rfl (by decide) rfl rfl | exact ⟨by decide +kernel, wk_lb rfl (by decide) rfl rfl⟩ | exact ⟨rfl, wk_lb rfl (by decide) rfl rfl⟩ | exact ⟨.eq rfl, wk_lb rfl (by decide) rfl rfl⟩ | exact ⟨by decide +kernel, .eq rfl, wk_lb rfl (by decide) rfl rfl⟩)
end
end Go.Proofs.YtcbfhpnmhhnjpaaGreat

