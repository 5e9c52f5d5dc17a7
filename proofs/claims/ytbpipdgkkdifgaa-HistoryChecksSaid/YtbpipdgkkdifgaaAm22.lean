/- THE ABSTRACT MACHINE: a call that turns a block of its caller's, walked. No condition. -/
import Derived.Test.YtbpipdgkkdifgaaAm21
namespace Go.Proofs.Ytbpipdgkkdifgaa
open Go.RowKit
set_option linter.unusedVariables false

def XR.lb0 (X : XR) : LB := bif X.row then .row X.ty X.e X.els else .box X.ty X.e (X.els.map (List.map AC.s))
def XR.at0 (X : XR) (loc : Nat) : AC := match X.arg with
  | some p => .ptr loc 0 p.1 p.2
  | none => .own loc 0
def St.initX (X : XR) (loc : Nat) (rest : List (TV SC)) : St :=
  ⟨fun i => match (TV.c (X.at0 loc) :: rest.map TV.lift)[i]? with
    | some x => x
    | none => .no, ⟨fun _ => 0, upd (fun _ => .dead) loc X.lb0⟩⟩
theorem initX_slot {X : XR} {loc : Nat} {rest : List (TV SC)} {i : Nat} : (St.initX X loc rest).slot i = match (TV.c (X.at0 loc) :: rest.map TV.lift)[i]? with
    | some x => x
    | none => .no := rfl
theorem initX_gen {X : XR} {loc : Nat} {rest : List (TV SC)} {i : Nat} : (St.initX X loc rest).h.gen i = 0 := rfl
theorem initX_blk {X : XR} {loc : Nat} {rest : List (TV SC)} {i : Nat} : (St.initX X loc rest).h.blk i = if i = loc then X.lb0 else .dead := rfl
def boxC : LB → List AC
  | .box _ _ els => els.flatten
  | _ => []
/-- what is in the block at the end -/
def lbX (h : Hp) (b : LB) (X : XR) : Prop := match b with
  | .row ty e els => X.row = true ∧ ty = X.ty ∧ e = X.e ∧ els = X.els'
  | .box ty e els => X.row = false ∧ ty = X.ty ∧ e = X.e ∧ all? (all? (shA h)) els = some X.els'
  | _ => False
def finX (rs : List RA) (X : XR) (loc : Nat) (r : TV SC) (σ : St) : Prop :=
  outs σ rs [] fun vs => match all? (fun p : Bool × List AC => (all? (shA σ.h) p.2).map fun ys => (p.1, ys)) vs with
    | some ys => tsim (mkTV ys) r ∧ σ.h.gen loc = 0 ∧ ((frz σ.h ((vs.map Prod.snd).flatten ++ boxC (σ.h.blk loc))).all fun p => !(p.1 == loc)) = true ∧ lbX σ.h (σ.h.blk loc) X
    | none => False
section
variable {P : Program} {n : Nat}
theorem spec_x (hm : P.follows .mixedOrders = true) {f : Nat} {ac : ACode} {rs : List RA} (hf : FnIs P f ac rs n) (loc : Nat) {X : XR} {p : Nat × Nat} {rest : List (TV SC)} {r : TV SC} (hp : X.arg = some p) (he0 : 0 < X.e) (hret : X.ret = some r) (hlen : X.els'.length = X.els.length) (hn : rest.length + 1 ≤ n)
    (h : wpA P ac (Post (finX rs X loc r)) (St.initX X loc rest)) : SpecX P f X rest := by
  obtain ⟨fn, h1, h3, h24, h5⟩ := hf.ok
  obtain ⟨c, h2, h4⟩ := Option.bind_eq_some_iff.1 h24
  refine ⟨he0, fun w O b cap us hO hold hus => ?_, fun _ h => by rw [hp] at h; simp at h⟩
  obtain ⟨hx1, cur, hblk, hx2, hx3⟩ := hold
  have hval : X.val b cap = .pointer (some ⟨b, p.1 * X.e + p.2, none⟩) := by unfold XR.val; rw [hp]
  have hat : X.at0 loc = .ptr loc 0 p.1 p.2 := by unfold XR.at0; rw [hp]
  let B : Base := ⟨w, fun k => k < w.heap.size ∧ k ≠ b, fun _ h => h.1, fun l q => l = loc ∧ q = (b, .slice (some ⟨b, 0, none⟩) X.els.length cap)⟩
  let β0 : Env := fun l => if l = loc then (some b, .slice (some ⟨b, 0, none⟩) X.els.length cap) else (none, undef)
  have hβ : β0 loc = (some b, .slice (some ⟨b, 0, none⟩) X.els.length cap) := if_pos rfl
  have hview : (St.initX X loc rest).h.view loc = .mem X.row X.ty X.e (X.els.map (List.map AC.s)) := by
    unfold Hp.view
    rw [initX_blk, if_pos rfl]
    unfold XR.lb0
    cases X.row <;> rfl
  have hdead : ∀ l, l ≠ loc → (St.initX X loc rest).h.view l = .dead := by
    intro l hl
    unfold Hp.view
    rw [initX_blk, if_neg hl]
    rfl
  have hmine : ∀ k, Mine O (St.initX X loc rest).h β0 k → O k ∨ k = b := by
    rintro k (h6 | ⟨l, h6, h7⟩)
    · exact .inl h6
    · by_cases e1 : l = loc
      · subst e1; rw [hβ] at h7; exact .inr (by simpa using h7.symm)
      · rw [hdead l e1] at h6; simp [VB.live] at h6
  have hfl : (X.els.map (List.map AC.s)).flatten = X.els.flatten.map AC.s := by rw [← List.map_flatten]
  have hinit : Rel O B n (St.initX X loc rest) β0 { tmps := (X.val b cap :: us).toArray ++ Array.replicate (n - (X.val b cap :: us).toArray.size) undef, defers := [] } w := by
    refine ⟨⟨fun l => ?_, fun l l' k h6 h7 _ _ => ?_, fun l k h6 h7 => ?_, B.keeps_refl, fun k hk => hO k hk, fun l q hl _ => ?_⟩, rfl, ?_, fun t => ?_⟩
    · by_cases e1 : l = loc
      · subst e1
        unfold RepB
        rw [hview]
        refine ⟨he0, fun x hx => ?_, .inr ⟨b, cap, cur, by rw [hβ], hblk, ?_, fun hr => ?_⟩⟩
        · obtain ⟨y, hy, rfl⟩ := List.mem_map.1 hx
          rw [List.length_map]; exact hx1 y hy
        · rw [hfl, List.length_map]
          exact (hx2.mono (fun x u hx => RepS.less hx hmine)).map AC.s (fun x u hx => hx)
        · rw [hβ, List.length_map]
          exact ⟨rfl, hx3 hr⟩
      · unfold RepB; rw [hdead l e1]; trivial
    · by_cases e1 : l = loc
      · by_cases e2 : l' = loc
        · rw [e1, e2]
        · rw [hdead l' e2] at h7; simp [VB.live] at h7
      · rw [hdead l e1] at h6; simp [VB.live] at h6
    · by_cases e1 : l = loc
      · subst e1; rw [hβ] at h7
        obtain rfl : b = k := by simpa using h7
        exact fun ho => ho.2 rfl
      · rw [hdead l e1] at h6; simp [VB.live] at h6
    · obtain ⟨rfl, rfl⟩ := hl
      exact hβ
    · have := hus.1
      simp; omega
    · have hR : RL (RepT (RepA (St.initX X loc rest).h β0 w (Mine O (St.initX X loc rest).h β0))) (TV.c (X.at0 loc) :: rest.map TV.lift) (X.val b cap :: us) := by
        refine .cons ?_ (hus.map TV.lift fun x u hx => lift_ok (hx.mono fun x u hx => RepS.less hx hmine))
        rw [hat, hval]
        refine ⟨rfl, Nat.le_refl _, fun _ => ?_⟩
        rw [hview]
        exact ⟨b, by rw [hβ], rfl⟩
      rw [initX_slot]
      cases hx : (TV.c (X.at0 loc) :: rest.map TV.lift)[t]? with
      | none => trivial
      | some x =>
        obtain ⟨u, h6, h7⟩ := hR.get hx
        have h8 : ((X.val b cap :: us).toArray ++ Array.replicate (n - (X.val b cap :: us).toArray.size) undef).getD t undef = u := by
          obtain ⟨h9, h10⟩ := List.getElem?_eq_some_iff.1 h6
          rw [Array.getD_eq_getD_getElem?, Array.getElem?_append_left (by simpa using h9)]
          simp [h6]
        rw [h8]
        exact h7
  subst h3
  refine calls_of_wp h1 h2 (wpA_ok (O := O) (w0 := B) hm h4 (fun ex σ β a w' hq hr => ?_) hinit h)
  have key : finX rs X loc r σ → bodyPost P fn (fun ex w' => ∃ v, ex = .returned v ∧ match X.ret with
      | none => ∃ b' cap', v = .slice (some ⟨b', 0, none⟩) X.els'.length cap' ∧ HoldX w' O true X.ty X.e X.els' b' cap' ∧ (b' = b ∧ Kept b w w' ∨ w.heap.size ≤ b' ∧ Below w.heap.size w w')
      | some r => RepT (RepS w' (fun k => O k ∨ k = b)) r v ∧ HoldX w' O X.row X.ty X.e X.els' b cap ∧ X.els'.length = X.els.length ∧ Kept b w w') .ret a w' := by
    intro hfin
    obtain ⟨vs', us', k1, k2, us2, k3, k4⟩ := outs_ok hr fn.results.toList rs [] [] h5 hfin .nil
    rw [List.nil_append] at k3
    subst k3
    split at k1
    case h_2 => exact k1.elim
    rename_i ys hys
    obtain ⟨k1, kg, kf, kb⟩ := k1
    have hβl := hr.keep loc (b, .slice (some ⟨b, 0, none⟩) X.els.length cap) ⟨rfl, rfl⟩ kg
    obtain ⟨r1, r2, r3⟩ := frz_ok ((vs'.map Prod.snd).flatten ++ boxC (σ.h.blk loc)) σ.h hr.toRelH
    have hlive : (σ.h.view loc).live = true := by
      unfold Hp.view
      cases hk : σ.h.blk loc with
      | row => rfl
      | box => rfl
      | _ => rw [hk] at kb; exact kb.elim
    have hm2 : ∀ k, O k ∨ k = b → Mine O (σ.h.app (frz σ.h ((vs'.map Prod.snd).flatten ++ boxC (σ.h.blk loc)))) β k := by
      rintro k (hk | rfl)
      · exact .inl hk
      · refine .inr ⟨loc, ?_, by rw [hβl]⟩
        unfold Hp.view at hlive ⊢
        rw [Hp.app_blk_ne _ _ _ kf]
        exact hlive
    refine ⟨hr.hd, _, run_results k4, _, rfl, ?_⟩
    rw [hret]
    have k5 : RL (fun (p : Bool × List SC) u => (p.1 = true → ∃ ws : List Value, u = .agg ws.toArray ∧ RL (RepS w' (fun k => O k ∨ k = b)) p.2 ws) ∧ (p.1 = false → ∃ x, p.2 = [x] ∧ RepS w' (fun k => O k ∨ k = b) x u)) ys us' := k2.all hys (fun x y u hx hy hu => by
      simp only [Option.map_eq_some_iff] at hy
      obtain ⟨zs, k6, rfl⟩ := hy
      have hin : ∀ z ∈ x.2, z ∈ (vs'.map Prod.snd).flatten ++ boxC (σ.h.blk loc) := fun z hz => List.mem_append_left _ (List.mem_flatten.2 ⟨x.2, List.mem_map_of_mem hx, hz⟩)
      refine ⟨fun e => ?_, fun e => ?_⟩
      · obtain ⟨ws, k7, k8⟩ := hu.1 e
        exact ⟨ws, k7, k8.all k6 (fun x y u hx hy hu => RepS.less (r3 x (hin x hx) y hy u hu) hm2)⟩
      · obtain ⟨x', k7, k8⟩ := hu.2 e
        have hx' : x' ∈ x.2 := by rw [k7]; simp
        rw [k7] at k6
        obtain ⟨y, ys', k9, k10, rfl⟩ := all?_cons k6
        rw [all?_nil k10]
        exact ⟨y, rfl, RepS.less (r3 x' (hin x' hx') y k9 u k8) hm2⟩)
    refine ⟨k1.rep (mkTV_rep k5.1 k5.2), ?_⟩
    have hkept : Kept b w w' := ⟨hr.below.size, hr.below.os, hr.below.tape, hr.below.output, fun k h6 h7 => hr.below.block k ⟨h6, h7⟩⟩
    have hB := hr.blks loc
    unfold RepB at hB
    cases hk : σ.h.blk loc with
    | dead => rw [hk] at kb; exact kb.elim
    | ice z => rw [hk] at kb; exact kb.elim
    | row ty e els =>
      rw [hk] at kb
      obtain ⟨e1, e2, e3, e4⟩ := kb
      subst e2 e3 e4
      have hv : σ.h.view loc = .mem true X.ty X.e (X.els'.map (List.map AC.s)) := by unfold Hp.view; rw [hk]; rfl
      rw [hv] at hB
      simp only at hB
      obtain ⟨_, hB1, ⟨_, _, hB2, _⟩ | ⟨b', cap', cur', hB2, hB3, hB4, hB5⟩⟩ := hB
      · rw [hβl] at hB2; simp at hB2
      rw [hβl] at hB2 hB5
      obtain rfl : b = b' := by simpa using hB2
      obtain ⟨m1, m2, m3, m4⟩ := hB5 trivial
      simp only [Value.slice.injEq, List.length_map, true_and] at m1 m2
      obtain ⟨m1, rfl⟩ := m1
      have hfl2 : (X.els'.map (List.map AC.s)).flatten = X.els'.flatten.map AC.s := by rw [← List.map_flatten]
      rw [hfl2, List.length_map] at hB4
      refine ⟨⟨fun x hx => by simpa using hB1 (x.map AC.s) (List.mem_map_of_mem hx), cur', hB3, ⟨by have := hB4.1; rwa [List.length_map] at this, fun i a' b' => ?_⟩, fun _ => ⟨m2, m3, m4⟩⟩, by omega, hkept⟩
      have h10 := hB4.2 i (by rw [List.length_map]; exact a') b'
      rw [List.getElem_map] at h10
      exact RepS.less (r2 _ _ h10) hm2
    | box ty e els =>
      rw [hk] at kb
      obtain ⟨e1, e2, e3, e4⟩ := kb
      subst e2 e3
      have hv : σ.h.view loc = .mem false X.ty X.e els := by unfold Hp.view; rw [hk]; rfl
      rw [hv] at hB
      simp only at hB
      obtain ⟨_, hB1, ⟨hB2, _⟩ | ⟨b', cap', cur', hB2, hB3, hB4, hB5⟩⟩ := hB
      · simp at hB2
      rw [hβl] at hB2
      obtain rfl : b = b' := by simpa using hB2
      have hl2 := all2_len e4
      have hf2 := all2_flat e4
      have hR : RL (RepS w' (fun k => O k ∨ k = b)) X.els'.flatten (cur'.toList.take els.flatten.length) := hB4.all hf2 (fun x y u hx hy hu => RepS.less (r3 x (by rw [hk]; exact List.mem_append_right _ hx) y hy u hu) hm2)
      have hl3 : X.els'.flatten.length = els.flatten.length := by rw [List.length_flatten, List.length_flatten, hl2]
      refine ⟨⟨fun x hx => ?_, cur', hB3, by rw [hl3]; exact hR, fun hr => by rw [e1] at hr; simp at hr⟩, hlen, hkept⟩
      obtain ⟨i, hi, rfl⟩ := List.getElem_of_mem hx
      have hi2 : i < els.length := by have := congrArg List.length hl2; simp at this; omega
      have h12 : (X.els'.map List.length)[i]'(by simpa using hi) = (els.map List.length)[i]'(by simpa using hi2) := by simp only [hl2]
      rw [List.getElem_map, List.getElem_map] at h12
      rw [h12]
      exact hB1 _ (List.getElem_mem hi2)
  cases ex with
  | normal => exact key hq
  | ret => exact key hq
  | exit id => exact hq.elim
end
end Go.Proofs.Ytbpipdgkkdifgaa
