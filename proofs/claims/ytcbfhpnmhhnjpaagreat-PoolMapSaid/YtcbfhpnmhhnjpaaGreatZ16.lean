import Derived.Test.YtcbfhpnmhhnjpaaGreatZ15
import Derived.WalkLawsBesides
set_option linter.unusedVariables false
set_option linter.unusedSimpArgs false
namespace Go.Proofs.YtcbfhpnmhhnjpaaGreat
open Go.RowKit
theorem lookB_take_succ {ws : List Wr} {r : Nat} (hr : r < ws.length) (a : Int) : lookB (ws.take (r + 1)) a = if ws[r].at_ = a then some ws[r] else lookB (ws.take r) a := by
  rw [take_snoc hr, lookB_snoc]
theorem refRead_spec (d : Dk) (a : Int) (hr : rightB d = true) (hh : hasB d a = true) : Spec Tryz.prog 58 [.agg (encDk d), rI a] (.val (rS (readD d a).1)) := by
  refine spec_val mixed fn58 (by simp) ?_
  unfold ac58
  have hl := right_len hr
  obtain ⟨k, rfl, hk⟩ := has_nat hh
  have hw0 : IntKind.i64.wrap ((d.cache.length : Int) - 1) = (d.cache.length : Int) - 1 := wrapI (by omega)
  simp -implicitDefEqProofs only [↓aP, aR, ↓reduceIte, reduceCtorEq, seval, encDk, hw0]
  refine loopA (fun m σ => m ≤ d.cache.length ∧ lookB d.cache k = lookB (d.cache.take m) k ∧ σ.slot 5 = vI ((m : Int) - 1) ∧ σ.slot 2 = .c (.ptr 2 1 0 0) ∧ σ.h.gen 2 = 1 ∧ σ.h.blk 2 = .box 38 2 [[.s (.sl 1 (d.sectors.map encS)), .s (.sl 2 (d.cache.map encWr))]] ∧ σ.slot 1 = vI k) d.cache.length ?_ ?_
  · simp -implicitDefEqProofs only [↓aP, aR, ↓reduceIte, reduceCtorEq, seval]
    rw [List.take_length]
  · rintro m σ ⟨hm, hlk, s5, s2, g2, b2, s1⟩
    cases m with
    | zero =>
      have hneg : decide ((0 : Int) ≤ -1) = false := by decide
      simp -implicitDefEqProofs only [↓aP, aR, ↓reduceIte, reduceCtorEq, seval, s5, s2, g2, b2, s1, hneg, askIdx_map, hk, encS]
      have e : readD d k = (d.sectors[k], 0) := by
        rw [read_ok hr hh, hlk]
        simp [lookB, hk]
      rw [e]
    | succ r =>
      have e1 : ((r + 1 : Nat) : Int) - 1 = (r : Int) := by omega
      rw [e1] at s5
      have hr2 : r < d.cache.length := by omega
      rw [lookB_take_succ hr2] at hlk
      have hge : decide ((0 : Int) ≤ (r : Int)) = true := by simp
      have hw : IntKind.i64.wrap ((r : Int) - 1) = (r : Int) - 1 := wrapI (by omega)
      simp -implicitDefEqProofs only [↓aP, aR, ↓reduceIte, reduceCtorEq, seval, s5, s2, g2, b2, s1, hge, askIdx_map, hr2, encWr]
      refine fork ?_ ?_ <;> intro hf
      · have e : d.cache[r].at_ = (k : Int) := by simpa using hf
        rw [if_pos e] at hlk
        simp -implicitDefEqProofs only [↓aP, aR, ↓reduceIte, reduceCtorEq, seval, s5, s2, g2, b2, s1, hge, askIdx_map, hr2, encWr]
        have e : readD d k = (d.cache[r].data, 0) := by
          rw [read_ok hr hh, hlk]
        rw [e]
      · have e : d.cache[r].at_ ≠ (k : Int) := by simpa using hf
        rw [if_neg e] at hlk
        simp -implicitDefEqProofs only [↓aP, aR, ↓reduceIte, reduceCtorEq, seval, s5, s2, g2, b2, s1, hw]
        exact ⟨r, by omega, by omega, hlk, rfl⟩
theorem sync_at {d : Dk} (h : rightB d = true) {i : Nat} (hi : i < d.sectors.length) (hi2 : i < (syncD d).sectors.length) : (readD d i).1 = (syncD d).sectors[i] := by
  have hh : hasB d i = true := by simp [hasB, hi]
  have e : syncD d = doneD d d.cache := by simp [syncD, h]
  have rs : rightB (syncD d) = true := by rw [e]; exact right_done h _ (right_fits h)
  have hs : hasB (syncD d) i = true := by rw [e, has_done]; exact hh
  have hc : (syncD d).cache = [] := by rw [e]; rfl
  rw [← read_sync h hh, read_ok rs hs, hc]
  have : lookB [] (i : Int) = none := rfl
  rw [this]
  simp [hi2]
def Grown (σ : St) (x : AC) (l ty e : Nat) (els : List (List SC)) : Prop := (x = .zc ∧ els = []) ∨ ∃ g, x = .own l g ∧ σ.h.gen l = g ∧ σ.h.blk l = .row ty e els
theorem refSync_spec (d : Dk) (hr : rightB d = true) : Spec Tryz.prog 57 [.agg (encDk d)] (.val (.agg (encDk (syncD d)))) := by
  refine spec_val mixed fn57 (by simp) ?_
  unfold ac57
  have hl := right_len hr
  have e : syncD d = doneD d d.cache := by simp [syncD, hr]
  have hsl : (syncD d).sectors.length = d.sectors.length := by rw [e]; exact doneS_len _ _
  have hsc : (syncD d).cache = [] := by rw [e]; rfl
  have hat : ∀ i, i < d.sectors.length → ∀ hi2 : i < (syncD d).sectors.length, (readD d i).1 = (syncD d).sectors[i] := fun i hi hi2 => sync_at hr hi hi2
  obtain ⟨z, hz⟩ : ∃ z, z = syncD d := ⟨_, rfl⟩
  rw [← hz] at hsl hsc hat ⊢
  simp -implicitDefEqProofs only [↓aP, aR, ↓reduceIte, reduceCtorEq, seval, encDk, hsc]
  refine loopA (fun m σ => ∃ i, i + m = d.sectors.length ∧ ∃ x, Grown σ x 18 9 1 ((z.sectors.take i).map encS) ∧ σ.slot 4 = vI i ∧ σ.slot 1 = .c (.ptr 1 1 0 0) ∧ σ.h.gen 1 = 1 ∧ σ.h.blk 1 = .box 38 2 [[.s (.sl 1 (d.sectors.map encS)), .s (.sl 2 (d.cache.map encWr))]] ∧ σ.slot 2 = .c (.ptr 2 1 0 0) ∧ σ.h.gen 2 = 1 ∧ σ.h.blk 2 = .box 38 2 [[.zc, .zc]] ∧ σ.slot 3 = .c (.ptr 3 1 0 0) ∧ σ.h.gen 3 = 1 ∧ σ.h.blk 3 = .box 38 2 [[x, .zc]]) d.sectors.length ?_ ?_
  · simp -implicitDefEqProofs only [↓aP, aR, ↓reduceIte, reduceCtorEq, seval]
    refine ⟨0, by omega, .zc, .inl ⟨rfl, rfl⟩, ?_⟩
    simp -implicitDefEqProofs only [↓aP, aR, ↓reduceIte, reduceCtorEq, seval]
  · rintro m σ ⟨i, him, x, hx, s4, s1, g1, b1, s2, g2, b2, s3, g3, b3⟩
    simp -implicitDefEqProofs only [↓aP, aR, ↓reduceIte, reduceCtorEq, seval, s4, s1, g1, b1, s2, g2, b2, s3, g3, b3]
    refine fork ?_ ?_ <;> intro hf
    · have hi : i < d.sectors.length := by simpa using hf
      have hi2 : i < z.sectors.length := by omega
      have hh : hasB d i = true := by simp [hasB, hi]
      have t := refRead_spec d i hr hh
      rw [hat i hi hi2] at t
      have htl : (z.sectors.take i).length = i := by rw [List.length_take]; omega
      rcases hx with ⟨rfl, he⟩ | ⟨g, rfl, g18, b18⟩
      · have hi0 : i = 0 := by
          have := congrArg List.length he
          rw [List.length_map, htl] at this
          simpa using this
        simp -implicitDefEqProofs only [↓aP, aR, ↓reduceIte, reduceCtorEq, seval, s4, s1, g1, b1, s2, g2, b2, s3, g3, b3]
        refine ask t ?_
        simp -implicitDefEqProofs only [↓aP, aR, ↓reduceIte, reduceCtorEq, seval, s4, s1, g1, b1, s2, g2, b2, s3, g3, b3, wrapS (show i < 4611686018427387904 by omega)]
        refine ⟨by decide, m - 1, by omega, i + 1, by omega, .own 18 (σ.h.gen 18 + 1), .inr ⟨_, rfl, ?_, ?_⟩, ?_⟩
        · simp -implicitDefEqProofs only [↓aP, aR, ↓reduceIte, reduceCtorEq, seval]
        · simp -implicitDefEqProofs only [↓aP, aR, ↓reduceIte, reduceCtorEq, seval]
          rw [take_snoc hi2, List.map_append, he]
          rfl
        · simp -implicitDefEqProofs only [↓aP, aR, ↓reduceIte, reduceCtorEq, seval, s4, s1, g1, b1, s2, g2, b2, s3, g3, b3]
      · simp -implicitDefEqProofs only [↓aP, aR, ↓reduceIte, reduceCtorEq, seval, s4, s1, g1, b1, s2, g2, b2, s3, g3, b3]
        refine ask t ?_
        simp -implicitDefEqProofs only [↓aP, aR, ↓reduceIte, reduceCtorEq, seval, s4, s1, g1, b1, s2, g2, b2, s3, g3, b3, g18, b18, htl, wrapS (show i < 4611686018427387904 by omega)]
        refine ⟨by omega, by omega, by decide, m - 1, by omega, i + 1, by omega, .own 18 (g + 1), .inr ⟨_, rfl, ?_, ?_⟩, ?_⟩
        · simp -implicitDefEqProofs only [↓aP, aR, ↓reduceIte, reduceCtorEq, seval]
        · simp -implicitDefEqProofs only [↓aP, aR, ↓reduceIte, reduceCtorEq, seval]
          rw [take_snoc hi2, List.map_append]
          rfl
        · simp -implicitDefEqProofs only [↓aP, aR, ↓reduceIte, reduceCtorEq, seval, s4, s1, g1, b1, s2, g2, b2, s3, g3, b3]
    · have hi : i = z.sectors.length := by simp at hf; omega
      rw [hi, List.take_length] at hx
      rcases hx with ⟨rfl, he⟩ | ⟨g, rfl, g18, b18⟩
      · simp -implicitDefEqProofs only [↓aP, aR, ↓reduceIte, reduceCtorEq, seval, s4, s1, g1, b1, s2, g2, b2, s3, g3, b3]
        rw [he]
        exact .refl _
      · simp -implicitDefEqProofs only [↓aP, aR, ↓reduceIte, reduceCtorEq, seval, s4, s1, g1, b1, s2, g2, b2, s3, g3, b3, g18, b18]
end Go.Proofs.YtcbfhpnmhhnjpaaGreat

namespace Go.Proofs.YtcbfhpnmhhnjpaaGreat
open Go.RowKit
def encJo (o : Jo) : List SC := [.pv (.bool o.sync), .pv (.int .i64 o.w.at_), .pv (.string o.w.data)]
theorem usable_spec (d : Dk) : Spec Tryz.prog 97 [.agg (encDk d)] (.val (rB (Jn.usable d))) := by
  refine spec_val mixed fn97 (by simp) ?_
  unfold ac97
  simp -implicitDefEqProofs only [↓aP, aR, ↓reduceIte, reduceCtorEq, seval, encDk]
  refine ask (right_spec d) ?_
  cases hr : rightB d
  · simp -implicitDefEqProofs only [↓aP, aR, ↓reduceIte, reduceCtorEq, seval, Jn.usable, hr, Bool.false_and]
  · simp -implicitDefEqProofs only [↓aP, aR, ↓reduceIte, reduceCtorEq, seval, Jn.usable, hr, Bool.true_and, encDk, List.length_map]
    rw [decide_eq_decide]; omega
theorem isPage_spec (p : Int) : Spec Tryz.prog 98 [rI p] (.val (rB (Jn.isPage p))) := by
  refine spec_val mixed fn98 (by simp) ?_
  unfold ac98
  by_cases h0 : 1 ≤ p
  · by_cases h1 : p ≤ 16
    · simp -implicitDefEqProofs only [↓aP, aR, ↓reduceIte, reduceCtorEq, seval, decide_eq_true h0, decide_eq_true h1, Jn.isPage, h0, h1, and_self, decide_true]
    · simp -implicitDefEqProofs only [↓aP, aR, ↓reduceIte, reduceCtorEq, seval, decide_eq_true h0, decide_eq_false h1, Jn.isPage, h0, h1, and_false, decide_false]
  · simp -implicitDefEqProofs only [↓aP, aR, ↓reduceIte, reduceCtorEq, seval, decide_eq_false h0, Jn.isPage, h0, false_and, decide_false]
theorem write_spec (n : Int) (s : ByteArray) : Spec Tryz.prog 103 [rI n, rS s] (.val (.agg (encJo (Jn.wr n s)))) := by
  refine spec_val mixed fn103 (by simp) ?_
  unfold ac103
  simp -implicitDefEqProofs only [↓aP, aR, ↓reduceIte, reduceCtorEq, seval, encJo, Jn.wr]
theorem jsync_spec : Spec Tryz.prog 104 [] (.val (.agg (encJo Jn.sy))) := by
  refine spec_val mixed fn104 (by simp) ?_
  unfold ac104
  simp -implicitDefEqProofs only [↓aP, aR, ↓reduceIte, reduceCtorEq, seval, encJo, Jn.sy]
theorem home_spec (p : Int) (hp : Jn.isPage p = true) : Spec Tryz.prog 100 [rI p] (.val (rI (2 * p + 1))) := by
  refine spec_val mixed fn100 (by simp) ?_
  unfold ac100
  have h := Jn.page_iff.1 hp
  simp -implicitDefEqProofs only [↓aP, aR, ↓reduceIte, reduceCtorEq, seval, show IntKind.i64.wrap (2 * p) = 2 * p from wrapI (by omega), show IntKind.i64.wrap (2 * p + 1) = 2 * p + 1 from wrapI (by omega)]
theorem head_spec (p : Int) (hp : Jn.isPage p = true) : Spec Tryz.prog 133 [rI p] (.val (rS (Jn.headB p))) := by
  refine spec_val mixed fn133 (by simp) ?_
  unfold ac133
  have h := Jn.page_iff.1 hp
  obtain ⟨q, rfl⟩ : ∃ q : Nat, p = q := ⟨p.toNat, by omega⟩
  have key : ∀ q : Nat, q < 17 → strOfNums [74, IntKind.u8.wrap (q : Int)] ++ (⟨#[0, 0, 0, 0, 0, 0, 0, 0, 0, 0, 0, 0, 0, 0, 0, 0]⟩ : ByteArray).extract 2 (⟨#[0, 0, 0, 0, 0, 0, 0, 0, 0, 0, 0, 0, 0, 0, 0, 0]⟩ : ByteArray).size = Jn.headB (q : Int) := by
    intro q hq
    have hc : q = 0 ∨ q = 1 ∨ q = 2 ∨ q = 3 ∨ q = 4 ∨ q = 5 ∨ q = 6 ∨ q = 7 ∨ q = 8 ∨ q = 9 ∨ q = 10 ∨ q = 11 ∨ q = 12 ∨ q = 13 ∨ q = 14 ∨ q = 15 ∨ q = 16 := by omega
    rcases hc with rfl | rfl | rfl | rfl | rfl | rfl | rfl | rfl | rfl | rfl | rfl | rfl | rfl | rfl | rfl | rfl | rfl <;> rfl
  have k2 := key q (by omega)
  simp -implicitDefEqProofs only [↓aP, aR, ↓reduceIte, reduceCtorEq, seval]
  refine ⟨by decide, ?_, by decide +kernel, k2⟩
  rw [← ByteArray.size_append, k2, Jn.size_head]
  decide
theorem tl_beq (a b : ByteArray) : (a.toList == b.toList) = decide (a = b) := by
  rw [ByteArray.toList_eq, ByteArray.toList_eq, Bool.eq_iff_iff, beq_iff_eq, decide_eq_true_iff]
  constructor
  · intro h
    have h2 := Array.toList_inj.1 h
    cases a; cases b; simp only at h2; rw [h2]
  · intro h; rw [h]
theorem headed_spec (s : ByteArray) (hs : s.size = 16) : Spec Tryz.prog 102 [rS s] (.val (.tup [(false, [.pv (.int .i64 ((Jn.headed s).getD 0))]), (false, [.pv (.bool (Jn.headed s).isSome)])])) := by
  refine spec_val mixed fn102 (by simp) ?_
  unfold ac102
  simp -implicitDefEqProofs only [↓aP, aR, ↓reduceIte, reduceCtorEq, seval]
  refine ⟨by omega, ?_⟩
  have e : Jn.pageOf s = ((s[1]'(by omega)).toNat : Int) := by unfold Jn.pageOf; rw [getElem?_pos s 1 (by omega)]; rfl
  have hb : (s[1]'(by omega)).toNat < 256 := UInt8.toNat_lt _
  have w : IntKind.i64.wrap ((s[1]'(by omega)).toNat : Int) = Jn.pageOf s := by rw [wrapI (by omega), e]
  simp -implicitDefEqProofs only [↓aP, aR, ↓reduceIte, reduceCtorEq, seval, w]
  refine ask (isPage_spec (Jn.pageOf s)) ?_
  cases hp : Jn.isPage (Jn.pageOf s)
  · simp -implicitDefEqProofs only [↓aP, aR, ↓reduceIte, reduceCtorEq, seval, Jn.headed, hp, Bool.false_eq_true, false_and, if_false, Option.getD_none, Option.isSome_none]
  simp -implicitDefEqProofs only [↓aP, aR, ↓reduceIte, reduceCtorEq, seval]
  refine ask (head_spec (Jn.pageOf s) hp) ?_
  by_cases hh : s = Jn.headB (Jn.pageOf s)
  · have e2 : Jn.headed s = some (Jn.pageOf s) := by unfold Jn.headed; rw [if_pos ⟨hp, hh⟩]
    simp -implicitDefEqProofs only [↓aP, aR, ↓reduceIte, reduceCtorEq, seval, tl_beq, decide_eq_true hh, Bool.not_true, e2, Option.getD_some, Option.isSome_some]
  · have e2 : Jn.headed s = none := by unfold Jn.headed; rw [if_neg (fun h => hh h.2)]
    simp -implicitDefEqProofs only [↓aP, aR, ↓reduceIte, reduceCtorEq, seval, tl_beq, decide_eq_false hh, Bool.not_false, e2, Option.getD_none, Option.isSome_none]
theorem plan_spec (d : Dk) (p : Int) (s : ByteArray) : Spec Tryz.prog 176 [.agg (encDk d), rI p, rS s] (.val (.tup [(false, [.sl 3 ((Jn.planM d p s).1.map encJo)]), (false, [.pv (.int .i64 (Jn.planM d p s).2)])])) := by
  refine spec_val mixed fn176 (by simp) ?_
  unfold ac176
  simp -implicitDefEqProofs only [↓aP, aR, ↓reduceIte, reduceCtorEq, seval, encDk]
  refine ask (usable_spec d) ?_
  cases hu : Jn.usable d
  · simp -implicitDefEqProofs only [↓aP, aR, ↓reduceIte, reduceCtorEq, seval, Jn.planM, hu, Bool.false_eq_true, false_and, if_false, List.map_nil]
  simp -implicitDefEqProofs only [↓aP, aR, ↓reduceIte, reduceCtorEq, seval]
  refine ask (isPage_spec p) ?_
  cases hp : Jn.isPage p
  · simp -implicitDefEqProofs only [↓aP, aR, ↓reduceIte, reduceCtorEq, seval, Jn.planM, hu, hp, Bool.false_eq_true, false_and, and_false, if_false, List.map_nil]
  simp -implicitDefEqProofs only [↓aP, aR, ↓reduceIte, reduceCtorEq, seval]
  by_cases hs : s.size = 32
  case neg =>
    simp -implicitDefEqProofs only [↓aP, aR, ↓reduceIte, reduceCtorEq, seval, show ((s.size : Int) != 32) = true by simp; omega, Jn.planM, hs, and_false, if_false, List.map_nil]
  have h := Jn.page_iff.1 hp
  have w1 : IntKind.i64.wrap (2 * p + 1 + 1) = 2 * p + 2 := by rw [wrapI (by omega)]; omega
  simp -implicitDefEqProofs only [↓aP, aR, ↓reduceIte, reduceCtorEq, seval, hs]
  refine ⟨by decide +kernel, ?_⟩
  refine ask (write_spec 1 (Jn.lo s)) ?_
  simp -implicitDefEqProofs only [↓aP, aR, ↓reduceIte, reduceCtorEq, seval]
  refine ask (write_spec 2 (Jn.hi s)) ?_
  simp -implicitDefEqProofs only [↓aP, aR, ↓reduceIte, reduceCtorEq, seval]
  refine ask jsync_spec ?_
  simp -implicitDefEqProofs only [↓aP, aR, ↓reduceIte, reduceCtorEq, seval]
  refine ask (head_spec p hp) ?_
  simp -implicitDefEqProofs only [↓aP, aR, ↓reduceIte, reduceCtorEq, seval]
  refine ask (write_spec 0 (Jn.headB p)) ?_
  simp -implicitDefEqProofs only [↓aP, aR, ↓reduceIte, reduceCtorEq, seval]
  refine ask jsync_spec ?_
  simp -implicitDefEqProofs only [↓aP, aR, ↓reduceIte, reduceCtorEq, seval]
  refine ask (home_spec p hp) ?_
  simp -implicitDefEqProofs only [↓aP, aR, ↓reduceIte, reduceCtorEq, seval]
  refine ask (write_spec (2 * p + 1) (Jn.lo s)) ?_
  simp -implicitDefEqProofs only [↓aP, aR, ↓reduceIte, reduceCtorEq, seval]
  refine ask (home_spec p hp) ?_
  simp -implicitDefEqProofs only [↓aP, aR, ↓reduceIte, reduceCtorEq, seval, w1]
  refine ask (write_spec (2 * p + 2) (Jn.hi s)) ?_
  simp -implicitDefEqProofs only [↓aP, aR, ↓reduceIte, reduceCtorEq, seval]
  refine ask jsync_spec ?_
  simp -implicitDefEqProofs only [↓aP, aR, ↓reduceIte, reduceCtorEq, seval]
  refine ask (write_spec 0 noughts) ?_
  simp -implicitDefEqProofs only [↓aP, aR, ↓reduceIte, reduceCtorEq, seval]
  refine ask jsync_spec ?_
  simp -implicitDefEqProofs only [↓aP, aR, ↓reduceIte, reduceCtorEq, seval, encJo, Jn.planM, hu, hp, hs, and_self, if_true, Jn.plan, List.map_cons, List.map_nil]
theorem read_16 {d : Dk} {a : Int} (hr : rightB d = true) (hh : hasB d a = true) : (readD d a).1.size = 16 := by
  obtain ⟨i, rfl, hi⟩ := has_nat hh
  rw [read_ok hr hh]
  have h16 := right_16 hr
  rw [List.all_eq_true] at h16
  cases hl : lookB d.cache (i : Int) with
  | some w =>
    obtain ⟨hm, _⟩ := lookB_mem hl
    have := (fits_has (right_fits hr w hm)).2
    simp only; omega
  | none =>
    have h2 := h16 _ (List.getElem_mem hi)
    unfold len16 at h2
    rw [beq_iff_eq] at h2
    simp only [Int.toNat_natCast, List.getElem?_eq_getElem hi, Option.getD_some]
    omega
theorem usable_right {d : Dk} (h : Jn.usable d = true) : rightB d = true ∧ ∀ a : Int, 0 ≤ a → a < 35 → hasB d a = true := by
  unfold Jn.usable at h
  rw [Bool.and_eq_true, decide_eq_true_iff] at h
  refine ⟨h.1, fun a h0 h1 => ?_⟩
  unfold hasB
  rw [decide_eq_true h0, decide_eq_true (by omega)]; rfl
theorem headed_page {s : ByteArray} {p : Int} (h : Jn.headed s = some p) : Jn.isPage p = true := by
  unfold Jn.headed at h
  split at h
  · rename_i h1
    cases h
    exact h1.1
  · cases h
theorem noughts_eq : noughts = ⟨#[0, 0, 0, 0, 0, 0, 0, 0, 0, 0, 0, 0, 0, 0, 0, 0]⟩ := rfl
theorem repair_spec (d : Dk) : Spec Tryz.prog 66 [.agg (encDk d)] (.val (rL 3 ((Jn.repairM d).map encJo))) := by
  refine spec_val mixed fn66 (by simp) ?_
  unfold ac66
  simp -implicitDefEqProofs only [↓aP, aR, ↓reduceIte, reduceCtorEq, seval, encDk]
  refine ask (usable_spec d) ?_
  cases hu : Jn.usable d
  · simp -implicitDefEqProofs only [↓aP, aR, ↓reduceIte, reduceCtorEq, seval, Jn.repairM, hu, if_true, List.map_nil]
  obtain ⟨hr, hh⟩ := usable_right hu
  have hs := read_16 hr (hh 0 (by omega) (by omega))
  have eu : ¬ (Jn.usable d = false) := by simp [hu]
  simp -implicitDefEqProofs only [↓aP, aR, ↓reduceIte, reduceCtorEq, seval, encDk]
  refine ask (read_spec d 0) ?_
  by_cases hn : (readD d 0).1 = noughts
  · have e : Jn.repairM d = [] := by unfold Jn.repairM; rw [if_neg eu, if_pos hn]
    simp -implicitDefEqProofs only [↓aP, aR, ↓reduceIte, reduceCtorEq, seval, tl_beq, ← noughts_eq, decide_eq_true hn, e, List.map_nil]
  simp -implicitDefEqProofs only [↓aP, aR, ↓reduceIte, reduceCtorEq, seval, tl_beq, ← noughts_eq, decide_eq_false hn]
  refine ask (headed_spec _ hs) ?_
  cases hd : Jn.headed (readD d 0).1 with
  | none =>
    have e : Jn.repairM d = Jn.clear := by unfold Jn.repairM; rw [if_neg eu, if_neg hn, hd]
    simp -implicitDefEqProofs only [↓aP, aR, ↓reduceIte, reduceCtorEq, seval, Option.getD_none, Option.isSome_none]
    refine ask (write_spec 0 noughts) ?_
    simp -implicitDefEqProofs only [↓aP, aR, ↓reduceIte, reduceCtorEq, seval]
    refine ask jsync_spec ?_
    simp -implicitDefEqProofs only [↓aP, aR, ↓reduceIte, reduceCtorEq, seval, e, Jn.clear, List.map_cons, List.map_nil, encJo]
  | some p =>
    have hp := headed_page hd
    have h := Jn.page_iff.1 hp
    have w1 : IntKind.i64.wrap (2 * p + 1 + 1) = 2 * p + 2 := by rw [wrapI (by omega)]; omega
    have e : Jn.repairM d = Jn.mend d p ++ Jn.clear := by unfold Jn.repairM; rw [if_neg eu, if_neg hn, hd]
    simp -implicitDefEqProofs only [↓aP, aR, ↓reduceIte, reduceCtorEq, seval, Option.getD_some, Option.isSome_some, encDk]
    refine ask (read_spec d 1) ?_
    simp -implicitDefEqProofs only [↓aP, aR, ↓reduceIte, reduceCtorEq, seval, encDk]
    refine ask (read_spec d 2) ?_
    simp -implicitDefEqProofs only [↓aP, aR, ↓reduceIte, reduceCtorEq, seval]
    refine ask (home_spec p hp) ?_
    simp -implicitDefEqProofs only [↓aP, aR, ↓reduceIte, reduceCtorEq, seval]
    refine ask (write_spec (2 * p + 1) (readD d 1).1) ?_
    simp -implicitDefEqProofs only [↓aP, aR, ↓reduceIte, reduceCtorEq, seval]
    refine ask (home_spec p hp) ?_
    simp -implicitDefEqProofs only [↓aP, aR, ↓reduceIte, reduceCtorEq, seval, w1]
    refine ask (write_spec (2 * p + 2) (readD d 2).1) ?_
    simp -implicitDefEqProofs only [↓aP, aR, ↓reduceIte, reduceCtorEq, seval]
    refine ask jsync_spec ?_
    simp -implicitDefEqProofs only [↓aP, aR, ↓reduceIte, reduceCtorEq, seval, encJo, Jn.wr, Jn.sy]
    refine ask (write_spec 0 noughts) ?_
    simp -implicitDefEqProofs only [↓aP, aR, ↓reduceIte, reduceCtorEq, seval]
    refine ask jsync_spec ?_
    simp -implicitDefEqProofs only [↓aP, aR, ↓reduceIte, reduceCtorEq, seval, e, Jn.mend, Jn.clear, List.map_append, List.map_cons, List.map_nil, encJo, Jn.wr, Jn.sy]
theorem run_spec (d : Dk) (l : List Jo) (most : Int) (hl : l.length < 4611686018427387904) : Spec Tryz.prog 23 [.agg (encDk d), rL 3 (l.map encJo), rI most] (.val (.agg (encDk (Jn.runM d l most)))) := by
  refine spec_val mixed fn23 (by simp) ?_
  unfold ac23
  obtain ⟨k, hk, hkl, hkt⟩ : ∃ k : Nat, max 0 (min most (l.length : Int)) = (k : Int) ∧ k ≤ l.length ∧ l.take most.toNat = l.take k := by
    refine ⟨(max 0 (min most (l.length : Int))).toNat, by omega, by omega, ?_⟩
    by_cases h : most.toNat ≤ l.length
    · rw [show (max 0 (min most (l.length : Int))).toNat = most.toNat by omega]
    · rw [show (max 0 (min most (l.length : Int))).toNat = l.length by omega, List.take_length, List.take_of_length_le (by omega)]
  have hkt2 : (l.take k).length = k := by rw [List.length_take]; omega
  have hrs : ∀ i (hi : i < l.length), Jn.runJ d (l.take (i + 1)) = Jn.stepJ (Jn.runJ d (l.take i)) l[i] := fun i hi => by
    rw [take_snoc hi, Jn.runJ_app]; rfl
  simp -implicitDefEqProofs only [↓aP, aR, ↓reduceIte, reduceCtorEq, seval, encDk, List.length_map, hk]
  refine ⟨by omega, ?_⟩
  refine rangeB k (fun i σ => σ.slot 3 = .c (.ptr 3 1 0 0) ∧ σ.h.gen 3 = 1 ∧ σ.h.blk 3 = .box 38 2 [(encDk (Jn.runJ d (l.take i))).map AC.s] ∧ σ.slot 6 = .c (.ptr 6 1 0 0) ∧ σ.h.gen 6 = 1 ∧ σ.h.blk 6 = .box 38 2 [[.zc, .zc]] ∧ σ.slot 15 = vL 3 ((l.take k).map encJo) ∧ σ.slot 16 = vI k ∧ σ.slot 17 = vI i) ?_ ?_ ?_
  · simp -implicitDefEqProofs only [↓aP, aR, ↓reduceIte, reduceCtorEq, seval, encDk, List.take_zero, Jn.runJ_nil, ← List.map_take, List.length_map, hkt2, show min k l.length = k by omega]
  · rintro i m σ him hi hlt ⟨s3, g3, b3, s6, g6, b6, s15, s16, s17⟩
    have hil : i < l.length := by omega
    have hik : i < (l.take k).length := by omega
    have hgt : (l.take k)[i] = l[i] := List.getElem_take
    have hstep := hrs i hil
    generalize Jn.runJ d (l.take i) = x at b3 hstep
    cases hsy : l[i].sync
    · unfold Jn.stepJ at hstep
      rw [hsy] at hstep
      simp only [Bool.false_eq_true, if_false] at hstep
      simp -implicitDefEqProofs only [↓aP, aR, ↓reduceIte, reduceCtorEq, seval, hlt, s3, g3, b3, s6, g6, b6, s15, s16, s17, askIdx_map, hik, hgt, encJo, hsy, encDk]
      refine ask (by have := put_spec x l[i].w; rw [encWr] at this; exact this) ?_
      simp -implicitDefEqProofs only [↓aP, aR, ↓reduceIte, reduceCtorEq, seval, s3, g3, b3, s6, g6, b6, s15, s16, s17, encDk, wrapS (show i < 4611686018427387904 by omega)]
      refine nextR hi him ?_
      simp -implicitDefEqProofs only [↓aP, aR, ↓reduceIte, reduceCtorEq, seval, s3, g3, b3, s6, g6, b6, s15, s16, s17, hstep, encDk]
    · unfold Jn.stepJ at hstep
      rw [hsy] at hstep
      simp only [if_true] at hstep
      simp -implicitDefEqProofs only [↓aP, aR, ↓reduceIte, reduceCtorEq, seval, hlt, s3, g3, b3, s6, g6, b6, s15, s16, s17, askIdx_map, hik, hgt, encJo, hsy, encDk]
      refine ask (sync_spec x) ?_
      simp -implicitDefEqProofs only [↓aP, aR, ↓reduceIte, reduceCtorEq, seval, s3, g3, b3, s6, g6, b6, s15, s16, s17, encDk, wrapS (show i < 4611686018427387904 by omega)]
      refine nextR hi him ?_
      simp -implicitDefEqProofs only [↓aP, aR, ↓reduceIte, reduceCtorEq, seval, s3, g3, b3, s6, g6, b6, s15, s16, s17, hstep, encDk]
  · rintro m σ hlt ⟨s3, g3, b3, s6, g6, b6, s15, s16, s17⟩
    simp -implicitDefEqProofs only [↓aP, aR, ↓reduceIte, reduceCtorEq, seval, hlt, s3, g3, b3, s6, g6, b6, s15, s16, s17, Jn.runM, hkt, encDk]
theorem plan_le {d : Dk} {p : Int} {s : ByteArray} : (Jn.planM d p s).1.length ≤ 10 := by
  unfold Jn.planM
  split
  · simp [Jn.plan]
  · simp
theorem repair_le {d : Dk} : (Jn.repairM d).length ≤ 5 := by
  unfold Jn.repairM
  split
  · simp
  split
  · simp
  split <;> simp [Jn.mend, Jn.clear]
theorem runM_all {d : Dk} {l : List Jo} : Jn.runM d l l.length = Jn.runJ d l := by
  unfold Jn.runM
  rw [Int.toNat_natCast, List.take_length]
theorem commit_spec (d : Dk) (p : Int) (s : ByteArray) : Spec Tryz.prog 177 [.agg (encDk d), rI p, rS s] (.val (.tup [(true, encDk (Jn.commitM d p s).1), (false, [.pv (.int .i64 (Jn.commitM d p s).2)])])) := by
  refine spec_val mixed fn177 (by simp) ?_
  unfold ac177
  simp -implicitDefEqProofs only [↓aP, aR, ↓reduceIte, reduceCtorEq, seval, encDk]
  refine ask (plan_spec d p s) ?_
  simp -implicitDefEqProofs only [↓aP, aR, ↓reduceIte, reduceCtorEq, seval, encDk, List.length_map]
  refine ask (run_spec d (Jn.planM d p s).1 ((Jn.planM d p s).1.length : Int) (by have := plan_le (d := d) (p := p) (s := s); omega)) ?_
  simp -implicitDefEqProofs only [↓aP, aR, ↓reduceIte, reduceCtorEq, seval, encDk, runM_all, Jn.commitM]
theorem recover_spec (d : Dk) : Spec Tryz.prog 55 [.agg (encDk d)] (.val (.agg (encDk (Jn.recoverM d)))) := by
  refine spec_val mixed fn55 (by simp) ?_
  unfold ac55
  simp -implicitDefEqProofs only [↓aP, aR, ↓reduceIte, reduceCtorEq, seval, encDk]
  refine ask (repair_spec d) ?_
  simp -implicitDefEqProofs only [↓aP, aR, ↓reduceIte, reduceCtorEq, seval, encDk, List.length_map]
  refine ask (run_spec d (Jn.repairM d) ((Jn.repairM d).length : Int) (by have := repair_le (d := d); omega)) ?_
  simp -implicitDefEqProofs only [↓aP, aR, ↓reduceIte, reduceCtorEq, seval, encDk, runM_all, Jn.recoverM]
theorem jget_spec (d : Dk) (p : Int) : Spec Tryz.prog 53 [.agg (encDk d), rI p] (.val (.tup [(false, [.pv (.string (Jn.getM d p).1)]), (false, [.pv (.int .i64 (Jn.getM d p).2)])])) := by
  refine spec_val mixed fn53 (by simp) ?_
  unfold ac53
  simp -implicitDefEqProofs only [↓aP, aR, ↓reduceIte, reduceCtorEq, seval, encDk]
  refine ask (usable_spec d) ?_
  cases hu : Jn.usable d
  · simp -implicitDefEqProofs only [↓aP, aR, ↓reduceIte, reduceCtorEq, seval, Jn.getM, hu, Bool.false_eq_true, false_and, if_false]
  simp -implicitDefEqProofs only [↓aP, aR, ↓reduceIte, reduceCtorEq, seval]
  refine ask (isPage_spec p) ?_
  cases hp : Jn.isPage p
  · simp -implicitDefEqProofs only [↓aP, aR, ↓reduceIte, reduceCtorEq, seval, Jn.getM, hu, hp, Bool.false_eq_true, and_false, if_false]
  have h := Jn.page_iff.1 hp
  have w1 : IntKind.i64.wrap (2 * p + 1 + 1) = 2 * p + 2 := by rw [wrapI (by omega)]; omega
  obtain ⟨hr, hh⟩ := usable_right hu
  have z1 := read_16 hr (hh (2 * p + 1) (by omega) (by omega))
  have z2 := read_16 hr (hh (2 * p + 2) (by omega) (by omega))
  simp -implicitDefEqProofs only [↓aP, aR, ↓reduceIte, reduceCtorEq, seval, encDk]
  refine ask (home_spec p hp) ?_
  simp -implicitDefEqProofs only [↓aP, aR, ↓reduceIte, reduceCtorEq, seval, encDk]
  refine ask (read_spec d (2 * p + 1)) ?_
  simp -implicitDefEqProofs only [↓aP, aR, ↓reduceIte, reduceCtorEq, seval, encDk]
  refine ⟨by decide +kernel, ?_⟩
  refine ask (home_spec p hp) ?_
  simp -implicitDefEqProofs only [↓aP, aR, ↓reduceIte, reduceCtorEq, seval, encDk, w1]
  refine ask (read_spec d (2 * p + 2)) ?_
  simp -implicitDefEqProofs only [↓aP, aR, ↓reduceIte, reduceCtorEq, seval, Jn.getM, hu, hp, and_self, if_true]
  exact ⟨by decide +kernel, by omega⟩
end Go.Proofs.YtcbfhpnmhhnjpaaGreat

namespace Go.Proofs.YtcbfhpnmhhnjpaaGreat
namespace Jn
section
variable {n : Nat} {s : List ByteArray} {c : List Wr} (hn : 35 ≤ n ∧ n ≤ 64) (hs : Ok n s) (hc : Cok n c)
include hs hc hn in
theorem repair_idle (h0 : rd s c 0 = noughts) : repairM ⟨s, c⟩ = [] := by
  unfold repairM
  rw [if_neg (by simp [usable_ok hn hs hc]), read_rd ⟨by omega, hn.2⟩ hs hc (by omega), if_pos h0]
include hs hc hn in
theorem recover_idle (h0 : rd s c 0 = noughts) : recoverM ⟨s, c⟩ = ⟨s, c⟩ := by
  unfold recoverM
  rw [repair_idle hn hs hc h0]; rfl
end
section
variable {n : Nat} {s : List ByteArray} {p : Int} {x : ByteArray} {t : List ByteArray} (hn : 35 ≤ n ∧ n ≤ 64) (hs : Ok n s) (hp : 1 ≤ p ∧ p ≤ 16) (hx : x.size = 32)
include hs hx hn hp in
theorem s4_fin : Fin n s p x (s4 s p x) := by
  refine ⟨ok4 hn hs hp hx, fun i h1 h2 h3 h4 => by rw [rdS4 hn hs hp hx (by omega), if_neg (by omega), if_neg (by omega), if_neg (by omega), if_neg (by omega), if_neg (by omega)], by rw [rdS4 hn hs hp hx (by omega)]; rfl, ?_, ?_⟩
  · rw [rdS4 hn hs hp hx (by omega), if_neg (by omega), if_neg (by omega), if_pos rfl]
  · rw [rdS4 hn hs hp hx (by omega), if_neg (by omega), if_pos rfl]
end
theorem get_sec {n : Nat} {s : List ByteArray} {q : Int} (hn : 35 ≤ n ∧ n ≤ 64) (hs : Ok n s) (hq : 1 ≤ q ∧ q ≤ 16) : getM ⟨s, []⟩ q = (rd s [] (2 * q + 1) ++ rd s [] (2 * q + 2), 0) := get_rd hn hs cok_nil (page_iff.2 hq)
theorem fin_get {n : Nat} {s : List ByteArray} {p : Int} {x : ByteArray} {t : List ByteArray} (hn : 35 ≤ n ∧ n ≤ 64) (hs : Ok n s) (hp : 1 ≤ p ∧ p ≤ 16) (hx : x.size = 32) (hf : Fin n s p x t) (q : Int) (hq : 1 ≤ q ∧ q ≤ 16) : getM ⟨t, []⟩ q = (if q = p then x else (getM ⟨s, []⟩ q).1, 0) := by
  rw [get_sec hn hf.ok hq, get_sec hn hs hq]
  by_cases e : q = p
  · rw [if_pos e, e, hf.page.1, hf.page.2, lo_hi hx]
  · rw [if_neg e, hf.rest _ (by omega) (by omega) (by omega) (by omega), hf.rest _ (by omega) (by omega) (by omega) (by omega)]
def new35 : List ByteArray := List.replicate 35 noughts
theorem ok_new : Ok 35 new35 := ⟨by simp [new35], fun x hx => by rw [List.eq_of_mem_replicate hx]; rfl⟩
theorem new_eq : newD 35 = (⟨new35, []⟩, 0) := rfl
theorem rd_new {i : Int} (h : 0 ≤ i ∧ i < 35) : rd new35 [] i = noughts := by
  rw [rd_nil]
  unfold new35
  rw [List.getElem?_replicate, if_pos (by omega)]; rfl
end Jn
end Go.Proofs.YtcbfhpnmhhnjpaaGreat

namespace Go.Proofs.YtcbfhpnmhhnjpaaGreat
open Go.RowKit
namespace Jn
theorem h35 : (35 : Nat) ≤ 35 ∧ 35 ≤ 64 := by omega
end Jn
end Go.Proofs.YtcbfhpnmhhnjpaaGreat

namespace Go.Proofs.YtcbfhpnmhhnjpaaGreat
open Go.RowKit
theorem may12_spec (d : Dk) : Spec Tryz.prog 27 [.agg (encDk d)] (.val (rB (Jn.usable d))) := by
  refine spec_val mixed fn27 (by simp) ?_
  unfold ac27
  simp -implicitDefEqProofs only [↓aP, aR, ↓reduceIte, reduceCtorEq, seval, encDk]
  refine ask (refRight_spec d) ?_
  cases hr : rightB d
  · simp -implicitDefEqProofs only [↓aP, aR, ↓reduceIte, reduceCtorEq, seval, Jn.usable, hr, Bool.false_and]
  · simp -implicitDefEqProofs only [↓aP, aR, ↓reduceIte, reduceCtorEq, seval, Jn.usable, hr, Bool.true_and, encDk, List.length_map]
    rw [decide_eq_decide]; omega
theorem at_spec (n : Int) (s : ByteArray) : Spec Tryz.prog 60 [rI n, rS s] (.val (.agg (encJo (Jn.wr n s)))) := by
  refine spec_val mixed fn60 (by simp) ?_
  unfold ac60
  simp -implicitDefEqProofs only [↓aP, aR, ↓reduceIte, reduceCtorEq, seval, encJo, Jn.wr]
def pad (s : ByteArray) : Nat → ByteArray
  | 0 => s
  | k + 1 => pad s k ++ strOfNums [0]
theorem pad_size (s : ByteArray) : ∀ k, (pad s k).size = s.size + k
  | 0 => rfl
  | k + 1 => by rw [pad, ByteArray.size_append, pad_size s k]; rfl
theorem filled_spec (s : ByteArray) (hs : s.size ≤ 16) : Spec Tryz.prog 59 [rS s] (.val (rS (pad s (16 - s.size)))) := by
  refine spec_val mixed fn59 (by simp) ?_
  unfold ac59
  simp -implicitDefEqProofs only [↓aP, aR, ↓reduceIte, reduceCtorEq, seval]
  refine loopA (fun m σ => ∃ k, k + m = 16 - s.size ∧ σ.slot 0 = .c (.s (.pv (.string (pad s k))))) (16 - s.size) ⟨0, by omega, ?_⟩ ?_
  · simp -implicitDefEqProofs only [↓aP, aR, ↓reduceIte, reduceCtorEq, seval]
    rfl
  · rintro m σ ⟨k, hk, s0⟩
    have hz := pad_size s k
    by_cases hm : m = 0
    · subst hm
      simp -implicitDefEqProofs only [↓aP, aR, ↓reduceIte, reduceCtorEq, seval, s0, show decide (((pad s k).size : Int) < 16) = false by simp; omega, show 16 - s.size = k by omega]
    · simp -implicitDefEqProofs only [↓aP, aR, ↓reduceIte, reduceCtorEq, seval, s0, show decide (((pad s k).size : Int) < 16) = true by simp; omega]
      have hz1 : (strOfNums [0]).size = 1 := rfl
      exact ⟨by omega, m - 1, by omega, k + 1, by omega, rfl⟩
theorem pad_head (p : Int) (hp : Jn.isPage p = true) : pad (strOfNums [74, IntKind.u8.wrap p]) 14 = Jn.headB p := by
  have h := Jn.page_iff.1 hp
  obtain ⟨q, rfl⟩ : ∃ q : Nat, p = q := ⟨p.toNat, by omega⟩
  have hc : q = 1 ∨ q = 2 ∨ q = 3 ∨ q = 4 ∨ q = 5 ∨ q = 6 ∨ q = 7 ∨ q = 8 ∨ q = 9 ∨ q = 10 ∨ q = 11 ∨ q = 12 ∨ q = 13 ∨ q = 14 ∨ q = 15 ∨ q = 16 := by omega
  rcases hc with rfl | rfl | rfl | rfl | rfl | rfl | rfl | rfl | rfl | rfl | rfl | rfl | rfl | rfl | rfl | rfl <;> rfl
theorem pad_nought : pad ⟨#[]⟩ 16 = noughts := rfl
theorem filled_head (p : Int) (hp : Jn.isPage p = true) : Spec Tryz.prog 59 [rS (strOfNums [74, IntKind.u8.wrap p])] (.val (rS (Jn.headB p))) := by
  have := filled_spec (strOfNums [74, IntKind.u8.wrap p]) (by show 2 ≤ 16; omega)
  rwa [show 16 - (strOfNums [74, IntKind.u8.wrap p]).size = 14 from rfl, pad_head p hp] at this
theorem filled_nought : Spec Tryz.prog 59 [rS ⟨#[]⟩] (.val (rS noughts)) := by
  have := filled_spec ⟨#[]⟩ (by show 0 ≤ 16; omega)
  rwa [show 16 - (⟨#[]⟩ : ByteArray).size = 16 from rfl, pad_nought] at this
theorem rPlan_spec (p : Int) (s : ByteArray) (hp : Jn.isPage p = true) (hs : s.size = 32) : Spec Tryz.prog 69 [rI p, rS s] (.val (rL 3 ((Jn.plan p s).map encJo))) := by
  refine spec_val mixed fn69 (by simp) ?_
  unfold ac69
  have h := Jn.page_iff.1 hp
  simp -implicitDefEqProofs only [↓aP, aR, ↓reduceIte, reduceCtorEq, seval, hs, show IntKind.i64.wrap (2 * p) = 2 * p from wrapI (by omega), show IntKind.i64.wrap (2 * p + 1) = 2 * p + 1 from wrapI (by omega)]
  refine ⟨by decide +kernel, ?_⟩
  refine ask (at_spec 1 (Jn.lo s)) ?_
  simp -implicitDefEqProofs only [↓aP, aR, ↓reduceIte, reduceCtorEq, seval]
  refine ask (at_spec 2 (Jn.hi s)) ?_
  simp -implicitDefEqProofs only [↓aP, aR, ↓reduceIte, reduceCtorEq, seval]
  refine ask (filled_head p hp) ?_
  simp -implicitDefEqProofs only [↓aP, aR, ↓reduceIte, reduceCtorEq, seval]
  refine ask (at_spec 0 (Jn.headB p)) ?_
  simp -implicitDefEqProofs only [↓aP, aR, ↓reduceIte, reduceCtorEq, seval]
  refine ask (at_spec (2 * p + 1) (Jn.lo s)) ?_
  simp -implicitDefEqProofs only [↓aP, aR, ↓reduceIte, reduceCtorEq, seval, show IntKind.i64.wrap (2 * p + 1 + 1) = 2 * p + 2 by rw [wrapI (by omega)]; omega]
  refine ask (at_spec (2 * p + 2) (Jn.hi s)) ?_
  simp -implicitDefEqProofs only [↓aP, aR, ↓reduceIte, reduceCtorEq, seval]
  refine ask filled_nought ?_
  simp -implicitDefEqProofs only [↓aP, aR, ↓reduceIte, reduceCtorEq, seval]
  refine ask (at_spec 0 noughts) ?_
  simp -implicitDefEqProofs only [↓aP, aR, ↓reduceIte, reduceCtorEq, seval, encJo, Jn.plan, Jn.sy, List.map_cons, List.map_nil]
  decide +kernel
theorem rGet_spec (d : Dk) (p : Int) (hu : Jn.usable d = true) (hp : Jn.isPage p = true) : Spec Tryz.prog 52 [.agg (encDk d), rI p] (.val (rS (Jn.getM d p).1)) := by
  refine spec_val mixed fn52 (by simp) ?_
  unfold ac52
  have h := Jn.page_iff.1 hp
  obtain ⟨hr, hh⟩ := usable_right hu
  have z1 := read_16 hr (hh (2 * p + 1) (by omega) (by omega))
  have z2 := read_16 hr (hh (2 * p + 2) (by omega) (by omega))
  simp -implicitDefEqProofs only [↓aP, aR, ↓reduceIte, reduceCtorEq, seval, encDk, show IntKind.i64.wrap (2 * p) = 2 * p from wrapI (by omega), show IntKind.i64.wrap (2 * p + 1) = 2 * p + 1 from wrapI (by omega), show IntKind.i64.wrap (2 * p + 2) = 2 * p + 2 from wrapI (by omega)]
  refine ask (refRead_spec d (2 * p + 1) hr (hh _ (by omega) (by omega))) ?_
  simp -implicitDefEqProofs only [↓aP, aR, ↓reduceIte, reduceCtorEq, seval, encDk, show IntKind.i64.wrap (2 * p) = 2 * p from wrapI (by omega), show IntKind.i64.wrap (2 * p + 2) = 2 * p + 2 from wrapI (by omega)]
  refine ask (refRead_spec d (2 * p + 2) hr (hh _ (by omega) (by omega))) ?_
  simp -implicitDefEqProofs only [↓aP, aR, ↓reduceIte, reduceCtorEq, seval, Jn.getM, hu, hp, and_self, if_true]
  exact ⟨by omega, by decide +kernel⟩
set_option maxRecDepth 100000 in
set_option maxHeartbeats 4000000 in
theorem rRun_spec (d : Dk) (l : List Jo) (hl : l.length ≤ 99) : Spec Tryz.prog 28 [.agg (encDk d), rL 3 (l.map encJo), rI 99] (.val (.agg (encDk (Jn.runJ d l)))) := by
  refine spec_val mixed fn28 (by simp) ?_
  unfold ac28
  have hrs : ∀ i (hi : i < l.length), Jn.runJ d (l.take (i + 1)) = Jn.stepJ (Jn.runJ d (l.take i)) l[i] := fun i hi => by
    rw [take_snoc hi, Jn.runJ_app]; rfl
  simp -implicitDefEqProofs only [↓aP, aR, ↓reduceIte, reduceCtorEq, seval, encDk]
  refine loopA (fun m σ => ∃ i : Nat, i + m = l.length ∧ σ.slot 1 = vL 3 (l.map encJo) ∧ σ.slot 2 = vI 99 ∧ σ.slot 3 = .c (.ptr 3 1 0 0) ∧ σ.h.gen 3 = 1 ∧ σ.slot 6 = .c (.ptr 6 1 0 0) ∧ σ.h.gen 6 = 1 ∧ σ.h.blk 6 = .box 38 2 [[.zc, .zc]] ∧ σ.slot 7 = vI i ∧ ((σ.h.blk 3 = .box 38 2 [(encDk (Jn.runJ d (l.take i))).map AC.s]) ∨ ∃ g ss ws, Jn.runJ d (l.take i) = ⟨ss, ws⟩ ∧ σ.h.gen 65 = g ∧ σ.h.blk 65 = .row 120 2 (ws.map encWr) ∧ σ.h.blk 3 = .box 38 2 [[.s (.sl 1 (ss.map encS)), .own 65 g]])) l.length ⟨0, by omega, ?_⟩ ?_
  · simp -implicitDefEqProofs only [↓aP, aR, ↓reduceIte, reduceCtorEq, seval, encDk, List.take_zero, Jn.runJ_nil, true_or]
  rintro m σ ⟨i, him, s1, s2, s3, g3, s6, g6, b6, s7, hb3⟩
  have wi := wrapS (show i < 4611686018427387904 by omega)
  rcases hb3 with b3 | ⟨g, ss, ws, hd, g65, b65, b3⟩
  · by_cases hi : i < l.length
    case neg =>
      have hil : i = l.length := by omega
      rw [hil, List.take_length] at b3
      simp -implicitDefEqProofs only [↓aP, aR, ↓reduceIte, reduceCtorEq, seval, s1, s2, s3, g3, s6, g6, b6, s7, b3, List.length_map, show decide ((i : Int) < (l.length : Int)) = false by simp; omega, encDk]
    have d1 : decide ((i : Int) < (l.length : Int)) = true := by simp; omega
    have d2 : decide ((i : Int) < 99) = true := by simp; omega
    have hstep := hrs i hi
    generalize Jn.runJ d (l.take i) = x at b3 hstep
    unfold Jn.stepJ at hstep
    cases hsy : l[i].sync
    · rw [hsy] at hstep
      simp only [Bool.false_eq_true, if_false] at hstep
      simp -implicitDefEqProofs only [↓aP, aR, ↓reduceIte, reduceCtorEq, seval, s1, s2, s3, g3, s6, g6, b6, s7, b3, List.length_map, d1, d2, askIdx_map, hi, encJo, hsy, encDk]
      refine ask (refRight_spec x) ?_
      cases hr : rightB x
      · have e : Jn.runJ d (l.take (i + 1)) = x := hstep.trans (by unfold putD; rw [hr]; rfl)
        simp -implicitDefEqProofs only [↓aP, aR, ↓reduceIte, reduceCtorEq, seval, s1, s2, s3, g3, s6, g6, b6, s7, b3, wi]
        refine ⟨m - 1, by omega, i + 1, by omega, ?_⟩
        simp -implicitDefEqProofs only [↓aP, aR, ↓reduceIte, reduceCtorEq, seval, s1, s2, s3, g3, s6, g6, b6, s7, b3, e, encDk, true_or]
      · have hrl := right_len hr
        by_cases f1 : 0 ≤ l[i].w.at_
        case neg =>
          have e : Jn.runJ d (l.take (i + 1)) = x := hstep.trans (by unfold putD; rw [hr, show fitsB x l[i].w = false by unfold fitsB hasB; rw [decide_eq_false f1]; rfl]; rfl)
          simp -implicitDefEqProofs only [↓aP, aR, ↓reduceIte, reduceCtorEq, seval, s1, s2, s3, g3, s6, g6, b6, s7, b3, encDk, List.length_map, decide_eq_false f1, wi]
          refine ⟨m - 1, by omega, i + 1, by omega, ?_⟩
          simp -implicitDefEqProofs only [↓aP, aR, ↓reduceIte, reduceCtorEq, seval, s1, s2, s3, g3, s6, g6, b6, s7, b3, e, encDk, true_or]
        by_cases f2 : l[i].w.at_ < x.sectors.length
        case neg =>
          have e : Jn.runJ d (l.take (i + 1)) = x := hstep.trans (by unfold putD; rw [hr, show fitsB x l[i].w = false by unfold fitsB hasB; simp only [decide_eq_false f2]; simp]; rfl)
          simp -implicitDefEqProofs only [↓aP, aR, ↓reduceIte, reduceCtorEq, seval, s1, s2, s3, g3, s6, g6, b6, s7, b3, encDk, List.length_map, decide_eq_true f1, decide_eq_false f2, wi]
          refine ⟨m - 1, by omega, i + 1, by omega, ?_⟩
          simp -implicitDefEqProofs only [↓aP, aR, ↓reduceIte, reduceCtorEq, seval, s1, s2, s3, g3, s6, g6, b6, s7, b3, e, encDk, true_or]
        cases f3 : ((l[i].w.data.size : Int) == 16)
        · have e : Jn.runJ d (l.take (i + 1)) = x := hstep.trans (by unfold putD; rw [hr, show fitsB x l[i].w = false by unfold fitsB; rw [f3, Bool.and_false]]; rfl)
          simp -implicitDefEqProofs only [↓aP, aR, ↓reduceIte, reduceCtorEq, seval, s1, s2, s3, g3, s6, g6, b6, s7, b3, encDk, List.length_map, decide_eq_true f1, decide_eq_true f2, f3, wi]
          refine ⟨m - 1, by omega, i + 1, by omega, ?_⟩
          simp -implicitDefEqProofs only [↓aP, aR, ↓reduceIte, reduceCtorEq, seval, s1, s2, s3, g3, s6, g6, b6, s7, b3, e, encDk, true_or]
        have hft : fitsB x l[i].w = true := by unfold fitsB hasB; simp only [decide_eq_true f1, decide_eq_true f2, f3]; rfl
        by_cases f4 : x.cache.length = 200
        · have e : Jn.runJ d (l.take (i + 1)) = x := hstep.trans (by unfold putD; rw [hr, hft, if_neg (by simp), if_pos f4])
          simp -implicitDefEqProofs only [↓aP, aR, ↓reduceIte, reduceCtorEq, seval, s1, s2, s3, g3, s6, g6, b6, s7, b3, encDk, List.length_map, decide_eq_true f1, decide_eq_true f2, f3, show decide ((x.cache.length : Int) < 200) = false by simp; omega, wi]
          refine ⟨m - 1, by omega, i + 1, by omega, ?_⟩
          simp -implicitDefEqProofs only [↓aP, aR, ↓reduceIte, reduceCtorEq, seval, s1, s2, s3, g3, s6, g6, b6, s7, b3, e, encDk, true_or]
        have e : (putD x l[i].w).1 = ⟨x.sectors, x.cache ++ [l[i].w]⟩ := by rw [put_ok hr hft f4]
        rw [e] at hstep
        simp -implicitDefEqProofs only [↓aP, aR, ↓reduceIte, reduceCtorEq, seval, s1, s2, s3, g3, s6, g6, b6, s7, b3, encDk, List.length_map, decide_eq_true f1, decide_eq_true f2, f3, show decide ((x.cache.length : Int) < 200) = true by simp; omega]
        refine ⟨by omega, by omega, by omega, by omega, by decide +kernel, ?_⟩
        simp -implicitDefEqProofs only [↓aP, aR, ↓reduceIte, reduceCtorEq, seval, s1, s2, s3, g3, s6, g6, b6, s7, b3, wi]
        refine ⟨m - 1, by omega, i + 1, by omega, ?_⟩
        simp -implicitDefEqProofs only [↓aP, aR, ↓reduceIte, reduceCtorEq, seval, s1, s2, s3, g3, s6, g6, b6, s7, b3]
        refine .inr ⟨_, x.sectors, x.cache ++ [l[i].w], hstep, rfl, ?_, rfl⟩
        simp [encWr]
    · rw [hsy] at hstep
      simp only [if_true] at hstep
      simp -implicitDefEqProofs only [↓aP, aR, ↓reduceIte, reduceCtorEq, seval, s1, s2, s3, g3, s6, g6, b6, s7, b3, List.length_map, d1, d2, askIdx_map, hi, encJo, hsy, encDk]
      refine ask (refRight_spec x) ?_
      cases hr : rightB x
      · have e : Jn.runJ d (l.take (i + 1)) = x := hstep.trans (by unfold syncD; rw [hr]; rfl)
        simp -implicitDefEqProofs only [↓aP, aR, ↓reduceIte, reduceCtorEq, seval, s1, s2, s3, g3, s6, g6, b6, s7, b3, wi]
        refine ⟨m - 1, by omega, i + 1, by omega, ?_⟩
        simp -implicitDefEqProofs only [↓aP, aR, ↓reduceIte, reduceCtorEq, seval, s1, s2, s3, g3, s6, g6, b6, s7, b3, e, encDk, true_or]
      · simp -implicitDefEqProofs only [↓aP, aR, ↓reduceIte, reduceCtorEq, seval, s1, s2, s3, g3, s6, g6, b6, s7, b3, encDk]
        refine ask (refSync_spec x hr) ?_
        simp -implicitDefEqProofs only [↓aP, aR, ↓reduceIte, reduceCtorEq, seval, s1, s2, s3, g3, s6, g6, b6, s7, b3, wi, encDk]
        refine ⟨m - 1, by omega, i + 1, by omega, ?_⟩
        simp -implicitDefEqProofs only [↓aP, aR, ↓reduceIte, reduceCtorEq, seval, s1, s2, s3, g3, s6, g6, b6, s7, b3, hstep, encDk, true_or]
  · by_cases hi : i < l.length
    case neg =>
      have hil : i = l.length := by omega
      rw [hil, List.take_length] at hd
      simp -implicitDefEqProofs only [↓aP, aR, ↓reduceIte, reduceCtorEq, seval, s1, s2, s3, g3, s6, g6, b6, s7, b3, g65, b65, List.length_map, show decide ((i : Int) < (l.length : Int)) = false by simp; omega, hd, encDk]
    have d1 : decide ((i : Int) < (l.length : Int)) = true := by simp; omega
    have d2 : decide ((i : Int) < 99) = true := by simp; omega
    have hstep := hrs i hi
    rw [hd] at hstep
    unfold Jn.stepJ at hstep
    cases hsy : l[i].sync
    · rw [hsy] at hstep
      simp only [Bool.false_eq_true, if_false] at hstep
      simp -implicitDefEqProofs only [↓aP, aR, ↓reduceIte, reduceCtorEq, seval, s1, s2, s3, g3, s6, g6, b6, s7, b3, g65, b65, List.length_map, d1, d2, askIdx_map, hi, encJo, hsy, encDk]
      refine ask (refRight_spec ⟨ss, ws⟩) ?_
      cases hr : rightB ⟨ss, ws⟩
      · have e : Jn.runJ d (l.take (i + 1)) = ⟨ss, ws⟩ := hstep.trans (by unfold putD; rw [hr]; rfl)
        simp -implicitDefEqProofs only [↓aP, aR, ↓reduceIte, reduceCtorEq, seval, s1, s2, s3, g3, s6, g6, b6, s7, b3, g65, b65, wi]
        refine ⟨m - 1, by omega, i + 1, by omega, ?_⟩
        simp -implicitDefEqProofs only [↓aP, aR, ↓reduceIte, reduceCtorEq, seval, s1, s2, s3, g3, s6, g6, b6, s7, b3, g65, b65]
        exact .inr ⟨_, ss, ws, e, rfl, rfl, rfl⟩
      · have hrl := right_len hr
        simp only at hrl
        by_cases f1 : 0 ≤ l[i].w.at_
        case neg =>
          have e : Jn.runJ d (l.take (i + 1)) = ⟨ss, ws⟩ := hstep.trans (by unfold putD; rw [hr, show fitsB ⟨ss, ws⟩ l[i].w = false by unfold fitsB hasB; rw [decide_eq_false f1]; rfl]; rfl)
          simp -implicitDefEqProofs only [↓aP, aR, ↓reduceIte, reduceCtorEq, seval, s1, s2, s3, g3, s6, g6, b6, s7, b3, g65, b65, encDk, List.length_map, decide_eq_false f1, wi]
          refine ⟨m - 1, by omega, i + 1, by omega, ?_⟩
          simp -implicitDefEqProofs only [↓aP, aR, ↓reduceIte, reduceCtorEq, seval, s1, s2, s3, g3, s6, g6, b6, s7, b3, g65, b65]
          exact .inr ⟨_, ss, ws, e, rfl, rfl, rfl⟩
        by_cases f2 : l[i].w.at_ < ss.length
        case neg =>
          have e : Jn.runJ d (l.take (i + 1)) = ⟨ss, ws⟩ := hstep.trans (by unfold putD; rw [hr, show fitsB ⟨ss, ws⟩ l[i].w = false by unfold fitsB hasB; simp only [decide_eq_false f2]; simp]; rfl)
          simp -implicitDefEqProofs only [↓aP, aR, ↓reduceIte, reduceCtorEq, seval, s1, s2, s3, g3, s6, g6, b6, s7, b3, g65, b65, encDk, List.length_map, decide_eq_true f1, decide_eq_false f2, wi]
          refine ⟨m - 1, by omega, i + 1, by omega, ?_⟩
          simp -implicitDefEqProofs only [↓aP, aR, ↓reduceIte, reduceCtorEq, seval, s1, s2, s3, g3, s6, g6, b6, s7, b3, g65, b65]
          exact .inr ⟨_, ss, ws, e, rfl, rfl, rfl⟩
        cases f3 : ((l[i].w.data.size : Int) == 16)
        · have e : Jn.runJ d (l.take (i + 1)) = ⟨ss, ws⟩ := hstep.trans (by unfold putD; rw [hr, show fitsB ⟨ss, ws⟩ l[i].w = false by unfold fitsB; rw [f3, Bool.and_false]]; rfl)
          simp -implicitDefEqProofs only [↓aP, aR, ↓reduceIte, reduceCtorEq, seval, s1, s2, s3, g3, s6, g6, b6, s7, b3, g65, b65, encDk, List.length_map, decide_eq_true f1, decide_eq_true f2, f3, wi]
          refine ⟨m - 1, by omega, i + 1, by omega, ?_⟩
          simp -implicitDefEqProofs only [↓aP, aR, ↓reduceIte, reduceCtorEq, seval, s1, s2, s3, g3, s6, g6, b6, s7, b3, g65, b65]
          exact .inr ⟨_, ss, ws, e, rfl, rfl, rfl⟩
        have hft : fitsB ⟨ss, ws⟩ l[i].w = true := by unfold fitsB hasB; simp only [decide_eq_true f1, decide_eq_true f2, f3]; rfl
        by_cases f4 : ws.length = 200
        · have e : Jn.runJ d (l.take (i + 1)) = ⟨ss, ws⟩ := hstep.trans (by unfold putD; rw [hr, hft, if_neg (by simp), if_pos f4])
          simp -implicitDefEqProofs only [↓aP, aR, ↓reduceIte, reduceCtorEq, seval, s1, s2, s3, g3, s6, g6, b6, s7, b3, g65, b65, encDk, List.length_map, decide_eq_true f1, decide_eq_true f2, f3, show decide ((ws.length : Int) < 200) = false by simp; omega, wi]
          refine ⟨m - 1, by omega, i + 1, by omega, ?_⟩
          simp -implicitDefEqProofs only [↓aP, aR, ↓reduceIte, reduceCtorEq, seval, s1, s2, s3, g3, s6, g6, b6, s7, b3, g65, b65]
          exact .inr ⟨_, ss, ws, e, rfl, rfl, rfl⟩
        have e : (putD ⟨ss, ws⟩ l[i].w).1 = ⟨ss, ws ++ [l[i].w]⟩ := by rw [put_ok hr hft f4]
        rw [e] at hstep
        simp -implicitDefEqProofs only [↓aP, aR, ↓reduceIte, reduceCtorEq, seval, s1, s2, s3, g3, s6, g6, b6, s7, b3, g65, b65, encDk, List.length_map, decide_eq_true f1, decide_eq_true f2, f3, show decide ((ws.length : Int) < 200) = true by simp; omega]
        refine ⟨by omega, by omega, by omega, by omega, by decide +kernel, ?_⟩
        simp -implicitDefEqProofs only [↓aP, aR, ↓reduceIte, reduceCtorEq, seval, s1, s2, s3, g3, s6, g6, b6, s7, b3, g65, b65, wi]
        refine ⟨m - 1, by omega, i + 1, by omega, ?_⟩
        simp -implicitDefEqProofs only [↓aP, aR, ↓reduceIte, reduceCtorEq, seval, s1, s2, s3, g3, s6, g6, b6, s7, b3, g65, b65]
        refine .inr ⟨_, ss, ws ++ [l[i].w], hstep, rfl, ?_, rfl⟩
        simp [encWr]
    · rw [hsy] at hstep
      simp only [if_true] at hstep
      simp -implicitDefEqProofs only [↓aP, aR, ↓reduceIte, reduceCtorEq, seval, s1, s2, s3, g3, s6, g6, b6, s7, b3, g65, b65, List.length_map, d1, d2, askIdx_map, hi, encJo, hsy, encDk]
      refine ask (refRight_spec ⟨ss, ws⟩) ?_
      cases hr : rightB ⟨ss, ws⟩
      · have e : Jn.runJ d (l.take (i + 1)) = ⟨ss, ws⟩ := hstep.trans (by unfold syncD; rw [hr]; rfl)
        simp -implicitDefEqProofs only [↓aP, aR, ↓reduceIte, reduceCtorEq, seval, s1, s2, s3, g3, s6, g6, b6, s7, b3, g65, b65, wi]
        refine ⟨m - 1, by omega, i + 1, by omega, ?_⟩
        simp -implicitDefEqProofs only [↓aP, aR, ↓reduceIte, reduceCtorEq, seval, s1, s2, s3, g3, s6, g6, b6, s7, b3, g65, b65]
        exact .inr ⟨_, ss, ws, e, rfl, rfl, rfl⟩
      · simp -implicitDefEqProofs only [↓aP, aR, ↓reduceIte, reduceCtorEq, seval, s1, s2, s3, g3, s6, g6, b6, s7, b3, g65, b65, encDk]
        refine ask (refSync_spec ⟨ss, ws⟩ hr) ?_
        simp -implicitDefEqProofs only [↓aP, aR, ↓reduceIte, reduceCtorEq, seval, s1, s2, s3, g3, s6, g6, b6, s7, b3, g65, b65, wi, encDk]
        refine ⟨m - 1, by omega, i + 1, by omega, ?_⟩
        simp -implicitDefEqProofs only [↓aP, aR, ↓reduceIte, reduceCtorEq, seval, s1, s2, s3, g3, s6, g6, b6, s7, b3, g65, b65, hstep, encDk, true_or]
end Go.Proofs.YtcbfhpnmhhnjpaaGreat

namespace Go.Proofs.YtcbfhpnmhhnjpaaGreat
namespace Sm
open Go
abbrev W32 := BitVec 32
def poly : W32 := 3988292384#32
def step (x : W32) : W32 := if x.getLsbD 0 then (x >>> 1) ^^^ poly else x >>> 1
def steps : Nat → W32 → W32
  | 0, x => x
  | k + 1, x => step (steps k x)
def entry (x : W32) : W32 := steps 8 x
theorem step_xor (x y : W32) : step (x ^^^ y) = step x ^^^ step y := by
  unfold step
  rw [BitVec.getLsbD_xor]
  cases hx : x.getLsbD 0 <;> cases hy : y.getLsbD 0 <;> simp [BitVec.ushiftRight_xor_distrib]
  · rw [BitVec.xor_assoc]
  · rw [BitVec.xor_assoc, BitVec.xor_assoc, BitVec.xor_comm poly]
  · rw [BitVec.xor_assoc, ← BitVec.xor_assoc poly, BitVec.xor_comm poly, BitVec.xor_assoc, BitVec.xor_self, BitVec.xor_zero]
theorem steps_xor (k : Nat) (x y : W32) : steps k (x ^^^ y) = steps k x ^^^ steps k y := by
  induction k with
  | zero => rfl
  | succ k ih => simp only [steps, ih, step_xor]
theorem step_even {x : W32} (h : x.getLsbD 0 = false) : step x = x >>> 1 := by
  unfold step; rw [h]; rfl
theorem steps_high (k : Nat) {x : W32} (h : ∀ i, i < k → x.getLsbD i = false) : steps k x = x >>> k := by
  induction k with
  | zero => simp [steps]
  | succ k ih =>
    rw [steps, ih (fun i hi => h i (by omega)), step_even (by rw [BitVec.getLsbD_ushiftRight]; exact h _ (by omega)), BitVec.shiftRight_add]
theorem steps_split (x : W32) : steps 8 x = entry (x &&& 255#32) ^^^ (x >>> 8) := by
  have e : x = (x &&& 255#32) ^^^ (x &&& ~~~255#32) := by
    apply BitVec.eq_of_getLsbD_eq
    intro i hi
    simp only [BitVec.getLsbD_xor, BitVec.getLsbD_and, BitVec.getLsbD_not]
    cases x.getLsbD i <;> cases (255#32).getLsbD i <;> simp [hi]
  have h255 : ∀ i, i < 8 → (255#32).getLsbD i = true := by decide
  have hh : ∀ i, i < 8 → (x &&& ~~~255#32).getLsbD i = false := by
    intro i hi
    simp only [BitVec.getLsbD_and, BitVec.getLsbD_not, h255 i hi]
    simp
  have hl : ∀ i, 8 ≤ i → (255#32).getLsbD i = false := by
    intro i hi
    by_cases h : i < 32
    · have : ∀ i, i < 32 → 8 ≤ i → (255#32).getLsbD i = false := by decide
      exact this i h hi
    · exact BitVec.getLsbD_of_ge _ _ (by omega)
  have hs : (x &&& ~~~255#32) >>> 8 = x >>> 8 := by
    apply BitVec.eq_of_getLsbD_eq
    intro i hi
    simp only [BitVec.getLsbD_ushiftRight, BitVec.getLsbD_and, BitVec.getLsbD_not]
    rw [hl (8 + i) (by omega)]
    by_cases h : 8 + i < 32
    · simp [h]
    · rw [BitVec.getLsbD_of_ge _ _ (by omega)]; simp
  conv => lhs; rw [e]
  rw [steps_xor, steps_high 8 hh, hs]
  rfl
def ofB (b : UInt8) : W32 := BitVec.ofNat 32 b.toNat
def feed (x : W32) (b : UInt8) : W32 := steps 8 (x ^^^ ofB b)
def feedAll (x : W32) (l : List UInt8) : W32 := l.foldl feed x
def feedT (t : List Int) (x : W32) (b : UInt8) : W32 := BitVec.ofInt 32 (t.getD ((x ^^^ ofB b) &&& 255#32).toNat 0) ^^^ (x >>> 8)
def feedAllT (t : List Int) (x : W32) (l : List UInt8) : W32 := l.foldl (feedT t) x
def sum (l : List UInt8) : Int := ((~~~ feedAll 4294967295#32 l).toNat : Int)
def sumT (t : List Int) (l : List UInt8) : Int := ((~~~ feedAllT t 4294967295#32 l).toNat : Int)
def table : List Int := (List.range 256).map fun i => ((entry (BitVec.ofNat 32 i)).toNat : Int)
theorem ofB_shift (b : UInt8) : ofB b >>> 8 = 0#32 := by
  apply BitVec.eq_of_toNat_eq
  have := b.toNat_lt
  simp only [ofB, BitVec.toNat_ushiftRight, BitVec.toNat_ofNat, Nat.shiftRight_eq_div_pow]
  omega
theorem and255_lt (x : W32) : (x &&& 255#32).toNat < 256 := by
  rw [BitVec.toNat_and]
  exact Nat.lt_of_le_of_lt Nat.and_le_right (by decide)
theorem table_get (i : Nat) (h : i < 256) : table.getD i 0 = ((entry (BitVec.ofNat 32 i)).toNat : Int) := by
  unfold table
  rw [List.getD_eq_getElem?_getD, List.getElem?_map, List.getElem?_range h]
  rfl
theorem ofInt_toNat (x : W32) : BitVec.ofInt 32 ((x.toNat : Nat) : Int) = x := by
  rw [BitVec.ofInt_natCast]; simp
theorem feedT_table (x : W32) (b : UInt8) : feedT table x b = feed x b := by
  unfold feedT feed
  rw [table_get _ (and255_lt _), ofInt_toNat, steps_split, BitVec.ofNat_toNat, BitVec.setWidth_eq, BitVec.ushiftRight_xor_distrib, ofB_shift, BitVec.xor_zero]
theorem feedAllT_table (x : W32) (l : List UInt8) : feedAllT table x l = feedAll x l := by
  induction l generalizing x with
  | nil => rfl
  | cons b l ih => simp only [feedAllT, feedAll, List.foldl_cons, feedT_table] at ih ⊢; exact ih _
theorem sumT_table (l : List UInt8) : sumT table l = sum l := by unfold sumT sum; rw [feedAllT_table]
theorem sum_nonneg (l : List UInt8) : 0 ≤ sum l ∧ sum l < 4294967296 := by
  unfold sum; have := (~~~ feedAll 4294967295#32 l).isLt; omega
theorem feedAll_append (x : W32) (l r : List UInt8) : feedAll x (l ++ r) = feedAll (feedAll x l) r := by
  unfold feedAll; rw [List.foldl_append]
end Sm
end Go.Proofs.YtcbfhpnmhhnjpaaGreat

