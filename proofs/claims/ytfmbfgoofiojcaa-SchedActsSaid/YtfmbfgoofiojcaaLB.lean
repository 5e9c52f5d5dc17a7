/- layer 5, plain: the turns; they come to an end. No condition. -/
import Derived.Test.YtfmbfgoofiojcaaLA
namespace Go.Proofs.Ytfmbfgoofiojcaa
open Lk
set_option linter.unusedVariables false
namespace Lk
def bump (y : Ln) : Ln := ⟨y.w, y.d + y.w * 4, y.cs⟩
def zero (y : Ln) : Ln := ⟨y.w, 0, y.cs⟩
def getL (x : Ls) : Ln := (x.l[x.at'.toNat]?).getD default
/-- the lane whose turn it is, with its share -/
def shared (x : Ls) : Ln := if x.g then getL x else bump (getL x)
def over (x : Ls) (y : Ln) : Ls := ⟨x.l.set x.at'.toNat y, ((x.at'.toNat + 1) % x.l.length : Nat), false⟩
/-- one turn: is it the end? -/
def turn (x : Ls) : Bool × Ls :=
  if (getL x).cs = [] then (false, over x (zero (getL x)))
  else if (getL x).cs.headD 0 ≤ (shared x).d then (true, ⟨x.l.set x.at'.toNat (shared x), x.at', true⟩)
  else (false, over x (shared x))
def run : Nat → Ls → Ls
  | 0, x => x
  | n + 1, x => if (turn x).1 = true then (turn x).2 else run n (turn x).2
def Stops : Nat → Ls → Prop
  | 0, _ => False
  | n + 1, x => (turn x).1 = true ∨ Stops n (turn x).2
theorem Stops.more : ∀ {n m : Nat} {x : Ls}, Stops n x → n ≤ m → Stops m x
  | 0, _, _, h, _ => h.elim
  | n + 1, 0, _, _, h => by omega
  | n + 1, m + 1, x, h, hl => h.elim .inl fun h => .inr (Stops.more h (by omega))
theorem getL_eq {x : Ls} {a : Nat} (ha : x.at' = a) (hl : a < x.l.length) : getL x = x.l[a] := by
  unfold getL
  rw [ha, Int.toNat_natCast, List.getElem?_eq_getElem hl]; rfl
theorem right_iff {x : Ls} : right x = true ↔ (x.l.length ≤ 6 ∧ 0 ≤ x.at' ∧ x.at' < x.l.length) ∧ ∀ k (hk : k < x.l.length), okL (most x k) x.l[k] = true := by
  constructor
  · intro h
    refine ⟨?_, fun k hk => right_get h hk⟩
    unfold right at h
    simp only [Bool.and_eq_true, decide_eq_true_eq] at h
    exact h.1
  · rintro ⟨h1, h2⟩
    exact right_all h1 (fun k hk => by rw [okAt_get hk]; exact h2 k hk)
theorem okL_mono {m m' : Int} {y : Ln} (h : okL m y = true) (hm : y.d ≤ m') : okL m' y = true := by
  rw [okL_iff] at h ⊢
  exact ⟨h.1, ⟨h.2.1.1, hm⟩, h.2.2⟩
theorem head_ok {y : Ln} {m : Int} (h : okL m y = true) (hne : y.cs ≠ []) : 1 ≤ y.cs.headD 0 ∧ y.cs.headD 0 ≤ 8 := by
  have h1 := (okL_iff.1 h).2.2.2
  cases hc : y.cs with
  | nil => exact absurd hc hne
  | cons c cs =>
    rw [hc] at h1
    simp only [List.all_cons, Bool.and_eq_true] at h1
    have := h1.1
    simpa [okC] using this
theorem okW_iff {n : Int} : okW n = true ↔ 1 ≤ n ∧ n ≤ 8 := by unfold okW; simp
/-- lanes of which one is turned, all the others with little left -/
theorem right_set {x : Ls} {a : Nat} {y : Ln} {at2 : Int} {g2 : Bool} (h : right x = true) (ha : x.at' = a) (hat : 0 ≤ at2 ∧ at2 < x.l.length) (hy : okL (if g2 = true ∧ (a : Int) = at2 then 39 else 7) y = true) : right ⟨x.l.set a y, at2, g2⟩ = true := by
  obtain ⟨h1, h2⟩ := right_iff.1 h
  rw [right_iff]
  simp only [List.length_set]
  refine ⟨⟨h1.1, hat⟩, fun k hk => ?_⟩
  rw [List.getElem_set]
  unfold most
  simp only
  by_cases e : a = k
  · subst e
    rw [if_pos rfl]
    exact hy
  · rw [if_neg e]
    have h3 := h2 k hk
    have h4 : (k : Int) ≠ x.at' := by omega
    unfold most at h3
    rw [if_neg (fun h => h4 h.2)] at h3
    have := (okL_iff.1 h3).2.1.2
    exact okL_mono h3 (by split <;> omega)
theorem up_lt {a n : Nat} (h : 0 < n) : (a + 1) % n < n := Nat.mod_lt _ h
theorem right_own {x : Ls} {a : Nat} (h : right x = true) (ha : x.at' = a) (hl : a < x.l.length) : okL (if x.g = true then 39 else 7) x.l[a] = true := by
  have := (right_iff.1 h).2 a hl
  unfold most at this
  simpa [ha] using this
theorem turn_right {x : Ls} (h : right x = true) : right (turn x).2 = true := by
  obtain ⟨h1, h2⟩ := right_iff.1 h
  obtain ⟨a, ha⟩ : ∃ a : Nat, x.at' = a := ⟨x.at'.toNat, by omega⟩
  have hl : a < x.l.length := by omega
  have hg := getL_eq ha hl
  have hy := right_own h ha hl
  have hup := up_lt (a := a) (n := x.l.length) (by omega)
  obtain ⟨k1, ⟨k2, k3⟩, k4, k5⟩ := okL_iff.1 hy
  have kw := okW_iff.1 k1
  have hat : x.at'.toNat = a := by omega
  have hsh : (shared x).w = x.l[a].w ∧ (shared x).cs = x.l[a].cs ∧ 0 ≤ (shared x).d ∧ (shared x).d ≤ 39 := by
    unfold shared
    rw [hg]
    cases hgx : x.g
    · rw [hgx] at k3
      simp only [Bool.false_eq_true, if_false, bump] at k3 ⊢
      refine ⟨trivial, trivial, by omega, by omega⟩
    · rw [hgx] at k3
      simp only [if_true] at k3 ⊢
      exact ⟨trivial, trivial, k2, k3⟩
  unfold turn
  rw [hg]
  by_cases he : x.l[a].cs = []
  · rw [if_pos he]
    unfold over zero
    rw [hat]
    refine right_set h ha ⟨by omega, by omega⟩ ?_
    rw [if_neg (by simp)]
    exact okL_iff.2 ⟨k1, ⟨Int.le_refl 0, (by decide : (0 : Int) ≤ 7)⟩, k4, k5⟩
  · rw [if_neg he]
    have hh := head_ok hy he
    by_cases hs : x.l[a].cs.headD 0 ≤ (shared x).d
    · rw [if_pos hs, hat]
      refine right_set h ha ⟨by omega, by omega⟩ ?_
      rw [if_pos ⟨rfl, ha.symm⟩]
      exact okL_iff.2 ⟨by rw [hsh.1]; exact k1, hsh.2.2, by rw [hsh.2.1]; exact k4, by rw [hsh.2.1]; exact k5⟩
    · rw [if_neg hs]
      unfold over
      rw [hat]
      refine right_set h ha ⟨by omega, by omega⟩ ?_
      rw [if_neg (by simp)]
      exact okL_iff.2 ⟨by rw [hsh.1]; exact k1, ⟨hsh.2.2.1, by omega⟩, by rw [hsh.2.1]; exact k4, by rw [hsh.2.1]; exact k5⟩
/-- how far it is to a lane -/
def dist (n a k : Nat) : Nat := if a ≤ k then k - a else k + n - a
theorem dist_up {n a k : Nat} (ha : a < n) (hk : k < n) : (a ≠ k → dist n ((a + 1) % n) k + 1 = dist n a k) ∧ dist n ((k + 1) % n) k + 1 = n ∧ dist n k k = 0 := by
  have hm : ∀ a, a < n → (a + 1) % n = if a + 1 = n then 0 else a + 1 := by
    intro a ha
    by_cases h : a + 1 = n
    · rw [if_pos h, h, Nat.mod_self]
    · rw [if_neg h, Nat.mod_eq_of_lt (by omega)]
  unfold dist
  rw [hm a ha, hm k hk]
  refine ⟨fun h => ?_, ?_, ?_⟩
  · by_cases e : a + 1 = n
    · rw [if_pos e]
      repeat' split
      all_goals omega
    · rw [if_neg e]
      repeat' split
      all_goals omega
  · by_cases e : k + 1 = n
    · rw [if_pos e]
      repeat' split
      all_goals omega
    · rw [if_neg e]
      repeat' split
      all_goals omega
  · simp
theorem stops_of {k : Nat} : ∀ (m : Nat) {x : Ls} {a : Nat} (h : right x = true) (hg : x.g = false) (ha : x.at' = a) (hk : k < x.l.length) (hne : x.l[k].cs ≠ []),
    (if x.l[k].cs.headD 0 ≤ x.l[k].d + x.l[k].w * 4 then 0 else x.l.length) + dist x.l.length a k < m → Stops m x
  | 0, _, _, _, _, _, _, _, hm => by omega
  | m + 1, x, a, h, hg, ha, hk, hne, hm => by
    obtain ⟨h1, h2⟩ := right_iff.1 h
    have hl : a < x.l.length := by omega
    have hgl := getL_eq ha hl
    have hat : x.at'.toNat = a := by omega
    have hsh : shared x = bump x.l[a] := by unfold shared; rw [hg, hgl]; rfl
    obtain ⟨u1, u2, u3⟩ := dist_up hl hk
    have hrt := turn_right h
    have hkk := h2 k hk
    obtain ⟨q1, ⟨q2, q3⟩, q4, q5⟩ := okL_iff.1 hkk
    have qw := okW_iff.1 q1
    have qh := head_ok hkk hne
    show _ ∨ _
    by_cases e : a = k
    · subst e
      by_cases hs : x.l[a].cs.headD 0 ≤ x.l[a].d + x.l[a].w * 4
      · left
        unfold turn
        rw [hgl, if_neg hne, hsh, if_pos (show x.l[a].cs.headD 0 ≤ (bump x.l[a]).d from hs)]
      · right
        have ht : (turn x).2 = over x (bump x.l[a]) := by
          unfold turn
          rw [hgl, if_neg hne, hsh, if_neg (show ¬ x.l[a].cs.headD 0 ≤ (bump x.l[a]).d from hs)]
        rw [ht] at hrt ⊢
        rw [if_neg hs] at hm
        refine stops_of m (a := (a + 1) % x.l.length) (k := a) hrt rfl (by unfold over; rw [hat]) (by simpa [over] using hl) ?_ ?_
        · simp only [over, hat, List.getElem_set_self]; exact hne
        · simp only [over, hat, List.getElem_set_self, List.length_set, bump]
          rw [if_pos (by omega)]
          omega
    · have go : ∀ z, (turn x).2 = over x z → Stops m (turn x).2 := by
        intro z ht
        rw [ht] at hrt ⊢
        have hd := u1 e
        refine stops_of m (a := (a + 1) % x.l.length) (k := k) hrt rfl (by unfold over; rw [hat]) (by simpa [over] using hk) ?_ ?_
        · simp only [over, hat, List.getElem_set_ne e]; exact hne
        · simp only [over, hat, List.getElem_set_ne e, List.length_set]
          omega
      by_cases e1 : x.l[a].cs = []
      · right
        exact go (zero x.l[a]) (by unfold turn; rw [hgl, if_pos e1])
      · by_cases e2 : x.l[a].cs.headD 0 ≤ (shared x).d
        · left
          unfold turn
          rw [hgl, if_neg e1, if_pos e2]
        · right
          exact go (shared x) (by unfold turn; rw [hgl, if_neg e1, if_neg e2])
theorem dist_lt {n a k : Nat} (ha : a < n) (hk : k < n) : dist n a k < n := by unfold dist; split <;> omega
theorem stops14 {x : Ls} (h : right x = true) (hw : waits x = true) : Stops 14 x := by
  obtain ⟨h1, h2⟩ := right_iff.1 h
  unfold waits at hw
  rw [List.any_eq_true] at hw
  obtain ⟨y, hy, hc⟩ := hw
  obtain ⟨k, hk, rfl⟩ := List.getElem_of_mem hy
  have hne : x.l[k].cs ≠ [] := by
    intro e
    rw [e] at hc
    simp at hc
  have first : ∀ (x : Ls) (k : Nat) (h : right x = true) (hg : x.g = false) (hk : k < x.l.length) (hne : x.l[k].cs ≠ []), Stops 13 x := by
    intro x k h hg hk hne
    obtain ⟨h1, h2⟩ := right_iff.1 h
    have hd := dist_lt (n := x.l.length) (a := x.at'.toNat) (k := k) (by omega) hk
    refine stops_of 13 (a := x.at'.toNat) h hg (by omega) hk hne ?_
    split <;> omega
  cases hg : x.g
  · exact (first x k h hg hk hne).more (by omega)
  · obtain ⟨a, ha⟩ : ∃ a : Nat, x.at' = a := ⟨x.at'.toNat, by omega⟩
    have hl : a < x.l.length := by omega
    have hgl := getL_eq ha hl
    have hat : x.at'.toNat = a := by omega
    have hrt := turn_right h
    have hsh : shared x = x.l[a] := by unfold shared; rw [hg, hgl]; rfl
    show _ ∨ _
    by_cases e1 : x.l[a].cs = []
    · right
      have ht : (turn x).2 = over x (zero x.l[a]) := by unfold turn; rw [hgl, if_pos e1]
      rw [ht] at hrt ⊢
      have hak : a ≠ k := by intro e; subst e; exact hne e1
      exact first _ k hrt rfl (by simpa [over] using hk) (by simp only [over, hat, List.getElem_set_ne hak]; exact hne)
    · by_cases e2 : x.l[a].cs.headD 0 ≤ (shared x).d
      · left
        unfold turn
        rw [hgl, if_neg e1, if_pos e2]
      · right
        have ht : (turn x).2 = over x (shared x) := by unfold turn; rw [hgl, if_neg e1, if_neg e2]
        rw [ht, hsh] at hrt ⊢
        refine first _ k hrt rfl (by simpa [over] using hk) ?_
        simp only [over, hat]
        rw [List.getElem_set]
        split
        · exact e1
        · exact hne
/-- what Next tells -/
def nextI (x : Ls) : Ls × Int × Int × Bool :=
  if right x = true ∧ waits x = true then (⟨(run 14 x).l.set (run 14 x).at'.toNat (takeL (getL (run 14 x))), (run 14 x).at', (run 14 x).g⟩, (run 14 x).at', (getL (run 14 x)).cs.headD 0, true)
  else (x, 0, 0, false)
end Lk
end Go.Proofs.Ytfmbfgoofiojcaa
namespace Go.Proofs.Ytfmbfgoofiojcaa
open Go.RowKit Lk
set_option linter.unusedVariables false
set_option linter.unusedSimpArgs false
set_option maxRecDepth 4000
def encN (x : Ls × Int × Int × Bool) : TV SC := .tup [(true, encLs x.1), (false, [.pv (.int .i64 x.2.1)]), (false, [.pv (.int .i64 x.2.2.1)]), (false, [.pv (.bool x.2.2.2)])]

def NextI (x : Ls) (m : Nat) (σ : St) : Prop := ∃ (l : List Ln) (a : Nat) (g : Bool), right ⟨l, (a : Int), g⟩ = true ∧ Stops m ⟨l, (a : Int), g⟩ ∧ run m ⟨l, (a : Int), g⟩ = run 14 x ∧ σ.slot 1 = .c (.ptr 1 1 0 0) ∧ σ.h.gen 1 = 1 ∧ σ.h.blk 1 = .box 25 3 [[.own 19 1, .s (.pv (.int .i64 (a : Int))), .s (.pv (.bool g))]] ∧ σ.h.gen 19 = 1 ∧ σ.h.blk 19 = .row 56 3 (l.map encLn) ∧ σ.slot 2 = .c (.ptr 2 1 0 0) ∧ σ.h.gen 2 = 1 ∧ σ.h.blk 2 = .box 25 3 [[.zc, .s (.pv (.int .i64 0)), .s (.pv (.bool false))]]
theorem take_at (l : List Ln) (a : Nat) (hl : a < l.length) (w d c : Int) (cs : List Int) (hs : cs.length ≤ 199) (hd : -1000 ≤ d ∧ d ≤ 1000) (hcc : okC c = true) :
    SpecX Try.prog 45 ⟨true, 56, 3, (l.map encLn).set a [.pv (.int .i64 w), .pv (.int .i64 d), .sl 1 ([.pv (.int .i64 c)] :: cs.map encI)], some (a, 0), (l.map encLn).set a (encLn (takeL ⟨w, d, c :: cs⟩)), some (rI c)⟩ [] := by
  have h := take_spec (l.set a ⟨w, d, c :: cs⟩) a (by simpa using hl) (by simp) (by simp; omega) (by simpa using hd) (by simpa using hcc)
  simpa [List.map_set, encLn, encI] using h
theorem lNext_spec (x : Ls) (hx : Small x) : Spec Try.prog 23 [.agg (encLs x)] (.val (encN (nextI x))) := by
  refine spec_val mixed fn23 (by simp) ?_
  unfold ac23
  simp -implicitDefEqProofs only [↓aP, aQ, ↓reduceIte, Nat.reduceEqDiff, Nat.reduceAdd, Nat.reduceSub, Nat.reduceMul, Nat.reduceLT, Nat.reduceLeDiff, reduceCtorEq, Nat.reduceBEq, forall_const, implies_true, exists_const, ne_eq, Int.reduceAdd, Int.reduceSub, Int.reduceMul, Int.reduceBEq, Int.reduceEq, Int.reduceLT, Int.reduceLE, Int.reduceToNat, Int.reduceNeg, Int.reduceBNe, encLs]
  refine ask (lRight_spec x hx) ?_
  by_cases hb : right x = true ∧ waits x = true
  case neg =>
    have e : nextI x = (x, 0, 0, false) := if_neg hb
    rw [e]
    simp -implicitDefEqProofs only [↓aP, aQ, ↓reduceIte, Nat.reduceEqDiff, Nat.reduceAdd, Nat.reduceSub, Nat.reduceMul, Nat.reduceLT, Nat.reduceLeDiff, reduceCtorEq, Nat.reduceBEq, forall_const, implies_true, exists_const, ne_eq, Int.reduceAdd, Int.reduceSub, Int.reduceMul, Int.reduceBEq, Int.reduceEq, Int.reduceLT, Int.reduceLE, Int.reduceToNat, Int.reduceNeg, Int.reduceBNe, encLs]
    repeat' ((first | ((first | with_reducible refine fork ?_ ?_ | with_reducible refine gcase ?_ ?_ | with_reducible refine gcaseD ?_ ?_) <;> intro hc <;> (have hp := hc) <;> (try simp only [aB] at hp)) | (have hc := True.intro; first | with_reducible refine askM (by omega) ?_ | with_reducible refine And.intro (by first | omega | decide +kernel) ?_ | refine ask (waits_spec x hx.1) ?_ | fail)) <;> (try simp -implicitDefEqProofs only [↓aP, aQ, ↓reduceIte, Nat.reduceEqDiff, Nat.reduceAdd, Nat.reduceSub, Nat.reduceMul, Nat.reduceLT, Nat.reduceLeDiff, reduceCtorEq, Nat.reduceBEq, forall_const, implies_true, exists_const, ne_eq, Int.reduceAdd, Int.reduceSub, Int.reduceMul, Int.reduceBEq, Int.reduceEq, Int.reduceLT, Int.reduceLE, Int.reduceToNat, Int.reduceNeg, Int.reduceBNe, hc, encLs, encN]))
    all_goals (exfalso; simp_all)
  obtain ⟨hr, hw⟩ := hb
  have hst := stops14 hr hw
  have hn : nextI x = (⟨(run 14 x).l.set (run 14 x).at'.toNat (takeL (getL (run 14 x))), (run 14 x).at', (run 14 x).g⟩, (run 14 x).at', (getL (run 14 x)).cs.headD 0, true) := if_pos ⟨hr, hw⟩
  rw [hn]
  generalize hrun : run 14 x = R
  simp -implicitDefEqProofs only [↓aP, aQ, ↓reduceIte, Nat.reduceEqDiff, Nat.reduceAdd, Nat.reduceSub, Nat.reduceMul, Nat.reduceLT, Nat.reduceLeDiff, reduceCtorEq, Nat.reduceBEq, forall_const, implies_true, exists_const, ne_eq, Int.reduceAdd, Int.reduceSub, Int.reduceMul, Int.reduceBEq, Int.reduceEq, Int.reduceLT, Int.reduceLE, Int.reduceToNat, Int.reduceNeg, Int.reduceBNe, hr, encLs]
  refine ask (waits_spec x hx.1) ?_
  have hr6 := lright_len hr
  simp -implicitDefEqProofs only [↓aP, aQ, ↓reduceIte, Nat.reduceEqDiff, Nat.reduceAdd, Nat.reduceSub, Nat.reduceMul, Nat.reduceLT, Nat.reduceLeDiff, reduceCtorEq, Nat.reduceBEq, forall_const, implies_true, exists_const, ne_eq, Int.reduceAdd, Int.reduceSub, Int.reduceMul, Int.reduceBEq, Int.reduceEq, Int.reduceLT, Int.reduceLE, Int.reduceToNat, Int.reduceNeg, Int.reduceBNe, hw, encLs]
  refine ask (cloneLn _ (by simp; omega)) ?_
  simp -implicitDefEqProofs only [↓aP, aQ, ↓reduceIte, Nat.reduceEqDiff, Nat.reduceAdd, Nat.reduceSub, Nat.reduceMul, Nat.reduceLT, Nat.reduceLeDiff, reduceCtorEq, Nat.reduceBEq, forall_const, implies_true, exists_const, ne_eq, Int.reduceAdd, Int.reduceSub, Int.reduceMul, Int.reduceBEq, Int.reduceEq, Int.reduceLT, Int.reduceLE, Int.reduceToNat, Int.reduceNeg, Int.reduceBNe, encLs]
  have hin := (right_iff.1 hr).1
  refine ⟨NextI x, 14, ⟨_, .refl _, x.l, x.at'.toNat, x.g, ?_⟩, fun m σ hI => ?_⟩
  · rw [show ((x.at'.toNat : Nat) : Int) = x.at' by omega]
    simp -implicitDefEqProofs only [↓aP, aQ, ↓reduceIte, Nat.reduceEqDiff, Nat.reduceAdd, Nat.reduceSub, Nat.reduceMul, Nat.reduceLT, Nat.reduceLeDiff, reduceCtorEq, Nat.reduceBEq, forall_const, implies_true, exists_const, ne_eq, Int.reduceAdd, Int.reduceSub, Int.reduceMul, Int.reduceBEq, Int.reduceEq, Int.reduceLT, Int.reduceLE, Int.reduceToNat, Int.reduceNeg, Int.reduceBNe]
    exact ⟨hr, hst⟩
  obtain ⟨l, a, g, hrl, hs, hru, s1, g1, b1, g19, b19, s2, g2, b2⟩ := hI
  obtain ⟨⟨hl6, _, hal⟩, _⟩ := right_iff.1 hrl
  have hl : a < l.length := by simpa using hal
  have hl7 : l.length ≤ 6 := hl6
  obtain ⟨y, hy⟩ : ∃ y, l[a] = y := ⟨_, rfl⟩
  have hgl : getL ⟨l, (a : Int), g⟩ = y := (getL_eq rfl hl).trans hy
  have hown := right_own hrl rfl hl
  simp only [hy] at hown
  obtain ⟨q1, ⟨q2, q3⟩, q4, q5⟩ := okL_iff.1 hown
  have qw := okW_iff.1 q1
  have q39 : y.d ≤ 39 := by
    cases g <;> simp at q3 <;> omega
  obtain ⟨m, rfl⟩ : ∃ k, m = k + 1 := by
    cases m with
    | zero => exact hs.elim
    | succ k => exact ⟨k, rfl⟩
  have hrt := turn_right hrl
  have e3 : Int.tmod ((a + 1 : Nat) : Int) (l.length : Int) = (((a + 1) % l.length : Nat) : Int) := by
    rw [Int.tmod_eq_emod_of_nonneg (by omega)]; rfl
  have hne : ¬ (l.length : Int) = 0 := by omega
  have hset : ∀ z, (l.set a z).map encLn = (l.map encLn).set a (encLn z) := fun z => List.map_set
  have d0 : decide ((a : Int) < 0) = false := by simp
  have hs2 : (turn ⟨l, (a : Int), g⟩).1 = true ∨ Stops m (turn ⟨l, (a : Int), g⟩).2 := hs
  have hru2 : (if (turn ⟨l, (a : Int), g⟩).1 = true then (turn ⟨l, (a : Int), g⟩).2 else run m (turn ⟨l, (a : Int), g⟩).2) = run 14 x := hru
  clear hs hru
  by_cases he : y.cs = []
  case pos =>
    have d1 : ((y.cs.length : Int) == 0) = true := by rw [he]; rfl
    have ht : turn ⟨l, (a : Int), g⟩ = (false, ⟨l.set a (zero y), (((a + 1) % l.length : Nat) : Int), false⟩) := by
      unfold turn
      rw [hgl, if_pos he]
      rfl
    rw [ht] at hs2 hru2 hrt
    simp only [Bool.false_eq_true, false_or, if_false] at hs2 hru2
    simp -implicitDefEqProofs only [↓aP, aQ, ↓reduceIte, Nat.reduceEqDiff, Nat.reduceAdd, Nat.reduceSub, Nat.reduceMul, Nat.reduceLT, Nat.reduceLeDiff, reduceCtorEq, Nat.reduceBEq, forall_const, implies_true, exists_const, ne_eq, Int.reduceAdd, Int.reduceSub, Int.reduceMul, Int.reduceBEq, Int.reduceEq, Int.reduceLT, Int.reduceLE, Int.reduceToNat, Int.reduceNeg, Int.reduceBNe, s1, g1, b1, g19, b19, s2, g2, b2, askIdx_map, hl, hy, encLn, List.length_map, List.length_set, d1]
    refine ⟨hne, m, Nat.lt_succ_self m, l.set a (zero y), (a + 1) % l.length, false, hrt, hs2, hru2, ?_⟩
    simp -implicitDefEqProofs only [↓aP, aQ, ↓reduceIte, Nat.reduceEqDiff, Nat.reduceAdd, Nat.reduceSub, Nat.reduceMul, Nat.reduceLT, Nat.reduceLeDiff, reduceCtorEq, Nat.reduceBEq, forall_const, implies_true, exists_const, ne_eq, Int.reduceAdd, Int.reduceSub, Int.reduceMul, Int.reduceBEq, Int.reduceEq, Int.reduceLT, Int.reduceLE, Int.reduceToNat, Int.reduceNeg, Int.reduceBNe, s1, g1, b1, g19, b19, s2, g2, b2, wrapS (show a < 4611686018427387904 by omega), e3, hset, encLn, zero]
  have d1 : ((y.cs.length : Int) == 0) = false := by rw [beq_eq_false_iff_ne]; intro h; exact he (List.eq_nil_of_length_eq_zero (by omega))
  obtain ⟨c, cs, hcs⟩ : ∃ c cs, y.cs = c :: cs := by
    cases h : y.cs with
    | nil => exact absurd h he
    | cons c cs => exact ⟨c, cs, rfl⟩
  have hw1 : IntKind.i64.wrap (y.w * 4) = y.w * 4 := wrapI (by omega)
  have hw2 : IntKind.i64.wrap (y.d + y.w * 4) = y.d + y.w * 4 := wrapI (by omega)
  have hlen : cs.length ≤ 199 := by rw [hcs] at q4; simp at q4; omega
  have hcc : okC c = true := by rw [hcs] at q5; simp only [List.all_cons, Bool.and_eq_true] at q5; exact q5.1
  have d2 : (((cs.length + 1 : Nat) : Int) == 0) = false := by rw [beq_eq_false_iff_ne]; omega
  cases g with
  | false =>
    have hsh : shared ⟨l, (a : Int), false⟩ = bump y := by unfold shared; rw [hgl]; rfl
    simp -implicitDefEqProofs only [↓aP, aQ, ↓reduceIte, Nat.reduceEqDiff, Nat.reduceAdd, Nat.reduceSub, Nat.reduceMul, Nat.reduceLT, Nat.reduceLeDiff, reduceCtorEq, Nat.reduceBEq, forall_const, implies_true, exists_const, ne_eq, Int.reduceAdd, Int.reduceSub, Int.reduceMul, Int.reduceBEq, Int.reduceEq, Int.reduceLT, Int.reduceLE, Int.reduceToNat, Int.reduceNeg, Int.reduceBNe, s1, g1, b1, g19, b19, s2, g2, b2, askIdx_map, hl, hy, encLn, List.length_map, d1, hw1, hw2]
    refine ⟨by decide +kernel, ?_⟩
    simp -implicitDefEqProofs only [↓aP, aQ, ↓reduceIte, Nat.reduceEqDiff, Nat.reduceAdd, Nat.reduceSub, Nat.reduceMul, Nat.reduceLT, Nat.reduceLeDiff, reduceCtorEq, Nat.reduceBEq, forall_const, implies_true, exists_const, ne_eq, Int.reduceAdd, Int.reduceSub, Int.reduceMul, Int.reduceBEq, Int.reduceEq, Int.reduceLT, Int.reduceLE, Int.reduceToNat, Int.reduceNeg, Int.reduceBNe, s1, g1, b1, g19, b19, s2, g2, b2, askIdx_map, askIdx_set, hl, hy, encLn, encI, List.length_map, d1, hw1, hw2, hcs]
    refine ⟨by decide +kernel, ?_⟩
    refine fork ?_ ?_ <;> intro hle
    · have ht : turn ⟨l, (a : Int), false⟩ = (true, ⟨l.set a (bump y), (a : Int), true⟩) := by
        unfold turn
        rw [hgl, if_neg he, hsh, hcs, if_pos (show (c :: cs).headD 0 ≤ (bump y).d from t_dt hle)]
        rfl
      rw [ht] at hru2
      simp only [if_true] at hru2
      obtain rfl : R = ⟨l.set a (bump y), (a : Int), true⟩ := by rw [← hrun, ← hru2]
      simp -implicitDefEqProofs only [↓aP, aQ, ↓reduceIte, Nat.reduceEqDiff, Nat.reduceAdd, Nat.reduceSub, Nat.reduceMul, Nat.reduceLT, Nat.reduceLeDiff, reduceCtorEq, Nat.reduceBEq, forall_const, implies_true, exists_const, ne_eq, Int.reduceAdd, Int.reduceSub, Int.reduceMul, Int.reduceBEq, Int.reduceEq, Int.reduceLT, Int.reduceLE, Int.reduceToNat, Int.reduceNeg, Int.reduceBNe, s1, g1, b1, g19, b19, s2, g2, b2]
      refine askX1 (take_at l a hl y.w (y.d + y.w * 4) c cs hlen (by omega) hcc) (by simp -implicitDefEqProofs only [↓aP, aQ, ↓reduceIte, Nat.reduceEqDiff, Nat.reduceAdd, Nat.reduceSub, Nat.reduceMul, Nat.reduceLT, Nat.reduceLeDiff, reduceCtorEq, Nat.reduceBEq, forall_const, implies_true, exists_const, ne_eq, Int.reduceAdd, Int.reduceSub, Int.reduceMul, Int.reduceBEq, Int.reduceEq, Int.reduceLT, Int.reduceLE, Int.reduceToNat, Int.reduceNeg, Int.reduceBNe]) ?_
      simp -implicitDefEqProofs only [↓aP, aQ, ↓reduceIte, Nat.reduceEqDiff, Nat.reduceAdd, Nat.reduceSub, Nat.reduceMul, Nat.reduceLT, Nat.reduceLeDiff, reduceCtorEq, Nat.reduceBEq, forall_const, implies_true, exists_const, ne_eq, Int.reduceAdd, Int.reduceSub, Int.reduceMul, Int.reduceBEq, Int.reduceEq, Int.reduceLT, Int.reduceLE, Int.reduceToNat, Int.reduceNeg, Int.reduceBNe, s1, g1, b1, g19, b19, s2, g2, b2, hset]
      refine ⟨by decide +kernel, ?_⟩
      have hgs : getL ⟨l.set a (bump y), (a : Int), true⟩ = bump y := by rw [getL_eq rfl (by simpa using hl)]; exact List.getElem_set_self _
      have hbu : bump y = ⟨y.w, y.d + y.w * 4, c :: cs⟩ := by unfold bump; rw [hcs]
      rw [hgs, List.set_set, hbu]
      simp -implicitDefEqProofs only [↓aP, aQ, ↓reduceIte, Nat.reduceEqDiff, Nat.reduceAdd, Nat.reduceSub, Nat.reduceMul, Nat.reduceLT, Nat.reduceLeDiff, reduceCtorEq, Nat.reduceBEq, forall_const, implies_true, exists_const, ne_eq, Int.reduceAdd, Int.reduceSub, Int.reduceMul, Int.reduceBEq, Int.reduceEq, Int.reduceLT, Int.reduceLE, Int.reduceToNat, Int.reduceNeg, Int.reduceBNe, encN, encLs, hset, List.headD_cons]
    · have ht : turn ⟨l, (a : Int), false⟩ = (false, ⟨l.set a (bump y), (((a + 1) % l.length : Nat) : Int), false⟩) := by
        unfold turn
        rw [hgl, if_neg he, hsh, hcs, if_neg (show ¬ (c :: cs).headD 0 ≤ (bump y).d from t_df hle)]
        rfl
      rw [ht] at hs2 hru2 hrt
      simp only [Bool.false_eq_true, false_or, if_false] at hs2 hru2
      simp -implicitDefEqProofs only [↓aP, aQ, ↓reduceIte, Nat.reduceEqDiff, Nat.reduceAdd, Nat.reduceSub, Nat.reduceMul, Nat.reduceLT, Nat.reduceLeDiff, reduceCtorEq, Nat.reduceBEq, forall_const, implies_true, exists_const, ne_eq, Int.reduceAdd, Int.reduceSub, Int.reduceMul, Int.reduceBEq, Int.reduceEq, Int.reduceLT, Int.reduceLE, Int.reduceToNat, Int.reduceNeg, Int.reduceBNe, s1, g1, b1, g19, b19, s2, g2, b2, List.length_map, List.length_set]
      refine ⟨hne, m, Nat.lt_succ_self m, l.set a (bump y), (a + 1) % l.length, false, hrt, hs2, hru2, ?_⟩
      simp -implicitDefEqProofs only [↓aP, aQ, ↓reduceIte, Nat.reduceEqDiff, Nat.reduceAdd, Nat.reduceSub, Nat.reduceMul, Nat.reduceLT, Nat.reduceLeDiff, reduceCtorEq, Nat.reduceBEq, forall_const, implies_true, exists_const, ne_eq, Int.reduceAdd, Int.reduceSub, Int.reduceMul, Int.reduceBEq, Int.reduceEq, Int.reduceLT, Int.reduceLE, Int.reduceToNat, Int.reduceNeg, Int.reduceBNe, s1, g1, b1, g19, b19, s2, g2, b2, wrapS (show a < 4611686018427387904 by omega), e3, hset, encLn, encI, bump, hcs]
  | true =>
    have hsh : shared ⟨l, (a : Int), true⟩ = y := by unfold shared; rw [hgl]; rfl
    have hself : l.set a y = l := by rw [← hy]; exact List.set_getElem_self hl
    simp -implicitDefEqProofs only [↓aP, aQ, ↓reduceIte, Nat.reduceEqDiff, Nat.reduceAdd, Nat.reduceSub, Nat.reduceMul, Nat.reduceLT, Nat.reduceLeDiff, reduceCtorEq, Nat.reduceBEq, forall_const, implies_true, exists_const, ne_eq, Int.reduceAdd, Int.reduceSub, Int.reduceMul, Int.reduceBEq, Int.reduceEq, Int.reduceLT, Int.reduceLE, Int.reduceToNat, Int.reduceNeg, Int.reduceBNe, s1, g1, b1, g19, b19, s2, g2, b2, askIdx_map, hl, hy, encLn, List.length_map, d2, hcs, encI]
    refine ⟨by decide +kernel, ?_⟩
    refine fork ?_ ?_ <;> intro hle
    · have ht : turn ⟨l, (a : Int), true⟩ = (true, ⟨l, (a : Int), true⟩) := by
        unfold turn
        rw [hgl, if_neg he, hsh, hcs, if_pos (show (c :: cs).headD 0 ≤ y.d from t_dt hle)]
        show (true, (⟨l.set a y, (a : Int), true⟩ : Ls)) = _
        rw [hself]
      rw [ht] at hru2
      simp only [if_true] at hru2
      obtain rfl : R = ⟨l, (a : Int), true⟩ := by rw [← hrun, ← hru2]
      simp -implicitDefEqProofs only [↓aP, aQ, ↓reduceIte, Nat.reduceEqDiff, Nat.reduceAdd, Nat.reduceSub, Nat.reduceMul, Nat.reduceLT, Nat.reduceLeDiff, reduceCtorEq, Nat.reduceBEq, forall_const, implies_true, exists_const, ne_eq, Int.reduceAdd, Int.reduceSub, Int.reduceMul, Int.reduceBEq, Int.reduceEq, Int.reduceLT, Int.reduceLE, Int.reduceToNat, Int.reduceNeg, Int.reduceBNe, s1, g1, b1, g19, b19, s2, g2, b2]
      refine askX1 (take_spec l a hl (by rw [hy, hcs]; simp) (by rw [hy]; exact q4) (by rw [hy]; omega) (by rw [hy, hcs]; exact hcc)) (by simp -implicitDefEqProofs only [↓aP, aQ, ↓reduceIte, Nat.reduceEqDiff, Nat.reduceAdd, Nat.reduceSub, Nat.reduceMul, Nat.reduceLT, Nat.reduceLeDiff, reduceCtorEq, Nat.reduceBEq, forall_const, implies_true, exists_const, ne_eq, Int.reduceAdd, Int.reduceSub, Int.reduceMul, Int.reduceBEq, Int.reduceEq, Int.reduceLT, Int.reduceLE, Int.reduceToNat, Int.reduceNeg, Int.reduceBNe]) ?_
      simp -implicitDefEqProofs only [↓aP, aQ, ↓reduceIte, Nat.reduceEqDiff, Nat.reduceAdd, Nat.reduceSub, Nat.reduceMul, Nat.reduceLT, Nat.reduceLeDiff, reduceCtorEq, Nat.reduceBEq, forall_const, implies_true, exists_const, ne_eq, Int.reduceAdd, Int.reduceSub, Int.reduceMul, Int.reduceBEq, Int.reduceEq, Int.reduceLT, Int.reduceLE, Int.reduceToNat, Int.reduceNeg, Int.reduceBNe, s1, g1, b1, g19, b19, s2, g2, b2, hy, hcs]
      refine ⟨by decide +kernel, ?_⟩
      simp -implicitDefEqProofs only [↓aP, aQ, ↓reduceIte, Nat.reduceEqDiff, Nat.reduceAdd, Nat.reduceSub, Nat.reduceMul, Nat.reduceLT, Nat.reduceLeDiff, reduceCtorEq, Nat.reduceBEq, forall_const, implies_true, exists_const, ne_eq, Int.reduceAdd, Int.reduceSub, Int.reduceMul, Int.reduceBEq, Int.reduceEq, Int.reduceLT, Int.reduceLE, Int.reduceToNat, Int.reduceNeg, Int.reduceBNe, encN, encLs, hset, hgl, hcs]
    · have ht : turn ⟨l, (a : Int), true⟩ = (false, ⟨l, (((a + 1) % l.length : Nat) : Int), false⟩) := by
        unfold turn
        rw [hgl, if_neg he, hsh, hcs, if_neg (show ¬ (c :: cs).headD 0 ≤ y.d from t_df hle)]
        show (false, (⟨l.set a y, (((a + 1) % l.length : Nat) : Int), false⟩ : Ls)) = _
        rw [hself]
      rw [ht] at hs2 hru2 hrt
      simp only [Bool.false_eq_true, false_or, if_false] at hs2 hru2
      simp -implicitDefEqProofs only [↓aP, aQ, ↓reduceIte, Nat.reduceEqDiff, Nat.reduceAdd, Nat.reduceSub, Nat.reduceMul, Nat.reduceLT, Nat.reduceLeDiff, reduceCtorEq, Nat.reduceBEq, forall_const, implies_true, exists_const, ne_eq, Int.reduceAdd, Int.reduceSub, Int.reduceMul, Int.reduceBEq, Int.reduceEq, Int.reduceLT, Int.reduceLE, Int.reduceToNat, Int.reduceNeg, Int.reduceBNe, s1, g1, b1, g19, b19, s2, g2, b2, List.length_map, List.length_set]
      refine ⟨hne, m, Nat.lt_succ_self m, l, (a + 1) % l.length, false, hrt, hs2, hru2, ?_⟩
      simp -implicitDefEqProofs only [↓aP, aQ, ↓reduceIte, Nat.reduceEqDiff, Nat.reduceAdd, Nat.reduceSub, Nat.reduceMul, Nat.reduceLT, Nat.reduceLeDiff, reduceCtorEq, Nat.reduceBEq, forall_const, implies_true, exists_const, ne_eq, Int.reduceAdd, Int.reduceSub, Int.reduceMul, Int.reduceBEq, Int.reduceEq, Int.reduceLT, Int.reduceLE, Int.reduceToNat, Int.reduceNeg, Int.reduceBNe, s1, g1, b1, g19, b19, s2, g2, b2, wrapS (show a < 4611686018427387904 by omega), e3, encLn, encI, hcs]
end Go.Proofs.Ytfmbfgoofiojcaa
namespace Go.Proofs.Ytfmbfgoofiojcaa
open Go.RowKit Lk
set_option linter.unusedVariables false
set_option linter.unusedSimpArgs false
theorem right_new (ws : List Int) : right ⟨ws.map fresh, 0, false⟩ = okNew ws := by
  rw [Bool.eq_iff_iff, right_iff]
  unfold okNew
  simp only [Bool.and_eq_true, decide_eq_true_eq, List.all_eq_true, List.length_map]
  constructor
  · rintro ⟨h1, h2⟩
    refine ⟨by omega, fun w hw => ?_⟩
    obtain ⟨k, hk, rfl⟩ := List.getElem_of_mem hw
    have := h2 k hk
    rw [List.getElem_map] at this
    exact (okL_iff.1 this).1
  · rintro ⟨h1, h2⟩
    refine ⟨by omega, fun k hk => ?_⟩
    rw [List.getElem_map]
    exact okL_iff.2 ⟨h2 _ (List.getElem_mem hk), ⟨Int.le_refl 0, by unfold most fresh; simp⟩, by simp [fresh], by simp [fresh]⟩
theorem newI_cases (ws : List Int) : (okNew ws = true ∧ newI ws = (⟨ws.map fresh, 0, false⟩, 0)) ∨ (okNew ws = false ∧ newI ws = (⟨[], 0, false⟩, 1)) := by
  cases h : okNew ws
  · exact .inr ⟨rfl, by unfold newI; simp [h]⟩
  · exact .inl ⟨rfl, by unfold newI; simp [h]⟩
def badP (x : Ls) (lane cost : Int) : Prop := right x = false ∨ lane < 0 ∨ (x.l.length : Int) ≤ lane ∨ okC cost = false
theorem push_bad {x : Ls} {lane cost : Int} (h : badP x lane cost) : pushI x lane cost = (x, 1) := if_pos h
theorem push_full {x : Ls} {k : Nat} {cost : Int} (h : ¬ badP x k cost) (hk : k < x.l.length) (h2 : x.l[k].cs.length = 200) : pushI x k cost = (x, 7) := by
  unfold badP at h
  unfold pushI
  rw [if_neg h]
  simp only [Int.toNat_natCast, List.getElem?_eq_getElem hk]
  rw [if_pos h2]
theorem push_ok {x : Ls} {k : Nat} {cost : Int} (h : ¬ badP x k cost) (hk : k < x.l.length) (h2 : x.l[k].cs.length ≠ 200) : pushI x k cost = (⟨x.l.set k ⟨x.l[k].w, x.l[k].d, x.l[k].cs ++ [cost]⟩, x.at', x.g⟩, 0) := by
  unfold badP at h
  unfold pushI
  rw [if_neg h]
  simp only [Int.toNat_natCast, List.getElem?_eq_getElem hk]
  rw [if_neg h2]
end Go.Proofs.Ytfmbfgoofiojcaa
namespace Go.Proofs.Ytfmbfgoofiojcaa
open Lk
set_option linter.unusedVariables false
namespace Lk
def costs (x : Ls) : List (List Int) := x.l.map Ln.cs
def weights (x : Ls) : List Int := x.l.map Ln.w
theorem map_set_same {α β : Type} (f : α → β) (l : List α) (a : Nat) (y : α) (h : ∀ hl : a < l.length, f y = f l[a]) : (l.set a y).map f = l.map f := by
  rw [List.map_set]
  apply List.ext_getElem?
  intro j
  rw [List.getElem?_set]
  split
  · rename_i e
    subst e
    split
    · rename_i hl
      have hl' : a < l.length := by simpa using hl
      rw [List.getElem?_map, List.getElem?_eq_getElem hl', h hl']; rfl
    · rename_i hl
      rw [List.getElem?_eq_none (by simpa using hl)]
  · rfl
theorem shared_same {x : Ls} : (shared x).cs = (getL x).cs ∧ (shared x).w = (getL x).w := by
  unfold shared
  split
  · exact ⟨rfl, rfl⟩
  · exact ⟨rfl, rfl⟩
theorem turn_same {x : Ls} (h : right x = true) : costs (turn x).2 = costs x ∧ weights (turn x).2 = weights x := by
  obtain ⟨h1, h2⟩ := right_iff.1 h
  obtain ⟨a, ha⟩ : ∃ a : Nat, x.at' = a := ⟨x.at'.toNat, by omega⟩
  have hl : a < x.l.length := by omega
  have hg := getL_eq ha hl
  have hat : x.at'.toNat = a := by omega
  obtain ⟨q1, q2⟩ := @shared_same x
  rw [hg] at q1 q2
  unfold turn over costs weights
  rw [hg, hat]
  split
  · exact ⟨map_set_same _ _ _ _ (fun _ => rfl), map_set_same _ _ _ _ (fun _ => rfl)⟩
  · split
    · exact ⟨map_set_same _ _ _ _ (fun _ => q1), map_set_same _ _ _ _ (fun _ => q2)⟩
    · exact ⟨map_set_same _ _ _ _ (fun _ => q1), map_set_same _ _ _ _ (fun _ => q2)⟩
theorem turn_end {x : Ls} (h : right x = true) (he : (turn x).1 = true) : (getL (turn x).2).cs ≠ [] ∧ (getL (turn x).2).cs.headD 0 ≤ (getL (turn x).2).d ∧ (turn x).2.g = true := by
  obtain ⟨h1, h2⟩ := right_iff.1 h
  obtain ⟨a, ha⟩ : ∃ a : Nat, x.at' = a := ⟨x.at'.toNat, by omega⟩
  have hl : a < x.l.length := by omega
  have hg := getL_eq ha hl
  have hat : x.at'.toNat = a := by omega
  obtain ⟨q1, q2⟩ := @shared_same x
  by_cases e1 : (getL x).cs = []
  · unfold turn at he
    rw [if_pos e1] at he
    simp at he
  · by_cases e2 : (getL x).cs.headD 0 ≤ (shared x).d
    · have ht : turn x = (true, ⟨x.l.set x.at'.toNat (shared x), x.at', true⟩) := by unfold turn; rw [if_neg e1, if_pos e2]
      rw [ht]
      have hgs : getL ⟨x.l.set x.at'.toNat (shared x), x.at', true⟩ = shared x := by
        rw [getL_eq (x := ⟨x.l.set x.at'.toNat (shared x), x.at', true⟩) ha (by simpa using hl)]
        simp only [hat]
        exact List.getElem_set_self _
      simp only [hgs]
      rw [q1]
      exact ⟨e1, e2, trivial⟩
    · unfold turn at he
      rw [if_neg e1, if_neg e2] at he
      simp at he
theorem run_same : ∀ (n : Nat) {x : Ls}, right x = true → right (run n x) = true ∧ costs (run n x) = costs x ∧ weights (run n x) = weights x
  | 0, x, h => ⟨h, rfl, rfl⟩
  | n + 1, x, h => by
    have h1 := turn_right h
    obtain ⟨h2, h3⟩ := turn_same h
    unfold run
    split
    · exact ⟨h1, h2, h3⟩
    · obtain ⟨i1, i2, i3⟩ := run_same n h1
      exact ⟨i1, i2.trans h2, i3.trans h3⟩
theorem run_end : ∀ (n : Nat) {x : Ls}, right x = true → Stops n x → (getL (run n x)).cs ≠ [] ∧ (getL (run n x)).cs.headD 0 ≤ (getL (run n x)).d ∧ (run n x).g = true
  | 0, x, _, hs => hs.elim
  | n + 1, x, h, hs => by
    unfold run
    by_cases he : (turn x).1 = true
    · rw [if_pos he]; exact turn_end h he
    · rw [if_neg he]
      exact run_end n (turn_right h) (hs.resolve_left he)
/-- one is taken: which, and what is behind it -/
theorem next_facts {x : Ls} (h : right x = true) (hw : waits x = true) : ∃ k : Nat, k < x.l.length ∧ (nextI x).2.1 = k ∧ (nextI x).2.2.2 = true ∧ right (nextI x).1 = true ∧
    (costs x)[k]? = some ((nextI x).2.2.1 :: ((costs x)[k]?.getD []).tail) ∧ costs (nextI x).1 = (costs x).set k ((costs x)[k]?.getD []).tail ∧ weights (nextI x).1 = weights x ∧ (nextI x).1.at' = k := by
  have hn : nextI x = (⟨(run 14 x).l.set (run 14 x).at'.toNat (takeL (getL (run 14 x))), (run 14 x).at', (run 14 x).g⟩, (run 14 x).at', (getL (run 14 x)).cs.headD 0, true) := if_pos ⟨h, hw⟩
  obtain ⟨r1, r2, r3⟩ := run_same 14 h
  obtain ⟨e1, e2, e3⟩ := run_end 14 h (stops14 h hw)
  generalize run 14 x = R at *
  rw [hn]
  obtain ⟨h1, h2⟩ := right_iff.1 r1
  obtain ⟨k, hk⟩ : ∃ k : Nat, R.at' = k := ⟨R.at'.toNat, by omega⟩
  have hl : k < R.l.length := by omega
  have hlen : R.l.length = x.l.length := by have := congrArg List.length r2; simpa [costs] using this
  have hg := getL_eq hk hl
  have hat : R.at'.toNat = k := by omega
  rw [hg] at e1 e2 ⊢
  have hcx : (costs x)[k]? = some R.l[k].cs := by rw [← r2]; unfold costs; rw [List.getElem?_map, List.getElem?_eq_getElem hl]; rfl
  obtain ⟨c, cs, hcs⟩ : ∃ c cs, R.l[k].cs = c :: cs := by
    cases hh : R.l[k].cs with
    | nil => exact absurd hh e1
    | cons c cs => exact ⟨c, cs, rfl⟩
  rw [hcs] at e2 hcx
  have hok := right_own r1 hk hl
  rw [e3] at hok
  obtain ⟨q1, ⟨q2, q3⟩, q4, q5⟩ := okL_iff.1 hok
  rw [hcs] at q4 q5
  simp only [List.all_cons, Bool.and_eq_true, List.length_cons] at q4 q5
  simp only [if_true] at q3
  have hc1 : 1 ≤ c := by have := q5.1; simp [okC] at this; omega
  simp only [List.headD_cons] at e2
  refine ⟨k, by omega, hk, rfl, ?_, ?_, ?_, ?_, hk⟩
  · rw [hat]
    refine right_set r1 hk ⟨by omega, by omega⟩ ?_
    rw [if_pos ⟨e3, hk.symm⟩]
    unfold takeL
    rw [hcs]
    refine okL_iff.2 ⟨q1, ⟨?_, ?_⟩, by simp; omega, q5.2⟩
    · simp only [List.headD_cons]; split <;> omega
    · simp only [List.headD_cons]; split <;> omega
  · rw [hcx, hcs]; rfl
  · rw [hat]
    unfold costs
    rw [List.map_set]
    rw [show List.map Ln.cs R.l = costs R from rfl, r2, show List.map Ln.cs x.l = costs x from rfl, hcx]
    unfold takeL
    rw [hcs]; rfl
  · rw [hat]
    refine Eq.trans ?_ r3
    unfold weights
    exact map_set_same _ _ _ _ (fun _ => rfl)
theorem next_none {x : Ls} (hw : waits x = false) : nextI x = (x, 0, 0, false) := if_neg (by simp [hw])
theorem waits_iff {x : Ls} : waits x = (costs x).any fun c => decide (0 < c.length) := by
  unfold waits costs
  rw [List.any_map]; rfl
end Lk
end Go.Proofs.Ytfmbfgoofiojcaa
