/- layer 5, plain: the turns; they come to an end. No condition. -/
import Derived.Test.YtfmbfgoofiojcaaL3
namespace Go.Proofs.Ytfmbfgoofiojcaa
open Lk
set_option linter.unusedVariables false
namespace Lk
def bump (y : Ln) : Ln := ⟨y.w, y.d + y.w * 4, y.cs⟩
def zero (y : Ln) : Ln := ⟨y.w, 0, y.cs⟩
def getL (x : Ls) : Ln := (x.l[x.at'.toNat]?).getD default
/-- the lane whose turn it is, with its share -/
def shared (x : Ls) : Ln := if x.g then getL x else bump (getL x)
def over (x : Ls) (y : Ln) : Ls := ⟨x.l.set x.at'.toNat y, ((x.at'.toNat + 1) % x.l.length : Nat), false⟩
/-- one turn: is it the end? -/
def turn (x : Ls) : Bool × Ls :=
  if (getL x).cs = [] then (false, over x (zero (getL x)))
  else if (getL x).cs.headD 0 ≤ (shared x).d then (true, ⟨x.l.set x.at'.toNat (shared x), x.at', true⟩)
  else (false, over x (shared x))
def run : Nat → Ls → Ls
  | 0, x => x
  | n + 1, x => if (turn x).1 = true then (turn x).2 else run n (turn x).2
def Stops : Nat → Ls → Prop
  | 0, _ => False
  | n + 1, x => (turn x).1 = true ∨ Stops n (turn x).2
theorem Stops.more : ∀ {n m : Nat} {x : Ls}, Stops n x → n ≤ m → Stops m x
  | 0, _, _, h, _ => h.elim
  | n + 1, 0, _, _, h => by omega
  | n + 1, m + 1, x, h, hl => h.elim .inl fun h => .inr (Stops.more h (by omega))
theorem getL_eq {x : Ls} {a : Nat} (ha : x.at' = a) (hl : a < x.l.length) : getL x = x.l[a] := by
  unfold getL
  rw [ha, Int.toNat_natCast, List.getElem?_eq_getElem hl]; rfl
theorem right_iff {x : Ls} : right x = true ↔ (x.l.length ≤ 6 ∧ 0 ≤ x.at' ∧ x.at' < x.l.length) ∧ ∀ k (hk : k < x.l.length), okL (most x k) x.l[k] = true := by
  constructor
  · intro h
    refine ⟨?_, fun k hk => right_get h hk⟩
    unfold right at h
    simp only [Bool.and_eq_true, decide_eq_true_eq] at h
    exact h.1
  · rintro ⟨h1, h2⟩
    exact right_all h1 (fun k hk => by rw [okAt_get hk]; exact h2 k hk)
theorem okL_mono {m m' : Int} {y : Ln} (h : okL m y = true) (hm : y.d ≤ m') : okL m' y = true := by
  rw [okL_iff] at h ⊢
  exact ⟨h.1, ⟨h.2.1.1, hm⟩, h.2.2⟩
theorem head_ok {y : Ln} {m : Int} (h : okL m y = true) (hne : y.cs ≠ []) : 1 ≤ y.cs.headD 0 ∧ y.cs.headD 0 ≤ 8 := by
  have h1 := (okL_iff.1 h).2.2.2
  cases hc : y.cs with
  | nil => exact absurd hc hne
  | cons c cs =>
    rw [hc] at h1
    simp only [List.all_cons, Bool.and_eq_true] at h1
    have := h1.1
    simpa [okC] using this
theorem okW_iff {n : Int} : okW n = true ↔ 1 ≤ n ∧ n ≤ 8 := by unfold okW; simp
/-- lanes of which one is turned, all the others with little left -/
theorem right_set {x : Ls} {a : Nat} {y : Ln} {at2 : Int} {g2 : Bool} (h : right x = true) (ha : x.at' = a) (hat : 0 ≤ at2 ∧ at2 < x.l.length) (hy : okL (if g2 = true ∧ (a : Int) = at2 then 39 else 7) y = true) : right ⟨x.l.set a y, at2, g2⟩ = true := by
  obtain ⟨h1, h2⟩ := right_iff.1 h
  rw [right_iff]
  simp only [List.length_set]
  refine ⟨⟨h1.1, hat⟩, fun k hk => ?_⟩
  rw [List.getElem_set]
  unfold most
  simp only
  by_cases e : a = k
  · subst e
    rw [if_pos rfl]
    exact hy
  · rw [if_neg e]
    have h3 := h2 k hk
    have h4 : (k : Int) ≠ x.at' := by omega
    unfold most at h3
    rw [if_neg (fun h => h4 h.2)] at h3
    have := (okL_iff.1 h3).2.1.2
    exact okL_mono h3 (by split <;> omega)
theorem up_lt {a n : Nat} (h : 0 < n) : (a + 1) % n < n := Nat.mod_lt _ h
theorem right_own {x : Ls} {a : Nat} (h : right x = true) (ha : x.at' = a) (hl : a < x.l.length) : okL (if x.g = true then 39 else 7) x.l[a] = true := by
  have := (right_iff.1 h).2 a hl
  unfold most at this
  simpa [ha] using this
theorem turn_right {x : Ls} (h : right x = true) : right (turn x).2 = true := by
  obtain ⟨h1, h2⟩ := right_iff.1 h
  obtain ⟨a, ha⟩ : ∃ a : Nat, x.at' = a := ⟨x.at'.toNat, by omega⟩
  have hl : a < x.l.length := by omega
  have hg := getL_eq ha hl
  have hy := right_own h ha hl
  have hup := up_lt (a := a) (n := x.l.length) (by omega)
  obtain ⟨k1, ⟨k2, k3⟩, k4, k5⟩ := okL_iff.1 hy
  have kw := okW_iff.1 k1
  have hat : x.at'.toNat = a := by omega
  have hsh : (shared x).w = x.l[a].w ∧ (shared x).cs = x.l[a].cs ∧ 0 ≤ (shared x).d ∧ (shared x).d ≤ 39 := by
    unfold shared
    rw [hg]
    cases hgx : x.g
    · rw [hgx] at k3
      simp only [Bool.false_eq_true, if_false, bump] at k3 ⊢
      refine ⟨trivial, trivial, by omega, by omega⟩
    · rw [hgx] at k3
      simp only [if_true] at k3 ⊢
      exact ⟨trivial, trivial, k2, k3⟩
  unfold turn
  rw [hg]
  by_cases he : x.l[a].cs = []
  · rw [if_pos he]
    unfold over zero
    rw [hat]
    refine right_set h ha ⟨by omega, by omega⟩ ?_
    rw [if_neg (by simp)]
    exact okL_iff.2 ⟨k1, ⟨Int.le_refl 0, (by decide : (0 : Int) ≤ 7)⟩, k4, k5⟩
  · rw [if_neg he]
    have hh := head_ok hy he
    by_cases hs : x.l[a].cs.headD 0 ≤ (shared x).d
    · rw [if_pos hs, hat]
      refine right_set h ha ⟨by omega, by omega⟩ ?_
      rw [if_pos ⟨rfl, ha.symm⟩]
      exact okL_iff.2 ⟨by rw [hsh.1]; exact k1, hsh.2.2, by rw [hsh.2.1]; exact k4, by rw [hsh.2.1]; exact k5⟩
    · rw [if_neg hs]
      unfold over
      rw [hat]
      refine right_set h ha ⟨by omega, by omega⟩ ?_
      rw [if_neg (by simp)]
      exact okL_iff.2 ⟨by rw [hsh.1]; exact k1, ⟨hsh.2.2.1, by omega⟩, by rw [hsh.2.1]; exact k4, by rw [hsh.2.1]; exact k5⟩
/-- how far it is to a lane -/
def dist (n a k : Nat) : Nat := if a ≤ k then k - a else k + n - a
theorem dist_up {n a k : Nat} (ha : a < n) (hk : k < n) : (a ≠ k → dist n ((a + 1) % n) k + 1 = dist n a k) ∧ dist n ((k + 1) % n) k + 1 = n ∧ dist n k k = 0 := by
  have hm : ∀ a, a < n → (a + 1) % n = if a + 1 = n then 0 else a + 1 := by
    intro a ha
    by_cases h : a + 1 = n
    · rw [if_pos h, h, Nat.mod_self]
    · rw [if_neg h, Nat.mod_eq_of_lt (by omega)]
  unfold dist
  rw [hm a ha, hm k hk]
  refine ⟨fun h => ?_, ?_, ?_⟩
  · by_cases e : a + 1 = n
    · rw [if_pos e]
      repeat' split
      all_goals omega
    · rw [if_neg e]
      repeat' split
      all_goals omega
  · by_cases e : k + 1 = n
    · rw [if_pos e]
      repeat' split
      all_goals omega
    · rw [if_neg e]
      repeat' split
      all_goals omega
  · simp
theorem stops_of {k : Nat} : ∀ (m : Nat) {x : Ls} {a : Nat} (h : right x = true) (hg : x.g = false) (ha : x.at' = a) (hk : k < x.l.length) (hne : x.l[k].cs ≠ []),
    (if x.l[k].cs.headD 0 ≤ x.l[k].d + x.l[k].w * 4 then 0 else x.l.length) + dist x.l.length a k < m → Stops m x
  | 0, _, _, _, _, _, _, _, hm => by omega
  | m + 1, x, a, h, hg, ha, hk, hne, hm => by
    obtain ⟨h1, h2⟩ := right_iff.1 h
    have hl : a < x.l.length := by omega
    have hgl := getL_eq ha hl
    have hat : x.at'.toNat = a := by omega
    have hsh : shared x = bump x.l[a] := by unfold shared; rw [hg, hgl]; rfl
    obtain ⟨u1, u2, u3⟩ := dist_up hl hk
    have hrt := turn_right h
    have hkk := h2 k hk
    obtain ⟨q1, ⟨q2, q3⟩, q4, q5⟩ := okL_iff.1 hkk
    have qw := okW_iff.1 q1
    have qh := head_ok hkk hne
    show _ ∨ _
    by_cases e : a = k
    · subst e
      by_cases hs : x.l[a].cs.headD 0 ≤ x.l[a].d + x.l[a].w * 4
      · left
        unfold turn
        rw [hgl, if_neg hne, hsh, if_pos (show x.l[a].cs.headD 0 ≤ (bump x.l[a]).d from hs)]
      · right
        have ht : (turn x).2 = over x (bump x.l[a]) := by
          unfold turn
          rw [hgl, if_neg hne, hsh, if_neg (show ¬ x.l[a].cs.headD 0 ≤ (bump x.l[a]).d from hs)]
        rw [ht] at hrt ⊢
        rw [if_neg hs] at hm
        refine stops_of m (a := (a + 1) % x.l.length) (k := a) hrt rfl (by unfold over; rw [hat]) (by simpa [over] using hl) ?_ ?_
        · simp only [over, hat, List.getElem_set_self]; exact hne
        · simp only [over, hat, List.getElem_set_self, List.length_set, bump]
          rw [if_pos (by omega)]
          omega
    · have go : ∀ z, (turn x).2 = over x z → Stops m (turn x).2 := by
        intro z ht
        rw [ht] at hrt ⊢
        have hd := u1 e
        refine stops_of m (a := (a + 1) % x.l.length) (k := k) hrt rfl (by unfold over; rw [hat]) (by simpa [over] using hk) ?_ ?_
        · simp only [over, hat, List.getElem_set_ne e]; exact hne
        · simp only [over, hat, List.getElem_set_ne e, List.length_set]
          omega
      by_cases e1 : x.l[a].cs = []
      · right
        exact go (zero x.l[a]) (by unfold turn; rw [hgl, if_pos e1])
      · by_cases e2 : x.l[a].cs.headD 0 ≤ (shared x).d
        · left
          unfold turn
          rw [hgl, if_neg e1, if_pos e2]
        · right
          exact go (shared x) (by unfold turn; rw [hgl, if_neg e1, if_neg e2])
theorem dist_lt {n a k : Nat} (ha : a < n) (hk : k < n) : dist n a k < n := by unfold dist; split <;> omega
theorem stops14 {x : Ls} (h : right x = true) (hw : waits x = true) : Stops 14 x := by
  obtain ⟨h1, h2⟩ := right_iff.1 h
  unfold waits at hw
  rw [List.any_eq_true] at hw
  obtain ⟨y, hy, hc⟩ := hw
  obtain ⟨k, hk, rfl⟩ := List.getElem_of_mem hy
  have hne : x.l[k].cs ≠ [] := by
    intro e
    rw [e] at hc
    simp at hc
  have first : ∀ (x : Ls) (k : Nat) (h : right x = true) (hg : x.g = false) (hk : k < x.l.length) (hne : x.l[k].cs ≠ []), Stops 13 x := by
    intro x k h hg hk hne
    obtain ⟨h1, h2⟩ := right_iff.1 h
    have hd := dist_lt (n := x.l.length) (a := x.at'.toNat) (k := k) (by omega) hk
    refine stops_of 13 (a := x.at'.toNat) h hg (by omega) hk hne ?_
    split <;> omega
  cases hg : x.g
  · exact (first x k h hg hk hne).more (by omega)
  · obtain ⟨a, ha⟩ : ∃ a : Nat, x.at' = a := ⟨x.at'.toNat, by omega⟩
    have hl : a < x.l.length := by omega
    have hgl := getL_eq ha hl
    have hat : x.at'.toNat = a := by omega
    have hrt := turn_right h
    have hsh : shared x = x.l[a] := by unfold shared; rw [hg, hgl]; rfl
    show _ ∨ _
    by_cases e1 : x.l[a].cs = []
    · right
      have ht : (turn x).2 = over x (zero x.l[a]) := by unfold turn; rw [hgl, if_pos e1]
      rw [ht] at hrt ⊢
      have hak : a ≠ k := by intro e; subst e; exact hne e1
      exact first _ k hrt rfl (by simpa [over] using hk) (by simp only [over, hat, List.getElem_set_ne hak]; exact hne)
    · by_cases e2 : x.l[a].cs.headD 0 ≤ (shared x).d
      · left
        unfold turn
        rw [hgl, if_neg e1, if_pos e2]
      · right
        have ht : (turn x).2 = over x (shared x) := by unfold turn; rw [hgl, if_neg e1, if_neg e2]
        rw [ht, hsh] at hrt ⊢
        refine first _ k hrt rfl (by simpa [over] using hk) ?_
        simp only [over, hat]
        rw [List.getElem_set]
        split
        · exact e1
        · exact hne
/-- what Next tells -/
def nextI (x : Ls) : Ls × Int × Int × Bool :=
  if right x = true ∧ waits x = true then (⟨(run 14 x).l.set (run 14 x).at'.toNat (takeL (getL (run 14 x))), (run 14 x).at', (run 14 x).g⟩, (run 14 x).at', (getL (run 14 x)).cs.headD 0, true)
  else (x, 0, 0, false)
end Lk
end Go.Proofs.Ytfmbfgoofiojcaa
