/- layer 11: halls, plain. -/
import Derived.Test.YteghmlafodkfpaaA0
namespace Go.Proofs.Yteghmlafodkfpaa
set_option linter.unusedVariables false
set_option linter.unusedSimpArgs false
structure Tk where
  who : Int
  claim : Int
deriving DecidableEq, Inhabited
structure Ha where
  fr : Int
  bu : Int
  cl : List Cl
  q : List Tk
deriving DecidableEq, Inhabited
namespace Bk
theorem Feas.join {f : Int} {l : List Cl} (h : Feas f l) : ∀ c0 : Cl, c0.held = 0 → 0 ≤ f → NonNeg l → need c0 ≤ f + (l.map Cl.held).sum → Feas f (c0 :: l) := by
  induction h with
  | nil f =>
    intro c0 h0 hf _ hn
    exact .cons c0 (by simp) (by simpa using hn) (by rw [List.erase_cons_head]; exact .nil _)
  | @cons f l d hd hn hr ih =>
    intro c0 h0 hf hnn hc
    have hd0 := hnn d hd
    have hsum : (l.map Cl.held).sum = d.held + ((l.erase d).map Cl.held).sum := by
      have hp := (List.perm_cons_erase hd).map Cl.held
      have : ∀ {a b : List Int}, a.Perm b → a.sum = b.sum := by
        intro a b h
        induction h with
        | nil => rfl
        | cons x _ ih => simp [ih]
        | swap x y l => simp; omega
        | trans _ _ i1 i2 => rw [i1, i2]
      rw [this hp]; simp
    have i := ih c0 h0 (by omega) (hnn.erase d) (by omega)
    refine .cons d (by simp [hd]) hn ?_
    exact i.perm (perm_swap hd).symm
theorem Feas.less {f : Int} {l : List Cl} (h : Feas f l) : ∀ (c c0 : Cl) (d : Int), c ∈ l → 0 ≤ d → c0.claim = c.claim → c0.held = c.held - d → ∀ m : List Cl, m.Perm (c0 :: l.erase c) → Feas (f + d) m := by
  induction h with
  | nil f => intro c c0 d hc; simp at hc
  | @cons f l e he hn hr ih =>
    intro c c0 d hc hd h1 h2 m hm
    by_cases ee : e = c
    · subst ee
      refine Feas.perm (Feas.cons c0 (by simp) (by unfold need at hn ⊢; omega) ?_) hm.symm
      rw [List.erase_cons_head]
      exact hr.mono (by omega)
    · have hc2 : c ∈ l.erase e := (List.mem_erase_of_ne (Ne.symm ee)).2 hc
      have he2 : e ∈ l.erase c := (List.mem_erase_of_ne ee).2 he
      refine Feas.perm (Feas.cons e (by simp [he2]) (by omega) ?_) hm.symm
      have := ih c c0 d hc2 hd h1 h2 ((c0 :: l.erase c).erase e) (by rw [List.erase_comm]; exact perm_swap he2)
      exact this.mono (by omega)
end Bk
namespace Ad
open Bk (safe good safe_iff right_iff nonneg_of_right Feas need)
def okWho (n : Int) : Bool := decide (0 ≤ n ∧ n ≤ 2147483647)
def okClaim (fr bu c : Int) : Bool := decide (1 ≤ c ∧ c ≤ min fr bu)
def heldS (l : List Cl) : Int := (l.map Cl.held).sum
def claimS (l : List Cl) : Int := (l.map Cl.claim).sum
def may (h : Ha) : Bool := match h.q with
  | [] => false
  | t :: _ => decide (h.cl.length < 8 ∧ t.claim + claimS h.cl ≤ 2 * h.fr)
def whos (h : Ha) : List Int := h.cl.map Cl.who ++ h.q.map Tk.who
def tkAt (h : Ha) (i : Nat) : Bool := match h.q[i]? with
  | some t => okWho t.who && okClaim h.fr h.bu t.claim && h.cl.all (fun c => c.who != t.who) && (h.q.take i).all (fun o => o.who != t.who)
  | none => true
def people (h : Ha) : Bool := h.cl.all (fun c => okClaim h.fr h.bu c.claim) && (List.range h.q.length).all (tkAt h)
def size (h : Ha) : Bool := decide (1 ≤ h.fr ∧ h.fr ≤ 8 ∧ 1 ≤ h.bu ∧ h.bu ≤ 100)
def right (h : Ha) : Bool := size h && Bk.right h.cl && decide (h.cl.length + h.q.length ≤ 40) && people h && safe (h.fr - heldS h.cl) h.cl && !may h
/-- right, but that somebody may be let in -/
def Pre (h : Ha) : Prop := size h = true ∧ Bk.right h.cl = true ∧ h.cl.length + h.q.length ≤ 40 ∧ (∀ c ∈ h.cl, okClaim h.fr h.bu c.claim = true) ∧ (∀ t ∈ h.q, okWho t.who = true ∧ okClaim h.fr h.bu t.claim = true) ∧ (whos h).Nodup ∧ safe (h.fr - heldS h.cl) h.cl = true
theorem people_iff {h : Ha} (hr : Bk.right h.cl = true) : people h = true ↔ (∀ c ∈ h.cl, okClaim h.fr h.bu c.claim = true) ∧ (∀ t ∈ h.q, okWho t.who = true ∧ okClaim h.fr h.bu t.claim = true) ∧ (whos h).Nodup := by
  unfold people
  rw [Bool.and_eq_true, List.all_eq_true]
  refine and_congr_right fun _ => ?_
  have hnd := ((right_iff h.cl).1 hr).2.2
  have h1 : ((List.range h.q.length).all (tkAt h) = true) ↔ ∀ i (hi : i < h.q.length), (okWho h.q[i].who = true ∧ okClaim h.fr h.bu h.q[i].claim = true) ∧ (∀ c ∈ h.cl, c.who ≠ h.q[i].who) ∧ ∀ j (hj : j < i), (h.q[j]'(by omega)).who ≠ h.q[i].who := by
    rw [List.all_eq_true]
    constructor
    · intro hh i hi
      have h2 := hh i (by simpa using hi)
      unfold tkAt at h2
      rw [List.getElem?_eq_getElem hi] at h2
      simp only [Bool.and_eq_true, List.all_eq_true, bne_iff_ne] at h2
      refine ⟨h2.1.1, h2.1.2, fun j hj => h2.2 _ (by rw [List.mem_take_iff_getElem]; exact ⟨j, by omega, rfl⟩)⟩
    · intro hh i hi
      have hi' : i < h.q.length := by simpa using hi
      obtain ⟨a, b, c⟩ := hh i hi'
      unfold tkAt
      rw [List.getElem?_eq_getElem hi']
      simp only [Bool.and_eq_true, List.all_eq_true, bne_iff_ne]
      refine ⟨⟨a, b⟩, fun o ho => ?_⟩
      obtain ⟨j, hj, rfl⟩ := List.mem_take_iff_getElem.1 ho
      exact c j (by omega)
  rw [h1]
  unfold whos
  rw [List.nodup_append]
  constructor
  · intro hh
    refine ⟨fun t ht => ?_, hnd, ?_, ?_⟩
    · obtain ⟨i, hi, rfl⟩ := List.getElem_of_mem ht; exact (hh i hi).1
    · rw [List.nodup_iff_pairwise_ne, List.pairwise_iff_getElem]
      intro i j hi hj hij
      have := (hh j (by simpa using hj)).2.2 i hij
      simpa using this
    · intro a ha b hb
      obtain ⟨c, hc, rfl⟩ := List.mem_map.1 ha
      obtain ⟨t, ht, rfl⟩ := List.mem_map.1 hb
      obtain ⟨i, hi, rfl⟩ := List.getElem_of_mem ht
      exact (hh i hi).2.1 c hc
  · rintro ⟨h2, h3, h4, h5⟩ i hi
    refine ⟨h2 _ (List.getElem_mem hi), fun c hc => h5 _ (List.mem_map_of_mem hc) _ (List.mem_map_of_mem (List.getElem_mem hi)), fun j hj => ?_⟩
    rw [List.nodup_iff_pairwise_ne, List.pairwise_iff_getElem] at h4
    have := h4 j i (by simp; omega) (by simpa using hi) hj
    simpa using this
theorem right_pre {h : Ha} : right h = true ↔ Pre h ∧ may h = false := by
  unfold right Pre
  simp only [Bool.and_eq_true, Bool.not_eq_true', decide_eq_true_eq]
  constructor
  · rintro ⟨⟨⟨⟨⟨h1, h2⟩, h3⟩, h4⟩, h5⟩, h6⟩
    obtain ⟨a, b, c⟩ := (people_iff h2).1 h4
    exact ⟨⟨h1, h2, h3, a, b, c, h5⟩, h6⟩
  · rintro ⟨⟨h1, h2, h3, a, b, c, h5⟩, h6⟩
    exact ⟨⟨⟨⟨⟨h1, h2⟩, h3⟩, (people_iff h2).2 ⟨a, b, c⟩⟩, h5⟩, h6⟩
theorem size_iff {h : Ha} : size h = true ↔ 1 ≤ h.fr ∧ h.fr ≤ 8 ∧ 1 ≤ h.bu ∧ h.bu ≤ 100 := by unfold size; rw [decide_eq_true_iff]
theorem claim_iff {fr bu c : Int} : okClaim fr bu c = true ↔ 1 ≤ c ∧ c ≤ fr ∧ c ≤ bu := by unfold okClaim; rw [decide_eq_true_iff]; omega
def mk (t : Tk) : Cl := ⟨t.who, t.claim, 0⟩
def ent (fr : Int) : List Cl → List Tk → (List Cl × List Tk) × List Int
  | cl, [] => ((cl, []), [])
  | cl, t :: q => if may ⟨fr, 0, cl, t :: q⟩ = true then ((ent fr (cl ++ [mk t]) q).1, t.who :: (ent fr (cl ++ [mk t]) q).2) else ((cl, t :: q), [])
def entH (h : Ha) : Ha := ⟨h.fr, h.bu, (ent h.fr h.cl h.q).1.1, (ent h.fr h.cl h.q).1.2⟩
def came (h : Ha) : List Int := (ent h.fr h.cl h.q).2
theorem may_bu {fr bu b2 : Int} {cl : List Cl} {q : List Tk} : may ⟨fr, bu, cl, q⟩ = may ⟨fr, b2, cl, q⟩ := rfl
theorem heldS_app {l : List Cl} {c : Cl} : heldS (l ++ [c]) = heldS l + c.held := by unfold heldS; simp
theorem claimS_app {l : List Cl} {c : Cl} : claimS (l ++ [c]) = claimS l + c.claim := by unfold claimS; simp
theorem pre_next {fr bu : Int} {cl : List Cl} {t : Tk} {q : List Tk} (hp : Pre ⟨fr, bu, cl, t :: q⟩) (hm : may ⟨fr, bu, cl, t :: q⟩ = true) : Pre ⟨fr, bu, cl ++ [mk t], q⟩ := by
  obtain ⟨h1, h2, h3, h4, h5, h6, h7⟩ := hp
  simp only [List.length_cons] at h3
  simp only at h2 h4 h5 h7
  have h8 : cl.length < 8 ∧ t.claim + claimS cl ≤ 2 * fr := by simpa [may] using hm
  obtain ⟨t1, t2⟩ := h5 t (by simp)
  have hsz := size_iff.1 h1
  simp only at hsz
  have htc := claim_iff.1 t2
  have htw : 0 ≤ t.who ∧ t.who ≤ 2147483647 := by simpa [okWho] using t1
  have hnd : ((cl ++ [mk t]).map Cl.who ++ q.map Tk.who).Nodup := by
    have : (cl ++ [mk t]).map Cl.who ++ q.map Tk.who = cl.map Cl.who ++ (t :: q).map Tk.who := by simp [mk]
    rw [this]; exact h6
  have hr : Bk.right (cl ++ [mk t]) = true := by
    obtain ⟨r1, r2, r3⟩ := (right_iff cl).1 h2
    refine (right_iff _).2 ⟨by simp; omega, ?_, (List.nodup_append.1 hnd).1⟩
    intro c hc
    rcases List.mem_append.1 hc with hc | hc
    · exact r2 c hc
    · rw [List.mem_singleton.1 hc]
      unfold good mk
      rw [decide_eq_true_iff]
      simp only
      omega
  have hs := (safe_iff _ _).1 h7
  refine ⟨h1, hr, by simp; omega, ?_, fun t ht => h5 t (by simp [ht]), hnd, ?_⟩
  · intro c hc
    rcases List.mem_append.1 hc with hc | hc
    · exact h4 c hc
    · rw [List.mem_singleton.1 hc]; exact t2
  · show safe (fr - heldS (cl ++ [mk t])) (cl ++ [mk t]) = true
    rw [heldS_app]
    refine (safe_iff _ _).2 ⟨hr, by simp only [mk]; omega, ?_⟩
    have hj := Feas.join hs.2.2 (mk t) rfl (by omega) (nonneg_of_right h2) (by
      show t.claim - 0 ≤ fr - heldS cl + heldS cl
      omega)
    have := hj.perm (List.perm_append_comm (l₁ := [mk t]) (l₂ := cl))
    exact this.mono (by simp only [mk]; omega)
theorem ent_facts {fr bu : Int} : ∀ (q : List Tk) (cl : List Cl), Pre ⟨fr, bu, cl, q⟩ → Pre ⟨fr, bu, (ent fr cl q).1.1, (ent fr cl q).1.2⟩ ∧ may ⟨fr, bu, (ent fr cl q).1.1, (ent fr cl q).1.2⟩ = false ∧
    ∃ k, k ≤ q.length ∧ (ent fr cl q).1.2 = q.drop k ∧ (ent fr cl q).1.1 = cl ++ (q.take k).map mk ∧ (ent fr cl q).2 = (q.take k).map Tk.who
  | [], cl, hp => ⟨hp, rfl, 0, Nat.le_refl _, rfl, by simp [ent], rfl⟩
  | t :: q, cl, hp => by
    unfold ent
    by_cases hm : may ⟨fr, 0, cl, t :: q⟩ = true
    · rw [if_pos hm]
      obtain ⟨i1, i2, k, i3, i4, i5, i6⟩ := ent_facts q (cl ++ [mk t]) (pre_next hp hm)
      exact ⟨i1, i2, k + 1, by simpa using i3, by simpa using i4, by simp [i5], by simp [i6]⟩
    · rw [if_neg hm]
      have hm2 : may ⟨fr, bu, cl, t :: q⟩ = false := (may_bu (b2 := 0)).trans (Bool.eq_false_iff.2 hm)
      exact ⟨hp, hm2, 0, Nat.zero_le _, rfl, by simp, rfl⟩
theorem entH_right {h : Ha} (hp : Pre h) : right (entH h) = true := by
  obtain ⟨h1, h2, _⟩ := ent_facts h.q h.cl (fr := h.fr) (bu := h.bu) hp
  exact right_pre.2 ⟨h1, h2⟩
theorem ent_stay {h : Ha} (hm : may h = false) : entH h = h ∧ came h = [] := by
  obtain ⟨fr, bu, cl, q⟩ := h
  cases q with
  | nil => exact ⟨rfl, rfl⟩
  | cons t q =>
    have : may ⟨fr, 0, cl, t :: q⟩ = false := hm
    unfold entH came
    simp only [ent, this, Bool.false_eq_true, if_false, and_self]
/-- who begins -/
def beginM (h : Ha) (who claim : Int) : Ha × Bool × Int :=
  if right h = false ∨ okWho who = false then (h, false, 1)
  else if okClaim h.fr h.bu claim = false then (h, false, 11)
  else if who ∈ whos h then (h, false, 4)
  else if h.cl.length + h.q.length = 40 then (h, false, 7)
  else (entH ⟨h.fr, h.bu, h.cl, h.q ++ [⟨who, claim⟩]⟩, decide (who ∈ (entH ⟨h.fr, h.bu, h.cl, h.q ++ [⟨who, claim⟩]⟩).cl.map Cl.who), 0)
def cAt (h : Ha) (who : Int) : Nat := h.cl.findIdx fun c => decide (c.who = who)
def tAt (h : Ha) (who : Int) : Nat := h.q.findIdx fun c => decide (c.who = who)
def holdM (h : Ha) (i : Nat) (d : Int) : Ha := ⟨h.fr, h.bu, h.cl.set i ⟨(h.cl.getD i default).who, (h.cl.getD i default).claim, (h.cl.getD i default).held + d⟩, h.q⟩
def pinM (h : Ha) (who : Int) : Ha × Int :=
  if right h = false then (h, 1)
  else if h.cl.length ≤ cAt h who then (h, 3)
  else if (h.cl.getD (cAt h who) default).held = (h.cl.getD (cAt h who) default).claim then (h, 10)
  else if safe ((holdM h (cAt h who) 1).fr - heldS (holdM h (cAt h who) 1).cl) (holdM h (cAt h who) 1).cl = false then (h, 6)
  else (holdM h (cAt h who) 1, 0)
def unpinM (h : Ha) (who : Int) : Ha × Int :=
  if right h = false then (h, 1)
  else if h.cl.length ≤ cAt h who then (h, 3)
  else if (h.cl.getD (cAt h who) default).held = 0 then (h, 12)
  else (holdM h (cAt h who) (-1), 0)
def endM (h : Ha) (who : Int) : Ha × List Int × Int :=
  if right h = false then (h, [], 1)
  else if cAt h who < h.cl.length then (entH ⟨h.fr, h.bu, h.cl.eraseIdx (cAt h who), h.q⟩, came ⟨h.fr, h.bu, h.cl.eraseIdx (cAt h who), h.q⟩, 0)
  else if tAt h who < h.q.length then (entH ⟨h.fr, h.bu, h.cl, h.q.eraseIdx (tAt h who)⟩, came ⟨h.fr, h.bu, h.cl, h.q.eraseIdx (tAt h who)⟩, 0)
  else (h, [], 3)
def freeM (h : Ha) : Int := if right h = true then h.fr - heldS h.cl else 0
theorem cAt_lt {h : Ha} {who : Int} : cAt h who < h.cl.length ↔ who ∈ h.cl.map Cl.who := by
  unfold cAt
  rw [List.findIdx_lt_length]
  simp only [decide_eq_true_eq, List.mem_map]
theorem tAt_lt {h : Ha} {who : Int} : tAt h who < h.q.length ↔ who ∈ h.q.map Tk.who := by
  unfold tAt
  rw [List.findIdx_lt_length]
  simp only [decide_eq_true_eq, List.mem_map]
theorem cAt_who {h : Ha} {who : Int} (hl : cAt h who < h.cl.length) : (h.cl[cAt h who]).who = who := by
  have : decide ((h.cl[cAt h who]'hl).who = who) = true := List.findIdx_getElem (w := hl)
  simpa using this
theorem tAt_who {h : Ha} {who : Int} (hl : tAt h who < h.q.length) : (h.q[tAt h who]).who = who := by
  have : decide ((h.q[tAt h who]'hl).who = who) = true := List.findIdx_getElem (w := hl)
  simpa using this
theorem pre_begin {h : Ha} {who claim : Int} (hr : right h = true) (hw : okWho who = true) (hc : okClaim h.fr h.bu claim = true) (hn : who ∉ whos h) (hl : h.cl.length + h.q.length ≠ 40) : Pre ⟨h.fr, h.bu, h.cl, h.q ++ [⟨who, claim⟩]⟩ := by
  obtain ⟨⟨h1, h2, h3, h4, h5, h6, h7⟩, h8⟩ := right_pre.1 hr
  have hwh : whos ⟨h.fr, h.bu, h.cl, h.q ++ [⟨who, claim⟩]⟩ = whos h ++ [who] := by simp [whos]
  refine ⟨h1, h2, by simp; omega, h4, ?_, ?_, h7⟩
  · intro t ht
    rcases List.mem_append.1 ht with ht | ht
    · exact h5 t ht
    · rw [List.mem_singleton.1 ht]; exact ⟨hw, hc⟩
  · rw [hwh, List.nodup_append]
    refine ⟨h6, by simp, fun a ha b hb e => ?_⟩
    rw [List.mem_singleton.1 hb] at e
    exact hn (e ▸ ha)
theorem pre_endQ {h : Ha} {k : Nat} (hr : right h = true) : Pre ⟨h.fr, h.bu, h.cl, h.q.eraseIdx k⟩ := by
  obtain ⟨⟨h1, h2, h3, h4, h5, h6, h7⟩, h8⟩ := right_pre.1 hr
  have hsub : (whos ⟨h.fr, h.bu, h.cl, h.q.eraseIdx k⟩).Sublist (whos h) := List.Sublist.append_left ((List.eraseIdx_sublist _ _).map _) _
  have hlen : (h.q.eraseIdx k).length ≤ h.q.length := (List.eraseIdx_sublist _ _).length_le
  exact ⟨h1, h2, by simp only; omega, h4, fun t ht => h5 t ((List.eraseIdx_sublist _ _).subset ht), h6.sublist hsub, h7⟩
theorem held_nonneg {l : List Cl} (h : Bk.NonNeg l) : 0 ≤ heldS l := by
  unfold heldS
  induction l with
  | nil => simp
  | cons c l ih =>
    have := h c (by simp)
    have := ih (fun d hd => h d (by simp [hd]))
    simp; omega
theorem heldS_erase {l : List Cl} : ∀ {i : Nat} (hi : i < l.length), heldS l = l[i].held + heldS (l.eraseIdx i) := by
  induction l with
  | nil => intro i hi; simp at hi
  | cons c l ih =>
    intro i hi
    match i with
    | 0 => simp [heldS]
    | i + 1 =>
      have := ih (i := i) (by simpa using hi)
      simp only [heldS, List.map_cons, List.sum_cons, List.getElem_cons_succ, List.eraseIdx_cons_succ] at this ⊢
      omega
theorem heldS_set {l : List Cl} : ∀ {i : Nat} (hi : i < l.length) (c : Cl), heldS (l.set i c) = heldS l - l[i].held + c.held := by
  induction l with
  | nil => intro i hi; simp at hi
  | cons d l ih =>
    intro i hi c
    match i with
    | 0 => simp [heldS]; omega
    | i + 1 =>
      have := ih (i := i) (by simpa using hi) c
      simp only [heldS, List.map_cons, List.sum_cons, List.getElem_cons_succ, List.set_cons_succ] at this ⊢
      omega
theorem pre_endC {h : Ha} {i : Nat} (hr : right h = true) (hi : i < h.cl.length) : Pre ⟨h.fr, h.bu, h.cl.eraseIdx i, h.q⟩ := by
  obtain ⟨⟨h1, h2, h3, h4, h5, h6, h7⟩, h8⟩ := right_pre.1 hr
  have hsub : (whos ⟨h.fr, h.bu, h.cl.eraseIdx i, h.q⟩).Sublist (whos h) := List.Sublist.append_right ((List.eraseIdx_sublist _ _).map _) _
  have hlen : (h.cl.eraseIdx i).length ≤ h.cl.length := (List.eraseIdx_sublist _ _).length_le
  have hsz := size_iff.1 h1
  have hs := (safe_iff _ _).1 h7
  have hnn := nonneg_of_right h2
  have hx := heldS_erase hi
  have hne : 0 ≤ heldS (h.cl.eraseIdx i) := held_nonneg (fun c hc => hnn c ((List.eraseIdx_sublist _ _).subset hc))
  have hg := Bk.safe_gone hi h7 (by omega)
  rw [← List.eraseIdx_eq_take_drop_succ] at hg
  refine ⟨h1, ((safe_iff _ _).1 hg).1, by simp only; omega, fun c hc => h4 c ((List.eraseIdx_sublist _ _).subset hc), h5, h6.sublist hsub, ?_⟩
  show safe (h.fr - heldS (h.cl.eraseIdx i)) (h.cl.eraseIdx i) = true
  rw [show h.fr - heldS (h.cl.eraseIdx i) = h.fr - heldS h.cl + h.cl[i].held by omega]
  exact hg
theorem bkright_set {l : List Cl} (hr : Bk.right l = true) {i : Nat} (hi : i < l.length) {c : Cl} (h1 : c.who = l[i].who) (h2 : good c = true) : Bk.right (l.set i c) = true := by
  obtain ⟨r1, r2, r3⟩ := (right_iff l).1 hr
  refine (right_iff _).2 ⟨by simpa using r1, ?_, ?_⟩
  · intro d hd
    rcases List.mem_or_eq_of_mem_set hd with h | h
    · exact r2 d h
    · rw [h]; exact h2
  · rw [List.map_set, h1, show l[i].who = (l.map Cl.who)[i]'(by simpa using hi) by simp, List.set_getElem_self]
    exact r3
theorem whos_set {l : List Cl} {i : Nat} (hi : i < l.length) {c : Cl} (h1 : c.who = l[i].who) : (l.set i c).map Cl.who = l.map Cl.who := by
  rw [List.map_set, h1, show l[i].who = (l.map Cl.who)[i]'(by simpa using hi) by simp, List.set_getElem_self]
theorem claims_set {l : List Cl} : ∀ {i : Nat} (hi : i < l.length) {c : Cl} (h1 : c.claim = l[i].claim), claimS (l.set i c) = claimS l := by
  induction l with
  | nil => intro i hi; simp at hi
  | cons d l ih =>
    intro i hi c h1
    match i with
    | 0 => simp only [claimS, List.set_cons_zero, List.map_cons, List.sum_cons] ; simp at h1; rw [h1]
    | i + 1 =>
      have := ih (i := i) (by simpa using hi) (c := c) (by simpa using h1)
      simp only [claimS, List.map_cons, List.sum_cons, List.set_cons_succ] at this ⊢
      omega
theorem getD_at {l : List Cl} {i : Nat} (hi : i < l.length) : l.getD i default = l[i] := by
  rw [List.getD_eq_getElem?_getD, List.getElem?_eq_getElem hi]; rfl
theorem may_hold {h : Ha} {i : Nat} (hi : i < h.cl.length) {d : Int} : may (holdM h i d) = may h := by
  obtain ⟨fr, bu, cl, q⟩ := h
  cases q with
  | nil => rfl
  | cons t q =>
    simp only at hi
    simp only [may, holdM, List.length_set, claims_set hi (c := ⟨(cl.getD i default).who, (cl.getD i default).claim, (cl.getD i default).held + d⟩) (by rw [getD_at hi])]
theorem hold_right {h : Ha} {i : Nat} {d : Int} (hr : right h = true) (hi : i < h.cl.length) (h0 : 0 ≤ h.cl[i].held + d) (h1 : h.cl[i].held + d ≤ h.cl[i].claim)
    (hs : safe ((holdM h i d).fr - heldS (holdM h i d).cl) (holdM h i d).cl = true) : right (holdM h i d) = true := by
  obtain ⟨⟨r1, r2, r3, r4, r5, r6, r7⟩, r8⟩ := right_pre.1 hr
  have hg := getD_at hi
  refine right_pre.2 ⟨⟨r1, ((safe_iff _ _).1 hs).1, by simpa [holdM] using r3, ?_, r5, ?_, hs⟩, by rw [may_hold hi]; exact r8⟩
  · intro c hc
    rcases List.mem_or_eq_of_mem_set hc with hc | hc
    · exact r4 c hc
    · rw [hc]; show okClaim h.fr h.bu (h.cl.getD i default).claim = true
      rw [hg]; exact r4 _ (List.getElem_mem hi)
  · unfold whos holdM
    simp only
    rw [whos_set hi (by rw [hg])]
    exact r6
theorem pin_right {h : Ha} {who : Int} (hr : right h = true) : right (pinM h who).1 = true := by
  unfold pinM
  rw [if_neg (by simp [hr])]
  by_cases h1 : h.cl.length ≤ cAt h who
  · rw [if_pos h1]; exact hr
  rw [if_neg h1]
  have hi : cAt h who < h.cl.length := by omega
  by_cases h2 : (h.cl.getD (cAt h who) default).held = (h.cl.getD (cAt h who) default).claim
  · rw [if_pos h2]; exact hr
  rw [if_neg h2]
  by_cases h3 : safe ((holdM h (cAt h who) 1).fr - heldS (holdM h (cAt h who) 1).cl) (holdM h (cAt h who) 1).cl = false
  · rw [if_pos h3]; exact hr
  rw [if_neg h3]
  have hg := (Bk.good_of_right (right_pre.1 hr).1.2.1).1 _ (List.getElem_mem hi)
  rw [getD_at hi] at h2
  exact hold_right hr hi (by omega) (by omega) (by simpa using h3)
theorem unhold_safe {h : Ha} {i : Nat} (hr : right h = true) (hi : i < h.cl.length) (h0 : h.cl[i].held ≠ 0) : safe ((holdM h i (-1)).fr - heldS (holdM h i (-1)).cl) (holdM h i (-1)).cl = true := by
  obtain ⟨⟨r1, r2, r3, r4, r5, r6, r7⟩, r8⟩ := right_pre.1 hr
  have hg := getD_at hi
  have hgd := (Bk.good_of_right r2).1 _ (List.getElem_mem hi)
  have hs := (safe_iff _ _).1 r7
  have hsz := size_iff.1 r1
  have e : (holdM h i (-1)).cl = h.cl.set i ⟨h.cl[i].who, h.cl[i].claim, h.cl[i].held - 1⟩ := by unfold holdM; rw [hg]; rfl
  have hrr : Bk.right (holdM h i (-1)).cl = true := by
    rw [e]
    have h0g := ((right_iff _).1 r2).2.1 _ (List.getElem_mem hi)
    refine bkright_set r2 hi rfl ?_
    unfold good at h0g ⊢
    rw [decide_eq_true_iff] at h0g ⊢
    simp only
    omega
  have hnn := held_nonneg (nonneg_of_right hrr)
  have hh : heldS (holdM h i (-1)).cl = heldS h.cl - 1 := by rw [e, heldS_set hi]; simp only; omega
  refine (safe_iff _ _).2 ⟨hrr, by show 0 ≤ h.fr - _ ∧ h.fr - _ ≤ 1000; omega, ?_⟩
  have := hs.2.2.less h.cl[i] ⟨h.cl[i].who, h.cl[i].claim, h.cl[i].held - 1⟩ 1 (List.getElem_mem hi) (by omega) rfl rfl _ (Bk.set_perm _ i hi _)
  rw [e] at hh ⊢
  rw [show (holdM h i (-1)).fr = h.fr from rfl, hh, show h.fr - (heldS h.cl - 1) = h.fr - heldS h.cl + 1 by omega]
  exact this
theorem unpin_right {h : Ha} {who : Int} (hr : right h = true) : right (unpinM h who).1 = true := by
  unfold unpinM
  rw [if_neg (by simp [hr])]
  by_cases h1 : h.cl.length ≤ cAt h who
  · rw [if_pos h1]; exact hr
  rw [if_neg h1]
  have hi : cAt h who < h.cl.length := by omega
  by_cases h2 : (h.cl.getD (cAt h who) default).held = 0
  · rw [if_pos h2]; exact hr
  rw [if_neg h2]
  have hg := (Bk.good_of_right (right_pre.1 hr).1.2.1).1 _ (List.getElem_mem hi)
  rw [getD_at hi] at h2
  exact hold_right hr hi (by omega) (by omega) (unhold_safe hr hi h2)
theorem begin_right {h : Ha} {who claim : Int} (hr : right h = true) : right (beginM h who claim).1 = true := by
  unfold beginM
  by_cases hw : okWho who = false
  · rw [if_pos (.inr hw)]; exact hr
  rw [if_neg (by simp [hr, hw])]
  by_cases hc : okClaim h.fr h.bu claim = false
  · rw [if_pos hc]; exact hr
  rw [if_neg hc]
  by_cases h1 : who ∈ whos h
  · rw [if_pos h1]; exact hr
  rw [if_neg h1]
  by_cases h2 : h.cl.length + h.q.length = 40
  · rw [if_pos h2]; exact hr
  rw [if_neg h2]
  exact entH_right (pre_begin hr (by simpa using hw) (by simpa using hc) h1 h2)
theorem end_right {h : Ha} {who : Int} (hr : right h = true) : right (endM h who).1 = true := by
  unfold endM
  rw [if_neg (by simp [hr])]
  by_cases h1 : cAt h who < h.cl.length
  · rw [if_pos h1]; exact entH_right (pre_endC hr h1)
  rw [if_neg h1]
  by_cases h2 : tAt h who < h.q.length
  · rw [if_pos h2]; exact entH_right (pre_endQ hr)
  · rw [if_neg h2]; exact hr
end Ad
end Go.Proofs.Yteghmlafodkfpaa
