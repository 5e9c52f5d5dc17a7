/- layer 21: histories, plain. -/
import Derived.Test.YtbpipdgkkdifgaaH2
import Derived.Test.YtbpipdgkkdifgaaO8
namespace Go.Proofs.Ytbpipdgkkdifgaa
set_option linter.unusedVariables false
set_option linter.unusedSimpArgs false
structure Ev where
  who : Int
  op : Opr
  r : Rs
  began : Int
  done : Int
  ended : Int
deriving DecidableEq, Inhabited
namespace Hi
open Ok Ss
def ltD (a b : Ev) : Bool := decide (a.done < b.done)
def ltW (a b : Ev) : Bool := decide (a.who < b.who ∨ a.who = b.who ∧ a.began < b.began)
theorem swoD : Swo ltD := ⟨fun x y h => by unfold ltD at *; simp at *; omega, fun x y z h1 h2 => by unfold ltD at *; simp at *; omega⟩
theorem swoW : Swo ltW := ⟨fun x y h => by unfold ltW at *; simp at *; omega, fun x y z h1 h2 => by unfold ltW at *; simp at *; omega⟩
def sortD (l : List Ev) : List Ev := stbl ltD l
def sortW (l : List Ev) : List Ev := stbl ltW l
def okE (e : Ev) : Bool := decide (e.began < e.done) && decide (e.done < e.ended)
def each (l : List Ev) : Bool := l.all okE
def adj (p : Ev → Ev → Bool) : List Ev → Bool
  | a :: b :: r => p a b && adj p (b :: r)
  | _ => true
def pD (a b : Ev) : Bool := !(a.done == b.done)
def pW (a b : Ev) : Bool := !((a.who == b.who) && decide (b.began ≤ a.ended))
def apart (l : List Ev) : Bool := each l && (adj pD (sortD l) && adj pW (sortW l))
def bad8 (e : Ev) : Bool := decide (e.r = ⟨8, zP⟩)
def goM : List Pg → Nat → List Ev → List Pg × Nat × Int
  | m, i, [] => (m, i, 0)
  | m, i, e :: es => if bad8 e = true then goM m (i + 1) es else if (doM m e.op).2 = e.r then goM (doM m e.op).1 (i + 1) es else (m, i, 2)
def checkM (m : List Pg) (l : List Ev) : List Pg × Nat × Int :=
  if 400 < l.length then (m, 0, 5) else if rightM m = false then (m, 0, 1) else if apart l = false then (m, 0, 2) else goM m 0 (sortD l)

theorem insr_perm {α : Type} {lt : α → α → Bool} {x : α} : ∀ {s : List α}, (insr lt x s).Perm (x :: s)
  | [] => .refl _
  | y :: s => by
    unfold insr
    split
    · exact .refl _
    · exact (List.Perm.cons y insr_perm).trans (List.Perm.swap x y s)
theorem stbl_perm {α : Type} {lt : α → α → Bool} (l : List α) : (stbl lt l).Perm l := by
  induction l using snoc_ind with
  | h0 => exact .refl _
  | h1 l x ih =>
    rw [stbl_snoc]
    exact insr_perm.trans ((List.Perm.cons x ih).trans (by simpa using (List.perm_middle (a := x) (l₁ := l) (l₂ := [])).symm))
theorem sortD_perm (l : List Ev) : (sortD l).Perm l := stbl_perm l
theorem sortD_len {l : List Ev} : (sortD l).length = l.length := stbl_len
/-- the document's: no two at one time, no worker twice at once -/
def sep (a b : Ev) : Prop := a.done ≠ b.done ∧ (a.who = b.who → a.ended < b.began ∨ b.ended < a.began)
theorem adj_iff {p : Ev → Ev → Bool} : ∀ {l : List Ev}, adj p l = true ↔ ∀ i (h : i + 1 < l.length), p l[i] l[i + 1] = true
  | [] => by simp [adj]
  | [x] => by simp [adj]
  | x :: y :: r => by
    unfold adj
    rw [Bool.and_eq_true, adj_iff (l := y :: r)]
    constructor
    · rintro ⟨h1, h2⟩ i h
      cases i with
      | zero => exact h1
      | succ i => exact h2 i (by simpa using h)
    · intro h
      exact ⟨h 0 (by simp), fun i hi => h (i + 1) (by simpa using hi)⟩
/-- what holds of neighbours holds of all, where it goes through -/
theorem adj_pair {p : Ev → Ev → Bool} {R : Ev → Ev → Prop} : ∀ {l : List Ev}, adj p l = true → (∀ a b, a ∈ l → b ∈ l → p a b = true → R a b) → (∀ a b c, a ∈ l → b ∈ l → c ∈ l → R a b → R b c → R a c) → l.Pairwise R
  | [], _, _, _ => .nil
  | [x], _, _, _ => List.pairwise_singleton _ _
  | x :: y :: r, h, h1, h2 => by
    unfold adj at h
    rw [Bool.and_eq_true] at h
    have ih := adj_pair (l := y :: r) (R := R) h.2 (fun a b ha hb => h1 a b (by simp [ha]) (by simp [hb])) (fun a b c ha hb hc => h2 a b c (by simp [ha]) (by simp [hb]) (by simp [hc]))
    have hxy := h1 x y (by simp) (by simp) h.1
    refine List.pairwise_cons.2 ⟨fun z hz => ?_, ih⟩
    rcases List.mem_cons.1 hz with rfl | hz
    · exact hxy
    · exact h2 x y z (by simp) (by simp) (by simp [hz]) hxy ((List.pairwise_cons.1 ih).1 z hz)
theorem pair_adj {p : Ev → Ev → Bool} {l : List Ev} (h : l.Pairwise fun a b => p a b = true) : adj p l = true :=
  adj_iff.2 fun i hi => List.pairwise_iff_getElem.1 h i (i + 1) (by omega) hi (by omega)
theorem each_iff {l : List Ev} : each l = true ↔ ∀ e ∈ l, e.began < e.done ∧ e.done < e.ended := by
  unfold each
  rw [List.all_eq_true]
  constructor
  · intro h e he
    have := h e he
    unfold okE at this
    simpa using this
  · intro h e he
    have := h e he
    unfold okE
    simpa using this
theorem apart_iff {l : List Ev} : apart l = true ↔ (∀ e ∈ l, e.began < e.done ∧ e.done < e.ended) ∧ l.Pairwise sep := by
  unfold apart
  rw [Bool.and_eq_true, Bool.and_eq_true, each_iff]
  have pd := stbl_perm (lt := ltD) l
  have pw := stbl_perm (lt := ltW) l
  have sd := (stbl_ok swoD l).1
  have sw := (stbl_ok swoW l).1
  refine and_congr_right fun he => ?_
  constructor
  · rintro ⟨h1, h2⟩
    have k1 : (sortD l).Pairwise fun a b => a.done < b.done := by
      have e1 : (sortD l).Pairwise fun a b => ltD b a = false := sd
      refine List.pairwise_iff_getElem.2 fun i j hi hj hij => ?_
      have key : ∀ d i (h : i + d + 1 < (sortD l).length), ((sortD l)[i]'(by omega)).done < ((sortD l)[i + d + 1]'h).done := by
        intro d
        induction d with
        | zero =>
          intro i h
          have q1 := adj_iff.1 h1 i h
          have q2 := List.pairwise_iff_getElem.1 e1 i (i + 1) (by omega) h (by omega)
          unfold pD at q1
          unfold ltD at q2
          simp at q1 q2
          show _ < ((sortD l)[i + 1]'h).done
          omega
        | succ d ih =>
          intro i h
          have q0 := ih i (by omega)
          have q1 := adj_iff.1 h1 (i + d + 1) h
          have q2 := List.pairwise_iff_getElem.1 e1 (i + d + 1) (i + d + 1 + 1) (by omega) h (by omega)
          unfold pD at q1
          unfold ltD at q2
          simp at q1 q2
          show _ < ((sortD l)[i + d + 1 + 1]'h).done
          omega
      have := key (j - i - 1) i (by omega)
      have e2 : i + (j - i - 1) + 1 = j := by omega
      simp only [e2] at this
      exact this
    have k2 : l.Pairwise fun a b => a.done ≠ b.done := by
      refine (pd.pairwise_iff fun h => Ne.symm h).1 ?_
      exact k1.imp fun h => by omega
    have k3 : (sortW l).Pairwise fun a b => a.who < b.who ∨ a.who = b.who ∧ a.ended < b.began := by
      have e1 : (sortW l).Pairwise fun a b => ltW b a = false := sw
      have hm : ∀ e ∈ sortW l, e.began < e.done ∧ e.done < e.ended := fun e h => he e (pw.mem_iff.1 h)
      refine List.pairwise_iff_getElem.2 fun i j hi hj hij => ?_
      have key : ∀ d i (h : i + d + 1 < (sortW l).length), ((sortW l)[i]'(by omega)).who < ((sortW l)[i + d + 1]'h).who ∨ ((sortW l)[i]'(by omega)).who = ((sortW l)[i + d + 1]'h).who ∧ ((sortW l)[i]'(by omega)).ended < ((sortW l)[i + d + 1]'h).began := by
        intro d
        induction d with
        | zero =>
          intro i h
          have q1 := adj_iff.1 h2 i h
          have q2 := List.pairwise_iff_getElem.1 e1 i (i + 1) (by omega) h (by omega)
          unfold pW at q1
          unfold ltW at q2
          simp at q1 q2
          show _ < ((sortW l)[i + 1]'h).who ∨ _ = ((sortW l)[i + 1]'h).who ∧ _ < ((sortW l)[i + 1]'h).began
          omega
        | succ d ih =>
          intro i h
          have q0 := ih i (by omega)
          have q1 := adj_iff.1 h2 (i + d + 1) h
          have q2 := List.pairwise_iff_getElem.1 e1 (i + d + 1) (i + d + 1 + 1) (by omega) h (by omega)
          have q3 := hm _ (List.getElem_mem (show i + d + 1 < (sortW l).length by omega))
          unfold pW at q1
          unfold ltW at q2
          simp at q1 q2
          show _ < ((sortW l)[i + d + 1 + 1]'h).who ∨ _ = ((sortW l)[i + d + 1 + 1]'h).who ∧ _ < ((sortW l)[i + d + 1 + 1]'h).began
          omega
      have := key (j - i - 1) i (by omega)
      have e2 : i + (j - i - 1) + 1 = j := by omega
      simp only [e2] at this
      exact this
    have k4 : l.Pairwise fun a b => a.who = b.who → a.ended < b.began ∨ b.ended < a.began := by
      refine (pw.pairwise_iff fun h e => (h e.symm).symm).1 ?_
      exact k3.imp fun h e => by omega
    exact k2.imp₂ (fun a b h1 h2 => ⟨h1, h2⟩) k4
  · intro h
    constructor
    · refine pair_adj ?_
      have : (sortD l).Pairwise fun a b => a.done ≠ b.done := (pd.pairwise_iff fun h => Ne.symm h).2 (h.imp fun h => h.1)
      exact this.imp fun h => by unfold pD; simpa using h
    · refine pair_adj ?_
      have k4 : (sortW l).Pairwise fun a b => a.who = b.who → a.ended < b.began ∨ b.ended < a.began := (pw.pairwise_iff fun h e => (h e.symm).symm).2 (h.imp fun h => h.2)
      have hm : ∀ e ∈ sortW l, e.began < e.done ∧ e.done < e.ended := fun e h => he e (pw.mem_iff.1 h)
      have e1 : (sortW l).Pairwise fun a b => ltW b a = false := sw
      refine List.pairwise_iff_getElem.2 fun i j hi hj hij => ?_
      have q1 := List.pairwise_iff_getElem.1 k4 i j hi hj hij
      have q2 := List.pairwise_iff_getElem.1 e1 i j hi hj hij
      have q3 := hm _ (List.getElem_mem hi)
      have q4 := hm _ (List.getElem_mem hj)
      unfold ltW at q2
      unfold pW
      simp at q2 ⊢
      omega
theorem sep_symm {a b : Ev} (h : sep a b) : sep b a := ⟨Ne.symm h.1, fun e => (h.2 e.symm).symm⟩
theorem apart_perm {l l' : List Ev} (h : l.Perm l') : apart l = apart l' := by
  have key : ∀ {l l' : List Ev}, l.Perm l' → apart l = true → apart l' = true := by
    intro l l' h ha
    rw [apart_iff] at ha ⊢
    exact ⟨fun e he => ha.1 e (h.mem_iff.2 he), (h.pairwise_iff fun h => sep_symm h).1 ha.2⟩
  cases e : apart l
  · cases e' : apart l'
    · rfl
    · rw [key h.symm e'] at e; cases e
  · exact (key h e).symm
theorem apart_sub {l l' : List Ev} (h : l'.Sublist l) (ha : apart l = true) : apart l' = true := by
  rw [apart_iff] at ha ⊢
  exact ⟨fun e he => ha.1 e (h.subset he), ha.2.sublist h⟩
theorem sort_strict {l : List Ev} (ha : apart l = true) : (sortD l).Pairwise fun a b => a.done < b.done := by
  have h1 : apart (sortD l) = true := by rw [apart_perm (sortD_perm l)]; exact ha
  have h2 := (apart_iff.1 h1).2
  have h3 : (sortD l).Pairwise fun a b => ltD b a = false := (stbl_ok swoD l).1
  exact h2.imp₂ (fun a b q1 q2 => by have := q1.1; unfold ltD at q2; simp at q2; omega) h3
theorem sort_perm {l l' : List Ev} (h : l.Perm l') (ha : apart l = true) : sortD l = sortD l' := by
  have h1 := sort_strict ha
  have h2 := sort_strict (l := l') (by rw [← apart_perm h]; exact ha)
  exact List.Perm.eq_of_pairwise (fun a b _ _ q1 q2 => by exfalso; omega) h1 h2 ((stbl_perm l).trans (h.trans (stbl_perm l').symm))
theorem sort_self {l : List Ev} (h : l.Pairwise fun a b => a.done < b.done) : sortD l = l :=
  stbl_self swoD (h.imp fun q => by unfold ltD; simp; omega)
theorem check_perm {m : List Pg} {l l' : List Ev} (h : l.Perm l') : checkM m l = checkM m l' := by
  unfold checkM
  rw [h.length_eq, apart_perm h]
  split
  · rfl
  split
  · rfl
  split
  · rfl
  · rename_i _ _ hq
    rw [sort_perm h (by rw [apart_perm h]; simpa using hq)]
theorem goM_right : ∀ {l : List Ev} {m : List Pg} {i : Nat}, rightM (goM m i l).1 = rightM m
  | [], m, i => rfl
  | e :: es, m, i => by
    unfold goM
    split
    · exact goM_right
    split
    · rw [goM_right, do_right]
    · rfl
theorem goM_e : ∀ {l : List Ev} {m : List Pg} {i : Nat}, (goM m i l).2.2 = 0 ∧ (goM m i l).2.1 = i + l.length ∨ (goM m i l).2.2 = 2
  | [], m, i => .inl ⟨rfl, rfl⟩
  | e :: es, m, i => by
    unfold goM
    split
    · rcases goM_e (l := es) (m := m) (i := i + 1) with h | h
      · exact .inl ⟨h.1, by rw [h.2]; simp; omega⟩
      · exact .inr h
    split
    · rcases goM_e (l := es) (m := (doM m e.op).1) (i := i + 1) with h | h
      · exact .inl ⟨h.1, by rw [h.2]; simp; omega⟩
      · exact .inr h
    · exact .inr rfl
theorem goM_cons {e : Ev} {es : List Ev} {m : List Pg} {i : Nat} : goM m i (e :: es) = if bad8 e = true then goM m (i + 1) es else if (doM m e.op).2 = e.r then goM (doM m e.op).1 (i + 1) es else (m, i, 2) := by rw [goM]
theorem goM_append : ∀ {a b : List Ev} {m : List Pg} {i : Nat}, goM m i (a ++ b) = if (goM m i a).2.2 = 0 then goM (goM m i a).1 (i + a.length) b else goM m i a
  | [], b, m, i => by simp [goM]
  | e :: es, b, m, i => by
    show goM m i (e :: (es ++ b)) = _
    rw [goM_cons, goM_cons (es := es)]
    by_cases h1 : bad8 e = true
    · simp only [if_pos h1]
      rw [goM_append, List.length_cons, show i + 1 + es.length = i + (es.length + 1) by omega]
    by_cases h2 : (doM m e.op).2 = e.r
    · simp only [if_neg h1, if_pos h2]
      rw [goM_append, List.length_cons, show i + 1 + es.length = i + (es.length + 1) by omega]
    · simp only [if_neg h1, if_neg h2]
      rfl
theorem goM_shift : ∀ {a : List Ev} {m : List Pg} {i : Nat}, goM m i a = ((goM m 0 a).1, i + (goM m 0 a).2.1, (goM m 0 a).2.2)
  | [], m, i => rfl
  | e :: es, m, i => by
    unfold goM
    by_cases h1 : bad8 e = true
    · have e1 := goM_shift (a := es) (m := m) (i := i + 1)
      have e2 := goM_shift (a := es) (m := m) (i := 0 + 1)
      simp only [if_pos h1]
      rw [e1, e2]
      simp only [Prod.mk.injEq, true_and, and_true]
      omega
    by_cases h2 : (doM m e.op).2 = e.r
    · have e1 := goM_shift (a := es) (m := (doM m e.op).1) (i := i + 1)
      have e2 := goM_shift (a := es) (m := (doM m e.op).1) (i := 0 + 1)
      simp only [if_neg h1, if_pos h2]
      rw [e1, e2]
      simp only [Prod.mk.injEq, true_and, and_true]
      omega
    · simp only [if_neg h1, if_neg h2, Nat.add_zero]
theorem check_cases {m : List Pg} {l : List Ev} : (checkM m l).2.2 = 0 ∧ l.length ≤ 400 ∧ rightM m = true ∧ apart l = true ∧ checkM m l = goM m 0 (sortD l) ∨ (checkM m l).2.2 ≠ 0 ∧ ((checkM m l).2.1 = 0 ∨ (checkM m l).2.2 = 2) := by
  by_cases h1 : 400 < l.length
  · have e : checkM m l = (m, 0, 5) := if_pos h1
    rw [e]; exact .inr ⟨by simp, .inl rfl⟩
  by_cases h2 : rightM m = false
  · have e : checkM m l = (m, 0, 1) := by unfold checkM; rw [if_neg h1, if_pos h2]
    rw [e]; exact .inr ⟨by simp, .inl rfl⟩
  by_cases h3 : apart l = false
  · have e : checkM m l = (m, 0, 2) := by unfold checkM; rw [if_neg h1, if_neg h2, if_pos h3]
    rw [e]; exact .inr ⟨by simp, .inl rfl⟩
  have e : checkM m l = goM m 0 (sortD l) := by unfold checkM; rw [if_neg h1, if_neg h2, if_neg h3]
  rcases goM_e (l := sortD l) (m := m) (i := 0) with h | h
  · exact .inl ⟨by rw [e]; exact h.1, by omega, by simpa using h2, by simpa using h3, e⟩
  · exact .inr ⟨by rw [e, h]; simp, .inr (by rw [e]; exact h)⟩
theorem check_of {m : List Pg} {l : List Ev} (h1 : l.length ≤ 400) (h2 : rightM m = true) (h3 : apart l = true) : checkM m l = goM m 0 (sortD l) := by
  unfold checkM; rw [if_neg (by omega), if_neg (by rw [h2]; simp), if_neg (by rw [h3]; simp)]
/-- of events that can be true any beginning can; the rest can, over the map behind it -/
theorem begins {m : List Pg} {l : List Ev} (h : (checkM m l).2.2 = 0) {k : Nat} (hk : k ≤ l.length) :
    (checkM m l).2.1 = l.length ∧ (checkM m ((sortD l).take k)).2 = (k, 0) ∧ (checkM (checkM m ((sortD l).take k)).1 ((sortD l).drop k)).2 = (l.length - k, 0) ∧
      (checkM (checkM m ((sortD l).take k)).1 ((sortD l).drop k)).1 = (checkM m l).1 := by
  obtain ⟨h1, h2, h3, h4⟩ : l.length ≤ 400 ∧ rightM m = true ∧ apart l = true ∧ checkM m l = goM m 0 (sortD l) := by
    rcases check_cases (m := m) (l := l) with ⟨_, h⟩ | ⟨h1, _⟩
    · exact h
    · exact (h1 h).elim
  have hs := sort_strict h3
  have ha : apart (sortD l) = true := by rw [apart_perm (sortD_perm l)]; exact h3
  have hlen := sortD_len (l := l)
  have e1 : sortD ((sortD l).take k) = (sortD l).take k := sort_self (hs.sublist (List.take_sublist _ _))
  have e2 : sortD ((sortD l).drop k) = (sortD l).drop k := sort_self (hs.sublist (List.drop_sublist _ _))
  have c1 : checkM m ((sortD l).take k) = goM m 0 ((sortD l).take k) := by rw [check_of (by simp; omega) h2 (apart_sub (List.take_sublist _ _) ha), e1]
  have c2 : checkM (goM m 0 ((sortD l).take k)).1 ((sortD l).drop k) = goM (goM m 0 ((sortD l).take k)).1 0 ((sortD l).drop k) := by
    rw [check_of (by simp; omega) (by rw [goM_right]; exact h2) (apart_sub (List.drop_sublist _ _) ha), e2]
  have hg := goM_append (a := (sortD l).take k) (b := (sortD l).drop k) (m := m) (i := 0)
  rw [List.take_append_drop] at hg
  rw [h4] at h ⊢
  rw [c1, c2]
  have hz : (goM m 0 ((sortD l).take k)).2.2 = 0 := by
    by_cases q : (goM m 0 ((sortD l).take k)).2.2 = 0
    · exact q
    · rw [if_neg q] at hg; rw [hg] at h; exact h
  rw [if_pos hz] at hg
  have g1 := goM_e (l := (sortD l).take k) (m := m) (i := 0)
  have g2 := goM_e (l := sortD l) (m := m) (i := 0)
  have g3 := goM_shift (a := (sortD l).drop k) (m := (goM m 0 ((sortD l).take k)).1) (i := 0 + ((sortD l).take k).length)
  rw [g3] at hg
  have g4 := goM_e (l := (sortD l).drop k) (m := (goM m 0 ((sortD l).take k)).1) (i := 0)
  have hz2 : (goM (goM m 0 ((sortD l).take k)).1 0 ((sortD l).drop k)).2.2 = 0 := by rw [hg] at h; exact h
  simp only [List.length_take, List.length_drop, hlen] at g1 g4
  refine ⟨?_, ?_, ?_, ?_⟩
  · rcases g2 with g2 | g2
    · rw [g2.2, hlen]; omega
    · omega
  · rcases g1 with g1 | g1
    · exact Prod.ext (by rw [g1.2]; show _ = k; omega) hz
    · omega
  · rcases g4 with g4 | g4
    · exact Prod.ext (by rw [g4.2]; show _ = l.length - k; omega) hz2
    · omega
  · rw [hg]
/-- the first that can't -/
theorem goM_set {k : Nat} {l : List Ev} {m : List Pg} {e : Ev} (hk : k < l.length) (h0 : (goM m 0 l).2.2 = 0) (h1 : bad8 e = false) (h2 : ∀ m, (doM m e.op).2 ≠ e.r) : (goM m 0 (l.set k e)).2 = (k, 2) := by
  have hl : l.set k e = l.take k ++ e :: l.drop (k + 1) := by rw [List.set_eq_take_append_cons_drop, if_pos hk]
  have hl0 : l = l.take k ++ l.drop k := (List.take_append_drop _ _).symm
  have hg := goM_append (a := l.take k) (b := l.drop k) (m := m) (i := 0)
  rw [← hl0] at hg
  have hz : (goM m 0 (l.take k)).2.2 = 0 := by
    by_cases q : (goM m 0 (l.take k)).2.2 = 0
    · exact q
    · rw [if_neg q] at hg; rw [hg] at h0; exact h0
  rw [hl, goM_append, if_pos hz]
  unfold goM
  rw [if_neg (by rw [h1]; simp), if_neg (h2 _)]
  simp; omega
end Hi
end Go.Proofs.Ytbpipdgkkdifgaa
