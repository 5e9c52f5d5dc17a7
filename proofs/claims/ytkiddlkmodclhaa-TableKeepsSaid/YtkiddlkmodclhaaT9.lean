/- layer 7: pages of one home, plain. -/
import Derived.Test.YtkiddlkmodclhaaT7
namespace Go.Proofs.Ytkiddlkmodclhaa
set_option linter.unusedVariables false
set_option linter.unusedSimpArgs false
namespace Ta
def QF (h : Nat) (F : Nat → Sl) : List Sl := (List.range 16).map fun k => F ((k + 16 - h) % 16)
def QH (h : Nat) (L : List Sl) : List Sl := QF h fun o => L.getD o z
theorem qf_len {h : Nat} {F : Nat → Sl} : (QF h F).length = 16 := by simp [QF]
theorem at_qf {h : Nat} {F : Nat → Sl} {k : Nat} (hk : k < 16) : at' (QF h F) k = F ((k + 16 - h) % 16) := by
  rw [at_get (by rw [qf_len]; exact hk)]
  simp [QF]
theorem at_off {h o : Nat} {F : Nat → Sl} (hh : h < 16) (ho : o < 16) : at' (QF h F) ((h + o) % 16) = F o := by
  rw [at_qf (Nat.mod_lt _ (by decide)), show ((h + o) % 16 + 16 - h) % 16 = o by omega]
theorem qf_set {h o : Nat} {F : Nat → Sl} {x : Sl} (hh : h < 16) (ho : o < 16) : (QF h F).set ((h + o) % 16) x = QF h fun j => if j = o then x else F j := by
  refine List.ext_getElem (by simp [qf_len]) (fun k h1 h2 => ?_)
  have hk : k < 16 := by simpa [qf_len] using h2
  rw [List.getElem_set]
  simp only [QF, List.getElem_map, List.getElem_range]
  by_cases e : (h + o) % 16 = k
  · rw [if_pos e, if_pos (by omega)]
  · rw [if_neg e, if_neg (by omega)]
theorem qf_ext {h : Nat} {F G : Nat → Sl} (e : ∀ o, o < 16 → F o = G o) : QF h F = QF h G := by
  unfold QF
  refine List.map_congr_left (fun k _ => e _ (Nat.mod_lt _ (by decide)))
structure Hm (h : Nat) (L : List Sl) : Prop where
  hh : h < 16
  le : L.length ≤ 16
  ok : ∀ s ∈ L, isP s.p = true ∧ isF s.f = true ∧ s.p.toNat % 16 = h
  nd : (L.map Sl.p).Nodup
theorem pl_off {h i : Nat} {p : Int} (hp : p.toNat % 16 = h) (hi : i < 16) : pl p i = (h + i) % 16 := by unfold pl; omega
theorem ahead_off {h o : Nat} {p : Int} (hp : p.toNat % 16 = h) (ho : o < 16) : ahead p ((h + o) % 16) = o := by unfold ahead; omega
theorem getD_lt {L : List Sl} {i : Nat} (hi : i < L.length) : L.getD i z = L[i] := by rw [List.getD_eq_getElem?_getD, List.getElem?_eq_getElem hi]; rfl
theorem getD_ge {L : List Sl} {i : Nat} (hi : L.length ≤ i) : L.getD i z = z := by rw [List.getD_eq_getElem?_getD, List.getElem?_eq_none hi]; rfl
theorem isP_free {s : Sl} (h : isP s.p = true) : free s = false := by
  unfold isP at h
  simp only [decide_eq_true_eq] at h
  unfold free
  rw [Bool.and_eq_false_iff]
  left
  rw [beq_eq_false_iff_ne]
  omega
theorem hit_off {h i : Nat} {L : List Sl} {p : Int} (hm : Hm h L) (hp : p.toNat % 16 = h) (hi : i < 16) : hit (QH h L) p (pl p i) = ((L.getD i z).p == p || free (L.getD i z)) := by
  unfold hit QH
  rw [pl_off hp hi, at_off hm.hh hi]
theorem hm_ne {h : Nat} {L : List Sl} (hm : Hm h L) {i j : Nat} (hi : i < L.length) (hj : j < i) : L[j].p ≠ L[i].p := by
  have := List.pairwise_iff_getElem.1 hm.nd j i (by simp; omega) (by simpa using hi) hj
  simpa using this
theorem seek_Q {h : Nat} {L : List Sl} (hm : Hm h L) {i : Nat} (hi : i < L.length) : seek (QH h L) L[i].p = (((h + i) % 16 : Nat) : Int) := by
  have hle := hm.le
  obtain ⟨o1, o2, o3⟩ := hm.ok _ (List.getElem_mem hi)
  rw [← pl_off o3 (show i < 16 by omega)]
  refine seek_at (by omega) (by rw [hit_off hm o3 (by omega), getD_lt hi]; simp) (fun j hj => ?_)
  rw [hit_off hm o3 (by omega), getD_lt (show j < L.length by omega)]
  rw [Bool.or_eq_false_iff]
  exact ⟨by rw [beq_eq_false_iff_ne]; exact hm_ne hm hi hj, isP_free (hm.ok _ (List.getElem_mem (by omega))).1⟩
theorem right_Q {h : Nat} {L : List Sl} (hm : Hm h L) : right (QH h L) = true := by
  have hh := hm.hh
  refine right_iff.2 ⟨qf_len, fun k hk => ?_⟩
  obtain ⟨o, ho, rfl⟩ : ∃ o, o < 16 ∧ k = (h + o) % 16 := ⟨(k + 16 - h) % 16, Nat.mod_lt _ (by decide), by omega⟩
  unfold okS
  have e : at' (QH h L) ((h + o) % 16) = L.getD o z := at_off hm.hh ho
  rw [e]
  rcases Nat.lt_or_ge o L.length with h1 | h1
  · rw [getD_lt h1]
    obtain ⟨o1, o2, o3⟩ := hm.ok _ (List.getElem_mem h1)
    rw [o1, o2, seek_Q hm h1]; simp
  · rw [getD_ge h1]; rfl
theorem put_Q {h : Nat} {L : List Sl} {p f : Int} (hm : Hm h L) (hp : isP p = true) (hf : isF f = true) (hph : p.toNat % 16 = h) (hn : p ∉ L.map Sl.p) : put (QH h L) p f = if L.length = 16 then (QH h L, 7) else (QH h (L ++ [⟨p, f⟩]), 0) := by
  have hle := hm.le
  have hno : ∀ j, j < L.length → hit (QH h L) p (pl p j) = false := fun j hj => by
    rw [hit_off hm hph (by omega), getD_lt hj, Bool.or_eq_false_iff]
    exact ⟨by rw [beq_eq_false_iff_ne]; exact fun e => hn (List.mem_map.2 ⟨_, List.getElem_mem hj, e⟩), isP_free (hm.ok _ (List.getElem_mem hj)).1⟩
  unfold put
  rw [if_neg (by rw [right_Q hm, hp, hf]; simp)]
  by_cases h16 : L.length = 16
  · have hs : seek (QH h L) p = -1 := seek_none (fun j hj => hno j (by omega))
    rw [if_pos h16, if_neg (by unfold slot; rw [if_pos hp, hs]; simp), if_pos (by rw [hs]; decide)]
  · have hs : seek (QH h L) p = (pl p L.length : Nat) := seek_at (by omega) (by rw [hit_off hm hph (by omega), getD_ge (Nat.le_refl _), Bool.or_eq_true]; exact .inr rfl) hno
    have hP := hp
    unfold isP at hP
    simp only [decide_eq_true_eq] at hP
    have hat : at' (QH h L) (pl p L.length) = z := by
      rw [pl_off hph (by omega)]
      exact (at_off hm.hh (by omega)).trans (getD_ge (Nat.le_refl _))
    rw [if_neg h16, if_neg (by unfold slot; rw [if_pos hp, hs, Int.toNat_natCast, hat]; simp [z]; omega), if_neg (by rw [hs]; omega), hs, Int.toNat_natCast, pl_off hph (by omega)]
    unfold QH
    rw [qf_set hm.hh (by omega)]
    congr 1
    refine qf_ext (fun o ho => ?_)
    simp only [List.getD_eq_getElem?_getD]
    by_cases e : o = L.length
    · rw [if_pos e, e]; simp
    · rw [if_neg e]
      rcases Nat.lt_or_ge o L.length with h1 | h1
      · rw [List.getElem?_append_left h1]
      · rw [List.getElem?_eq_none h1, List.getElem?_eq_none (by simp; omega)]
/-- the one at i is out, the hole went on by m -/
def HL (L : List Sl) (i m : Nat) (o : Nat) : Sl := if o < i then L.getD o z else if o < i + m then L.getD (o + 1) z else if o = i + m then z else L.getD o z
theorem er_getD {L : List Sl} {i o : Nat} : (L.eraseIdx i).getD o z = if o < i then L.getD o z else L.getD (o + 1) z := by
  simp only [List.getD_eq_getElem?_getD, List.getElem?_eraseIdx]
  split <;> rfl
theorem hl_end {h : Nat} {L : List Sl} {i m : Nat} (hm : Hm h L) (hi : i < L.length) (he : L.length ≤ i + m + 1) (hlt : i + m < L.length) : QF h (HL L i m) = QH h (L.eraseIdx i) := by
  have hle := hm.le
  refine qf_ext (fun o ho => ?_)
  try simp only
  rw [er_getD]
  unfold HL
  by_cases h1 : o < i
  · rw [if_pos h1, if_pos h1]
  · rw [if_neg h1, if_neg h1]
    by_cases h2 : o < i + m
    · rw [if_pos h2]
    · rw [if_neg h2]
      by_cases h3 : o = i + m
      · rw [if_pos h3, getD_ge (by omega)]
      · rw [if_neg h3, getD_ge (by omega), getD_ge (by omega)]
theorem stay {h : Nat} {L : List Sl} {i m : Nat} (hm : Hm h L) (h16 : L.length = 16) (him : i + m = 15) : ∀ n, n ≤ i → delL ((h + i) % 16) n ((h + (i + m)) % 16) (QF h (HL L i m)) = QF h (HL L i m)
  | 0, _ => rfl
  | n + 1, hn => by
    rw [delL]
    have e : ((h + i) % 16 + (15 - n)) % 16 = (h + (i - 1 - n)) % 16 := by omega
    have hat : at' (QF h (HL L i m)) ((h + (i - 1 - n)) % 16) = L[i - 1 - n]'(by omega) := by
      rw [at_off hm.hh (by omega)]
      unfold HL
      rw [if_pos (by omega), getD_lt]
    obtain ⟨o1, o2, o3⟩ := hm.ok _ (List.getElem_mem (show i - 1 - n < L.length by omega))
    rw [e, hat, if_neg (by rw [isP_free o1]; simp), if_neg (by rw [ahead_off o3 (by omega), ahead_off o3 (by omega)]; omega)]
    exact stay hm h16 him n (by omega)
theorem delL_Q {h : Nat} {L : List Sl} (hm : Hm h L) {i : Nat} (hi : i < L.length) : ∀ n m, n + m = 15 → i + m < L.length → delL ((h + i) % 16) n ((h + (i + m)) % 16) (QF h (HL L i m)) = QH h (L.eraseIdx i)
  | 0, m, hnm, hlt => by
    have hle := hm.le
    exact hl_end hm hi (by omega) hlt
  | n + 1, m, hnm, hlt => by
    have hle := hm.le
    have hh := hm.hh
    by_cases h16 : i + m = 15
    · have := stay hm (show L.length = 16 by omega) h16 (n + 1) (by omega)
      rw [this]
      exact hl_end hm hi (by omega) hlt
    rw [delL]
    have e : ((h + i) % 16 + (15 - n)) % 16 = (h + (i + (m + 1))) % 16 := by omega
    have hat : at' (QF h (HL L i m)) ((h + (i + (m + 1))) % 16) = L.getD (i + (m + 1)) z := by
      rw [at_off hm.hh (by omega)]
      unfold HL
      rw [if_neg (by omega), if_neg (by omega), if_neg (by omega)]
    rw [e, hat]
    by_cases hl : i + (m + 1) < L.length
    · rw [getD_lt hl]
      obtain ⟨o1, o2, o3⟩ := hm.ok _ (List.getElem_mem hl)
      rw [if_neg (by rw [isP_free o1]; simp), if_pos (by rw [ahead_off o3 (by omega), ahead_off o3 (by omega)]; omega), qf_set hm.hh (by omega), qf_set hm.hh (by omega)]
      have := delL_Q hm hi n (m + 1) (by omega) hl
      rw [← this]
      congr 1
      refine qf_ext (fun o ho => ?_)
      try simp only
      unfold HL
      by_cases c1 : o = i + (m + 1)
      · rw [if_pos c1, if_neg (by omega), if_neg (by omega), if_pos c1]
      · rw [if_neg c1]
        by_cases c2 : o = i + m
        · rw [if_pos c2, if_neg (by omega), if_pos (by omega), c2]; exact (getD_lt hl).symm
        · rw [if_neg c2]
          by_cases c3 : o < i
          · rw [if_pos c3, if_pos c3]
          · rw [if_neg c3, if_neg c3]
            by_cases c4 : o < i + m
            · rw [if_pos c4, if_pos (by omega)]
            · rw [if_neg c4, if_neg c2, if_neg (show ¬ o < i + (m + 1) by omega), if_neg c1]
    · rw [getD_ge (by omega), if_pos (show free z = true from rfl)]
      exact hl_end hm hi (by omega) hlt
theorem del_Q {h : Nat} {L : List Sl} (hm : Hm h L) {i : Nat} (hi : i < L.length) : del (QH h L) L[i].p = (QH h (L.eraseIdx i), 0) ∧ Hm h (L.eraseIdx i) := by
  have hle := hm.le
  have hh := hm.hh
  obtain ⟨o1, o2, o3⟩ := hm.ok _ (List.getElem_mem hi)
  have hsl : slot (QH h L) L[i].p = ((((h + i) % 16 : Nat) : Int), true) := by
    unfold slot
    have e : at' (QH h L) ((h + i) % 16) = L[i] := (at_off hm.hh (by omega)).trans (getD_lt hi)
    rw [if_pos o1, seek_Q hm hi, Int.toNat_natCast, e, decide_eq_true ⟨by omega, rfl⟩]
  constructor
  · unfold del
    simp only [hsl]
    rw [if_neg (by rw [right_Q hm]; simp), if_neg (by simp), Int.toNat_natCast]
    have h0 := delL_Q hm hi 15 0 rfl (by omega)
    have e : (QH h L).set ((h + i) % 16) z = QF h (HL L i 0) := by
      unfold QH
      rw [qf_set hm.hh (by omega)]
      refine qf_ext (fun o ho => ?_)
      try simp only
      unfold HL
      by_cases c1 : o = i
      · rw [if_pos c1, if_neg (by omega), if_neg (by omega), if_pos (by omega)]
      · rw [if_neg c1]
        by_cases c2 : o < i
        · rw [if_pos c2]
        · rw [if_neg c2, if_neg (by omega), if_neg (by omega)]
    rw [e]
    rw [Nat.add_zero] at h0
    rw [h0]
  · have hs := List.eraseIdx_sublist L i
    exact ⟨hm.hh, by have := hs.length_le; omega, fun s hs2 => hm.ok s (hs.subset hs2), hm.nd.sublist (hs.map _)⟩
end Ta
end Go.Proofs.Ytkiddlkmodclhaa
