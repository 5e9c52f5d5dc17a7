/- layer 12: the journal, plain: what Recover does. -/
import Derived.Test.YteghmlafodkfpaaJ2
namespace Go.Proofs.Yteghmlafodkfpaa
set_option linter.unusedVariables false
set_option linter.unusedSimpArgs false
namespace Jn
theorem rd_16 {n : Nat} {s : List ByteArray} {c : List Wr} {i : Int} (hs : Ok n s) (hc : Cok n c) (h1 : 0 ≤ i ∧ i < n) : (rd s c i).size = 16 := by
  unfold rd
  cases hl : lookB c i with
  | some w =>
    obtain ⟨hm, _⟩ := lookB_mem hl
    exact (hc.2 w hm).2.2
  | none =>
    have hi : i.toNat < s.length := by rw [hs.1]; omega
    simp only [List.getElem?_eq_getElem hi, Option.getD_some]
    exact hs.2 _ (List.getElem_mem hi)
section
variable {n : Nat} {s : List ByteArray} {c : List Wr} (hn : 35 ≤ n ∧ n ≤ 64) (hs : Ok n s) (hc : Cok n c)
include hs hc hn in
theorem repair_idle (h0 : rd s c 0 = noughts) : repairM ⟨s, c⟩ = [] := by
  unfold repairM
  rw [if_neg (by simp [usable_ok hn hs hc]), read_rd ⟨by omega, hn.2⟩ hs hc (by omega), if_pos h0]
include hs hc hn in
theorem recover_idle (h0 : rd s c 0 = noughts) : recoverM ⟨s, c⟩ = ⟨s, c⟩ := by
  unfold recoverM
  rw [repair_idle hn hs hc h0]; rfl
include hs hc hn in
theorem repair_mend {p : Int} (h0 : headed (rd s c 0) = some p) (hne : rd s c 0 ≠ noughts) : repairM ⟨s, c⟩ = [wr (2 * p + 1) (rd s c 1), wr (2 * p + 2) (rd s c 2), sy, wr 0 noughts, sy] := by
  have hn1 : 1 ≤ n ∧ n ≤ 64 := ⟨by omega, hn.2⟩
  unfold repairM
  rw [if_neg (by simp [usable_ok hn hs hc]), read_rd hn1 hs hc (by omega), if_neg hne, h0]
  simp only [mend, clear]
  rw [read_rd hn1 hs hc (by omega), read_rd hn1 hs hc (by omega)]; rfl
include hs hc hn in
theorem repair_clear (h0 : headed (rd s c 0) = none) (hne : rd s c 0 ≠ noughts) : repairM ⟨s, c⟩ = [wr 0 noughts, sy] := by
  have hn1 : 1 ≤ n ∧ n ≤ 64 := ⟨by omega, hn.2⟩
  unfold repairM
  rw [if_neg (by simp [usable_ok hn hs hc]), read_rd hn1 hs hc (by omega), if_neg hne, h0]; rfl
include hs hc hn in
theorem recover_mend {p : Int} (hp : 1 ≤ p ∧ p ≤ 16) (hl : c.length ≤ 90) (h0 : headed (rd s c 0) = some p) (hne : rd s c 0 ≠ noughts) :
    recoverM ⟨s, c⟩ = ⟨doneS (doneS s (c ++ [⟨2 * p + 1, rd s c 1⟩] ++ [⟨2 * p + 2, rd s c 2⟩])) [⟨0, noughts⟩], []⟩ ∧ Cok n (c ++ [⟨2 * p + 1, rd s c 1⟩] ++ [⟨2 * p + 2, rd s c 2⟩]) := by
  have hn1 : 1 ≤ n ∧ n ≤ 64 := ⟨by omega, hn.2⟩
  have z1 := rd_16 (i := 1) hs hc (by omega)
  have z2 := rd_16 (i := 2) hs hc (by omega)
  have c1 := cok_snoc (i := 2 * p + 1) (x := rd s c 1) hc (by omega) (by omega) z1
  have c2 := cok_snoc (i := 2 * p + 2) (x := rd s c 2) c1 (by simp; omega) (by omega) z2
  refine ⟨?_, c2⟩
  unfold recoverM
  rw [repair_mend hn hs hc h0 hne]
  have e1 : stepJ ⟨s, c⟩ (wr (2 * p + 1) (rd s c 1)) = ⟨s, c ++ [⟨2 * p + 1, rd s c 1⟩]⟩ := step_w hn1 hs hc (by omega) z1
  have e2 : stepJ ⟨s, c ++ [⟨2 * p + 1, rd s c 1⟩]⟩ (wr (2 * p + 2) (rd s c 2)) = ⟨s, c ++ [⟨2 * p + 1, rd s c 1⟩] ++ [⟨2 * p + 2, rd s c 2⟩]⟩ := step_w hn1 hs c1 (by omega) z2
  have o3 := ok_done hs c2
  simp only [runJ_cons, runJ_nil, e1, e2, step_s hn1 hs c2, step_w hn1 o3 cok_nil (show (0 : Int) ≤ 0 ∧ (0 : Int) < n by omega) size_noughts, List.nil_append, step_s hn1 o3 (cok1 (i := 0) (by omega) size_noughts)]
include hs hc hn in
theorem recover_clear (hl : c.length ≤ 90) (h0 : headed (rd s c 0) = none) (hne : rd s c 0 ≠ noughts) :
    recoverM ⟨s, c⟩ = ⟨doneS s (c ++ [⟨0, noughts⟩]), []⟩ := by
  have hn1 : 1 ≤ n ∧ n ≤ 64 := ⟨by omega, hn.2⟩
  have c1 := cok_snoc (i := 0) hc (by omega) (by omega) size_noughts
  unfold recoverM
  rw [repair_clear hn hs hc h0 hne]
  simp only [runJ_cons, runJ_nil, step_w hn1 hs hc (show (0 : Int) ≤ 0 ∧ (0 : Int) < n by omega) size_noughts, step_s hn1 hs c1]
end
section
variable {n : Nat} {s : List ByteArray} {p : Int} {x : ByteArray} {t : List ByteArray} (hn : 35 ≤ n ∧ n ≤ 64) (hs : Ok n s) (hp : 1 ≤ p ∧ p ≤ 16) (hx : x.size = 32)
theorem headed_b (hp : 1 ≤ p ∧ p ≤ 16) : headed (headB p) = some p := headed_head (page_iff.2 hp)
include hn hp in
/-- Recover ends what was cut off -/
theorem mid_recover (hm : Mid n s p x t) : ∃ t', recoverM ⟨t, []⟩ = ⟨t', []⟩ ∧ Mid n s p x t' ∧ rd t' [] 0 = noughts ∧ (Fin n s p x t → Fin n s p x t') := by
  rcases hm.way with ⟨h0, hw⟩ | ⟨h0, h1, h2⟩
  · exact ⟨t, recover_idle hn hm.ok cok_nil h0, hm, h0, id⟩
  · obtain ⟨e, hc⟩ := recover_mend hn hm.ok cok_nil hp (by simp) (by rw [h0]; exact headed_b hp) (by rw [h0]; exact head_nought)
    rw [h1, h2] at e hc
    simp only [List.nil_append] at e hc
    have o1 := ok_done hm.ok hc
    have c0 : Cok n [⟨0, noughts⟩] := cok1 (by omega) size_noughts
    have r : ∀ i : Int, 0 ≤ i → i < n → rd (doneS (doneS t ([⟨2 * p + 1, lo x⟩] ++ [⟨2 * p + 2, hi x⟩])) [⟨0, noughts⟩]) [] i = if 0 = i then noughts else if 2 * p + 2 = i then hi x else if 2 * p + 1 = i then lo x else rd t [] i := fun i h0 h1 => by
      rw [rd_done o1 c0 ⟨h0, h1⟩, rd1, rd_done hm.ok hc ⟨h0, h1⟩, rd_snoc, rd1]
    have f : Fin n s p x (doneS (doneS t ([⟨2 * p + 1, lo x⟩] ++ [⟨2 * p + 2, hi x⟩])) [⟨0, noughts⟩]) := by
      refine ⟨ok_done o1 c0, fun i h3 h4 h5 h6 => ?_, ?_, ?_, ?_⟩
      · rw [r i (by omega) h4, if_neg (by omega), if_neg (by omega), if_neg (by omega)]; exact hm.rest i h3 h4 h5 h6
      · rw [r 0 (by omega) (by omega)]; rfl
      · rw [r _ (by omega) (by omega), if_neg (by omega), if_neg (by omega), if_pos rfl]
      · rw [r _ (by omega) (by omega), if_neg (by omega), if_pos rfl]
    exact ⟨_, e, f.mid, f.zero, fun _ => f⟩
include hx hn hp in
/-- a recovery that is cut off leaves it as it may be -/
theorem mid_again (hm : Mid n s p x t) (k : Nat) (keeps : List Int) : ∃ t', crashD (runJ ⟨t, []⟩ ((repairM ⟨t, []⟩).take k)) keeps = ⟨t', []⟩ ∧ Mid n s p x t' := by
  have hn1 : 1 ≤ n ∧ n ≤ 64 := ⟨by omega, hn.2⟩
  rcases hm.way with ⟨h0, hw⟩ | ⟨h0, h1, h2⟩
  · rw [repair_idle hn hm.ok cok_nil h0]
    exact ⟨t, by rw [List.take_nil, runJ_nil]; exact crash_nil hn1 hm.ok, hm⟩
  · rw [repair_mend hn hm.ok cok_nil (by rw [h0]; exact headed_b hp) (by rw [h0]; exact head_nought), h1, h2]
    have z1 := size_lo hx
    have z2 := size_hi hx
    have ot := hm.ok
    have c1 : Cok n [⟨2 * p + 1, lo x⟩] := cok1 (by omega) z1
    have c1' : Cok n [⟨2 * p + 2, hi x⟩] := cok1 (by omega) z2
    have c2 : Cok n [⟨2 * p + 1, lo x⟩, ⟨2 * p + 2, hi x⟩] := cok2 (by omega) z1 (by omega) z2
    have c0 : Cok n [⟨0, noughts⟩] := cok1 (by omega) size_noughts
    have o1 := ok_done ot c2
    have e1 : stepJ ⟨t, []⟩ (wr (2 * p + 1) (lo x)) = ⟨t, [⟨2 * p + 1, lo x⟩]⟩ := step_w hn1 ot cok_nil (by omega) z1
    have e2 : stepJ ⟨t, [⟨2 * p + 1, lo x⟩]⟩ (wr (2 * p + 2) (hi x)) = ⟨t, [⟨2 * p + 1, lo x⟩, ⟨2 * p + 2, hi x⟩]⟩ := step_w hn1 ot c1 (by omega) z2
    have e3 := step_s hn1 ot c2
    have e4 : stepJ ⟨doneS t [⟨2 * p + 1, lo x⟩, ⟨2 * p + 2, hi x⟩], []⟩ (wr 0 noughts) = ⟨doneS t [⟨2 * p + 1, lo x⟩, ⟨2 * p + 2, hi x⟩], [⟨0, noughts⟩]⟩ := step_w hn1 o1 cok_nil (by omega) size_noughts
    have e5 := step_s hn1 o1 c0
    have keyB : ∀ u c, Ok n u → Cok n c → (∀ i : Int, 3 ≤ i → i < n → i ≠ 2 * p + 1 → i ≠ 2 * p + 2 → rd u c i = rd s [] i) → rd u c 0 = headB p → rd u c 1 = lo x → rd u c 2 = hi x → Mid n s p x (doneS u c) := by
      intro u c ht hc hr r0 r1 r2
      refine ⟨ok_done ht hc, fun i h3 h4 h5 h6 => by rw [rd_done ht hc (by omega)]; exact hr i (by omega) h4 h5 h6, .inr ⟨?_, ?_, ?_⟩⟩
      · rw [rd_done ht hc (by omega), r0]
      · rw [rd_done ht hc (by omega), r1]
      · rw [rd_done ht hc (by omega), r2]
    have m1 : Mid n s p x (doneS t [⟨2 * p + 1, lo x⟩]) := keyB _ _ ot c1 (fun i h3 h4 h5 h6 => by rw [rd1, if_neg (by omega)]; exact hm.rest i h3 h4 h5 h6) (by rw [rd1, if_neg (by omega), h0]) (by rw [rd1, if_neg (by omega), h1]) (by rw [rd1, if_neg (by omega), h2])
    have m2 : Mid n s p x (doneS t [⟨2 * p + 2, hi x⟩]) := keyB _ _ ot c1' (fun i h3 h4 h5 h6 => by rw [rd1, if_neg (by omega)]; exact hm.rest i h3 h4 h5 h6) (by rw [rd1, if_neg (by omega), h0]) (by rw [rd1, if_neg (by omega), h1]) (by rw [rd1, if_neg (by omega), h2])
    have m3 : Mid n s p x (doneS t [⟨2 * p + 1, lo x⟩, ⟨2 * p + 2, hi x⟩]) := keyB _ _ ot c2 (fun i h3 h4 h5 h6 => by rw [rd2, if_neg (by omega), if_neg (by omega)]; exact hm.rest i h3 h4 h5 h6) (by rw [rd2, if_neg (by omega), if_neg (by omega), h0]) (by rw [rd2, if_neg (by omega), if_neg (by omega), h1]) (by rw [rd2, if_neg (by omega), if_neg (by omega), h2])
    have f4 : Fin n s p x (doneS (doneS t [⟨2 * p + 1, lo x⟩, ⟨2 * p + 2, hi x⟩]) [⟨0, noughts⟩]) := by
      have r : ∀ i : Int, 0 ≤ i → i < n → rd (doneS (doneS t [⟨2 * p + 1, lo x⟩, ⟨2 * p + 2, hi x⟩]) [⟨0, noughts⟩]) [] i = if 0 = i then noughts else if 2 * p + 2 = i then hi x else if 2 * p + 1 = i then lo x else rd t [] i := fun i h0 h1 => by
        rw [rd_done o1 c0 ⟨h0, h1⟩, rd1, rd_done ot c2 ⟨h0, h1⟩, rd2]
      refine ⟨ok_done o1 c0, fun i h3 h4 h5 h6 => ?_, ?_, ?_, ?_⟩
      · rw [r i (by omega) h4, if_neg (by omega), if_neg (by omega), if_neg (by omega)]; exact hm.rest i h3 h4 h5 h6
      · rw [r 0 (by omega) (by omega)]; rfl
      · rw [r _ (by omega) (by omega), if_neg (by omega), if_neg (by omega), if_pos rfl]
      · rw [r _ (by omega) (by omega), if_neg (by omega), if_pos rfl]
    match k with
    | 0 => exact ⟨t, by rw [List.take_zero, runJ_nil]; exact crash_nil hn1 ot, hm⟩
    | 1 =>
      simp only [List.take_succ_cons, List.take_zero, runJ_cons, runJ_nil, e1]
      obtain ⟨ms, hk⟩ := crash_ok (keep := keeps) hn1 ot c1
      refine ⟨_, hk, ?_⟩
      rcases kept1 (w := ⟨2 * p + 1, lo x⟩) (ms := ms) with h | h <;> rw [h]
      · exact hm
      · exact m1
    | 2 =>
      simp only [List.take_succ_cons, List.take_zero, runJ_cons, runJ_nil, e1, e2]
      obtain ⟨ms, hk⟩ := crash_ok (keep := keeps) hn1 ot c2
      refine ⟨_, hk, ?_⟩
      rcases kept2 (v := ⟨2 * p + 1, lo x⟩) (w := ⟨2 * p + 2, hi x⟩) (ms := ms) with h | h | h | h <;> rw [h]
      · exact hm
      · exact m1
      · exact m2
      · exact m3
    | 3 =>
      simp only [List.take_succ_cons, List.take_zero, runJ_cons, runJ_nil, e1, e2, e3]
      exact ⟨_, crash_nil hn1 o1, m3⟩
    | 4 =>
      simp only [List.take_succ_cons, List.take_zero, runJ_cons, runJ_nil, e1, e2, e3, e4]
      obtain ⟨ms, hk⟩ := crash_ok (keep := keeps) hn1 o1 c0
      refine ⟨_, hk, ?_⟩
      rcases kept1 (w := ⟨0, noughts⟩) (ms := ms) with h | h <;> rw [h]
      · exact m3
      · exact f4.mid
    | k + 5 =>
      simp only [List.take_succ_cons, List.take_nil, runJ_cons, runJ_nil, e1, e2, e3, e4, e5]
      exact ⟨_, crash_nil hn1 (ok_done o1 c0), f4.mid⟩
include hs hx hn hp in
theorem s4_fin : Fin n s p x (s4 s p x) := by
  refine ⟨ok4 hn hs hp hx, fun i h1 h2 h3 h4 => by rw [rdS4 hn hs hp hx (by omega), if_neg (by omega), if_neg (by omega), if_neg (by omega), if_neg (by omega), if_neg (by omega)], by rw [rdS4 hn hs hp hx (by omega)]; rfl, ?_, ?_⟩
  · rw [rdS4 hn hs hp hx (by omega), if_neg (by omega), if_neg (by omega), if_pos rfl]
  · rw [rdS4 hn hs hp hx (by omega), if_neg (by omega), if_pos rfl]
end
/-- what a page reads, of sectors on which nothing waits -/
theorem get_sec {n : Nat} {s : List ByteArray} {q : Int} (hn : 35 ≤ n ∧ n ≤ 64) (hs : Ok n s) (hq : 1 ≤ q ∧ q ≤ 16) : getM ⟨s, []⟩ q = (rd s [] (2 * q + 1) ++ rd s [] (2 * q + 2), 0) := get_rd hn hs cok_nil (page_iff.2 hq)
theorem fin_get {n : Nat} {s : List ByteArray} {p : Int} {x : ByteArray} {t : List ByteArray} (hn : 35 ≤ n ∧ n ≤ 64) (hs : Ok n s) (hp : 1 ≤ p ∧ p ≤ 16) (hx : x.size = 32) (hf : Fin n s p x t) (q : Int) (hq : 1 ≤ q ∧ q ≤ 16) : getM ⟨t, []⟩ q = (if q = p then x else (getM ⟨s, []⟩ q).1, 0) := by
  rw [get_sec hn hf.ok hq, get_sec hn hs hq]
  by_cases e : q = p
  · rw [if_pos e, e, hf.page.1, hf.page.2, lo_hi hx]
  · rw [if_neg e, hf.rest _ (by omega) (by omega) (by omega) (by omega), hf.rest _ (by omega) (by omega) (by omega) (by omega)]
theorem mid_get {n : Nat} {s : List ByteArray} {p : Int} {x : ByteArray} {t : List ByteArray} (hn : 35 ≤ n ∧ n ≤ 64) (hs : Ok n s) (hp : 1 ≤ p ∧ p ≤ 16) (hx : x.size = 32) (hm : Mid n s p x t) (h0 : rd t [] 0 = noughts) (q : Int) (hq : 1 ≤ q ∧ q ≤ 16) : ∃ b, getM ⟨t, []⟩ q = (b, 0) ∧ (b = (getM ⟨s, []⟩ q).1 ∨ q = p ∧ b = x) := by
  refine ⟨_, get_sec hn hm.ok hq, ?_⟩
  rw [get_sec hn hs hq]
  by_cases e : q = p
  · subst e
    rcases hm.way with ⟨_, h | h⟩ | ⟨h, _, _⟩
    · left; rw [h.1, h.2]
    · right; rw [h.1, h.2, lo_hi hx]; exact ⟨rfl, rfl⟩
    · rw [h0] at h; exact absurd h.symm head_nought
  · left
    rw [hm.rest _ (by omega) (by omega) (by omega) (by omega), hm.rest _ (by omega) (by omega) (by omega) (by omega)]
/-- a new disk -/
def new35 : List ByteArray := List.replicate 35 noughts
theorem ok_new : Ok 35 new35 := ⟨by simp [new35], fun x hx => by rw [List.eq_of_mem_replicate hx]; rfl⟩
theorem new_eq : newD 35 = (⟨new35, []⟩, 0) := rfl
theorem rd_new {i : Int} (h : 0 ≤ i ∧ i < 35) : rd new35 [] i = noughts := by
  rw [rd_nil]
  unfold new35
  rw [List.getElem?_replicate, if_pos (by omega)]; rfl
end Jn
end Go.Proofs.Yteghmlafodkfpaa
