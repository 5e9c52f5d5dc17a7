/- layer 12: the journal, plain: whatever is cut off. -/
import Derived.Test.YteghmlafodkfpaaJ1
namespace Go.Proofs.Yteghmlafodkfpaa
set_option linter.unusedVariables false
set_option linter.unusedSimpArgs false
namespace Jn
theorem rd1 {s : List ByteArray} {k i : Int} {x : ByteArray} : rd s [⟨k, x⟩] i = if k = i then x else rd s [] i := rd_snoc (c := [])
theorem rd2 {s : List ByteArray} {k i k2 : Int} {x x2 : ByteArray} : rd s [⟨k, x⟩, ⟨k2, x2⟩] i = if k2 = i then x2 else if k = i then x else rd s [] i := by
  rw [show ([⟨k, x⟩, ⟨k2, x2⟩] : List Wr) = [⟨k, x⟩] ++ [⟨k2, x2⟩] from rfl, rd_snoc, rd1]
theorem runJ_app {d : Dk} {l m : List Jo} : runJ d (l ++ m) = runJ (runJ d l) m := by unfold runJ; rw [List.foldl_append]
theorem runJ_cons {d : Dk} {o : Jo} {l : List Jo} : runJ d (o :: l) = runJ (stepJ d o) l := rfl
theorem runJ_nil {d : Dk} : runJ d [] = d := rfl
theorem kept1 {w : Wr} : ∀ {ms : List Bool}, keptW [w] ms = [] ∨ keptW [w] ms = [w]
  | [] => .inl rfl
  | true :: ms => .inr (by simp [keptW])
  | false :: ms => .inl (by simp [keptW])
theorem kept2 {v w : Wr} : ∀ {ms : List Bool}, keptW [v, w] ms = [] ∨ keptW [v, w] ms = [v] ∨ keptW [v, w] ms = [w] ∨ keptW [v, w] ms = [v, w]
  | [] => .inl rfl
  | true :: ms => by rcases kept1 (w := w) (ms := ms) with h | h <;> simp [keptW, h]
  | false :: ms => by rcases kept1 (w := w) (ms := ms) with h | h <;> simp [keptW, h]
theorem crash_ok {n : Nat} {s : List ByteArray} {c : List Wr} {keep : List Int} (hn : 1 ≤ n ∧ n ≤ 64) (hs : Ok n s) (hc : Cok n c) : ∃ ms, crashD ⟨s, c⟩ keep = ⟨doneS s (keptW c ms), []⟩ := by
  unfold crashD
  rw [right_ok hn hs hc]
  exact ⟨_, rfl⟩
theorem crash_nil {n : Nat} {s : List ByteArray} {keep : List Int} (hn : 1 ≤ n ∧ n ≤ 64) (hs : Ok n s) : crashD ⟨s, []⟩ keep = ⟨s, []⟩ := by
  obtain ⟨ms, h⟩ := crash_ok (keep := keep) hn hs cok_nil
  rw [h]
  cases ms <;> rfl
theorem cok1 {n : Nat} {i : Int} {x : ByteArray} (h : 0 ≤ i ∧ i < n) (hx : x.size = 16) : Cok n [⟨i, x⟩] := cok_snoc cok_nil (by simp) h hx
theorem cok2 {n : Nat} {i k : Int} {x y : ByteArray} (h : 0 ≤ i ∧ i < n) (hx : x.size = 16) (h2 : 0 ≤ k ∧ k < n) (hy : y.size = 16) : Cok n [⟨i, x⟩, ⟨k, y⟩] := cok_snoc (cok1 h hx) (by simp) h2 hy
/-- the states of a plan, from sectors on which nothing waits -/
def s1 (s : List ByteArray) (x : ByteArray) : List ByteArray := doneS s [⟨1, lo x⟩, ⟨2, hi x⟩]
def s2 (s : List ByteArray) (p : Int) (x : ByteArray) : List ByteArray := doneS (s1 s x) [⟨0, headB p⟩]
def s3 (s : List ByteArray) (p : Int) (x : ByteArray) : List ByteArray := doneS (s2 s p x) [⟨2 * p + 1, lo x⟩, ⟨2 * p + 2, hi x⟩]
def s4 (s : List ByteArray) (p : Int) (x : ByteArray) : List ByteArray := doneS (s3 s p x) [⟨0, noughts⟩]
def stP (s : List ByteArray) (p : Int) (x : ByteArray) : Nat → Dk
  | 0 => ⟨s, []⟩
  | 1 => ⟨s, [⟨1, lo x⟩]⟩
  | 2 => ⟨s, [⟨1, lo x⟩, ⟨2, hi x⟩]⟩
  | 3 => ⟨s1 s x, []⟩
  | 4 => ⟨s1 s x, [⟨0, headB p⟩]⟩
  | 5 => ⟨s2 s p x, []⟩
  | 6 => ⟨s2 s p x, [⟨2 * p + 1, lo x⟩]⟩
  | 7 => ⟨s2 s p x, [⟨2 * p + 1, lo x⟩, ⟨2 * p + 2, hi x⟩]⟩
  | 8 => ⟨s3 s p x, []⟩
  | 9 => ⟨s3 s p x, [⟨0, noughts⟩]⟩
  | _ => ⟨s4 s p x, []⟩
section
variable {n : Nat} {s : List ByteArray} {p : Int} {x : ByteArray} (hn : 35 ≤ n ∧ n ≤ 64) (hs : Ok n s) (hp : 1 ≤ p ∧ p ≤ 16) (hx : x.size = 32)
include hs hx hn in
theorem ok1 : Ok n (s1 s x) := ok_done hs (cok2 (by omega) (size_lo hx) (by omega) (size_hi hx))
include hs hx hn in
theorem ok2 : Ok n (s2 s p x) := ok_done (ok1 hn hs hx) (cok1 (by omega) size_head)
include hs hx hn hp in
theorem ok3 : Ok n (s3 s p x) := ok_done (ok2 hn hs hx) (cok2 (by omega) (size_lo hx) (by omega) (size_hi hx))
include hs hx hn hp in
theorem ok4 : Ok n (s4 s p x) := ok_done (ok3 hn hs hp hx) (cok1 (by omega) size_noughts)
include hs hx hn in
theorem rdS1 {i : Int} (hi0 : 0 ≤ i ∧ i < n) : rd (s1 s x) [] i = if 2 = i then hi x else if 1 = i then lo x else rd s [] i := by
  unfold s1
  rw [rd_done hs (cok2 (by omega) (size_lo hx) (by omega) (size_hi hx)) hi0, rd2]
include hs hx hn in
theorem rdS2 {i : Int} (hi0 : 0 ≤ i ∧ i < n) : rd (s2 s p x) [] i = if 0 = i then headB p else if 2 = i then hi x else if 1 = i then lo x else rd s [] i := by
  unfold s2
  rw [rd_done (ok1 hn hs hx) (cok1 (by omega) size_head) hi0, rd1, rdS1 hn hs hx hi0]
include hs hx hn hp in
theorem rdS3 {i : Int} (hi0 : 0 ≤ i ∧ i < n) : rd (s3 s p x) [] i = if 2 * p + 2 = i then hi x else if 2 * p + 1 = i then lo x else if 0 = i then headB p else if 2 = i then hi x else if 1 = i then lo x else rd s [] i := by
  unfold s3
  rw [rd_done (ok2 hn hs hx) (cok2 (by omega) (size_lo hx) (by omega) (size_hi hx)) hi0, rd2, rdS2 hn hs hx hi0]
include hs hx hn hp in
theorem rdS4 {i : Int} (hi0 : 0 ≤ i ∧ i < n) : rd (s4 s p x) [] i = if 0 = i then noughts else if 2 * p + 2 = i then hi x else if 2 * p + 1 = i then lo x else if 2 = i then hi x else if 1 = i then lo x else rd s [] i := by
  unfold s4
  rw [rd_done (ok3 hn hs hp hx) (cok1 (by omega) size_noughts) hi0, rd1, rdS3 hn hs hp hx hi0]
  by_cases h0 : 0 = i
  · rw [if_pos h0, if_pos h0]
  · rw [if_neg h0, if_neg h0, if_neg h0]
include hs hx hn hp in
theorem run_plan (k : Nat) : runJ ⟨s, []⟩ ((plan p x).take k) = stP s p x k := by
  have hn1 : 1 ≤ n ∧ n ≤ 64 := by omega
  have e1 : stepJ ⟨s, []⟩ (wr 1 (lo x)) = ⟨s, [⟨1, lo x⟩]⟩ := step_w hn1 hs cok_nil (by omega) (size_lo hx)
  have e2 : stepJ ⟨s, [⟨1, lo x⟩]⟩ (wr 2 (hi x)) = ⟨s, [⟨1, lo x⟩, ⟨2, hi x⟩]⟩ := step_w hn1 hs (cok1 (by omega) (size_lo hx)) (by omega) (size_hi hx)
  have e3 : stepJ ⟨s, [⟨1, lo x⟩, ⟨2, hi x⟩]⟩ sy = ⟨s1 s x, []⟩ := step_s hn1 hs (cok2 (by omega) (size_lo hx) (by omega) (size_hi hx))
  have e4 : stepJ ⟨s1 s x, []⟩ (wr 0 (headB p)) = ⟨s1 s x, [⟨0, headB p⟩]⟩ := step_w hn1 (ok1 hn hs hx) cok_nil (by omega) size_head
  have e5 : stepJ ⟨s1 s x, [⟨0, headB p⟩]⟩ sy = ⟨s2 s p x, []⟩ := step_s hn1 (ok1 hn hs hx) (cok1 (by omega) size_head)
  have e6 : stepJ ⟨s2 s p x, []⟩ (wr (2 * p + 1) (lo x)) = ⟨s2 s p x, [⟨2 * p + 1, lo x⟩]⟩ := step_w hn1 (ok2 hn hs hx) cok_nil (by omega) (size_lo hx)
  have e7 : stepJ ⟨s2 s p x, [⟨2 * p + 1, lo x⟩]⟩ (wr (2 * p + 2) (hi x)) = ⟨s2 s p x, [⟨2 * p + 1, lo x⟩, ⟨2 * p + 2, hi x⟩]⟩ := step_w hn1 (ok2 hn hs hx) (cok1 (by omega) (size_lo hx)) (by omega) (size_hi hx)
  have e8 : stepJ ⟨s2 s p x, [⟨2 * p + 1, lo x⟩, ⟨2 * p + 2, hi x⟩]⟩ sy = ⟨s3 s p x, []⟩ := step_s hn1 (ok2 hn hs hx) (cok2 (by omega) (size_lo hx) (by omega) (size_hi hx))
  have e9 : stepJ ⟨s3 s p x, []⟩ (wr 0 noughts) = ⟨s3 s p x, [⟨0, noughts⟩]⟩ := step_w hn1 (ok3 hn hs hp hx) cok_nil (by omega) size_noughts
  have e10 : stepJ ⟨s3 s p x, [⟨0, noughts⟩]⟩ sy = ⟨s4 s p x, []⟩ := step_s hn1 (ok3 hn hs hp hx) (cok1 (by omega) size_noughts)
  match k with
  | 0 => rfl
  | 1 => simp only [plan, List.take_succ_cons, List.take_zero, runJ_cons, runJ_nil, e1]; rfl
  | 2 => simp only [plan, List.take_succ_cons, List.take_zero, runJ_cons, runJ_nil, e1, e2]; rfl
  | 3 => simp only [plan, List.take_succ_cons, List.take_zero, runJ_cons, runJ_nil, e1, e2, e3]; rfl
  | 4 => simp only [plan, List.take_succ_cons, List.take_zero, runJ_cons, runJ_nil, e1, e2, e3, e4]; rfl
  | 5 => simp only [plan, List.take_succ_cons, List.take_zero, runJ_cons, runJ_nil, e1, e2, e3, e4, e5]; rfl
  | 6 => simp only [plan, List.take_succ_cons, List.take_zero, runJ_cons, runJ_nil, e1, e2, e3, e4, e5, e6]; rfl
  | 7 => simp only [plan, List.take_succ_cons, List.take_zero, runJ_cons, runJ_nil, e1, e2, e3, e4, e5, e6, e7]; rfl
  | 8 => simp only [plan, List.take_succ_cons, List.take_zero, runJ_cons, runJ_nil, e1, e2, e3, e4, e5, e6, e7, e8]; rfl
  | 9 => simp only [plan, List.take_succ_cons, List.take_zero, runJ_cons, runJ_nil, e1, e2, e3, e4, e5, e6, e7, e8, e9]; rfl
  | k + 10 => simp only [plan, List.take_succ_cons, List.take_nil, runJ_cons, runJ_nil, e1, e2, e3, e4, e5, e6, e7, e8, e9, e10]; rfl
include hs hx hn hp in
theorem commit_st : commitM ⟨s, []⟩ p x = (⟨s4 s p x, []⟩, 0) := by
  have h := run_plan hn hs hp hx 10
  unfold commitM planM
  rw [if_pos ⟨usable_ok hn hs cok_nil, page_iff.2 hp, hx⟩]
  rw [show (plan p x).take 10 = plan p x from rfl] at h
  rw [h]; rfl
end
/-- what is between a page as it was, and as it is to be -/
structure Mid (n : Nat) (s : List ByteArray) (p : Int) (x : ByteArray) (t : List ByteArray) : Prop where
  ok : Ok n t
  rest : ∀ i : Int, 3 ≤ i → i < n → i ≠ 2 * p + 1 → i ≠ 2 * p + 2 → rd t [] i = rd s [] i
  way : (rd t [] 0 = noughts ∧ ((rd t [] (2 * p + 1) = rd s [] (2 * p + 1) ∧ rd t [] (2 * p + 2) = rd s [] (2 * p + 2)) ∨ (rd t [] (2 * p + 1) = lo x ∧ rd t [] (2 * p + 2) = hi x))) ∨
    (rd t [] 0 = headB p ∧ rd t [] 1 = lo x ∧ rd t [] 2 = hi x)
/-- it is as it is to be -/
structure Fin (n : Nat) (s : List ByteArray) (p : Int) (x : ByteArray) (t : List ByteArray) : Prop where
  ok : Ok n t
  rest : ∀ i : Int, 3 ≤ i → i < n → i ≠ 2 * p + 1 → i ≠ 2 * p + 2 → rd t [] i = rd s [] i
  zero : rd t [] 0 = noughts
  page : rd t [] (2 * p + 1) = lo x ∧ rd t [] (2 * p + 2) = hi x
theorem Fin.mid {n : Nat} {s : List ByteArray} {p : Int} {x : ByteArray} {t : List ByteArray} (h : Fin n s p x t) : Mid n s p x t := ⟨h.ok, h.rest, .inl ⟨h.zero, .inr h.page⟩⟩
section
variable {n : Nat} {s : List ByteArray} {p : Int} {x : ByteArray} (hn : 35 ≤ n ∧ n ≤ 64) (hs : Ok n s) (hp : 1 ≤ p ∧ p ≤ 16) (hx : x.size = 32)
include hs hx hn hp in
theorem crash_plan (h0 : rd s [] 0 = noughts) (k : Nat) (keep : List Int) : ∃ t, crashD (stP s p x k) keep = ⟨t, []⟩ ∧ Mid n s p x t ∧ (10 ≤ k → Fin n s p x t) := by
  have hn1 : 1 ≤ n ∧ n ≤ 64 := by omega
  have o1 := ok1 hn hs hx
  have o2 := ok2 (p := p) hn hs hx
  have o3 := ok3 hn hs hp hx
  have o4 := ok4 hn hs hp hx
  have c1 : Cok n [⟨1, lo x⟩] := cok1 (by omega) (size_lo hx)
  have c1' : Cok n [⟨2, hi x⟩] := cok1 (by omega) (size_hi hx)
  have c2 : Cok n [⟨1, lo x⟩, ⟨2, hi x⟩] := cok2 (by omega) (size_lo hx) (by omega) (size_hi hx)
  have c3 : Cok n [⟨0, headB p⟩] := cok1 (by omega) size_head
  have c4 : Cok n [⟨2 * p + 1, lo x⟩] := cok1 (by omega) (size_lo hx)
  have c4' : Cok n [⟨2 * p + 2, hi x⟩] := cok1 (by omega) (size_hi hx)
  have c5 : Cok n [⟨2 * p + 1, lo x⟩, ⟨2 * p + 2, hi x⟩] := cok2 (by omega) (size_lo hx) (by omega) (size_hi hx)
  have c6 : Cok n [⟨0, noughts⟩] := cok1 (by omega) size_noughts
  have keyA : ∀ t c, Ok n t → Cok n c → (∀ i : Int, 0 ≤ i → i < n → i ≠ 1 → i ≠ 2 → rd t c i = rd s [] i) → Mid n s p x (doneS t c) := by
    intro t c ht hc hr
    refine ⟨ok_done ht hc, fun i h3 h4 _ _ => by rw [rd_done ht hc (by omega)]; exact hr i (by omega) h4 (by omega) (by omega), .inl ⟨?_, .inl ⟨?_, ?_⟩⟩⟩
    · rw [rd_done ht hc (by omega), hr 0 (by omega) (by omega) (by omega) (by omega), h0]
    · rw [rd_done ht hc (by omega)]; exact hr _ (by omega) (by omega) (by omega) (by omega)
    · rw [rd_done ht hc (by omega)]; exact hr _ (by omega) (by omega) (by omega) (by omega)
  have keyB : ∀ t c, Ok n t → Cok n c → (∀ i : Int, 3 ≤ i → i < n → i ≠ 2 * p + 1 → i ≠ 2 * p + 2 → rd t c i = rd s [] i) → rd t c 0 = headB p → rd t c 1 = lo x → rd t c 2 = hi x → Mid n s p x (doneS t c) := by
    intro t c ht hc hr r0 r1 r2
    refine ⟨ok_done ht hc, fun i h3 h4 h5 h6 => by rw [rd_done ht hc (by omega)]; exact hr i (by omega) h4 h5 h6, .inr ⟨?_, ?_, ?_⟩⟩
    · rw [rd_done ht hc (by omega), r0]
    · rw [rd_done ht hc (by omega), r1]
    · rw [rd_done ht hc (by omega), r2]
  have dn : ∀ t, doneS t [] = t := fun t => rfl
  have aS : Mid n s p x s := by have := keyA s [] hs cok_nil (fun i _ _ _ _ => rfl); exact this
  have a1 : Mid n s p x (s1 s x) := by
    have := keyA (s1 s x) [] o1 cok_nil (fun i h1 h2 h3 h4 => by rw [rdS1 hn hs hx (by omega), if_neg (by omega), if_neg (by omega)])
    exact this
  have b2 : Mid n s p x (s2 s p x) := by
    have := keyB (s2 s p x) [] o2 cok_nil (fun i h1 h2 h3 h4 => by rw [rdS2 hn hs hx (by omega), if_neg (by omega), if_neg (by omega), if_neg (by omega)])
      (by rw [rdS2 hn hs hx (by omega)]; rfl) (by rw [rdS2 hn hs hx (by omega)]; rfl) (by rw [rdS2 hn hs hx (by omega)]; rfl)
    exact this
  have b3 : Mid n s p x (s3 s p x) := by
    have := keyB (s3 s p x) [] o3 cok_nil (fun i h1 h2 h3 h4 => by rw [rdS3 hn hs hp hx (by omega), if_neg (by omega), if_neg (by omega), if_neg (by omega), if_neg (by omega), if_neg (by omega)])
      (by rw [rdS3 hn hs hp hx (by omega), if_neg (by omega), if_neg (by omega)]; rfl) (by rw [rdS3 hn hs hp hx (by omega), if_neg (by omega), if_neg (by omega)]; rfl) (by rw [rdS3 hn hs hp hx (by omega), if_neg (by omega), if_neg (by omega)]; rfl)
    exact this
  have f4 : Fin n s p x (s4 s p x) := by
    refine ⟨o4, fun i h1 h2 h3 h4 => by rw [rdS4 hn hs hp hx (by omega), if_neg (by omega), if_neg (by omega), if_neg (by omega), if_neg (by omega), if_neg (by omega)], by rw [rdS4 hn hs hp hx (by omega)]; rfl, ?_, ?_⟩
    · rw [rdS4 hn hs hp hx (by omega), if_neg (by omega), if_neg (by omega), if_pos rfl]
    · rw [rdS4 hn hs hp hx (by omega), if_neg (by omega), if_pos rfl]
  match k with
  | 0 => exact ⟨s, crash_nil hn1 hs, aS, fun h => by omega⟩
  | 1 =>
    obtain ⟨ms, hm⟩ := crash_ok (keep := keep) hn1 hs c1
    refine ⟨_, hm, ?_, fun h => by omega⟩
    rcases kept1 (w := ⟨1, lo x⟩) (ms := ms) with h | h <;> rw [h]
    · exact aS
    · exact keyA _ _ hs c1 (fun i h1 h2 h3 h4 => by rw [rd1, if_neg (by omega)])
  | 2 =>
    obtain ⟨ms, hm⟩ := crash_ok (keep := keep) hn1 hs c2
    refine ⟨_, hm, ?_, fun h => by omega⟩
    rcases kept2 (v := ⟨1, lo x⟩) (w := ⟨2, hi x⟩) (ms := ms) with h | h | h | h <;> rw [h]
    · exact aS
    · exact keyA _ _ hs c1 (fun i h1 h2 h3 h4 => by rw [rd1, if_neg (by omega)])
    · exact keyA _ _ hs c1' (fun i h1 h2 h3 h4 => by rw [rd1, if_neg (by omega)])
    · exact a1
  | 3 => exact ⟨_, crash_nil hn1 o1, a1, fun h => by omega⟩
  | 4 =>
    obtain ⟨ms, hm⟩ := crash_ok (keep := keep) hn1 o1 c3
    refine ⟨_, hm, ?_, fun h => by omega⟩
    rcases kept1 (w := ⟨0, headB p⟩) (ms := ms) with h | h <;> rw [h]
    · exact a1
    · exact b2
  | 5 => exact ⟨_, crash_nil hn1 o2, b2, fun h => by omega⟩
  | 6 =>
    obtain ⟨ms, hm⟩ := crash_ok (keep := keep) hn1 o2 c4
    refine ⟨_, hm, ?_, fun h => by omega⟩
    rcases kept1 (w := ⟨2 * p + 1, lo x⟩) (ms := ms) with h | h <;> rw [h]
    · exact b2
    · exact keyB _ _ o2 c4 (fun i h1 h2 h3 h4 => by rw [rd1, if_neg (by omega), rdS2 hn hs hx (by omega), if_neg (by omega), if_neg (by omega), if_neg (by omega)])
        (by rw [rd1, if_neg (by omega), rdS2 hn hs hx (by omega)]; rfl) (by rw [rd1, if_neg (by omega), rdS2 hn hs hx (by omega)]; rfl) (by rw [rd1, if_neg (by omega), rdS2 hn hs hx (by omega)]; rfl)
  | 7 =>
    obtain ⟨ms, hm⟩ := crash_ok (keep := keep) hn1 o2 c5
    refine ⟨_, hm, ?_, fun h => by omega⟩
    rcases kept2 (v := ⟨2 * p + 1, lo x⟩) (w := ⟨2 * p + 2, hi x⟩) (ms := ms) with h | h | h | h <;> rw [h]
    · exact b2
    · exact keyB _ _ o2 c4 (fun i h1 h2 h3 h4 => by rw [rd1, if_neg (by omega), rdS2 hn hs hx (by omega), if_neg (by omega), if_neg (by omega), if_neg (by omega)])
        (by rw [rd1, if_neg (by omega), rdS2 hn hs hx (by omega)]; rfl) (by rw [rd1, if_neg (by omega), rdS2 hn hs hx (by omega)]; rfl) (by rw [rd1, if_neg (by omega), rdS2 hn hs hx (by omega)]; rfl)
    · exact keyB _ _ o2 c4' (fun i h1 h2 h3 h4 => by rw [rd1, if_neg (by omega), rdS2 hn hs hx (by omega), if_neg (by omega), if_neg (by omega), if_neg (by omega)])
        (by rw [rd1, if_neg (by omega), rdS2 hn hs hx (by omega)]; rfl) (by rw [rd1, if_neg (by omega), rdS2 hn hs hx (by omega)]; rfl) (by rw [rd1, if_neg (by omega), rdS2 hn hs hx (by omega)]; rfl)
    · exact b3
  | 8 => exact ⟨_, crash_nil hn1 o3, b3, fun h => by omega⟩
  | 9 =>
    obtain ⟨ms, hm⟩ := crash_ok (keep := keep) hn1 o3 c6
    refine ⟨_, hm, ?_, fun h => by omega⟩
    rcases kept1 (w := ⟨0, noughts⟩) (ms := ms) with h | h <;> rw [h]
    · exact b3
    · exact f4.mid
  | k + 10 => exact ⟨_, crash_nil hn1 o4, f4.mid, fun _ => f4⟩
end
end Jn
end Go.Proofs.Yteghmlafodkfpaa
