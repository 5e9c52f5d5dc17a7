/- layer 6, plain: schedulers; what is right; what each act does. -/
import Derived.Test.YtfmbfgoofiojcaaLB
import Derived.Test.YtfmbfgoofiojcaaVA
namespace Go.Proofs.Ytfmbfgoofiojcaa
open Go.RowKit Lk
set_option linter.unusedVariables false
set_option linter.unusedSimpArgs false
structure Jb where
  who : Int
  kind : Int
  page : Int
  data : ByteArray
  tries : Int
def encJb (j : Jb) : List SC := [.pv (.int .i64 j.who), .pv (.int .i64 j.kind), .pv (.int .i64 j.page), .pv (.string j.data), .pv (.int .i64 j.tries)]
def encJs (l : List Jb) : List SC := [.sl 5 (l.map encJb)]
def zJ : Jb := ⟨0, 0, 0, ⟨#[]⟩, 0⟩
structure Sd where
  l : Ls
  js : List (List Jb)
  dv : Dv
  out : List Jb
def encSd (s : Sd) : List SC := [.sl 3 (s.l.l.map encLn), .pv (.int .i64 s.l.at'), .pv (.bool s.l.g), .sl 1 (s.js.map encJs), .sl 1 (s.dv.disk.sectors.map encS), .sl 2 (s.dv.disk.cache.map encWr), .pv (.int .i64 s.dv.next), .sl 4 (s.dv.flight.map encRq), .sl 5 (s.out.map encJb)]
namespace Sc
def costI (k : Int) : Int := if k = 1 then 2 else if k = 2 then 4 else if k = 3 then 1 else 0
def newB (d : Dk) (j : Jb) : Bool := (j.tries == 0) && ((submitV ⟨d, 0, []⟩ j.kind j.page j.data).2.2 == 0)
def laneR (d : Dk) (i : Nat) (l : List Jb) (cs : List Int) : Bool := decide (l.map (fun j => costI j.kind) = cs) && l.all fun j => (j.who == (i : Int)) && newB d j
def waitsR (s : Sd) : Bool := decide (s.js.length = s.l.l.length) && (List.range s.js.length).all fun i => laneR s.dv.disk i (s.js.getD i []) ((s.l.l.getD i default).cs)
def hasL (s : Sd) (n : Int) : Bool := decide (0 ≤ n ∧ n < s.l.l.length)
def fitJ (s : Sd) (j : Jb) (r : Rq) : Bool := decide (j.kind = r.kind ∧ j.page = r.page ∧ j.data = r.data) && (hasL s j.who && decide (1 ≤ j.tries ∧ j.tries ≤ 3))
def flightR (s : Sd) : Bool := decide (s.out.length = s.dv.flight.length) && (List.range s.out.length).all fun i => fitJ s (s.out.getD i zJ) (s.dv.flight.getD i noRq)
def rightS (s : Sd) : Bool := right s.l && rightV s.dv && waitsR s && flightR s
def zS : Sd := ⟨⟨[], 0, false⟩, [], ⟨⟨[], []⟩, 0, []⟩, []⟩
def newS (d : Dv) (ws : List Int) : Sd × Int := if rightV d = false ∨ d.flight ≠ [] then (zS, 1) else if (newI ws).2 ≠ 0 then (zS, (newI ws).2) else (⟨(newI ws).1, List.replicate ws.length [], d, []⟩, 0)
def askS (s : Sd) (j : Jb) : Sd × Int := if rightS s = false ∨ hasL s j.who = false ∨ newB s.dv.disk j = false then (s, 1) else if (pushI s.l j.who (costI j.kind)).2 ≠ 0 then (s, (pushI s.l j.who (costI j.kind)).2) else (⟨(pushI s.l j.who (costI j.kind)).1, s.js.set j.who.toNat (s.js.getD j.who.toNat [] ++ [j]), s.dv, s.out⟩, 0)
def more (j : Jb) : Jb := ⟨j.who, j.kind, j.page, j.data, j.tries + 1⟩
def submS (s : Sd) (j : Jb) : Sd := ⟨s.l, s.js, (submitV s.dv j.kind j.page j.data).1, s.out ++ [more j]⟩
def goes (s : Sd) : Bool := decide (s.dv.flight.length < 4) && (decide (s.dv.next < 2147483647) && (nextI s.l).2.2.2)
def stepS (s : Sd) : Sd := submS ⟨(nextI s.l).1, s.js.set (nextI s.l).2.1.toNat ((s.js.getD (nextI s.l).2.1.toNat []).tail), s.dv, s.out⟩ ((s.js.getD (nextI s.l).2.1.toNat []).headD zJ)
def pumpN : Nat → Sd → Sd
  | 0, s => s
  | n + 1, s => if goes s = true then pumpN n (stepS s) else s
def pumpS (s : Sd) : Sd := if rightS s = false then s else pumpN 5 s
def doneS (s : Sd) (i : Int) (fault : Bool) : Sd × Jb × Int × Bool :=
  if rightS s = false ∨ i < 0 ∨ (s.out.length : Int) ≤ i then (s, zJ, 1, false)
  else if (finishV s.dv i fault).2.2 = 8 ∧ (s.out.getD i.toNat zJ).tries < 3 ∧ (finishV s.dv i fault).1.next < 2147483647 then (submS ⟨s.l, s.js, (finishV s.dv i fault).1, s.out.eraseIdx i.toNat⟩ (s.out.getD i.toNat zJ), zJ, 0, false)
  else (⟨s.l, s.js, (finishV s.dv i fault).1, s.out.eraseIdx i.toNat⟩, ⟨(s.out.getD i.toNat zJ).who, (s.out.getD i.toNat zJ).kind, (s.out.getD i.toNat zJ).page, (finishV s.dv i fault).2.1.data, (s.out.getD i.toNat zJ).tries⟩, (finishV s.dv i fault).2.2, true)
def crashS (s : Sd) (keep : List Int) : Sd := if rightS s = false then s else (newS (crashV s.dv keep) (s.l.l.map Ln.w)).1
/-- a right scheduler -/
structure Rs (s : Sd) : Prop where
  l : right s.l = true
  d : rightV s.dv = true
  n : s.js.length = s.l.l.length
  cost : ∀ i (h : i < s.js.length) (h2 : i < s.l.l.length), (s.js[i].map fun j => costI j.kind) = s.l.l[i].cs
  wait : ∀ i (h : i < s.js.length), ∀ j ∈ s.js[i], j.who = (i : Int) ∧ j.tries = 0 ∧ isB j.kind j.page j.data = true
  m : s.out.length = s.dv.flight.length
  fl : ∀ i (h : i < s.out.length) (h2 : i < s.dv.flight.length), fitJ s s.out[i] s.dv.flight[i] = true
theorem idle_right {d : Dv} (h : rightV d = true) : rightV ⟨d.disk, 0, []⟩ = true := by
  obtain ⟨h1, h2, _⟩ := rightV_len h
  unfold rightV
  simp [h1, h2, okF]
theorem newB_iff {d : Dv} (h : rightV d = true) {j : Jb} : newB d.disk j = true ↔ j.tries = 0 ∧ isB j.kind j.page j.data = true := by
  unfold newB submitV
  rw [idle_right h]
  cases isB j.kind j.page j.data <;> simp
theorem rs_iff {s : Sd} : rightS s = true ↔ Rs s := by
  unfold rightS waitsR flightR
  simp only [Bool.and_eq_true, decide_eq_true_eq, List.all_eq_true, List.mem_range]
  constructor
  · rintro ⟨⟨⟨h1, h2⟩, h3, h4⟩, h5, h6⟩
    refine ⟨h1, h2, h3, fun i h hi => ?_, fun i h j hj => ?_, h5, fun i h hi => ?_⟩
    · have := h4 i h
      unfold laneR at this
      rw [Bool.and_eq_true, decide_eq_true_iff] at this
      rw [List.getD_eq_getElem?_getD, List.getD_eq_getElem?_getD, List.getElem?_eq_getElem h, List.getElem?_eq_getElem hi] at this
      exact this.1
    · have := h4 i h
      unfold laneR at this
      rw [Bool.and_eq_true, List.all_eq_true, List.getD_eq_getElem?_getD, List.getElem?_eq_getElem h] at this
      have := this.2 j hj
      rw [Bool.and_eq_true, beq_iff_eq] at this
      exact ⟨this.1, (newB_iff h2).1 this.2⟩
    · have := h6 i h
      rw [List.getD_eq_getElem?_getD, List.getD_eq_getElem?_getD, List.getElem?_eq_getElem h, List.getElem?_eq_getElem hi] at this
      exact this
  · intro r
    refine ⟨⟨⟨r.l, r.d⟩, r.n, fun i h => ?_⟩, r.m, fun i h => ?_⟩
    · have hi : i < s.l.l.length := by have := r.n; omega
      unfold laneR
      rw [Bool.and_eq_true, decide_eq_true_iff, List.all_eq_true, List.getD_eq_getElem?_getD, List.getD_eq_getElem?_getD, List.getElem?_eq_getElem h, List.getElem?_eq_getElem hi]
      refine ⟨r.cost i h hi, fun j hj => ?_⟩
      obtain ⟨a, b⟩ := r.wait i h j hj
      rw [Bool.and_eq_true, beq_iff_eq]
      exact ⟨a, (newB_iff r.d).2 b⟩
    · have hi : i < s.dv.flight.length := by have := r.m; omega
      rw [List.getD_eq_getElem?_getD, List.getD_eq_getElem?_getD, List.getElem?_eq_getElem h, List.getElem?_eq_getElem hi]
      exact r.fl i h hi
theorem Rs.len {s : Sd} (h : Rs s) : s.l.l.length ≤ 6 ∧ s.js.length ≤ 6 ∧ s.dv.flight.length ≤ 4 ∧ s.out.length ≤ 4 ∧ (∀ l ∈ s.js, l.length ≤ 200) ∧ (∀ y ∈ s.l.l, y.cs.length ≤ 200) ∧ 0 ≤ s.dv.next ∧ s.dv.next ≤ 2147483647 := by
  have h1 := lright_len h.l
  obtain ⟨_, _, a, b, c, _⟩ := rightV_len h.d
  have hc : ∀ y ∈ s.l.l, y.cs.length ≤ 200 := fun y hy => by
    obtain ⟨k, hk, rfl⟩ := List.getElem_of_mem hy
    exact (okL_iff.1 (right_get h.l hk)).2.2.1
  refine ⟨h1, by have := h.n; omega, c, by have := h.m; omega, fun l hl => ?_, hc, a, b⟩
  obtain ⟨k, hk, rfl⟩ := List.getElem_of_mem hl
  have hi : k < s.l.l.length := by have := h.n; omega
  have := congrArg List.length (h.cost k hk hi)
  rw [List.length_map] at this
  rw [this]
  exact hc _ (List.getElem_mem hi)
theorem cost_ok {k p : Int} {s : ByteArray} (h : isB k p s = true) : okC (costI k) = true := by
  rcases isB_cases h with ⟨e, _⟩ | ⟨e, _⟩ | ⟨e, _⟩ <;> subst e <;> decide
theorem lanes_of {s : Sd} (h : Rs s) {n : Int} (hn : hasL s n = true) : ∃ k : Nat, n = k ∧ k < s.js.length ∧ k < s.l.l.length := by
  unfold hasL at hn
  rw [decide_eq_true_iff] at hn
  have := h.n
  exact ⟨n.toNat, by omega, by omega, by omega⟩
theorem fit_of {s t : Sd} (e : s.l.l.length = t.l.l.length) {j : Jb} {r : Rq} (h : fitJ s j r = true) : fitJ t j r = true := by
  unfold fitJ hasL at h ⊢
  rwa [← e]
/-- a job that is asked -/
theorem rs_ask {s : Sd} (h : Rs s) (j : Jb) : Rs (askS s j).1 := by
  unfold askS
  split
  · exact h
  rename_i hc
  split
  · exact h
  rename_i hp
  have hh : hasL s j.who = true := by cases e : hasL s j.who; exact absurd (.inr (.inl e)) hc; rfl
  have hb : newB s.dv.disk j = true := by cases e : newB s.dv.disk j; exact absurd (.inr (.inr e)) hc; rfl
  obtain ⟨k, ek, k1, k2⟩ := lanes_of h hh
  obtain ⟨t0, hB⟩ := (newB_iff h.d).1 hb
  have hbad : ¬ badP s.l k (costI j.kind) := fun hb => by
    rcases hb with e | e | e | e
    · rw [h.l] at e; exact Bool.noConfusion e
    · omega
    · omega
    · rw [cost_ok hB] at e; exact Bool.noConfusion e
  rw [ek] at hp ⊢
  have hfull : s.l.l[k].cs.length ≠ 200 := fun e => hp (by rw [push_full hbad k2 e]; exact (show (7 : Int) ≠ 0 by decide))
  have hpush := push_ok hbad k2 hfull
  rw [hpush, Int.toNat_natCast, List.getD_eq_getElem?_getD, List.getElem?_eq_getElem k1]
  show Rs ⟨⟨s.l.l.set k ⟨s.l.l[k].w, s.l.l[k].d, s.l.l[k].cs ++ [costI j.kind]⟩, s.l.at', s.l.g⟩, s.js.set k (s.js[k] ++ [j]), s.dv, s.out⟩
  refine ⟨?_, h.d, by simp [h.n], fun i hi hi2 => ?_, fun i hi x hx => ?_, h.m, fun i hi hi2 => ?_⟩
  · have hk := right_get h.l k2
    have hpos := right_iff.1 h.l
    obtain ⟨a, b, c, d⟩ := okL_iff.1 hk
    refine right_iff.2 ⟨by simpa using hpos.1, fun i hi => ?_⟩
    have hi' : i < s.l.l.length := by simpa using hi
    show okL (most ⟨_, s.l.at', s.l.g⟩ i) ((s.l.l.set k _)[i]'hi) = true
    have em : most ⟨s.l.l.set k ⟨s.l.l[k].w, s.l.l[k].d, s.l.l[k].cs ++ [costI j.kind]⟩, s.l.at', s.l.g⟩ i = most s.l i := rfl
    rw [em, List.getElem_set]
    split
    · rename_i e
      subst e
      exact okL_iff.2 ⟨a, b, by rw [List.length_append]; simp; omega, by rw [List.all_append, d]; simp [cost_ok hB]⟩
    · exact hpos.2 i hi'
  · have hi' : i < s.js.length := by simpa using hi
    have hi2' : i < s.l.l.length := by simpa using hi2
    show ((s.js.set k (s.js[k] ++ [j]))[i]'hi).map _ = ((s.l.l.set k _)[i]'hi2).cs
    rw [List.getElem_set, List.getElem_set]
    split
    · rw [List.map_append, h.cost k k1 k2]; rfl
    · exact h.cost i hi' hi2'
  · have hi' : i < s.js.length := by simpa using hi
    have hx2 : x ∈ (s.js.set k (s.js[k] ++ [j]))[i]'hi := hx
    rw [List.getElem_set] at hx2
    split at hx2
    · rename_i e
      subst e
      rcases List.mem_append.1 hx2 with hx2 | hx2
      · exact h.wait k k1 x hx2
      · rw [List.mem_singleton.1 hx2]; exact ⟨ek, t0, hB⟩
    · exact h.wait i hi' x hx2
  · exact fit_of (s := s) (by simp) (h.fl i hi hi2)
theorem subm_ok {d : Dv} {k p : Int} {s : ByteArray} (h : rightV d = true) (hn : d.next < 2147483647) (hf : d.flight.length < 4) (hB : isB k p s = true) :
    submitV d k p s = (⟨d.disk, d.next + 1, d.flight ++ [⟨d.next, k, p, s⟩]⟩, d.next, 0) ∧ rightV ⟨d.disk, d.next + 1, d.flight ++ [⟨d.next, k, p, s⟩]⟩ = true := by
  obtain ⟨h1, h2, h3, h4, h5, h6⟩ := rightV_len h
  refine ⟨?_, ?_⟩
  · unfold submitV
    rw [if_neg (by rw [h, hB]; simp; omega), if_neg (by omega)]
  · unfold rightV
    simp only [Bool.and_eq_true, decide_eq_true_eq]
    refine ⟨⟨⟨⟨⟨h1, h2⟩, by omega⟩, by omega⟩, by simp; omega⟩, okF_snoc hB (by omega) h6⟩
/-- a job that is sent off -/
theorem rs_subm {s : Sd} {j : Jb} (hl : right s.l = true) (hd : rightV s.dv = true) (hn : s.js.length = s.l.l.length)
    (hc : ∀ i (h : i < s.js.length) (h2 : i < s.l.l.length), (s.js[i].map fun j => costI j.kind) = s.l.l[i].cs)
    (hw : ∀ i (h : i < s.js.length), ∀ j ∈ s.js[i], j.who = (i : Int) ∧ j.tries = 0 ∧ isB j.kind j.page j.data = true)
    (hm : s.out.length = s.dv.flight.length) (hf : ∀ i (h : i < s.out.length) (h2 : i < s.dv.flight.length), fitJ s s.out[i] s.dv.flight[i] = true)
    (h4 : s.dv.flight.length < 4) (hx : s.dv.next < 2147483647) (hj : isB j.kind j.page j.data = true) (hwho : hasL s j.who = true) (ht : 0 ≤ j.tries ∧ j.tries ≤ 2) : Rs (submS s j) := by
  obtain ⟨e1, e2⟩ := subm_ok hd hx h4 hj
  unfold submS
  rw [e1]
  refine ⟨hl, e2, hn, hc, hw, by simp [hm], fun i hi hi2 => ?_⟩
  show fitJ _ ((s.out ++ [more j])[i]'hi) ((s.dv.flight ++ [_])[i]'hi2) = true
  by_cases hlt : i < s.out.length
  · rw [List.getElem_append_left hlt, List.getElem_append_left (by omega)]
    exact fit_of (s := s) rfl (hf i hlt (by omega))
  · have hi' : i < (s.out ++ [more j]).length := hi
    rw [List.length_append, List.length_singleton] at hi'
    have ei : i = s.out.length := by omega
    subst ei
    rw [List.getElem_append_right (by omega), List.getElem_append_right (by omega)]
    simp only [Nat.sub_self, hm, List.getElem_cons_zero]
    unfold fitJ
    rw [Bool.and_eq_true, Bool.and_eq_true, decide_eq_true_iff, decide_eq_true_iff]
    exact ⟨⟨rfl, rfl, rfl⟩, hwho, by show 1 ≤ j.tries + 1 ∧ j.tries + 1 ≤ 3; omega⟩
/-- what goes: the lane, its first job -/
theorem goes_at {s : Sd} (h : Rs s) (hg : goes s = true) : ∃ (k : Nat) (j : Jb) (t : List Jb), k < s.js.length ∧ k < s.l.l.length ∧ s.js[k]? = some (j :: t) ∧ (nextI s.l).2.1 = k ∧ s.dv.flight.length < 4 ∧ s.dv.next < 2147483647 ∧
    right (nextI s.l).1 = true ∧ costs (nextI s.l).1 = (costs s.l).set k ((costs s.l)[k]?.getD []).tail := by
  unfold goes at hg
  rw [Bool.and_eq_true, Bool.and_eq_true, decide_eq_true_iff, decide_eq_true_iff] at hg
  obtain ⟨h1, h2, h3⟩ := hg
  have hw : waits s.l = true := by
    cases e : waits s.l
    · rw [next_none e] at h3; exact Bool.noConfusion h3
    · rfl
  obtain ⟨k, k1, k2, k3, k4, k5, k6, k7, k8⟩ := next_facts h.l hw
  have hk : k < s.js.length := by have := h.n; omega
  have hck : (costs s.l)[k]? = some s.l.l[k].cs := by unfold costs; rw [List.getElem?_map, List.getElem?_eq_getElem k1]; rfl
  have hcost := h.cost k hk k1
  rw [hck] at k5
  have k5' := Option.some.inj k5
  rw [k5'] at hcost
  cases ej : s.js[k] with
  | nil => rw [ej] at hcost; simp at hcost
  | cons j t => exact ⟨k, j, t, hk, k1, by rw [List.getElem?_eq_getElem hk, ej], k2, h1, h2, k4, k6⟩
theorem step_eq {s : Sd} {k : Nat} {j : Jb} {t : List Jb} (e : s.js[k]? = some (j :: t)) (hk : (nextI s.l).2.1 = k) : stepS s = submS ⟨(nextI s.l).1, s.js.set k t, s.dv, s.out⟩ j := by
  unfold stepS
  rw [hk, Int.toNat_natCast, List.getD_eq_getElem?_getD, e]
  rfl
theorem rs_step {s : Sd} (h : Rs s) (hg : goes s = true) : Rs (stepS s) := by
  obtain ⟨k, j, t, hk, hkl, e, e2, h4, hx, hr, hcs⟩ := goes_at h hg
  have ejk : s.js[k] = j :: t := by rw [List.getElem?_eq_getElem hk] at e; exact Option.some.inj e
  have hlen : (nextI s.l).1.l.length = s.l.l.length := by have := congrArg List.length hcs; simpa [costs] using this
  obtain ⟨w1, w2, w3⟩ := h.wait k hk j (by rw [ejk]; simp)
  rw [step_eq e e2]
  refine rs_subm hr h.d (by show (s.js.set k t).length = _; rw [List.length_set, hlen]; exact h.n) (fun i hi hi2 => ?_) (fun i hi x hx => ?_) h.m (fun i hi hi2 => fit_of (s := s) hlen.symm (h.fl i hi hi2)) h4 hx w3 (by
    unfold hasL
    rw [decide_eq_true_iff, w1]
    show 0 ≤ (k : Int) ∧ (k : Int) < (nextI s.l).1.l.length
    omega) (by omega)
  · have hi' : i < s.js.length := by simpa using hi
    have hi2' : i < s.l.l.length := by have : i < (nextI s.l).1.l.length := hi2; omega
    have hnth : (costs (nextI s.l).1)[i]? = some ((nextI s.l).1.l[i]'hi2).cs := by unfold costs; rw [List.getElem?_map, List.getElem?_eq_getElem hi2]; rfl
    rw [hcs, List.getElem?_set] at hnth
    have hck : (costs s.l)[k]? = some s.l.l[k].cs := by unfold costs; rw [List.getElem?_map, List.getElem?_eq_getElem hkl]; rfl
    show ((s.js.set k t)[i]'hi).map _ = ((nextI s.l).1.l[i]'hi2).cs
    rw [List.getElem_set]
    split
    · rename_i ei
      subst ei
      rw [if_pos rfl, if_pos (by unfold costs; simpa using hkl), hck] at hnth
      have hn2 := Option.some.inj hnth
      rw [← hn2]
      have := h.cost k hk hkl
      rw [ejk] at this
      rw [Option.getD_some, ← this]; rfl
    · rename_i ei
      rw [if_neg ei] at hnth
      have hci : (costs s.l)[i]? = some s.l.l[i].cs := by unfold costs; rw [List.getElem?_map, List.getElem?_eq_getElem hi2']; rfl
      rw [hci] at hnth
      rw [← Option.some.inj hnth]
      exact h.cost i hi' hi2'
  · have hi' : i < s.js.length := by simpa using hi
    have hx2 : x ∈ (s.js.set k t)[i]'hi := hx
    rw [List.getElem_set] at hx2
    split at hx2
    · rename_i ei
      subst ei
      exact h.wait k hk x (by rw [ejk]; exact List.mem_cons_of_mem _ hx2)
    · exact h.wait i hi' x hx2
theorem rs_pumpN : ∀ (n : Nat) {s : Sd}, Rs s → Rs (pumpN n s)
  | 0, _, h => h
  | n + 1, s, h => by
    unfold pumpN
    split
    · rename_i hg; exact rs_pumpN n (rs_step h hg)
    · exact h
theorem rs_pump {s : Sd} (h : Rs s) : Rs (pumpS s) := by
  unfold pumpS
  split
  · exact h
  · exact rs_pumpN 5 h
theorem eraseIdx_get {α : Type} {l : List α} {k i : Nat} (h : i < (l.eraseIdx k).length) (hk : k < l.length) : ∃ (i2 : Nat) (h2 : i2 < l.length), (l.eraseIdx k)[i] = l[i2] ∧ i2 = if i < k then i else i + 1 := by
  have hl := List.length_eraseIdx_of_lt hk
  refine ⟨if i < k then i else i + 1, by split <;> omega, ?_, rfl⟩
  rw [List.getElem_eraseIdx]
  split
  · rename_i e; simp only [if_pos e]
  · rename_i e; simp only [if_neg e]
theorem fin_right {d : Dv} {k : Nat} {f : Bool} (h : rightV d = true) (hk : k < d.flight.length) : rightV (finishV d k f).1 = true ∧ (finishV d k f).1.flight = d.flight.eraseIdx k ∧ (finishV d k f).1.next = d.next := by
  obtain ⟨h1, h2, h3, h4, h5, h6⟩ := rightV_len h
  have hle := List.length_eraseIdx_of_lt hk
  have key : ∀ dk : Dk, rightB dk = true → 35 ≤ dk.sectors.length → rightV ⟨dk, d.next, d.flight.eraseIdx k⟩ = true := fun dk a b => by
    unfold rightV
    simp only [Bool.and_eq_true, decide_eq_true_eq]
    exact ⟨⟨⟨⟨⟨a, b⟩, h3⟩, h4⟩, by omega⟩, okF_erase k h6⟩
  unfold finishV
  rw [dif_pos ⟨h, by omega, by omega⟩]
  simp only [Int.toNat_natCast]
  cases f
  · exact ⟨key _ (doV_right h1) (by rw [doV_len]; exact h2), rfl, rfl⟩
  · exact ⟨key _ h1 h2, rfl, rfl⟩
theorem rs_done {s : Sd} (h : Rs s) (i : Int) (f : Bool) : Rs (doneS s i f).1 := by
  unfold doneS
  split
  · exact h
  rename_i hc
  obtain ⟨k, ek⟩ : ∃ k : Nat, i = k := ⟨i.toNat, by omega⟩
  subst ek
  have hk : k < s.out.length := by omega
  have hkf : k < s.dv.flight.length := by have := h.m; omega
  obtain ⟨r1, r2, r3⟩ := fin_right (f := f) h.d hkf
  have hm : (s.out.eraseIdx k).length = (finishV s.dv k f).1.flight.length := by rw [r2, List.length_eraseIdx_of_lt hk, List.length_eraseIdx_of_lt hkf, h.m]
  have hfl : ∀ a (ha : a < (s.out.eraseIdx k).length) (hb : a < (finishV s.dv k f).1.flight.length), fitJ s (s.out.eraseIdx k)[a] (finishV s.dv k f).1.flight[a] = true := fun a ha hb => by
    simp only [r2]
    obtain ⟨b1, c1, d1, e1⟩ := eraseIdx_get ha hk
    obtain ⟨b2, c2, d2, e2⟩ := eraseIdx_get (l := s.dv.flight) (k := k) (i := a) (by rw [← r2]; exact hb) hkf
    rw [d1, d2]
    have : b1 = b2 := by rw [e1, e2]
    subst this
    exact h.fl b1 c1 c2
  have hw := h.fl k hk hkf
  unfold fitJ at hw
  rw [Bool.and_eq_true, Bool.and_eq_true, decide_eq_true_iff, decide_eq_true_iff] at hw
  obtain ⟨⟨q1, q2, q3⟩, q4, q5⟩ := hw
  split
  · rename_i ht
    rw [Int.toNat_natCast, List.getD_eq_getElem?_getD, List.getElem?_eq_getElem hk] at ht ⊢
    refine rs_subm (s := ⟨s.l, s.js, (finishV s.dv k f).1, s.out.eraseIdx k⟩) h.l r1 h.n h.cost h.wait hm (fun a ha hb => fit_of (s := s) rfl (hfl a ha hb)) (by
      show (finishV s.dv k f).1.flight.length < 4
      rw [r2, List.length_eraseIdx_of_lt hkf]
      have := (rightV_len h.d).2.2.2.2.1; omega) ht.2.2 ?_ q4 ?_
    · show isB s.out[k].kind s.out[k].page s.out[k].data = true
      rw [q1, q2, q3]
      exact okF_is (rightV_len h.d).2.2.2.2.2 _ (List.getElem_mem hkf)
    · have := ht.2.1
      have e : (Option.getD (some s.out[k]) zJ) = s.out[k] := rfl
      rw [e] at this ⊢
      omega
  · exact ⟨h.l, r1, h.n, h.cost, h.wait, hm, fun a ha hb => fit_of (s := s) rfl (hfl a ha hb)⟩
theorem new_ok {d : Dv} {ws : List Int} (hd : rightV d = true) (hf : d.flight = []) (hw : okNew ws = true) : newS d ws = (⟨⟨ws.map fresh, 0, false⟩, List.replicate ws.length [], d, []⟩, 0) ∧ Rs (newS d ws).1 := by
  have e0 : newI ws = (⟨ws.map fresh, 0, false⟩, 0) := by unfold newI; rw [if_pos hw]
  have e : newS d ws = (⟨⟨ws.map fresh, 0, false⟩, List.replicate ws.length [], d, []⟩, 0) := by
    unfold newS
    rw [if_neg (by rw [hd, hf]; simp), e0, if_neg (fun e => e rfl)]
  refine ⟨e, ?_⟩
  rw [e]
  have hr : right ⟨ws.map fresh, 0, false⟩ = true := by rw [right_new, hw]
  refine ⟨hr, hd, by simp, fun i h1 h2 => ?_, fun i h1 j hj => ?_, by simp [hf], fun i h1 => by simp at h1⟩
  · show (((List.replicate ws.length ([] : List Jb))[i]'h1).map _) = ((ws.map fresh)[i]'h2).cs
    rw [List.getElem_replicate, List.getElem_map]; rfl
  · have : j ∈ (List.replicate ws.length ([] : List Jb))[i]'h1 := hj
    rw [List.getElem_replicate] at this
    simp at this
theorem rs_crash {s : Sd} (h : Rs s) (keep : List Int) : Rs (crashS s keep) ∧ crashS s keep = ⟨⟨(s.l.l.map Ln.w).map fresh, 0, false⟩, List.replicate s.l.l.length [], ⟨crashD s.dv.disk keep, s.dv.next, []⟩, []⟩ := by
  obtain ⟨h1, h2, h3, h4, h5, h6⟩ := rightV_len h.d
  have ec : crashV s.dv keep = ⟨crashD s.dv.disk keep, s.dv.next, []⟩ := by unfold crashV; rw [if_pos h.d]
  have hr : rightV ⟨crashD s.dv.disk keep, s.dv.next, []⟩ = true := by
    unfold rightV
    simp only [Bool.and_eq_true, decide_eq_true_eq]
    exact ⟨⟨⟨⟨⟨crashD_right h1, by rw [(crash_len2 h1).1]; exact h2⟩, h3⟩, h4⟩, by simp⟩, rfl⟩
  obtain ⟨hp, hg⟩ := right_iff.1 h.l
  have hw : okNew (s.l.l.map Ln.w) = true := by
    unfold okNew
    rw [Bool.and_eq_true, decide_eq_true_iff, List.all_eq_true, List.length_map]
    refine ⟨by omega, fun w hw => ?_⟩
    obtain ⟨y, hy, rfl⟩ := List.mem_map.1 hw
    obtain ⟨k, hk, rfl⟩ := List.getElem_of_mem hy
    exact (okL_iff.1 (hg k hk)).1
  obtain ⟨n1, n2⟩ := new_ok hr rfl hw
  have e : crashS s keep = (newS ⟨crashD s.dv.disk keep, s.dv.next, []⟩ (s.l.l.map Ln.w)).1 := by
    unfold crashS
    rw [if_neg (by rw [rs_iff.2 h]; decide), ec]
  rw [e]
  refine ⟨n2, ?_⟩
  rw [n1, List.length_map]
end Sc
end Go.Proofs.Ytfmbfgoofiojcaa
namespace Go.Proofs.Ytfmbfgoofiojcaa
open Go.RowKit Lk
set_option linter.unusedVariables false
set_option linter.unusedSimpArgs false
namespace Sc
def sumL (l : List (List Jb)) : Nat := (l.map List.length).sum
def many (s : Sd) : Nat := s.out.length + sumL s.js
theorem sumL_set : ∀ {l : List (List Jb)} {k : Nat} (h : k < l.length) (x : List Jb), sumL (l.set k x) + l[k].length = sumL l + x.length
  | y :: l, 0, _, x => by simp [sumL]; omega
  | y :: l, k + 1, h, x => by
    have := sumL_set (l := l) (k := k) (by simpa using h) x
    simp only [sumL, List.set_cons_succ, List.map_cons, List.sum_cons, List.getElem_cons_succ] at this ⊢
    omega
theorem many_ask {s : Sd} (h : Rs s) (j : Jb) : ((askS s j).2 = 0 → many (askS s j).1 = many s + 1) ∧ ((askS s j).2 ≠ 0 → (askS s j).1 = s) ∧ (askS s j).1.dv = s.dv ∧ (askS s j).1.l.l.length = s.l.l.length ∧ weights (askS s j).1.l = weights s.l ∧ (askS s j).1.out = s.out := by
  unfold askS
  split
  · exact ⟨fun e => absurd (show (1 : Int) = 0 from e) (by decide), fun _ => rfl, rfl, rfl, rfl, rfl⟩
  rename_i hc
  split
  · rename_i hp
    exact ⟨fun e => absurd e hp, fun _ => rfl, rfl, rfl, rfl, rfl⟩
  rename_i hp
  have hh : hasL s j.who = true := by cases e : hasL s j.who; exact absurd (.inr (.inl e)) hc; rfl
  have hb : newB s.dv.disk j = true := by cases e : newB s.dv.disk j; exact absurd (.inr (.inr e)) hc; rfl
  obtain ⟨k, ek, k1, k2⟩ := lanes_of h hh
  obtain ⟨t0, hB⟩ := (newB_iff h.d).1 hb
  have hbad : ¬ badP s.l k (costI j.kind) := fun hb => by
    rcases hb with e | e | e | e
    · rw [h.l] at e; exact Bool.noConfusion e
    · omega
    · omega
    · rw [cost_ok hB] at e; exact Bool.noConfusion e
  rw [ek] at hp ⊢
  have hfull : s.l.l[k].cs.length ≠ 200 := fun e => hp (by rw [push_full hbad k2 e]; exact (show (7 : Int) ≠ 0 by decide))
  have hpush := push_ok hbad k2 hfull
  rw [hpush, Int.toNat_natCast, List.getD_eq_getElem?_getD, List.getElem?_eq_getElem k1]
  refine ⟨fun _ => ?_, fun e => absurd rfl e, rfl, by simp, ?_, rfl⟩
  · have := sumL_set k1 (s.js[k] ++ [j])
    rw [List.length_append, List.length_singleton] at this
    show s.out.length + sumL (s.js.set k (s.js[k] ++ [j])) = s.out.length + sumL s.js + 1
    omega
  · exact map_set_same Ln.w s.l.l k ⟨s.l.l[k].w, s.l.l[k].d, s.l.l[k].cs ++ [costI j.kind]⟩ (fun _ => rfl)
theorem step_facts {s : Sd} (h : Rs s) (hg : goes s = true) : many (stepS s) = many s ∧ (stepS s).dv.disk = s.dv.disk ∧ (stepS s).dv.next = s.dv.next + 1 ∧ (stepS s).l.l.length = s.l.l.length ∧ weights (stepS s).l = weights s.l ∧ (stepS s).dv.flight.length = s.dv.flight.length + 1 := by
  obtain ⟨k, j, t, hk, hkl, e, e2, h4, hx, hr, hcs⟩ := goes_at h hg
  have ejk : s.js[k] = j :: t := by rw [List.getElem?_eq_getElem hk] at e; exact Option.some.inj e
  obtain ⟨w1, w2, w3⟩ := h.wait k hk j (by rw [ejk]; simp)
  have hw : waits s.l = true := by
    cases e : waits s.l
    · unfold goes at hg
      rw [next_none e] at hg
      simp at hg
    · rfl
  obtain ⟨_, _, _, _, _, _, _, k7, _⟩ := next_facts h.l hw
  rw [step_eq e e2]
  unfold submS
  rw [(subm_ok h.d hx h4 w3).1]
  have hs := sumL_set hk t
  rw [ejk, List.length_cons] at hs
  refine ⟨?_, rfl, rfl, by have := congrArg List.length hcs; simpa [costs] using this, k7, by simp⟩
  show (s.out ++ [more j]).length + sumL (s.js.set k t) = s.out.length + sumL s.js
  rw [List.length_append, List.length_singleton]; omega
theorem pumpN_facts : ∀ (n : Nat) {s : Sd}, Rs s → many (pumpN n s) = many s ∧ (pumpN n s).dv.disk = s.dv.disk ∧ s.dv.next ≤ (pumpN n s).dv.next ∧ (pumpN n s).dv.next ≤ s.dv.next + 4 - s.dv.flight.length ∧ (pumpN n s).l.l.length = s.l.l.length ∧ weights (pumpN n s).l = weights s.l
  | 0, s, h => ⟨rfl, rfl, Int.le_refl _, by have := h.len.2.2.1; show s.dv.next ≤ _; omega, rfl, rfl⟩
  | n + 1, s, h => by
    unfold pumpN
    split
    · rename_i hg
      obtain ⟨a1, a2, a3, a4, a5, a6⟩ := step_facts h hg
      obtain ⟨b1, b2, b3, b4, b5, b6⟩ := pumpN_facts n (rs_step h hg)
      exact ⟨b1.trans a1, b2.trans a2, by omega, by omega, b5.trans a4, b6.trans a5⟩
    · exact ⟨rfl, rfl, Int.le_refl _, by have := h.len.2.2.1; omega, rfl, rfl⟩
theorem pump_facts {s : Sd} (h : Rs s) : many (pumpS s) = many s ∧ (pumpS s).dv.disk = s.dv.disk ∧ s.dv.next ≤ (pumpS s).dv.next ∧ (pumpS s).dv.next ≤ s.dv.next + 4 ∧ (pumpS s).l.l.length = s.l.l.length ∧ weights (pumpS s).l = weights s.l := by
  have e : pumpS s = pumpN 5 s := by unfold pumpS; rw [if_neg (by rw [rs_iff.2 h]; decide)]
  rw [e]
  obtain ⟨a1, a2, a3, a4, a5, a6⟩ := pumpN_facts 5 h
  exact ⟨a1, a2, a3, by omega, a5, a6⟩
/-- of one that is done -/
theorem done_facts {s : Sd} (h : Rs s) (i : Int) (f : Bool) (hx : s.dv.next < 2147483647) :
    (((doneS s i f).2.2.2 = true → many (doneS s i f).1 + 1 = many s ∧ 1 ≤ (doneS s i f).2.1.tries ∧ (doneS s i f).2.1.tries ≤ 3 ∧ ((doneS s i f).2.2.1 = 8 → (doneS s i f).2.1.tries = 3)) ∧ ((doneS s i f).2.2.2 = false → many (doneS s i f).1 = many s)) ∧
    s.dv.next ≤ (doneS s i f).1.dv.next ∧ (doneS s i f).1.dv.next ≤ s.dv.next + 1 ∧ (doneS s i f).1.l = s.l := by
  unfold doneS
  split
  · exact ⟨⟨fun e => Bool.noConfusion e, fun _ => rfl⟩, Int.le_refl _, by show s.dv.next ≤ _; omega, rfl⟩
  rename_i hc
  obtain ⟨k, ek⟩ : ∃ k : Nat, i = k := ⟨i.toNat, by omega⟩
  subst ek
  have hk : k < s.out.length := by omega
  have hkf : k < s.dv.flight.length := by have := h.m; omega
  obtain ⟨r1, r2, r3⟩ := fin_right (f := f) h.d hkf
  have hle := List.length_eraseIdx_of_lt hk
  have hw := h.fl k hk hkf
  unfold fitJ at hw
  rw [Bool.and_eq_true, Bool.and_eq_true, decide_eq_true_iff, decide_eq_true_iff] at hw
  obtain ⟨⟨q1, q2, q3⟩, q4, q5⟩ := hw
  have eo : s.out.getD (k : Int).toNat zJ = s.out[k] := by rw [Int.toNat_natCast, List.getD_eq_getElem?_getD, List.getElem?_eq_getElem hk]; rfl
  rw [eo, Int.toNat_natCast]
  split
  · rename_i ht
    have hB : isB s.out[k].kind s.out[k].page s.out[k].data = true := by
      rw [q1, q2, q3]
      exact okF_is (rightV_len h.d).2.2.2.2.2 _ (List.getElem_mem hkf)
    have hs := (subm_ok r1 ht.2.2 (by rw [r2, List.length_eraseIdx_of_lt hkf]; have := (rightV_len h.d).2.2.2.2.1; omega) hB).1
    unfold submS
    simp only [hs]
    refine ⟨⟨fun e => Bool.noConfusion e, fun _ => ?_⟩, by rw [r3]; omega, by rw [r3]; exact Int.le_refl _, trivial⟩
    show (s.out.eraseIdx k ++ [more s.out[k]]).length + sumL s.js = s.out.length + sumL s.js
    rw [List.length_append, List.length_singleton]; omega
  · rename_i ht
    refine ⟨⟨fun _ => ⟨?_, q5.1, q5.2, fun e => ?_⟩, fun e => Bool.noConfusion e⟩, by show s.dv.next ≤ (finishV s.dv k f).1.next; omega, by show (finishV s.dv k f).1.next ≤ _; omega, rfl⟩
    · show (s.out.eraseIdx k).length + sumL s.js + 1 = s.out.length + sumL s.js
      omega
    · have e2 : (finishV s.dv k f).2.2 = 8 := e
      have : ¬ s.out[k].tries < 3 := fun hlt => ht ⟨e2, hlt, by rw [r3]; exact hx⟩
      show s.out[k].tries = 3
      omega
/-- a lane that is filled with one job -/
def fullS (p : Int) (k : Nat) : Sd := ⟨⟨[⟨1, 0, List.replicate k 2⟩, ⟨1, 0, []⟩], 0, false⟩, [List.replicate k ⟨0, 1, p, ⟨#[]⟩, 0⟩, []], nV, []⟩
theorem rep_snoc {α : Type} (k : Nat) (x : α) : List.replicate k x ++ [x] = List.replicate (k + 1) x := by
  rw [List.replicate_succ', List.append_cancel_right_eq]
theorem nV_right : rightV nV = true := by decide +kernel
theorem isB_read {p : Int} (hp : 1 ≤ p ∧ p ≤ 16) : isB 1 p ⟨#[]⟩ = true := by
  unfold isB
  simp [hp.1, hp.2, nilL]
theorem full_rs {p : Int} (hp : 1 ≤ p ∧ p ≤ 16) : ∀ k : Nat, k ≤ 200 → Rs (fullS p k)
  | 0, _ => by
    obtain ⟨n1, n2⟩ := new_ok (d := nV) (ws := [1, 1]) nV_right rfl (by decide)
    rw [n1] at n2
    exact n2
  | k + 1, hk => by
    have ih := full_rs hp k (by omega)
    refine ⟨?_, nV_right, rfl, fun i h h2 => ?_, fun i h j hj => ?_, rfl, fun i h => by simp [fullS] at h⟩
    · have h1 := ih.l
      obtain ⟨a, b⟩ := right_iff.1 h1
      refine right_iff.2 ⟨by simp [fullS], fun i hi => ?_⟩
      have hi2 : i < 2 := by simpa [fullS] using hi
      rcases (by omega : i = 0 ∨ i = 1) with rfl | rfl
      · refine okL_iff.2 ⟨rfl, ⟨by simp [fullS], by unfold most; simp [fullS]⟩, by simp [fullS]; omega, ?_⟩
        show (List.replicate (k + 1) (2 : Int)).all okC = true
        rw [List.all_eq_true]
        intro x hx
        rw [List.eq_of_mem_replicate hx]; rfl
      · exact okL_iff.2 ⟨rfl, ⟨by simp [fullS], by unfold most; simp [fullS]⟩, by simp [fullS], rfl⟩
    · have hi2 : i < 2 := by simpa [fullS] using h
      rcases (by omega : i = 0 ∨ i = 1) with rfl | rfl
      · show (List.replicate (k + 1) _).map _ = List.replicate (k + 1) 2
        rw [List.map_replicate]; rfl
      · rfl
    · have hi2 : i < 2 := by simpa [fullS] using h
      rcases (by omega : i = 0 ∨ i = 1) with rfl | rfl
      · have hj2 : j ∈ List.replicate (k + 1) (⟨0, 1, p, ⟨#[]⟩, 0⟩ : Jb) := hj
        rw [List.eq_of_mem_replicate hj2]
        exact ⟨rfl, rfl, isB_read hp⟩
      · simp [fullS] at hj
theorem full_ask {p : Int} (hp : 1 ≤ p ∧ p ≤ 16) {k : Nat} (hk : k < 200) : askS (fullS p k) ⟨0, 1, p, ⟨#[]⟩, 0⟩ = (fullS p (k + 1), 0) := by
  have h := full_rs hp k (by omega)
  have hn : newB nV.disk ⟨0, 1, p, ⟨#[]⟩, 0⟩ = true := (newB_iff nV_right).2 ⟨rfl, isB_read hp⟩
  have hbad : ¬ badP (fullS p k).l (0 : Nat) (costI 1) := fun hb => by
    rcases hb with e | e | e | e
    · rw [h.l] at e; exact Bool.noConfusion e
    · exact absurd e (by decide)
    · simp [fullS] at e
    · exact absurd e (by decide)
  have hpush := push_ok (k := 0) hbad (by simp [fullS]) (by simp [fullS]; omega)
  unfold askS
  rw [if_neg (by rw [rs_iff.2 h]; show ¬ (true = false ∨ hasL (fullS p k) 0 = false ∨ newB nV.disk _ = false); rw [hn]; simp [hasL, fullS])]
  show (if (pushI (fullS p k).l (0 : Nat) (costI 1)).2 ≠ 0 then _ else _) = _
  rw [show (pushI (fullS p k).l (0 : Int) (costI (1 : Int))) = pushI (fullS p k).l ((0 : Nat) : Int) (costI 1) from rfl, hpush, if_neg (fun e => e rfl)]
  unfold fullS
  simp only [List.set_cons_zero, List.getElem_cons_zero, Prod.mk.injEq, and_true, Int.toNat_zero, List.getD_eq_getElem?_getD, List.getElem?_cons_zero, Option.getD_some, rep_snoc]
  rw [show costI 1 = 2 from rfl, rep_snoc]
theorem full_end {p : Int} (hp : 1 ≤ p ∧ p ≤ 16) : askS (fullS p 200) ⟨0, 1, p, ⟨#[]⟩, 0⟩ = (fullS p 200, 7) ∧ ∃ t, askS (fullS p 200) ⟨1, 1, p, ⟨#[]⟩, 0⟩ = (t, 0) ∧ t.js = [List.replicate 200 ⟨0, 1, p, ⟨#[]⟩, 0⟩, [⟨1, 1, p, ⟨#[]⟩, 0⟩]] := by
  have h := full_rs hp 200 (by omega)
  have hn0 : newB nV.disk ⟨0, 1, p, ⟨#[]⟩, 0⟩ = true := (newB_iff nV_right).2 ⟨rfl, isB_read hp⟩
  have hn1 : newB nV.disk ⟨1, 1, p, ⟨#[]⟩, 0⟩ = true := (newB_iff nV_right).2 ⟨rfl, isB_read hp⟩
  have hbad : ∀ q : Nat, q < 2 → ¬ badP (fullS p 200).l (q : Int) (costI 1) := fun q hq hb => by
    rcases hb with e | e | e | e
    · rw [h.l] at e; exact Bool.noConfusion e
    · omega
    · simp [fullS] at e; omega
    · exact absurd e (by decide)
  have p0 := push_full (k := 0) (hbad 0 (by omega)) (by simp [fullS]) (by show (List.replicate 200 (2 : Int)).length = 200; exact List.length_replicate)
  have p1 := push_ok (hbad 1 (by omega)) (by simp [fullS]) (by simp [fullS])
  refine ⟨?_, ?_⟩
  · unfold askS
    rw [if_neg (by rw [rs_iff.2 h]; show ¬ (true = false ∨ hasL (fullS p 200) 0 = false ∨ newB nV.disk _ = false); rw [hn0]; simp [hasL, fullS])]
    show (if (pushI (fullS p 200).l ((0 : Nat) : Int) (costI 1)).2 ≠ 0 then ((fullS p 200), (pushI (fullS p 200).l ((0 : Nat) : Int) (costI 1)).2) else _) = _
    rw [p0, if_pos (show (7 : Int) ≠ 0 by decide)]
  · refine ⟨⟨(pushI (fullS p 200).l ((1 : Nat) : Int) (costI 1)).1, [List.replicate 200 ⟨0, 1, p, ⟨#[]⟩, 0⟩, [⟨1, 1, p, ⟨#[]⟩, 0⟩]], nV, []⟩, ?_, rfl⟩
    unfold askS
    rw [if_neg (by rw [rs_iff.2 h]; show ¬ (true = false ∨ hasL (fullS p 200) 1 = false ∨ newB nV.disk _ = false); rw [hn1]; simp [hasL, fullS])]
    show (if (pushI (fullS p 200).l ((1 : Nat) : Int) (costI 1)).2 ≠ 0 then ((fullS p 200), (pushI (fullS p 200).l ((1 : Nat) : Int) (costI 1)).2) else (⟨(pushI (fullS p 200).l ((1 : Nat) : Int) (costI 1)).1, [List.replicate 200 ⟨0, 1, p, ⟨#[]⟩, 0⟩, [⟨1, 1, p, ⟨#[]⟩, 0⟩]], nV, []⟩, 0)) = _
    rw [p1, if_neg (fun e => e rfl)]
end Sc
end Go.Proofs.Ytfmbfgoofiojcaa
