import Derived.Test.YtcbfhpnmhhnjpaaGreatZ21
set_option linter.unusedVariables false
set_option linter.unusedSimpArgs false
namespace Go.Proofs.YtcbfhpnmhhnjpaaGreat
open Go.RowKit
section
variable {w : Wk} {D : List Pg} {m : Md} {B : Int}
theorem pinned_no (h : Gp w D m.pg (pinW m.pin)) {id : Int} (hid : 1 ≤ id ∧ id ≤ 16) (hp : m.pin.getD id.toNat 0 = 0) : (Po.pinned w id).2 = false := by
  unfold Po.pinned
  rcases h.find hid with ⟨k, hk, hc, hfk, e2, hp2, hM, hok, hfr⟩ | ⟨h1, h2, h3, h4, h5⟩
  · rw [hfr]; show (true && decide (0 < pinW m.pin id)) = false; unfold pinW; rw [hp]; rfl
  · rw [h4]; rfl
theorem pinned_yes (h : Gp w D m.pg (pinW m.pin)) (hf : Fit m B) {id : Int} (hid : 1 ≤ id ∧ id ≤ 16) (hp : m.pin.getD id.toNat 0 ≠ 0) : Po.pinned w id = (m.pg.getD id.toNat zP, true) ∧
    ∃ (k : Nat) (hk : k < w.f.pg.length) (hc : k < w.f.ck.fr.length), Ta.find w.f.tb id = ((k : Int), true) ∧ w.f.pg[k].id = id ∧ 0 < pinW m.pin id ∧ m.pg.getD id.toNat zP = w.f.pg[k] := by
  have hpin := hf.pin id.toNat
  unfold Po.pinned
  rcases h.find hid with ⟨k, hk, hc, hfk, e2, hp2, hM, hok, hfr⟩ | ⟨h1, h2, h3, h4, h5⟩
  · rw [hfr]
    refine ⟨?_, k, hk, hc, hfk, e2, by unfold pinW; omega, hM⟩
    rw [decide_eq_true (by show 0 < pinW m.pin id; unfold pinW; omega)]; rfl
  · exact absurd h2 hp
theorem read_tells (h : Gp w D m.pg (pinW m.pin)) (hf : Fit m B) {id : Int} (hid : 1 ≤ id ∧ id ≤ 16) (hp : m.pin.getD id.toNat 0 ≠ 0) : Tells w (Po.read w id) (m, m.pg.getD id.toNat zP, 0) := by
  obtain ⟨e, _⟩ := pinned_yes h hf hid hp
  unfold Po.read
  rw [e, if_neg (by simp)]
  exact Tells.same h _ _
theorem write_tells (h : Gp w D m.pg (pinW m.pin)) (hf : Fit m B) (hB : B < 1000000000) {id : Int} (hid : 1 ≤ id ∧ id ≤ 16) (hp : m.pin.getD id.toNat 0 ≠ 0) (b : ByteArray) : Tells w (Po.write w id b)
    (if 16 < b.size then (m, zP, 5) else (⟨m.pg.set id.toNat ⟨(m.pg.getD id.toNat zP).id, (m.pg.getD id.toNat zP).ver + 1, b⟩, m.pin, m.n⟩, ⟨(m.pg.getD id.toNat zP).id, (m.pg.getD id.toNat zP).ver + 1, b⟩, 0)) := by
  obtain ⟨e, k, hk, hc, hfk, e2, hw, hM⟩ := pinned_yes h hf hid hp
  have hv := hf.ver id.toNat
  unfold Po.write
  rw [e, if_neg (by simp)]
  rcases h.write hid hk hc hfk e2 hw b with ⟨c1, c2⟩ | ⟨c1, c2, _⟩ | ⟨c1, c2, f, ef, g, gl, gd⟩
  · rw [if_pos c1, c2, if_pos (by simp)]; exact Tells.same h _ _
  · rw [hM] at hv; omega
  · rw [if_neg (show ¬ 16 < b.size by omega), ef, if_neg (by simp)]
    have hv2 : w.f.pg[k].ver = (m.pg.getD id.toNat zP).ver := by rw [hM]
    have hi2 : (m.pg.getD id.toNat zP).id = id := by rw [hM]; exact e2
    rw [hi2]
    rw [hv2] at g
    have et : Po.turn w (f, 0) = ⟨f, w.d, w.now, w.done⟩ := rfl
    rw [et]
    have hrd := pinned_yes (m := ⟨m.pg.set id.toNat ⟨id, (m.pg.getD id.toNat zP).ver + 1, b⟩, m.pin, m.n⟩) g (B := B + 1) ⟨hf.len, by show (m.pg.set _ _).length = 17; rw [List.length_set]; exact hf.plen, fun i => by have := hf.pin i; show 0 ≤ m.pin.getD i 0 ∧ m.pin.getD i 0 ≤ B + 1; omega, fun i => by
      show ((m.pg.set _ _).getD i zP).ver ≤ _
      have := hf.ver i
      rw [getM_set h.len (by omega)]
      split
      · have := hf.ver id.toNat; show (m.pg.getD id.toNat zP).ver + 1 ≤ _; omega
      · omega⟩ hid hp
    unfold Po.read
    rw [hrd.1, if_neg (by simp)]
    have hpg : (m.pg.set id.toNat ⟨id, (m.pg.getD id.toNat zP).ver + 1, b⟩).getD id.toNat zP = ⟨id, (m.pg.getD id.toNat zP).ver + 1, b⟩ := by rw [getM_set h.len (by omega), if_pos rfl]
    exact ⟨⟨D, g⟩, ⟨⟨[], by simp, rfl⟩, rfl, gl⟩, hpg, rfl, by show w.done.length ≤ _; omega, fun hx => absurd rfl hx⟩
theorem unpin_tells (h : Gp w D m.pg (pinW m.pin)) (hf : Fit m B) {id : Int} (hid : 1 ≤ id ∧ id ≤ 16) (hp : m.pin.getD id.toNat 0 ≠ 0) : Tells w ((Po.unpin w id).1, zP, (Po.unpin w id).2) (⟨m.pg, m.pin.set id.toNat (m.pin.getD id.toNat 0 - 1), m.n⟩, zP, 0) := by
  obtain ⟨e, k, hk, hc, hfk, e2, hw, hM⟩ := pinned_yes h hf hid hp
  obtain ⟨f, ef, g, gl, gd⟩ := h.unpin hid hk hc hfk e2 hw
  have eu : Po.unpin w id = (⟨f, w.d, w.now, w.done⟩, 0) := by
    unfold Po.unpin
    rw [e, if_neg (by simp), ef]; rfl
  rw [eu]
  exact ⟨⟨D, g.congr (pinW_set hf.len hid)⟩, ⟨⟨[], by simp, rfl⟩, rfl, gl⟩, rfl, rfl, by show w.done.length ≤ _; omega, fun hx => absurd rfl hx⟩
theorem drop_tells (h : Gp w D m.pg (pinW m.pin)) (hf : Fit m B) {id : Int} (hid : 1 ≤ id ∧ id ≤ 16) : Tells w ((Po.drop w id).1, zP, (Po.drop w id).2)
    (if 0 < m.pin.getD id.toNat 0 then (m, zP, 6) else if (m.pg.getD id.toNat zP).id = 0 then (m, zP, 3) else (⟨m.pg.set id.toNat zP, m.pin, m.n⟩, zP, 0)) := by
  have hpin := hf.pin id.toNat
  unfold Po.drop
  rcases h.find hid with ⟨k, hk, hc, hfk, e2, hp2, hM, hok, hfr⟩ | ⟨h1, h2, h3, h4, h5⟩
  · rw [hfr]
    by_cases c : 0 < m.pin.getD id.toNat 0
    · rw [if_pos c, if_pos (show 0 < pinW m.pin id from c)]; exact Tells.same h _ _
    · have hid0 : (m.pg.getD id.toNat zP).id = id := by rw [hM]; exact e2
      rw [if_neg c, if_neg (show ¬ 0 < pinW m.pin id from c), if_neg (show ¬ (m.pg.getD id.toNat zP).id = 0 by omega), if_pos rfl]
      obtain ⟨f, ef, g, gl, gn, gd⟩ := h.dropped hid hk hc hfk e2 (by unfold pinW; omega)
      have et : Po.turn w (Fm.drop w.f id) = ⟨f, w.d, w.now, w.done⟩ := by rw [ef]; rfl
      rw [et]
      rcases h.get hid with ⟨g1, g2⟩ | ⟨g1, g2, g3⟩
      · rw [g2, if_neg (by simp)]
        rw [g1] at g
        exact ⟨⟨D, g⟩, ⟨⟨[], by simp, rfl⟩, rfl, gl⟩, rfl, rfl, by show w.done.length ≤ _; omega, fun hx => absurd rfl hx⟩
      · rw [g3, if_pos (by simp)]
        obtain ⟨q1, q2, q3, q4⟩ := g.del hid gn
        rw [List.set_set] at q1
        refine ⟨⟨_, q1⟩, Keeps.trans (b := ⟨f, w.d, w.now, w.done⟩) ⟨⟨[], by simp, rfl⟩, rfl, gl⟩ q2, rfl, rfl, ?_, fun hx => absurd rfl hx⟩
        show (Po.del _ id).done.length ≤ _
        rw [q3]; show w.done.length + 10 ≤ _; omega
  · have hp0 : m.pin.getD id.toNat 0 = 0 := h2
    rw [h4, if_neg (show ¬ (0 : Int) < 0 by omega), if_neg (show ¬ false = true by simp), if_neg (show ¬ 0 < m.pin.getD id.toNat 0 by omega)]
    rcases h.get hid with ⟨g1, g2⟩ | ⟨g1, g2, g3⟩
    · rw [g2, if_pos (by simp), if_pos (by rw [h3, g1]; rfl)]; exact Tells.same h _ _
    · rw [g3, if_neg (by simp), if_neg (by rw [h3, g1]; omega)]
      obtain ⟨q1, q2, q3, q4⟩ := h.del hid h1
      refine ⟨⟨_, q1⟩, q2, rfl, rfl, ?_, fun hx => absurd rfl hx⟩
      show (Po.del _ id).done.length ≤ _
      rw [q3]; omega
theorem flush_tells (h : Gp w D m.pg (pinW m.pin)) {id : Int} (hid : 1 ≤ id ∧ id ≤ 16) : Tells w ((Po.flush w id).1, zP, (Po.flush w id).2) (if (m.pg.getD id.toNat zP).id = 0 then (m, zP, 3) else (m, zP, 0)) ∧ ¬ hasI (Po.flush w id).1.f.dt id := by
  unfold Po.flush
  rcases h.find hid with ⟨k, hk, hc, hfk, e2, hp2, hM, hok, hfr⟩ | ⟨h1, h2, h3, h4, h5⟩
  · have hid0 : (m.pg.getD id.toNat zP).id = id := by rw [hM]; exact e2
    rw [hfr, if_neg (show ¬ true = false by simp), if_neg (show ¬ (m.pg.getD id.toNat zP).id = 0 by omega)]
    by_cases hd : (sinceI w.f.dt id).2 = true
    · rw [if_pos hd]
      obtain ⟨w', D', e, g, kp, dl, ef⟩ := h.backed hid (by rw [hfk])
      rw [hfr] at e
      rw [e]
      exact ⟨⟨⟨D', g⟩, kp, rfl, rfl, by show w'.done.length ≤ _; omega, fun hx => absurd rfl hx⟩, by show ¬ hasI w'.f.dt id; rw [ef]; exact clean_gone h.dyr⟩
    · rw [if_neg hd]
      exact ⟨Tells.same h _ _, fun hi => hd ((since_iff h.dyr).2 hi)⟩
  · rw [h4, if_pos rfl]
    refine ⟨?_, h5⟩
    rcases h.get hid with ⟨g1, g2⟩ | ⟨g1, g2, g3⟩
    · rw [g2, if_pos (by simp), if_pos (by rw [h3, g1]; rfl)]; exact Tells.same h _ _
    · rw [g3, if_neg (by simp), if_neg (by rw [h3, g1]; omega)]; exact Tells.same h _ _
theorem age_tells (h : Gp w D m.pg (pinW m.pin)) (n : Int) : Tells w (Po.age w n, zP, 0) (m, zP, 0) := by
  obtain ⟨D', g, kp, dl, _⟩ := h.age n
  have := Gp.due_len (w := w) (n := n)
  have := h.dt_len
  exact ⟨⟨D', g⟩, kp, rfl, rfl, by show (Po.age w n).done.length ≤ _; omega, fun hx => absurd rfl hx⟩
theorem act_tells (h : Gp w D m.pg (pinW m.pin)) (hf : Fit m B) (hB : B < 1000000000) (hn : m.n = w.f.pg.length) {a : Pa} (ha : ¬ Po.bad a) : Tells w (Po.act w a) (m.act a) := by
  have hbad := ha
  unfold Po.bad at hbad
  unfold Po.act Md.act
  rw [if_neg ha]
  by_cases k8 : a.kind = 8
  · rw [if_pos k8, if_neg (by omega), if_neg (by omega), if_neg (by omega), if_neg (by omega), if_neg (by omega), if_neg (by omega), if_neg (by omega)]
    exact age_tells h _
  have hid : 1 ≤ a.id ∧ a.id ≤ 16 := by omega
  rw [if_neg k8]
  by_cases k1 : a.kind = 1
  · rw [if_pos k1, if_neg (by omega), if_neg (by omega), if_neg (by omega), if_neg (by omega), if_neg (by omega), if_neg (by omega), k1]
    exact fetch_tells h hf (by omega) hn hid
  rw [if_neg k1]
  by_cases k2 : a.kind = 2
  · rw [if_pos k2, if_neg (by omega), if_neg (by omega), if_neg (by omega), if_neg (by omega), if_neg (by omega), if_neg (by omega), k2]
    exact create_tells h hf hn hid
  rw [if_neg k2]
  by_cases k6 : a.kind = 6
  · rw [if_neg (by omega), if_neg (by omega), if_neg (by omega), if_pos k6, if_neg (by omega), if_neg (by omega), if_neg (by omega), if_neg (by omega), if_pos k6]
    exact drop_tells h hf hid
  by_cases k7 : a.kind = 7
  · rw [if_neg (by omega), if_neg (by omega), if_neg (by omega), if_neg (by omega), if_pos k7, if_neg (by omega), if_neg (by omega), if_neg (by omega), if_neg (by omega), if_neg (by omega), if_pos k7]
    exact (flush_tells h hid).1
  by_cases hp : m.pin.getD a.id.toNat 0 = 0
  · have hpn := pinned_no h hid hp
    rw [if_pos (show 2 < a.kind ∧ a.kind < 6 ∧ _ from ⟨by omega, by omega, hp⟩)]
    unfold Po.read Po.write Po.unpin
    rw [hpn]
    simp only [if_true, if_neg k6, if_neg k7]
    by_cases k3 : a.kind = 3
    · rw [if_pos k3]; exact Tells.same h _ _
    by_cases k4 : a.kind = 4
    · rw [if_neg k3, if_pos k4]; exact Tells.same h _ _
    · rw [if_neg k3, if_neg k4, if_pos (by omega)]; exact Tells.same h _ _
  · rw [if_neg (show ¬ (2 < a.kind ∧ a.kind < 6 ∧ _) from fun x => hp x.2.2)]
    by_cases k3 : a.kind = 3
    · rw [if_pos k3, if_pos k3]; exact read_tells h hf hid hp
    rw [if_neg k3, if_neg k3]
    by_cases k4 : a.kind = 4
    · rw [if_pos k4, if_pos k4]; exact write_tells h hf hB hid hp _
    rw [if_neg k4, if_neg k4, if_pos (by omega), if_pos (by omega)]
    exact unpin_tells h hf hid hp
end
end Go.Proofs.YtcbfhpnmhhnjpaaGreat

namespace Go.Proofs.YtcbfhpnmhhnjpaaGreat
open Go.RowKit
structure Ag (p : Pl) (m : Md) (B : Int) : Prop where
  gp : ∃ D, Gp (Po.start p) D m.pg (pinW m.pin)
  fit : Fit m B
  n : m.n = p.f.pg.length
theorem pin_set {l : List Int} {B v : Int} (hl : l.length = 17) (h : ∀ i : Nat, 0 ≤ l.getD i 0 ∧ l.getD i 0 ≤ B) (hv : 0 ≤ v ∧ v ≤ B + 1) (k : Nat) (i : Nat) : 0 ≤ (l.set k v).getD i 0 ∧ (l.set k v).getD i 0 ≤ B + 1 := by
  have hi := h i
  rw [List.getD_eq_getElem?_getD] at hi
  rw [List.getD_eq_getElem?_getD, List.getElem?_set]
  split
  · split
    · exact hv
    · show (0 : Int) ≤ 0 ∧ (0 : Int) ≤ B + 1; omega
  · omega
theorem ver_set {l : List Pg} {B : Int} {p : Pg} (hB : 0 ≤ B) (h : ∀ i : Nat, (l.getD i zP).ver ≤ 1073741824 + B) (hv : p.ver ≤ 1073741824 + B + 1) (k : Nat) (i : Nat) : ((l.set k p).getD i zP).ver ≤ 1073741824 + (B + 1) := by
  have hi := h i
  rw [List.getD_eq_getElem?_getD] at hi
  rw [List.getD_eq_getElem?_getD, List.getElem?_set]
  split
  · split
    · show p.ver ≤ _; omega
    · show (0 : Int) ≤ _; omega
  · omega
theorem Fit.more {m : Md} {B : Int} (h : Fit m B) : Fit m (B + 1) := ⟨h.len, h.plen, fun i => by have := h.pin i; omega, fun i => by have := h.ver i; omega⟩
theorem Fit.act {m : Md} {B : Int} (h : Fit m B) (hB : 0 ≤ B) (a : Pa) : Fit (m.act a).1 (B + 1) := by
  have hp := h.pin a.id.toNat
  have hv := h.ver a.id.toNat
  have hm := h.more
  have write : ∀ b : ByteArray, Fit (⟨m.pg.set a.id.toNat ⟨(m.pg.getD a.id.toNat zP).id, (m.pg.getD a.id.toNat zP).ver + 1, b⟩, m.pin, m.n⟩ : Md) (B + 1) := fun b => ⟨h.len, by show (m.pg.set _ _).length = 17; rw [List.length_set]; exact h.plen, hm.pin, ver_set hB h.ver (by show (m.pg.getD a.id.toNat zP).ver + 1 ≤ _; omega) _⟩
  have there : ∀ p : Pg, p.ver ≤ 1073741824 + B + 1 → ∀ v, 0 ≤ v ∧ v ≤ B + 1 → Fit (⟨m.pg.set a.id.toNat p, m.pin.set a.id.toNat v, m.n⟩ : Md) (B + 1) := fun p hpv v hvv =>
    ⟨by show (m.pin.set _ _).length = 17; rw [List.length_set]; exact h.len, by show (m.pg.set _ _).length = 17; rw [List.length_set]; exact h.plen, pin_set h.len h.pin hvv _, ver_set hB h.ver hpv _⟩
  unfold Md.act
  split; · exact hm
  split; · exact hm
  split; · exact hm
  rename_i hn
  split; · exact hm
  split
  · split
    · exact hm
    · exact write _
  split
  · rename_i k5
    have : m.pin.getD a.id.toNat 0 ≠ 0 := fun e => hn ⟨by omega, by omega, e⟩
    exact ⟨by show (m.pin.set _ _).length = 17; rw [List.length_set]; exact h.len, h.plen, pin_set h.len h.pin (by omega) _, hm.ver⟩
  split
  · split
    · exact hm
    · split
      · exact hm
      · exact ⟨h.len, by show (m.pg.set _ _).length = 17; rw [List.length_set]; exact h.plen, hm.pin, ver_set hB h.ver (by show (0 : Int) ≤ _; omega) _⟩
  split
  · split
    · exact hm
    · exact hm
  · unfold Md.there
    split; · exact hm
    split; · exact hm
    split; · exact hm
    refine there _ ?_ _ (by omega)
    split
    · show (1 : Int) ≤ _; omega
    · omega
theorem do_tells {p : Pl} {m : Md} {B : Int} (h : Ag p m B) (hB : 0 ≤ B ∧ B < 1000000000) (a : Pa) :
    (Po.doP p a).2.1 = (m.act a).2.1 ∧ (Po.doP p a).2.2.2 = (m.act a).2.2 ∧ Ag (Po.doP p a).1 (m.act a).1 (B + 1) ∧ (Po.doP p a).1.now = p.now ∧ (Po.doP p a).1.d = Jn.runJ p.d (Po.doP p a).2.2.1 ∧ (Po.doP p a).2.2.1.length ≤ 160 ∧ ((m.act a).2.2 ≠ 0 → (Po.doP p a).1 = p ∧ (Po.doP p a).2.2.1 = []) := by
  obtain ⟨D, g⟩ := h.gp
  by_cases ha : Po.bad a
  · have e1 : Po.doP p a = (p, zP, [], 1) := by unfold Po.doP; rw [if_pos ha]
    have e2 : m.act a = (m, zP, 1) := by unfold Md.act; rw [if_pos ha]
    rw [e1, e2]
    exact ⟨rfl, rfl, ⟨⟨D, g⟩, h.fit.more, h.n⟩, rfl, rfl, by simp, fun _ => ⟨rfl, rfl⟩⟩
  · have t := act_tells g h.fit hB.2 h.n ha
    have e1 : Po.doP p a = (⟨(Po.act (Po.start p) a).1.f, (Po.act (Po.start p) a).1.d, (Po.act (Po.start p) a).1.now⟩, (Po.act (Po.start p) a).2.1, (Po.act (Po.start p) a).1.done, (Po.act (Po.start p) a).2.2) := by unfold Po.doP; rw [if_neg ha]
    have hn : (m.act a).1.n = m.n := by
      unfold Md.act Md.there
      simp only [apply_ite Prod.fst, apply_ite Md.n, ite_self]
    obtain ⟨l, hl1, hl2⟩ := t.keeps.run
    have hl1 : (Po.act (Po.start p) a).1.done = l := by rw [hl1]; rfl
    rw [e1]
    refine ⟨t.page, t.err, ⟨?_, h.fit.act hB.1 a, by rw [hn, h.n]; exact congrArg Int.ofNat t.keeps.len.symm⟩, t.keeps.now, ?_, ?_, fun hx => ?_⟩
    · obtain ⟨D', g'⟩ := t.gp
      exact ⟨D', g'.kf, g'.disk, g'.len, g'.now, g'.dnow, g'.pages, g'.clean⟩
    · show (Po.act (Po.start p) a).1.d = _
      rw [hl2, hl1]; rfl
    · have := t.few
      show (Po.act (Po.start p) a).1.done.length ≤ _
      have e : (Po.start p).done.length = 0 := rfl
      omega
    · have := t.none hx
      rw [this]
      exact ⟨rfl, rfl⟩
theorem tick_rel {p : Pl} {m : Md} {B : Int} (h : Ag p m B) (n : Int) : Ag (Po.tick p n) m B := by
  obtain ⟨D, g⟩ := h.gp
  refine ⟨⟨D, g.kf, g.disk, g.len, ?_, fun i hi => ?_, g.pages, g.clean⟩, h.fit, h.n⟩
  · have := g.now
    show 0 ≤ p.now + min (max n 0) (2147483647 - p.now) ∧ _
    have : (Po.start p).now = p.now := rfl
    show 0 ≤ p.now + min (max n 0) (2147483647 - p.now) ∧ p.now + min (max n 0) (2147483647 - p.now) ≤ 2147483647
    omega
  · have h1 : i.since ≤ p.now := g.dnow i hi
    have h2 : 0 ≤ p.now ∧ p.now ≤ 2147483647 := g.now
    show i.since ≤ p.now + min (max n 0) (2147483647 - p.now)
    omega
theorem Ag.get {p : Pl} {m : Md} {B : Int} (h : Ag p m B) {id : Int} (hid : 1 ≤ id ∧ id ≤ 16) (hn : ¬ hasI p.f.dt id) :
    m.pg.getD id.toNat zP = zP ∧ getS p.d id = (zP, 3) ∨ (m.pg.getD id.toNat zP).id = id ∧ getS p.d id = (m.pg.getD id.toNat zP, 0) := by
  obtain ⟨D, g⟩ := h.gp
  have e := g.clean id.toNat (by omega) (by omega) (by rw [show ((id.toNat : Nat) : Int) = id by omega]; exact hn)
  rcases g.get hid with ⟨g1, g2⟩ | ⟨g1, g2, g3⟩
  · left; rw [e]; exact ⟨g1, g2⟩
  · right; rw [e]; exact ⟨g1, g3⟩
theorem Ag.right {p : Pl} {m : Md} {B : Int} (h : Ag p m B) : Fm.right p.f = true := by obtain ⟨D, g⟩ := h.gp; exact rt_iff.2 g.rt
theorem Ag.cache {p : Pl} {m : Md} {B : Int} (h : Ag p m B) : p.d.cache = [] := by
  obtain ⟨D, g⟩ := h.gp
  obtain ⟨s, e, _⟩ := g.disk
  have e : p.d = ⟨s, []⟩ := e
  rw [e]
theorem Ag.dirty {p : Pl} {m : Md} {B : Int} (h : Ag p m B) : Dy.right p.f.dt = true := by obtain ⟨D, g⟩ := h.gp; exact g.dyr
theorem open_rel {s : List ByteArray} {D : List Pg} {B : Int} (k : Kw s D) (h0 : Jn.rd s [] 0 = noughts) {n : Nat} (hn : n < 8) (hB : 0 ≤ B) (hv : ∀ i : Nat, (D.getD i zP).ver ≤ 1073741824 + B) :
    (Po.openP ⟨s, []⟩ ((n + 1 : Nat) : Int)).2 = 0 ∧ (Po.openP ⟨s, []⟩ ((n + 1 : Nat) : Int)).1.now = 0 ∧ Ag (Po.openP ⟨s, []⟩ ((n + 1 : Nat) : Int)).1 ⟨D, List.replicate 17 0, ((n + 1 : Nat) : Int)⟩ B := by
  have e : Fm.newF ((n + 1 : Nat) : Int) = (⟨⟨List.replicate (n + 1) zF, 0⟩, List.replicate 16 Ta.z, List.replicate (n + 1) zP, []⟩, 0) := by
    unfold Fm.newF
    rw [if_pos (by omega), Int.toNat_natCast]
  have hg : (Jn.getM ⟨s, []⟩ 1).2 = 0 := by
    unfold Jn.getM
    rw [if_pos]
    exact ⟨Jn.usable_ok Jn.h35 k.ok Jn.cok_nil, by decide⟩
  have eo : Po.openP ⟨s, []⟩ ((n + 1 : Nat) : Int) = (⟨(Fm.newF ((n + 1 : Nat) : Int)).1, ⟨s, []⟩, 0⟩, 0) := by
    unfold Po.openP
    rw [if_neg, Jn.recover_idle Jn.h35 k.ok Jn.cok_nil h0]
    rw [hg, e]; simp
  rw [eo]
  have hW : ∀ i : Nat, (List.replicate 17 (0 : Int)).getD i 0 = 0 := fun i => by
    rw [List.getD_eq_getElem?_getD, List.getElem?_replicate]; split <;> rfl
  refine ⟨rfl, rfl, ⟨D, ?_⟩, ⟨rfl, k.len, fun i => by show 0 ≤ (List.replicate 17 (0 : Int)).getD i 0 ∧ (List.replicate 17 (0 : Int)).getD i 0 ≤ B; rw [hW]; omega, hv⟩, by rw [e]; simp⟩
  refine ⟨kf_congr (kf_new hn) fun i hi => ?_, ⟨s, rfl, k⟩, k.len, ⟨by show (0 : Int) ≤ 0; omega, by show (0 : Int) ≤ _; omega⟩, ?_, ?_, fun q _ _ _ => rfl⟩
  · unfold pinW wOf; rw [if_pos hi]
  · show ∀ i ∈ (Fm.newF ((n + 1 : Nat) : Int)).1.dt, _
    rw [e]; simp
  · intro j hj hz
    exfalso
    have hj : j < (Fm.newF ((n + 1 : Nat) : Int)).1.pg.length := hj
    have : ((Fm.newF ((n + 1 : Nat) : Int)).1.pg[j]'hj) = zP := by
      have hm := List.getElem_mem hj
      have : ∀ p ∈ (Fm.newF ((n + 1 : Nat) : Int)).1.pg, p = zP := by rw [e]; intro p hp; exact (List.mem_replicate.1 hp).2
      exact this _ hm
    exact hz (by show ((Fm.newF ((n + 1 : Nat) : Int)).1.pg[j]'hj).id = 0; rw [this]; rfl)
end Go.Proofs.YtcbfhpnmhhnjpaaGreat

