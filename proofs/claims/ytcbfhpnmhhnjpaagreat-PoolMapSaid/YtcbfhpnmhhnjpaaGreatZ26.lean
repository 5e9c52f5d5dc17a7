import Derived.Test.YtcbfhpnmhhnjpaaGreatZ25
set_option linter.unusedVariables false
set_option linter.unusedSimpArgs false
namespace Go.Proofs.YtcbfhpnmhhnjpaaGreat
open Go.RowKit
theorem pad32 : pad ⟨#[]⟩ 32 = nought32 := rfl
set_option maxRecDepth 100000 in
theorem noughts13_spec : Spec Tryz.prog 70 [] (.val (rS nought32)) := by
  refine spec_val mixed fn70 (by simp) ?_
  unfold ac70
  simp -implicitDefEqProofs only [↓aP, aR, ↓reduceIte, reduceCtorEq, seval]
  refine loopA (fun m σ => ∃ k : Nat, k + m = 32 ∧ σ.slot 1 = .c (.s (.pv (.string (pad ⟨#[]⟩ k)))) ∧ σ.slot 2 = vI k) 32 ⟨0, by omega, ?_⟩ ?_
  · simp -implicitDefEqProofs only [↓aP, aR, ↓reduceIte, reduceCtorEq, seval]
    rfl
  · rintro m σ ⟨k, hk, s1, s2⟩
    by_cases hm : m = 0
    · obtain rfl : k = 32 := by omega
      simp -implicitDefEqProofs only [↓aP, aR, ↓reduceIte, reduceCtorEq, seval, s1, s2, show decide (((32 : Nat) : Int) < 32) = false by decide, pad32]
    · have w1 : IntKind.i64.wrap ((k : Int) + 1) = ((k + 1 : Nat) : Int) := by rw [wrapI (by omega)]; omega
      have hz := pad_size ⟨#[]⟩ k
      simp -implicitDefEqProofs only [↓aP, aR, ↓reduceIte, reduceCtorEq, seval, s1, s2, show decide ((k : Int) < 32) = true by simp; omega, w1]
      have hz1 : (strOfNums [0]).size = 1 := rfl
      have hz0 : (⟨#[]⟩ : ByteArray).size = 0 := rfl
      exact ⟨by omega, m - 1, by omega, k + 1, by omega, rfl, rfl⟩
theorem rget13_spec (d : Dk) (q : Int) : Spec Tryz.prog 24 [.agg (encDk d), rI q] (.val (encGet (getS d q))) := by
  refine spec_val mixed fn24 (by simp) ?_
  unfold ac24
  have no : ¬ (Jn.usable d = true ∧ Jn.isPage q = true) → getS d q = (zP, 1) := fun h => by
    have : Jn.getM d q = (⟨#[]⟩, 1) := by unfold Jn.getM; rw [if_neg h]
    unfold getS; rw [this, if_pos (by decide)]
  simp -implicitDefEqProofs only [↓aP, aR, ↓reduceIte, reduceCtorEq, seval, encDk, encGet, encPg]
  refine ask (may12_spec d) ?_
  cases hu : Jn.usable d
  · simp -implicitDefEqProofs only [↓aP, aR, ↓reduceIte, reduceCtorEq, seval, no (by rw [hu]; simp), zP, encPg]
  by_cases h1 : q < 1
  · simp -implicitDefEqProofs only [↓aP, aR, ↓reduceIte, reduceCtorEq, seval, no (fun h => by have := Jn.page_iff.1 h.2; omega), zP, encPg, decide_eq_true h1]
  by_cases h2 : 16 < q
  · simp -implicitDefEqProofs only [↓aP, aR, ↓reduceIte, reduceCtorEq, seval, no (fun h => by have := Jn.page_iff.1 h.2; omega), zP, encPg, decide_eq_false h1, decide_eq_true h2]
  have hp : Jn.isPage q = true := Jn.page_iff.2 (by omega)
  have hg : (Jn.getM d q).2 = 0 := by unfold Jn.getM; rw [if_pos ⟨hu, hp⟩]
  have e0 : getS d q = tell (Jn.getM d q).1 q := by unfold getS; rw [if_neg (by simp [hg])]
  simp -implicitDefEqProofs only [↓aP, aR, ↓reduceIte, reduceCtorEq, seval, decide_eq_false h1, decide_eq_false h2, encDk]
  refine ask (rGet_spec d q hu hp) ?_
  simp -implicitDefEqProofs only [↓aP, aR, ↓reduceIte, reduceCtorEq, seval]
  refine ask (rtake_spec (Jn.getM d q).1) ?_
  by_cases h1 : (takeM (Jn.getM d q).1).2 = 0
  · by_cases h2 : (takeM (Jn.getM d q).1).1.id = q
    · have e : getS d q = ((takeM (Jn.getM d q).1).1, 0) := by rw [e0]; unfold tell; rw [if_neg (by simp [h1]), if_neg (by simp [h2])]
      simp -implicitDefEqProofs only [↓aP, aR, ↓reduceIte, reduceCtorEq, seval, encPg, h1, bne_self_eq_false, h2, e]
    · have e : getS d q = (zP, 9) := by rw [e0]; unfold tell; rw [if_neg (by simp [h1]), if_pos h2]
      simp -implicitDefEqProofs only [↓aP, aR, ↓reduceIte, reduceCtorEq, seval, encPg, h1, bne_self_eq_false, show ((takeM (Jn.getM d q).1).1.id != q) = true by simpa using h2, e, zP]
  · have e : getS d q = (zP, (takeM (Jn.getM d q).1).2) := by rw [e0]; unfold tell; rw [if_pos h1]
    simp -implicitDefEqProofs only [↓aP, aR, ↓reduceIte, reduceCtorEq, seval, encPg, show ((takeM (Jn.getM d q).1).2 != 0) = true by simpa using h1, e, zP]
theorem steps_no {d : Dk} {p : Pg} (h : ¬ (Jn.usable d = true ∧ Jn.isPage p.id = true)) : stepsS d p = [] := by
  have e : ∀ x, (Jn.planM d p.id x).1 = [] := fun x => by unfold Jn.planM; rw [if_neg (fun a => h ⟨a.1, a.2.1⟩)]
  unfold stepsS
  rw [e, e]
  split
  · split <;> rfl
  · rfl
theorem rsteps13_spec (d : Dk) (p : Pg) : Spec Tryz.prog 40 [.agg (encDk d), .agg (encPg p)] (.val (rL 3 ((stepsS d p).map encJo))) := by
  refine spec_val mixed fn40 (by simp) ?_
  unfold ac40
  simp -implicitDefEqProofs only [↓aP, aR, ↓reduceIte, reduceCtorEq, seval, encDk, encPg]
  refine ask (may12_spec d) ?_
  cases hu : Jn.usable d
  · simp -implicitDefEqProofs only [↓aP, aR, ↓reduceIte, reduceCtorEq, seval, steps_no (d := d) (p := p) (by rw [hu]; simp), List.map_nil]
  by_cases h1 : p.id < 1
  · simp -implicitDefEqProofs only [↓aP, aR, ↓reduceIte, reduceCtorEq, seval, steps_no (d := d) (p := p) (fun h => by have := Jn.page_iff.1 h.2; omega), List.map_nil, decide_eq_true h1]
  by_cases h2 : 16 < p.id
  · simp -implicitDefEqProofs only [↓aP, aR, ↓reduceIte, reduceCtorEq, seval, steps_no (d := d) (p := p) (fun h => by have := Jn.page_iff.1 h.2; omega), List.map_nil, decide_eq_false h1, decide_eq_true h2]
  have hp : Jn.isPage p.id = true := Jn.page_iff.2 (by omega)
  have yes : (p.ver ≠ 0 ∨ p.body ≠ ⟨#[]⟩) → stepsS d p = if (putM p).2 ≠ 0 then [] else (Jn.planM d p.id (putM p).1).1 := fun h => by unfold stepsS; rw [if_pos h]
  have hrt := rright2_spec p
  rw [encPg] at hrt
  have main : (p.ver ≠ 0 ∨ p.body ≠ ⟨#[]⟩) → okP p = true → stepsS d p = Jn.plan p.id (bytesP p) := fun h ho => by
    rw [yes h, put_ok2 ho, if_neg (by simp)]
    unfold Jn.planM; rw [if_pos ⟨hu, hp, bytesP_size ho⟩]
  have none' : (p.ver ≠ 0 ∨ p.body ≠ ⟨#[]⟩) → okP p = false → stepsS d p = [] := fun h ho => by
    rw [yes h, put_no2 ho, if_pos (by simp)]
  by_cases hv : p.ver = 0
  · by_cases hb : p.body = ⟨#[]⟩
    · have e : stepsS d p = Jn.plan p.id nought32 := by
        unfold stepsS; rw [if_neg (by simp [hv, hb])]; unfold Jn.planM; rw [if_pos ⟨hu, hp, nought32_size⟩]
      simp -implicitDefEqProofs only [↓aP, aR, ↓reduceIte, reduceCtorEq, seval, decide_eq_false h1, decide_eq_false h2, hv, beq_self_eq_true, tl_beq, decide_eq_true hb]
      refine ask noughts13_spec ?_
      simp -implicitDefEqProofs only [↓aP, aR, ↓reduceIte, reduceCtorEq, seval]
      refine ask (rPlan_spec p.id nought32 hp nought32_size) ?_
      simp -implicitDefEqProofs only [↓aP, aR, ↓reduceIte, reduceCtorEq, seval, e]
      decide +kernel
    · simp -implicitDefEqProofs only [↓aP, aR, ↓reduceIte, reduceCtorEq, seval, decide_eq_false h1, decide_eq_false h2, hv, beq_self_eq_true, tl_beq, decide_eq_false hb]
      refine ask (by have := hrt; rw [hv] at this; exact this) ?_
      cases ho : okP p
      · simp -implicitDefEqProofs only [↓aP, aR, ↓reduceIte, reduceCtorEq, seval, none' (.inr hb) ho, List.map_nil]
      · simp -implicitDefEqProofs only [↓aP, aR, ↓reduceIte, reduceCtorEq, seval]
        refine ask (by have := rput_spec p ho; rw [encPg, hv] at this; exact this) ?_
        simp -implicitDefEqProofs only [↓aP, aR, ↓reduceIte, reduceCtorEq, seval]
        refine ask (rPlan_spec p.id (bytesP p) hp (bytesP_size ho)) ?_
        simp -implicitDefEqProofs only [↓aP, aR, ↓reduceIte, reduceCtorEq, seval, main (.inr hb) ho]
        decide +kernel
  · simp -implicitDefEqProofs only [↓aP, aR, ↓reduceIte, reduceCtorEq, seval, decide_eq_false h1, decide_eq_false h2, show (p.ver == 0) = false by rw [beq_eq_false_iff_ne]; exact hv]
    refine ask hrt ?_
    cases ho : okP p
    · simp -implicitDefEqProofs only [↓aP, aR, ↓reduceIte, reduceCtorEq, seval, none' (.inl hv) ho, List.map_nil]
    · simp -implicitDefEqProofs only [↓aP, aR, ↓reduceIte, reduceCtorEq, seval]
      refine ask (by have := rput_spec p ho; rw [encPg] at this; exact this) ?_
      simp -implicitDefEqProofs only [↓aP, aR, ↓reduceIte, reduceCtorEq, seval]
      refine ask (rPlan_spec p.id (bytesP p) hp (bytesP_size ho)) ?_
      simp -implicitDefEqProofs only [↓aP, aR, ↓reduceIte, reduceCtorEq, seval, main (.inl hv) ho]
      decide +kernel
end Go.Proofs.YtcbfhpnmhhnjpaaGreat

namespace Go.Proofs.YtcbfhpnmhhnjpaaGreat
open Go.RowKit
def smallA (l : List Pa) : Bool := (l.take 80).all fun a => decide (a.body.size ≤ 100)
theorem small16_spec (l : List Pa) (hl : l.length ≤ 9223372036854775807) : Spec Tryz.prog 15 [rL 3 (l.map encPa)] (.val (rB (smallA l))) := by
  refine spec_val mixed fn15 (by simp) ?_
  unfold ac15
  simp -implicitDefEqProofs only [↓aP, aR, ↓reduceIte, reduceCtorEq, seval]
  refine loopA (fun n σ => ∃ i : Nat, i + n = l.length ∧ i ≤ 80 ∧ (∀ j (hj : j < l.length), j < i → l[j].body.size ≤ 100) ∧ σ.slot 0 = vL 3 (l.map encPa) ∧ σ.slot 3 = vI i) l.length ⟨0, by omega, by omega, fun j _ hj => by omega, ?_⟩ ?_
  · simp -implicitDefEqProofs only [↓aP, aR, ↓reduceIte, reduceCtorEq, seval]
  rintro n σ ⟨i, hin, hi80, hall, s0, s3⟩
  by_cases hi : i < l.length
  · by_cases h8 : i < 80
    · by_cases hb : 100 < l[i].body.size
      · have e : smallA l = false := by
          unfold smallA
          rw [List.all_eq_false]
          exact ⟨l[i], List.mem_iff_getElem.2 ⟨i, by rw [List.length_take]; omega, by rw [List.getElem_take]⟩, by simp; omega⟩
        rw [e]
        simp -implicitDefEqProofs only [↓aP, aR, ↓reduceIte, reduceCtorEq, seval, s0, s3, List.length_map, show decide ((i : Int) < (l.length : Int)) = true by simp; omega, show decide ((i : Int) < 80) = true by simp; omega, askIdx_map, hi, encPa, show decide (100 < (l[i].body.size : Int)) = true by simp; omega]
      · simp -implicitDefEqProofs only [↓aP, aR, ↓reduceIte, reduceCtorEq, seval, s0, s3, List.length_map, show decide ((i : Int) < (l.length : Int)) = true by simp; omega, show decide ((i : Int) < 80) = true by simp; omega, askIdx_map, hi, encPa, show decide (100 < (l[i].body.size : Int)) = false by simp; omega, wrapS (show i < 4611686018427387904 by omega)]
        refine ⟨n - 1, by omega, i + 1, by omega, by omega, fun j hj hji => ?_, ?_⟩
        · by_cases e : j = i
          · subst e; omega
          · exact hall j hj (by omega)
        · simp -implicitDefEqProofs only [↓aP, aR, ↓reduceIte, reduceCtorEq, seval, s0, s3]
    · have e : smallA l = true := by
        unfold smallA
        rw [List.all_eq_true]
        intro x hx
        obtain ⟨j, hj, rfl⟩ := List.getElem_of_mem hx
        rw [List.length_take] at hj
        rw [List.getElem_take]
        simpa using hall j (by omega) (by omega)
      rw [e]
      simp -implicitDefEqProofs only [↓aP, aR, ↓reduceIte, reduceCtorEq, seval, s0, s3, List.length_map, show decide ((i : Int) < (l.length : Int)) = true by simp; omega, show decide ((i : Int) < 80) = false by simp; omega]
  · have e : smallA l = true := by
      unfold smallA
      rw [List.all_eq_true]
      intro x hx
      obtain ⟨j, hj, rfl⟩ := List.getElem_of_mem hx
      rw [List.length_take] at hj
      rw [List.getElem_take]
      simpa using hall j (by omega) (by omega)
    rw [e]
    simp -implicitDefEqProofs only [↓aP, aR, ↓reduceIte, reduceCtorEq, seval, s0, s3, List.length_map, show decide ((i : Int) < (l.length : Int)) = false by simp; omega]
def ini : List Pg → List ByteArray → List Pg → List ByteArray × List Pg
  | [], s, w => (s, w)
  | p :: t, s, w => if okP p = true ∧ p.ver ≤ 1073741824 then ini t (Jn.s4 s p.id (bytesP p)) (w.set p.id.toNat p) else ini t s w
structure Ik (s : List ByteArray) (w : List Pg) : Prop where
  kw : Kw s w
  zero : Jn.rd s [] 0 = noughts
  ver : ∀ i : Nat, (w.getD i zP).ver ≤ 1073741824
theorem ik_new : Ik Jn.new35 (List.replicate 17 zP) := ⟨kw_new, Jn.rd_new (by omega), fun i => by
  rw [List.getD_eq_getElem?_getD, List.getElem?_replicate]; split <;> (show (0 : Int) ≤ _; omega)⟩
theorem ik_set {s : List ByteArray} {w : List Pg} (h : Ik s w) {p : Pg} (hp : okP p = true) (hv : p.ver ≤ 1073741824) : Ik (Jn.s4 s p.id (bytesP p)) (w.set p.id.toNat p) := by
  have h2 := okP_iff.1 hp
  refine ⟨kw_set h.kw hp, (setS_ok Jn.h35 h.kw.ok hp).2.1.zero, fun i => ?_⟩
  rw [getD_set (by rw [h.kw.len]; omega)]
  split
  · exact hv
  · exact h.ver i
theorem ini_ik : ∀ (l : List Pg) {s : List ByteArray} {w : List Pg}, Ik s w → Ik (ini l s w).1 (ini l s w).2
  | [], _, _, h => h
  | p :: t, s, w, h => by
    unfold ini
    split
    · rename_i hp; exact ini_ik t (ik_set h hp.1 hp.2)
    · exact ini_ik t h
def z17p : List Pg := List.replicate 17 zP
theorem z17p_len : z17p.length = 17 := rfl
def z17 : List Int := List.replicate 17 0
theorem z17_len : z17.length = 17 := rfl
def newA (n : Nat) (l : List Pg) : Pl × Md := ((Po.openP ⟨(ini (l.take 16) Jn.new35 (z17p)).1, []⟩ ((n + 1 : Nat) : Int)).1, ⟨(ini (l.take 16) Jn.new35 (z17p)).2, z17, ((n + 1 : Nat) : Int)⟩)
theorem newA_ag {n : Nat} (hn : n < 8) (l : List Pg) : Ag (newA n l).1 (newA n l).2 0 ∧ (newA n l).1.now = 0 := by
  have h := ini_ik (l.take 16) ik_new
  have := open_rel h.kw h.zero hn (B := 0) (by omega) (fun i => by have := h.ver i; omega)
  exact ⟨this.2.2, this.2.1⟩
set_option maxHeartbeats 1000000 in
set_option maxRecDepth 100000 in
theorem new_spec16 (k : Int) (hk : 0 ≤ k ∧ k ≤ 255) (l : List Pg) (hl : l.length ≤ 9223372036854775807) :
    Spec Tryz.prog 17 [.c (.pv (.int .u8 k)), rL 3 (l.map encPg)] (.val (.tup [(true, encPl (newA (k % 8).toNat l).1), (true, encMd (newA (k % 8).toNat l).2), (false, [.pv (.bool true)])])) := by
  refine spec_val mixed fn17 (by simp) ?_
  unfold ac17
  obtain ⟨n, hn⟩ : ∃ n : Nat, (k % 8).toNat = n := ⟨_, rfl⟩
  have hn8 : n < 8 := by omega
  have hw8 : IntKind.i64.wrap (1 + IntKind.i64.wrap (k.tmod 8)) = ((n + 1 : Nat) : Int) := by
    have e1 : IntKind.i64.wrap (k % 8) = k % 8 := wrapI (by omega)
    rw [Int.tmod_eq_emod_of_nonneg hk.1, e1, wrapI (by omega)]; omega
  rw [hn]
  simp -implicitDefEqProofs only [↓aP, aR, ↓reduceIte, reduceCtorEq, seval]
  refine ask new_spec35 ?_
  simp -implicitDefEqProofs only [↓aP, aR, ↓reduceIte, reduceCtorEq, seval, encDk, List.map_nil]
  refine loopA (fun m σ => ∃ (i : Nat) (s : List ByteArray) (w : List Pg), i + m = l.length ∧ i ≤ 16 ∧ Ik s w ∧ ini (l.take 16) Jn.new35 (z17p) = ini ((l.take 16).drop i) s w ∧ σ.slot 1 = vL 3 (l.map encPg) ∧ σ.slot 4 = .c (.ptr 4 1 0 0) ∧ σ.h.gen 4 = 1 ∧ σ.h.blk 4 = .box 40 8 [[.zc, .s (.pv (.int .i64 0)), .zc, .zc, .zc, .zc, .zc, .s (.pv (.int .i64 0))]] ∧ σ.slot 5 = .c (.ptr 5 1 0 0) ∧ σ.h.gen 5 = 1 ∧ σ.h.blk 5 = .box 46 69 [(encMd ⟨z17p, z17, 0⟩).map AC.s] ∧ σ.slot 7 = .c (.ptr 7 1 0 0) ∧ σ.h.gen 7 = 1 ∧ σ.h.blk 7 = .box 38 2 [(encDk ⟨s, []⟩).map AC.s] ∧ σ.slot 9 = vI ((n + 1 : Nat) : Int) ∧ σ.slot 10 = .c (.ptr 10 1 0 0) ∧ σ.h.gen 10 = 1 ∧ σ.h.blk 10 = .box 46 69 [(encMd ⟨w, z17, ((n + 1 : Nat) : Int)⟩).map AC.s] ∧ σ.slot 11 = vI i) l.length ⟨0, _, _, by omega, by omega, ik_new, rfl, ?_⟩ ?_
  · simp -implicitDefEqProofs only [↓aP, aR, ↓reduceIte, reduceCtorEq, seval, encDk, List.map_nil, hw8]
    repeat' (first | rfl | refine And.intro ?_ ?_)
  rintro m σ ⟨i, s, w, him, hi16, hI, hini, s1, s4, g4, b4, s5, g5, b5, s7, g7, b7, s9, s10, g10, b10, s11⟩
  by_cases hi : i < l.length
  · by_cases h16 : i < 16
    · have hdr : (l.take 16).drop i = l[i] :: (l.take 16).drop (i + 1) := by rw [List.drop_eq_getElem_cons (by rw [List.length_take]; omega), List.getElem_take]
      rw [hdr] at hini
      have hrs := rsteps13_spec ⟨s, []⟩ l[i]
      by_cases hok : okP l[i] = true ∧ l[i].ver ≤ 1073741824
      · have h2 := okP_iff.1 hok.1
        rw [show ini (l[i] :: (l.take 16).drop (i + 1)) s w = ini ((l.take 16).drop (i + 1)) (Jn.s4 s l[i].id (bytesP l[i])) (w.set l[i].id.toNat l[i]) from if_pos hok] at hini
        have hst := steps_set Jn.h35 hI.kw.ok hok.1
        have hrun : Jn.runJ ⟨s, []⟩ (stepsS ⟨s, []⟩ l[i]) = ⟨Jn.s4 s l[i].id (bytesP l[i]), []⟩ := by rw [← set_run hok.1, (setS_ok Jn.h35 hI.kw.ok hok.1).1]
        have hl10 : (stepsS ⟨s, []⟩ l[i]).length = 10 := by rw [hst]; rfl
        generalize stepsS ⟨s, []⟩ l[i] = st at hrs hrun hl10
        simp -implicitDefEqProofs only [↓aP, aR, ↓reduceIte, reduceCtorEq, seval, s1, s4, g4, b4, s5, g5, b5, s7, g7, b7, s9, s10, g10, b10, s11, List.length_map, show decide ((i : Int) < (l.length : Int)) = true by simp; omega, show decide ((i : Int) < 16) = true by simp; omega, encDk, List.map_nil, askIdx_map, hi, encPg]
        refine ask hrs ?_
        simp -implicitDefEqProofs only [↓aP, aR, ↓reduceIte, reduceCtorEq, seval, s1, s4, g4, b4, s5, g5, b5, s7, g7, b7, s9, s10, g10, b10, s11, List.length_map, hl10, askIdx_map, hi, encPg]
        have v0 : (l[i].ver == 0) = false := beq_eq_false_iff_ne.2 (by omega)
        have v1 : decide (1073741824 < l[i].ver) = false := by simp; omega
        refine ⟨by decide +kernel, ?_⟩
        simp -implicitDefEqProofs only [↓aP, aR, ↓reduceIte, reduceCtorEq, seval, s1, s4, g4, b4, s5, g5, b5, s7, g7, b7, s9, s10, g10, b10, s11, List.length_map, hl10, askIdx_map, hi, encPg, v0, v1]
        refine ask (rRun_spec ⟨s, []⟩ st (by omega)) ?_
        rw [hrun]
        simp -implicitDefEqProofs only [↓aP, aR, ↓reduceIte, reduceCtorEq, seval, s1, s4, g4, b4, s5, g5, b5, s7, g7, b7, s9, s10, g10, b10, s11, encDk, List.map_nil, askIdx_map, hi, encPg]
        refine ⟨by omega, by omega, by omega, by decide +kernel, m - 1, by omega, i + 1, _, _, by omega, by omega, ik_set hI hok.1 hok.2, hini, rfl, ?_, ?_⟩
        · rw [md_storepg (m := ⟨w, z17, ((n + 1 : Nat) : Int)⟩) hI.kw.len z17_len (k := l[i].id.toNat) (by omega) l[i]]
        · rw [wrapS (show i < 4611686018427387904 by omega)]
      · rw [show ini (l[i] :: (l.take 16).drop (i + 1)) s w = ini ((l.take 16).drop (i + 1)) s w from if_neg hok] at hini
        have hbad : (stepsS ⟨s, []⟩ l[i]).length ≠ 0 → l[i].ver ≠ 0 → 1073741824 < l[i].ver := fun a b => by
          have : okP l[i] = true := by
            cases hc : okP l[i] with
            | true => rfl
            | false =>
              exfalso; apply a
              unfold stepsS
              rw [if_pos (Or.inl b), put_no2 hc, if_pos (by simp)]; rfl
          by_cases hv : l[i].ver ≤ 1073741824
          · exact absurd ⟨this, hv⟩ hok
          · omega
        generalize stepsS ⟨s, []⟩ l[i] = st at hrs hbad
        simp -implicitDefEqProofs only [↓aP, aR, ↓reduceIte, reduceCtorEq, seval, s1, s4, g4, b4, s5, g5, b5, s7, g7, b7, s9, s10, g10, b10, s11, List.length_map, show decide ((i : Int) < (l.length : Int)) = true by simp; omega, show decide ((i : Int) < 16) = true by simp; omega, encDk, List.map_nil, askIdx_map, hi, encPg]
        refine ask hrs ?_
        by_cases h0 : st.length = 0
        · simp -implicitDefEqProofs only [↓aP, aR, ↓reduceIte, reduceCtorEq, seval, s1, s4, g4, b4, s5, g5, b5, s7, g7, b7, s9, s10, g10, b10, s11, List.length_map, h0, askIdx_map, hi, encPg]
          exact ⟨by decide +kernel, m - 1, by omega, i + 1, s, w, by omega, by omega, hI, hini, rfl, rfl, by rw [wrapS (show i < 4611686018427387904 by omega)]⟩
        · have d0 : ((st.length : Int) == 0) = false := beq_eq_false_iff_ne.2 (by omega)
          by_cases hv0 : l[i].ver = 0
          · simp -implicitDefEqProofs only [↓aP, aR, ↓reduceIte, reduceCtorEq, seval, s1, s4, g4, b4, s5, g5, b5, s7, g7, b7, s9, s10, g10, b10, s11, List.length_map, d0, askIdx_map, hi, encPg, hv0]
            exact ⟨by decide +kernel, m - 1, by omega, i + 1, s, w, by omega, by omega, hI, hini, rfl, rfl, by rw [wrapS (show i < 4611686018427387904 by omega)]⟩
          · have v0 : (l[i].ver == 0) = false := beq_eq_false_iff_ne.2 hv0
            have v1 : decide (1073741824 < l[i].ver) = true := decide_eq_true (hbad h0 hv0)
            simp -implicitDefEqProofs only [↓aP, aR, ↓reduceIte, reduceCtorEq, seval, s1, s4, g4, b4, s5, g5, b5, s7, g7, b7, s9, s10, g10, b10, s11, List.length_map, d0, askIdx_map, hi, encPg, v0, v1]
            exact ⟨by decide +kernel, m - 1, by omega, i + 1, s, w, by omega, by omega, hI, hini, rfl, rfl, by rw [wrapS (show i < 4611686018427387904 by omega)]⟩
    · have hend : ini (l.take 16) Jn.new35 z17p = (s, w) := by rw [hini, List.drop_eq_nil_of_le (by rw [List.length_take]; omega)]; rfl
      simp -implicitDefEqProofs only [↓aP, aR, ↓reduceIte, reduceCtorEq, seval, s1, s4, g4, b4, s5, g5, b5, s7, g7, b7, s9, s10, g10, b10, s11, List.length_map, show decide ((i : Int) < (l.length : Int)) = true by simp; omega, show decide ((i : Int) < 16) = false by simp; omega, encDk, List.map_nil]
      obtain ⟨o1, o2, o3⟩ := open_rel hI.kw hI.zero hn8 (B := 0) (by omega) (fun i => by have := hI.ver i; omega)
      have eN : newA n l = ((Po.openP ⟨s, []⟩ ((n + 1 : Nat) : Int)).1, ⟨w, z17, ((n + 1 : Nat) : Int)⟩) := by unfold newA; rw [hend]
      have on := o3.n
      have os := open_spec ⟨s, []⟩ ((n + 1 : Nat) : Int)
      rw [eN]
      rw [o1] at os
      generalize (Po.openP ⟨s, []⟩ ((n + 1 : Nat) : Int)).1 = x at o2 on os
      have on2 : ((x.f.pg.length : Int) == ((n + 1 : Nat) : Int)) = true := by rw [← on]; exact beq_self_eq_true _
      refine ask os ?_
      simp -implicitDefEqProofs only [↓aP, aR, ↓reduceIte, reduceCtorEq, seval, encPl_eq, o2, List.length_map, on2, md_69 (m := ⟨w, z17, ((n + 1 : Nat) : Int)⟩) hI.kw.len z17_len, encMd_len (m := ⟨w, z17, ((n + 1 : Nat) : Int)⟩) hI.kw.len z17_len, shA_s, shB_s, frz_s0, List.append_nil, locs_s, s1, s4, g4, b4, s5, g5, b5, s7, g7, b7, s9, s10, g10, b10, s11, md_d69 (m := ⟨z17p, z17, 0⟩) z17p_len z17_len, List.append_nil]
      first | exact ⟨by decide +kernel, simL_refl _⟩ | exact simL_refl _
  · have hend : ini (l.take 16) Jn.new35 (z17p) = (s, w) := by rw [hini, List.drop_eq_nil_of_le (by rw [List.length_take]; omega)]; rfl
    simp -implicitDefEqProofs only [↓aP, aR, ↓reduceIte, reduceCtorEq, seval, s1, s4, g4, b4, s5, g5, b5, s7, g7, b7, s9, s10, g10, b10, s11, List.length_map, show decide ((i : Int) < (l.length : Int)) = false by simp; omega, encDk, List.map_nil]
    obtain ⟨o1, o2, o3⟩ := open_rel hI.kw hI.zero hn8 (B := 0) (by omega) (fun i => by have := hI.ver i; omega)
    have eN : newA n l = ((Po.openP ⟨s, []⟩ ((n + 1 : Nat) : Int)).1, ⟨w, z17, ((n + 1 : Nat) : Int)⟩) := by unfold newA; rw [hend]
    have on := o3.n
    have os := open_spec ⟨s, []⟩ ((n + 1 : Nat) : Int)
    rw [eN]
    rw [o1] at os
    generalize (Po.openP ⟨s, []⟩ ((n + 1 : Nat) : Int)).1 = x at o2 on os
    have on2 : ((x.f.pg.length : Int) == ((n + 1 : Nat) : Int)) = true := by rw [← on]; exact beq_self_eq_true _
    refine ask os ?_
    simp -implicitDefEqProofs only [↓aP, aR, ↓reduceIte, reduceCtorEq, seval, encPl_eq, o2, List.length_map, on2, md_69 (m := ⟨w, z17, ((n + 1 : Nat) : Int)⟩) hI.kw.len z17_len, encMd_len (m := ⟨w, z17, ((n + 1 : Nat) : Int)⟩) hI.kw.len z17_len, shA_s, shB_s, frz_s0, List.append_nil, locs_s, s1, s4, g4, b4, s5, g5, b5, s7, g7, b7, s9, s10, g10, b10, s11, md_d69 (m := ⟨z17p, z17, 0⟩) z17p_len z17_len, List.append_nil]
    first | exact ⟨by decide +kernel, simL_refl _⟩ | exact simL_refl _
end Go.Proofs.YtcbfhpnmhhnjpaaGreat

namespace Go.Proofs.YtcbfhpnmhhnjpaaGreat
open Go.RowKit
namespace Gp
variable {w : Wk} {D M : List Pg} {W : Int → Int}
theorem one_free (h : Gp w D M W) (h1 : w.f.pg.length = 1) (ha : anyFree w.f = true) : w.f.dt = [] := by
  cases hd : w.f.dt with
  | nil => rfl
  | cons a t =>
    exfalso
    have hi : hasI w.f.dt a.page := ⟨a, by rw [hd]; simp, rfl⟩
    have hf := h.has_framed hi
    have hg := ((Dy.right_iff _).1 h.dyr).page a (by rw [hd]; simp)
    rcases h.find hg with ⟨k, hk, hc, _, e2, _⟩ | ⟨h2, _⟩
    · unfold anyFree at ha
      rw [List.any_eq_true] at ha
      obtain ⟨p, hp, hz⟩ := ha
      obtain ⟨j, hj, rfl⟩ := List.getElem_of_mem hp
      obtain rfl : j = k := by omega
      have : w.f.pg[j].id = 0 := by simpa using hz
      omega
    · rw [h2] at hf; cases hf
theorem one_other (h : Gp w D M W) (h1 : w.f.pg.length = 1) {id q : Int} (hid : 1 ≤ id ∧ id ≤ 16) (hq : 1 ≤ q ∧ q ≤ 16) (hne : q ≠ id) (hW : W id ≠ 0) : ¬ hasI w.f.dt q := fun hi => by
  have hf := h.has_framed hi
  rcases h.find hid with ⟨k, hk, hc, _, e2, _⟩ | ⟨_, h2, _⟩
  · rcases h.find hq with ⟨j, hj, _, _, e3, _⟩ | ⟨h2, _⟩
    · obtain rfl : j = k := by omega
      omega
    · rw [h2] at hf; cases hf
  · exact hW h2
end Gp
theorem create_one {p : Pl} {m : Md} {B : Int} (h : Ag p m B) (h1 : p.f.pg.length = 1) {id : Int} (hid : 1 ≤ id ∧ id ≤ 16) (b : ByteArray) (hz : (m.pg.getD id.toNat zP).id = 0) (hp : m.pin.getD id.toNat 0 = 0) (hn : m.busy id = false) :
    (Po.doP p ⟨2, id, b⟩).2.2.1.length = 10 * p.f.dt.length := by
  obtain ⟨D, g⟩ := h.gp
  have hb : ¬ Po.bad ⟨2, id, b⟩ := by unfold Po.bad; simp only; omega
  have hall : allPin (Po.start p).f = false := by rw [← busy_all g h.n hp]; exact hn
  unfold Po.doP
  rw [if_neg hb]
  show (Po.create (Po.start p) id).1.done.length = _
  unfold Po.create
  rcases g.find hid with ⟨k, hk, hc, hfk, e2, _, hM, _⟩ | ⟨f1, f2, f3, f4, f5⟩
  · rw [hM, e2] at hz; omega
  · rw [f4, if_neg (by simp)]
    rcases g.get hid with ⟨g1, g2⟩ | ⟨g1, g2, g3⟩
    · rw [g2, if_neg (by simp), if_pos (by simp)]
      obtain ⟨D', r1, r2, r3, r4, r5⟩ := Gp.room ((Po.start p).f.dt.length + 1) g (by omega)
      rcases r5 with ⟨e, _⟩ | ⟨_, e, hfree⟩
      · rw [hall] at e; cases e
      · have hdt := r1.one_free (by rw [r2.len]; exact h1) hfree
        have hok : okPg ⟨id, 1, ⟨#[]⟩⟩ = true := by unfold okPg; rw [decide_eq_true_iff]; simp only; have : (⟨#[]⟩ : ByteArray).size = 0 := rfl; omega
        have hno : (Ta.find (Po.room ((Po.start p).f.dt.length + 1) (Po.start p)).1.f.tb id).2 = false := by
          rcases r1.find hid with ⟨k, hk, hc, hfk, e2, _⟩ | ⟨h2, _⟩
          · exfalso
            rcases r4 _ (List.getElem_mem hk) with hz | hmem
            · rw [hz] at e2; have : (0 : Int) = id := e2; omega
            · obtain ⟨j, hj, ej⟩ := List.getElem_of_mem hmem
              have := (rt_at g.rt hj (by rw [ej]; omega)).2.2
              rw [ej, e2] at this
              rw [this] at f1; cases f1
          · exact h2
        obtain ⟨w', ew, _, _, dn, _⟩ := r1.load hfree hok hno true (fun e => by cases e)
        unfold Po.load
        rw [if_neg (by rw [e]; simp), ew]
        show w'.done.length = _
        rw [dn]
        rw [hdt] at r3
        have e0 : (Po.start p).done.length = 0 := rfl
        have e1 : (Po.start p).f.dt.length = p.f.dt.length := rfl
        simp only [List.length_nil] at r3
        omega
    · rw [f3, g1] at hz; omega
end Go.Proofs.YtcbfhpnmhhnjpaaGreat

namespace Go.Proofs.YtcbfhpnmhhnjpaaGreat
open Go.RowKit
namespace Aw
def a1 : Pa := ⟨2, 3, ⟨#[]⟩⟩
def a2 : Pa := ⟨4, 3, ⟨#[120]⟩⟩
def a4 : Pa := ⟨5, 3, ⟨#[]⟩⟩
def a5 : Pa := ⟨2, 4, ⟨#[]⟩⟩
def p0 : Pl := (Po.openP ⟨Jn.new35, []⟩ ((0 + 1 : Nat) : Int)).1
def p1 : Pl := (Po.doP p0 a1).1
def p2 : Pl := (Po.doP p1 a2).1
def p3 : Pl := (Po.doP p2 a4).1
def m0 : Md := ⟨List.replicate 17 zP, List.replicate 17 0, ((0 + 1 : Nat) : Int)⟩
def m1 : Md := (m0.act a1).1
def m2 : Md := (m1.act a2).1
def m3 : Md := (m2.act a4).1
def m4 : Md := (m3.act a5).1
theorem r1 : (m0.act a1).2 = (⟨3, 1, ⟨#[]⟩⟩, 0) := by decide +kernel
theorem r2 : (m1.act a2).2 = (⟨3, 2, ⟨#[120]⟩⟩, 0) := by decide +kernel
theorem r3 : (m2.act a5).2 = (zP, 6) := by decide +kernel
theorem r4 : (m2.act a4).2 = (zP, 0) := by decide +kernel
theorem r5 : (m3.act a5).2 = (⟨4, 1, ⟨#[]⟩⟩, 0) := by decide +kernel
theorem b3 : (m3.pg.getD 4 zP).id = 0 ∧ m3.pin.getD 4 0 = 0 ∧ m3.busy 4 = false := by decide +kernel
theorem b4 : m4.pg.getD 3 zP = ⟨3, 2, ⟨#[120]⟩⟩ ∧ m4.pin.getD 4 0 = 1 := by decide +kernel
theorem dt3 : p3.f.dt.length = 1 := by decide +kernel
theorem g0 : (Po.openP ⟨Jn.new35, []⟩ ((0 + 1 : Nat) : Int)).2 = 0 ∧ p0.now = 0 ∧ Ag p0 m0 0 := open_rel kw_new (Jn.rd_new (by omega)) (by omega) (by omega) (fun i => by rw [List.getD_eq_getElem?_getD, List.getElem?_replicate]; split <;> (show (0 : Int) ≤ _; omega))
theorem g1 : Ag p1 m1 1 := (do_tells g0.2.2 (by omega) a1).2.2.1
theorem g2 : Ag p2 m2 2 := (do_tells g1 (by omega) a2).2.2.1
theorem g3 : Ag p3 m3 3 := (do_tells g2 (by omega) a4).2.2.1
theorem one : p3.f.pg.length = 1 := by
  have h := g3.n
  have : m3.n = 1 := by decide +kernel
  omega
theorem ops : (Po.doP p3 a5).2.2.1.length = 10 := by
  have h := create_one g3 one (id := 4) (by omega) ⟨#[]⟩ b3.1 b3.2.1 b3.2.2
  have d := dt3
  generalize p3.f.dt.length = n at h d
  rw [show (⟨2, 4, ⟨#[]⟩⟩ : Pa) = a5 from rfl] at h
  rw [h, d]
theorem g4 : Ag (Po.doP p3 a5).1 m4 (3 + 1) := (do_tells g3 (by omega) a5).2.2.1
theorem one4 : (Po.doP p3 a5).1.f.pg.length = 1 := by
  have h := g4.n
  have h2 : m4.n = 1 := by decide +kernel
  rw [h2] at h
  generalize (Po.doP p3 a5).1 = x at h
  omega
theorem get3 : getS (Po.doP p3 a5).1.d 3 = (⟨3, 2, ⟨#[120]⟩⟩, 0) := by
  have g := g4
  have h1 := one4
  have hb := b4
  generalize (Po.doP p3 a5).1 = x at g h1
  generalize m4 = m at g hb
  obtain ⟨D, gp⟩ := g.gp
  have hno := gp.one_other h1 (id := 4) (q := 3) (by omega) (by omega) (by omega) (by show m.pin.getD (4 : Int).toNat 0 ≠ 0; rw [show (4 : Int).toNat = 4 from rfl, hb.2]; omega)
  rcases g.get (id := 3) (by omega) hno with ⟨e, _⟩ | ⟨_, e⟩
  · rw [show (3 : Int).toNat = 3 from rfl, hb.1] at e; cases e
  · rw [e, show (3 : Int).toNat = 3 from rfl, hb.1]
theorem sp {p : Pl} {m : Md} {B : Int} (h : Ag p m B) (hB : 0 ≤ B ∧ B < 1000000000) (a : Pa) {pg : Pg} {e : Int} (hr : (m.act a).2 = (pg, e)) : Spec Tryz.prog 18 [.agg (encPl p), .agg (encPa a)] (.val (encDo ((Po.doP p a).1, pg, (Po.doP p a).2.2.1, e))) := by
  have t := do_tells h hB a
  have s := do_spec p h hB.2 a
  rw [hr] at t
  have : Po.doP p a = ((Po.doP p a).1, pg, (Po.doP p a).2.2.1, e) := by
    refine Prod.ext rfl (Prod.ext t.1 (Prod.ext rfl t.2.1))
  rw [this] at s
  exact s
end Aw
set_option maxHeartbeats 1000000 in
set_option maxRecDepth 100000 in
theorem awake16_spec : Spec Tryz.prog 16 [] (.val (rB true)) := by
  refine spec_val mixed fn16 (by simp) ?_
  unfold ac16
  have s0 := open_spec ⟨Jn.new35, []⟩ 1
  rw [show Po.openP ⟨Jn.new35, []⟩ 1 = (Aw.p0, 0) from Prod.ext rfl Aw.g0.1] at s0
  have s1 := Aw.sp Aw.g0.2.2 (by omega) Aw.a1 Aw.r1
  have s2 := Aw.sp Aw.g1 (by omega) Aw.a2 Aw.r2
  have s3 := Aw.sp Aw.g2 (by omega) Aw.a5 Aw.r3
  have s4 := Aw.sp Aw.g2 (by omega) Aw.a4 Aw.r4
  have s5 := Aw.sp Aw.g3 (by omega) Aw.a5 Aw.r5
  have s6 := rget13_spec (Po.doP Aw.p3 Aw.a5).1.d 3
  have l5 := Aw.ops
  rw [Aw.get3] at s6
  rw [show (Po.doP Aw.p0 Aw.a1).1 = Aw.p1 from rfl] at s1
  rw [show (Po.doP Aw.p1 Aw.a2).1 = Aw.p2 from rfl] at s2
  rw [show (Po.doP Aw.p2 Aw.a4).1 = Aw.p3 from rfl] at s4
  generalize Po.doP Aw.p3 Aw.a5 = x5 at s5 s6 l5
  generalize Po.doP Aw.p2 Aw.a5 = x3 at s3
  generalize Po.doP Aw.p0 Aw.a1 = x1 at s1
  generalize Po.doP Aw.p1 Aw.a2 = x2 at s2
  generalize Po.doP Aw.p2 Aw.a4 = x4 at s4
  generalize Aw.p0 = p0 at s0 s1
  generalize Aw.p1 = p1 at s1 s2
  generalize Aw.p2 = p2 at s2 s3 s4
  generalize Aw.p3 = p3 at s4 s5
  simp -implicitDefEqProofs only [↓aP, aR, ↓reduceIte, reduceCtorEq, seval]
  refine ask new_spec35 ?_
  simp -implicitDefEqProofs only [↓aP, aR, ↓reduceIte, reduceCtorEq, seval, encDk, List.map_nil]
  refine ask s0 ?_
  simp -implicitDefEqProofs only [↓aP, aR, ↓reduceIte, reduceCtorEq, seval, encPl_eq]
  refine ask s1 ?_
  simp -implicitDefEqProofs only [↓aP, aR, ↓reduceIte, reduceCtorEq, seval, encPl_eq, encDo, encPg]
  refine ask s2 ?_
  simp -implicitDefEqProofs only [↓aP, aR, ↓reduceIte, reduceCtorEq, seval, encPl_eq, encDo, encPg]
  refine ask s3 ?_
  simp -implicitDefEqProofs only [↓aP, aR, ↓reduceIte, reduceCtorEq, seval, encPl_eq, encDo, encPg, zP]
  refine ask s4 ?_
  simp -implicitDefEqProofs only [↓aP, aR, ↓reduceIte, reduceCtorEq, seval, encPl_eq, encDo, encPg, zP]
  refine ask s5 ?_
  simp -implicitDefEqProofs only [↓aP, aR, ↓reduceIte, reduceCtorEq, seval, encPl_eq, encDo, encPg]
  refine ask s6 ?_
  simp -implicitDefEqProofs only [↓aP, aR, ↓reduceIte, reduceCtorEq, seval, encPl_eq, encDo, encPg, encGet, l5, List.length_map]
  refine askEq (eqP (x := ⟨3, 1, ⟨#[]⟩⟩) (y := ⟨3, 1, ⟨#[]⟩⟩) rfl) ?_
  simp -implicitDefEqProofs only [↓aP, aR, ↓reduceIte, reduceCtorEq, seval, l5, List.length_map]
  refine askEq (eqP (x := ⟨3, 2, ⟨#[120]⟩⟩) (y := ⟨3, 2, ⟨#[120]⟩⟩) rfl) ?_
  simp -implicitDefEqProofs only [↓aP, aR, ↓reduceIte, reduceCtorEq, seval, l5, List.length_map]
  refine askEq (eqP (x := ⟨3, 2, ⟨#[120]⟩⟩) (y := ⟨3, 2, ⟨#[120]⟩⟩) rfl) ?_
  simp -implicitDefEqProofs only [↓aP, aR, ↓reduceIte, reduceCtorEq, seval, l5, List.length_map]
end Go.Proofs.YtcbfhpnmhhnjpaaGreat

namespace Go.Proofs.YtcbfhpnmhhnjpaaGreat
open Go.RowKit Go.ChangeShapes Go.WideShapes
theorem u8_of {k : Int} (h : (Lit.int .u8 k).wf = true) : 0 ≤ k ∧ k ≤ 255 := by
  simpa [Lit.wf, IntKind.min, IntKind.max, IntKind.signed, IntKind.bits] using h
theorem opens_pg {H : Type} {enc : TypeId × Value → H} {w : World} {spare : Nat → Bool} {held : Bool} : Opens Tryz.prog enc w spare held 42 3 (fun ys => ∃ x : Pg, ys = encPg x) := by
  have h := opens_struct (enc := enc) (w := w) (spare := spare) (held := held) Tryz.underlying42 (by kernel_rfl) (.cons rfl (opens_int Tryz.underlying3 (by kernel_rfl)) (.cons rfl (opens_int Tryz.underlying3 (by kernel_rfl)) (.cons rfl (opens_str Tryz.underlying9 (by kernel_rfl)) (.nil _))))
  refine ⟨h.1, fun fuel cs x hx => ?_⟩
  obtain ⟨ys, ⟨a, b, rfl, ⟨n, rfl, hn⟩, c, e, rfl, ⟨n2, rfl, hn2⟩, c2, e2, rfl, ⟨s, rfl, hs⟩, rfl⟩, h2, h3⟩ := h.2 _ _ _ hx
  exact ⟨_, ⟨⟨n, n2, s⟩, rfl⟩, h2, h3⟩
set_option maxRecDepth 100000 in
theorem open_pgs {H : Type} {enc : TypeId × Value → H} {w : World} {spare : Nat → Bool} {held : Bool} {r : Reach} {b0 : Nat} {v : Value} {d : DataW H} {p : List MemPlace} 
    (hv : Value.okWide Tryz.prog w r b0 22 v) (h : DataW.Trod enc Tryz.prog w 0 spare held 22 v d p) : ∃ A : List Pg, A.length ≤ maxLen ∧ RepT (RepS w fun _ => False) (rL 3 (A.map encPg)) v := by
  obtain ⟨y, ⟨els, e1, e2, e3⟩, h2⟩ := open_one (opens_slice Tryz.underlying22 (by kernel_rfl) (by decide) opens_pg) (slice_cells Tryz.underlying22 hv) h
  simp only [List.cons.injEq, and_true] at e1
  subst e1
  obtain ⟨A, rfl⟩ := all_of_mem (f := encPg) (fun y hy => e2 y hy)
  exact ⟨A, by simpa using e3, h2⟩
theorem opens_act {H : Type} {enc : TypeId × Value → H} {w : World} {spare : Nat → Bool} {held : Bool} : Opens Tryz.prog enc w spare held 50 3 (fun ys => ∃ x : Pa, ys = encPa x) := by
  have h := opens_struct (enc := enc) (w := w) (spare := spare) (held := held) Tryz.underlying50 (by kernel_rfl) (.cons rfl (opens_int Tryz.underlying3 (by kernel_rfl)) (.cons rfl (opens_int Tryz.underlying3 (by kernel_rfl)) (.cons rfl (opens_str Tryz.underlying9 (by kernel_rfl)) (.nil _))))
  refine ⟨h.1, fun fuel cs x hx => ?_⟩
  obtain ⟨ys, ⟨a, b, rfl, ⟨n, rfl, hn⟩, c, e, rfl, ⟨n2, rfl, hn2⟩, c2, e2, rfl, ⟨s, rfl, hs⟩, rfl⟩, h2, h3⟩ := h.2 _ _ _ hx
  exact ⟨_, ⟨⟨n, n2, s⟩, rfl⟩, h2, h3⟩
set_option maxRecDepth 100000 in
theorem open_acts {H : Type} {enc : TypeId × Value → H} {w : World} {spare : Nat → Bool} {held : Bool} {r : Reach} {b0 : Nat} {v : Value} {d : DataW H} {p : List MemPlace} 
    (hv : Value.okWide Tryz.prog w r b0 23 v) (h : DataW.Trod enc Tryz.prog w 0 spare held 23 v d p) : ∃ A : List Pa, A.length ≤ maxLen ∧ RepT (RepS w fun _ => False) (rL 3 (A.map encPa)) v := by
  obtain ⟨y, ⟨els, e1, e2, e3⟩, h2⟩ := open_one (opens_slice Tryz.underlying23 (by kernel_rfl) (by decide) opens_act) (slice_cells Tryz.underlying23 hv) h
  simp only [List.cons.injEq, and_true] at e1
  subst e1
  obtain ⟨A, rfl⟩ := all_of_mem (f := encPa) (fun y hy => e2 y hy)
  exact ⟨A, by simpa using e3, h2⟩
end Go.Proofs.YtcbfhpnmhhnjpaaGreat

namespace Go.Proofs.YtcbfhpnmhhnjpaaGreat
open Go.RowKit
theorem Ag.rdo {p : Pl} {m : Md} {B : Int} (h : Ag p m B) (hB : 0 ≤ B ∧ B < 900000000) (a : Pa) : Spec Tryz.prog 19 [.agg (encMd m), rI a.kind, rI a.id, rS a.body] (.val (encMr (m.act a))) := by
  obtain ⟨D, g⟩ := h.gp
  refine rdo_spec m h.fit.plen h.fit.len (fun i => by have := h.fit.pin i; omega) (fun i h1 h2 => ?_) a
  have h3 := h.fit.ver i
  rcases g.known (id := (i : Int)) (by omega) with ⟨e, _⟩ | ⟨_, e⟩
  · rw [Int.toNat_natCast] at e; rw [e]; show -2000000000 ≤ (0 : Int) ∧ (0 : Int) ≤ 2000000000; omega
  · rw [Int.toNat_natCast] at e
    unfold okPg at e
    rw [decide_eq_true_iff] at e
    omega
theorem Ag.sh {p : Pl} {m : Md} {B : Int} (h : Ag p m B) : p.f.ck.fr.length < 4611686018427387904 ∧ p.f.dt.length < 4611686018427387904 := by
  obtain ⟨D, g⟩ := h.gp
  have h8 : p.f.ck.fr.length ≤ 8 := (right_fr g.rt.clock).1
  have hd : p.f.dt.length ≤ 16 := g.dt_len
  omega
set_option maxHeartbeats 1000000 in
set_option maxRecDepth 100000 in
theorem law_map (k : Int) (hk : 0 ≤ k ∧ k ≤ 255) (pages : List Pg) (hl : pages.length ≤ 9223372036854775807) (acts : List Pa) (hl2 : acts.length ≤ 9223372036854775807) :
    Spec Tryz.prog 3 [.c (.pv (.int .u8 k)), rL 3 (pages.map encPg), rL 3 (acts.map encPa)] (.val (rB true)) := by
  refine spec_val mixed fn3 (by simp) ?_
  unfold ac3
  have hs := small16_spec acts hl2
  simp -implicitDefEqProofs only [↓aP, aR, ↓reduceIte, reduceCtorEq, seval]
  refine ask hs ?_
  cases hsm : smallA acts
  · simp -implicitDefEqProofs only [↓aP, aR, ↓reduceIte, reduceCtorEq, seval, hsm]
    refine ask awake16_spec ?_
    simp -implicitDefEqProofs only [↓aP, aR, ↓reduceIte, reduceCtorEq, seval]
  simp -implicitDefEqProofs only [↓aP, aR, ↓reduceIte, reduceCtorEq, seval, hsm]
  have hN := new_spec16 k hk pages hl
  obtain ⟨hA, hnow⟩ := newA_ag (n := (k % 8).toNat) (by omega) pages
  generalize newA (k % 8).toNat pages = x at hN hA hnow
  have hx1 := hA.fit.plen
  have hx2 := hA.fit.len
  refine ask hN ?_
  simp -implicitDefEqProofs only [↓aP, aR, ↓reduceIte, reduceCtorEq, seval, encPl_eq, md_69 hx1 hx2, encMd_len hx1 hx2, List.length_map, md_d69, List.append_nil]
  refine loopA (fun n σ => ∃ (i : Nat) (p : Pl) (md : Md), i + n = acts.length ∧ i ≤ 80 ∧ Ag p md i ∧ p.now = 3 * i ∧ σ.slot 2 = vL 3 (acts.map encPa) ∧ σ.slot 7 = .c (.ptr 7 1 0 0) ∧ σ.h.gen 7 = 1 ∧ σ.h.blk 7 = .box 40 8 [(encPl p).map AC.s] ∧ σ.slot 8 = .c (.ptr 8 1 0 0) ∧ σ.h.gen 8 = 1 ∧ σ.h.blk 8 = .box 46 69 [(encMd md).map AC.s] ∧ σ.slot 10 = vI i) acts.length ⟨0, x.1, x.2, by omega, by omega, hA, by rw [hnow]; rfl, ?_⟩ ?_
  · simp -implicitDefEqProofs only [↓aP, aR, ↓reduceIte, reduceCtorEq, seval, encPl_eq]
  rintro n σ ⟨i, p, md, hin, hi80, hG, hpn, s2, s7, g7, b7, s8, g8, b8, s10⟩
  have hx1 := hG.fit.plen
  have hx2 := hG.fit.len
  by_cases hi : i < acts.length
  · by_cases h80 : i < 80
    · have hs := do_spec p hG (by omega) acts[i]
      have ht := do_tells hG (by omega) acts[i]
      have hr := hG.rdo (by omega) acts[i]
      obtain ⟨t1, t2, t3, t4, t5, t6, t7⟩ := ht
      have er : md.act acts[i] = ((md.act acts[i]).1, (Po.doP p acts[i]).2.1, (Po.doP p acts[i]).2.2.2) := Prod.ext rfl (Prod.ext t1.symm t2.symm)
      rw [er] at hr
      generalize (md.act acts[i]).1 = md' at hr t3
      generalize Po.doP p acts[i] = y at hs hr t3 t4
      have hy1 := t3.fit.plen
      have hy2 := t3.fit.len
      have hT := tick_spec y.1 3 (by rw [t4, hpn]; omega)
      have hT2 := tick_rel t3 3
      have hzn : (Po.tick y.1 3).now = 3 * ((i + 1 : Nat) : Int) := by
        show y.1.now + min (max 3 0) (2147483647 - y.1.now) = _
        rw [t4, hpn]; omega
      generalize Po.tick y.1 3 = z at hT hT2 hzn
      have hR := fRight_spec z.f hT2.sh
      rw [hT2.right] at hR
      have w1 : IntKind.i64.wrap (3 * IntKind.i64.wrap ((i : Int) + 1)) = 3 * ((i + 1 : Nat) : Int) := by rw [wrapS (show i < 4611686018427387904 by omega), wrapI (by omega)]
      simp -implicitDefEqProofs only [↓aP, aR, ↓reduceIte, reduceCtorEq, seval, s2, s7, g7, b7, s8, g8, b8, s10, List.length_map, show decide ((i : Int) < (acts.length : Int)) = true by simp; omega, show decide ((i : Int) < 80) = true by simp; omega, askIdx_map, hi, encPa, encPl_eq]
      refine ask hs ?_
      simp -implicitDefEqProofs only [↓aP, aR, ↓reduceIte, reduceCtorEq, seval, encDo, encPl_eq, encPg, s2, s7, g7, b7, s8, g8, b8, s10, md_69 hx1 hx2, encMd_len hx1 hx2, shA_s, shB_s]
      refine ask hr ?_
      simp -implicitDefEqProofs only [↓aP, aR, ↓reduceIte, reduceCtorEq, seval, encMr, encPg, encPl_eq, s2, s7, g7, b7, s8, g8, b8, s10, md_69 hx1 hx2, encMd_len hx1 hx2, md_69 hy1 hy2, encMd_len hy1 hy2, encMd_flat, shA_s, shB_s, frz_s0, List.append_nil, locs_s, List.length_map]
      refine askEq (eqP (x := y.2.1) (y := y.2.1) rfl) ?_
      simp -implicitDefEqProofs only [↓aP, aR, ↓reduceIte, reduceCtorEq, seval, encPl_eq, s2, s7, g7, b7, s8, g8, b8, s10, md_69 hx1 hx2, encMd_len hx1 hx2, md_69 hy1 hy2, encMd_len hy1 hy2, encMd_flat, shA_s, shB_s, frz_s0, List.append_nil, locs_s, bne_self_eq_false]
      refine ask hT ?_
      simp -implicitDefEqProofs only [↓aP, aR, ↓reduceIte, reduceCtorEq, seval, encPl_eq, s2, s7, g7, b7, s8, g8, b8, s10, md_69 hx1 hx2, encMd_len hx1 hx2, md_69 hy1 hy2, encMd_len hy1 hy2, encMd_flat, shA_s, shB_s, frz_s0, List.append_nil, locs_s, hzn, w1, bne_self_eq_false]
      (try with_reducible refine And.intro (by decide +kernel) ?_)
      refine ask hR ?_
      simp -implicitDefEqProofs only [↓aP, aR, ↓reduceIte, reduceCtorEq, seval, s2, s7, g7, b7, s8, g8, b8, s10, wrapS (show i < 4611686018427387904 by omega)]
      refine ⟨n - 1, by omega, i + 1, z, md', by omega, by omega, by rw [show ((i + 1 : Nat) : Int) = (i : Int) + 1 by omega]; exact hT2, hzn, ?_⟩
      simp -implicitDefEqProofs only [↓aP, aR, ↓reduceIte, reduceCtorEq, seval, s2, s7, g7, b7, s8, g8, b8, s10, encPl_eq]
      rw [hzn, md_d69 hx1 hx2, List.append_nil]
      exact ⟨rfl, rfl⟩
    · simp -implicitDefEqProofs only [↓aP, aR, ↓reduceIte, reduceCtorEq, seval, s2, s7, g7, b7, s8, g8, b8, s10, List.length_map, show decide ((i : Int) < (acts.length : Int)) = true by simp; omega, show decide ((i : Int) < 80) = false by simp; omega]
      refine ask awake16_spec ?_
      simp -implicitDefEqProofs only [↓aP, aR, ↓reduceIte, reduceCtorEq, seval]
  · simp -implicitDefEqProofs only [↓aP, aR, ↓reduceIte, reduceCtorEq, seval, s2, s7, g7, b7, s8, g8, b8, s10, List.length_map, show decide ((i : Int) < (acts.length : Int)) = false by simp; omega]
    refine ask awake16_spec ?_
    simp -implicitDefEqProofs only [↓aP, aR, ↓reduceIte, reduceCtorEq, seval]
end Go.Proofs.YtcbfhpnmhhnjpaaGreat

namespace Go.Proofs.YtcbfhpnmhhnjpaaGreat
open Go.RowKit Go.ChangeShapes Go.WideShapes
theorem poolMap_walk {w : World} (a : Int) (ha : (Lit.int .u8 a).wf = true) (v1 : Value) (a1 : ∃ A : List Pg, A.length ≤ maxLen ∧ RepT (RepS w fun _ => False) (rL 3 (A.map encPg)) v1) (v2 : Value) (a2 : ∃ A : List Pa, A.length ≤ maxLen ∧ RepT (RepS w fun _ => False) (rL 3 (A.map encPa)) v2) :
    Calls Tryz.prog 3 #[.int .u8 a, v1, v2] w fun e w' => e = .returned (.bool true) ∧ Below w.heap.size w w' := by
  obtain ⟨A, h1, h0⟩ := a1
  obtain ⟨C, h2, h3⟩ := a2
  exact (law_map a (u8_of ha) A (by unfold maxLen at h1; omega) C (by unfold maxLen at h2; omega)).plain (us := [.int .u8 a, v1, v2]) (.cons (.pv rfl) (.cons h0 (.cons h3 .nil)))
end Go.Proofs.YtcbfhpnmhhnjpaaGreat

