/- THE LAWS of layer 9, walked: ClockTouch. Conditions: those of the arguments alone. -/
import Derived.Test.YthhialnnhhemaaaClockSweeps
import Derived.Deep.RegionLaw
import Derived.Deep.Slices
namespace Go.Proofs.Ythhialnnhhemaaa
open Go.RowKit
set_option linter.unusedVariables false
theorem infoCk : (Try.prog.info? 42).map (fun i => (i.zero, i.size, i.bytes)) = some (some (.agg #[.int .i64 0, .int .i64 0, .bool false]), 3, 24) := by kernel_rfl
def fr0 : Fr := ⟨0, 0, false⟩
theorem made_fr (n : Nat) (hn : n ≤ 8) : (madeCells (Value.agg #[.int .i64 0, .int .i64 0, .bool false]).cells (n * 3)) = (frE.flat (List.replicate n fr0)).toArray := by
  obtain rfl | rfl | rfl | rfl | rfl | rfl | rfl | rfl | rfl : n = 0 ∨ n = 1 ∨ n = 2 ∨ n = 3 ∨ n = 4 ∨ n = 5 ∨ n = 6 ∨ n = 7 ∨ n = 8 := by omega
  all_goals kernel_rfl
theorem madeF (n : Nat) (hn : n ≤ 8) (w : World) : (Instr.makeSlice 22 (.int .i64 n) (.int .i64 n)).run Try.prog w = .ok (.slice (some ⟨w.heap.size, 0, none⟩) n n) (w.alloc (.cells (frE.flat (List.replicate n fr0)).toArray 42)) := by
  obtain ⟨i0, hi, hz0, hz1, hz2⟩ := info_parts infoCk
  have h := run_make w 22 42 i0 (.agg #[.int .i64 0, .int .i64 0, .bool false]) Try.underlying22 hi hz0 .i64 .i64 n n (by omega) (by omega) (by rw [hz2]; omega) (by omega)
  simp only [hz1, Int.toNat_natCast] at h
  rw [h, made_fr n hn]

/-PLAIN-/
theorem flat_pins (l : List Fr) (i : Nat) (hi : i < l.length) (b : Int) : frE.flat (l.set i { l[i] with pins := b }) = (frE.flat l).set (i * 3 + 1) (.int .i64 b) := by
  have e1 : l.set i { l[i] with pins := b } = l.take i ++ ({ l[i] with pins := b } :: l.drop (i + 1)) := by
    rw [List.set_eq_take_append_cons_drop, if_pos hi]
  have e2 : l = l.take i ++ (l[i] :: l.drop (i + 1)) := by
    rw [List.getElem_cons_drop, List.take_append_drop]
  have e3 : frE.flat l = frE.flat (l.take i) ++ (frE.enc l[i] ++ frE.flat (l.drop (i + 1))) := by
    conv => lhs; rw [e2]
    rw [frE.flat_append, frE.flat_cons]
  have hl : (frE.flat (l.take i)).length = i * 3 := by rw [frE.flat_length, List.length_take, Nat.min_eq_left (by omega)]; rfl
  rw [e1, frE.flat_append, frE.flat_cons, e3]
  rw [List.set_append_right _ _ (by rw [hl]; omega), hl, show i * 3 + 1 - i * 3 = 1 by omega]
  congr 1
theorem fr_pinned {w : World} {B g cap : Nat} {t : TypeId} {l : List Fr} (h : frE.Own w B t (.slice (some ⟨g, 0, none⟩) l.length cap) l) (i : Nat) (hi : i < l.length) (b : Int) :
    frE.Own (w.setCell ⟨g, i * 3 + 1, none⟩ (.int .i64 b)) B t (.slice (some ⟨g, 0, none⟩) l.length cap) (l.set i { l[i] with pins := b }) ∧ w.grownBy (w.setCell ⟨g, i * 3 + 1, none⟩ (.int .i64 b)) (some g) := by
  have hs := World.ownsRow.stored h (i * 3 + 1) (.int .i64 b)
  refine ⟨?_, hs.2⟩
  unfold Enc.Own
  rw [List.length_set, flat_pins l i hi b]
  exact hs.1
namespace Ck
theorem Tch.start (n k : Nat) : Tch (List.replicate n fr0) n k (fun _ => false) := by
  refine ⟨by simp, ?_, ?_, ?_, rfl⟩ <;> intro i hi <;> simp [fr0]
theorem Tch.isRight {l : List Fr} {n k h : Nat} {gone : Nat → Bool} (ht : Tch l n k gone) (hn : n ≤ 8) (hh : h < n) : right l (h : Int) = true := by
  have hl := ht.len
  unfold Ck.right
  rw [Bool.and_eq_true, decide_eq_true_iff, List.all_eq_true]
  refine ⟨by omega, fun f hf => ?_⟩
  obtain ⟨i, hi, rfl⟩ := List.mem_iff_getElem.1 hf
  unfold good
  rw [decide_eq_true_iff, ht.page i hi, ht.pins i hi]
  cases gone i <;> simp
theorem Tch.round {l : List Fr} {n k h : Nat} {gone : Nat → Bool} (ht : Tch l n k gone) (hn : n ≤ 8) (hh : h < n) (hk : k < n) :
    right (Ck.touch l k) (h : Int) = true ∧ ∃ N, stop (Ck.touch l k) h = some N ∧
      (goneN gone n + 1 < n → (h + N) % n ≠ k ∧ gone ((h + N) % n) = false ∧ Tch ((after (Ck.touch l k) h N).modify ((h + N) % n) fun f => { f with pins := 1 }) n k (fun i => gone i || i == (h + N) % n) ∧ goneN (fun i => gone i || i == (h + N) % n) n = goneN gone n + 1) ∧
      (goneN gone n + 1 = n → (h + N) % n = k) := by
  have ht2 := ht.touch
  have hl := ht.len
  have hr := ht2.isRight hn hh
  have hkl : k < l.length := by omega
  have hu : ((Ck.touch l k)[k]'(by rw [ht2.len]; exact hk)).used = true := by
    rw [touch_get _ _ _ hkl, if_pos rfl]
  have hp : ((Ck.touch l k)[k]'(by rw [ht2.len]; exact hk)).pins = 0 := by
    rw [ht2.pins _ (by rw [ht2.len]; exact hk), ht.stays]; rfl
  obtain ⟨N, hN⟩ := stop_free (l := Ck.touch l k) (h := h) (by rw [ht2.len]; exact hh) ⟨_, List.getElem_mem _, hp⟩
  refine ⟨hr, N, hN, ?_, ?_⟩
  · intro hlt
    obtain ⟨h1, h2, _⟩ := ht2.goes hh hk hu (gone_ex hk ht.stays hlt) hN
    have hm : (h + N) % n < n := Nat.mod_lt _ (by omega)
    exact ⟨h1, h2, ht2.sweep h1 hm, goneN_add hm h2⟩
  · intro hall
    exact ht2.least hh hk (gone_all hk ht.stays hall) hN
end Ck
def gcells (gone : Nat → Bool) : Array Value := #[.bool (gone 0), .bool (gone 1), .bool (gone 2), .bool (gone 3), .bool (gone 4), .bool (gone 5), .bool (gone 6), .bool (gone 7)]
theorem eight {P : Nat → Prop} (h0 : P 0) (h1 : P 1) (h2 : P 2) (h3 : P 3) (h4 : P 4) (h5 : P 5) (h6 : P 6) (h7 : P 7) (i : Nat) (hi : i < 8) : P i := by
  obtain rfl | rfl | rfl | rfl | rfl | rfl | rfl | rfl : i = 0 ∨ i = 1 ∨ i = 2 ∨ i = 3 ∨ i = 4 ∨ i = 5 ∨ i = 6 ∨ i = 7 := by omega
  all_goals assumption
theorem gcells_get (gone : Nat → Bool) (i : Nat) (hi : i < 8) : (gcells gone)[i]? = some (.bool (gone i)) :=
  eight (P := fun i => (gcells gone)[i]? = some (.bool (gone i))) rfl rfl rfl rfl rfl rfl rfl rfl i hi
/-- a flag is raised -/
theorem gcells_put {w : World} {g : Nat} {t : TypeId} {gone : Nat → Bool} (h : Blk w g t (gcells gone)) (i : Nat) (hi : i < 8) : Blk (w.setCell ⟨g, i, none⟩ (.bool true)) g t (gcells fun j => gone j || j == i) := by
  exact eight (P := fun i => Blk (w.setCell ⟨g, i, none⟩ (.bool true)) g t (gcells fun j => gone j || j == i)) (by have := h.put 0 (.bool true); simpa [gcells] using this) (by have := h.put 1 (.bool true); simpa [gcells] using this) (by have := h.put 2 (.bool true); simpa [gcells] using this) (by have := h.put 3 (.bool true); simpa [gcells] using this) (by have := h.put 4 (.bool true); simpa [gcells] using this) (by have := h.put 5 (.bool true); simpa [gcells] using this) (by have := h.put 6 (.bool true); simpa [gcells] using this) (by have := h.put 7 (.bool true); simpa [gcells] using this) i hi
theorem touched_after {w W3 w6 : World} {v : Value} {n size gx bx D : Nat} {e t1 t2 t3 : TypeId} {xs : List Value} {c1 c2 c3 : Array Value} (hown : w6.ownsRow w.heap.size e size v n xs) (hgr : (W3.alloc (.cells #[] e)).drew.grownBy w6 (Value.slice (some ⟨W3.heap.size, 0, none⟩) 0 0).ownBlock)
    (hb : Below w.heap.size w W3) (hx : Blk W3 bx t1 c1) (hg : Blk W3 gx t2 c2) (hd : Blk W3 D t3 c3) :
    w6.ownsRow w.heap.size e size v n xs ∧ Below w.heap.size w w6 ∧ Blk w6 bx t1 c1 ∧ Blk w6 gx t2 c2 ∧ Blk w6 D t3 c3 := by
  have ne : ∀ {g : Nat} {t : TypeId} {cs : Array Value}, Blk W3 g t cs → (Value.slice (some ⟨W3.heap.size, 0, none⟩) 0 0).ownBlock ≠ some g := by
    intro g t cs h e
    have := h.lt
    simp [Value.ownBlock] at e
    omega
  refine ⟨hown, ?_, (hx.alloc _).drew.grown hgr (ne hx), (hg.alloc _).drew.grown hgr (ne hg), (hd.alloc _).drew.grown hgr (ne hd)⟩
  refine ((hb.alloc hb.size _).drew).grown hgr (by have := hb.size; simp; omega) ?_
  intro k hk
  simp [Value.ownBlock] at hk
  have := hb.size
  omega
/-- the pin of the one who went -/
theorem touched_set {w w6 : World} {A6 : Option Addr} {n c6 at1 bx gx : Nat} {hn1 : Int} {l2 : List Fr} {t2 : TypeId} {c2 : Array Value} (hown : w6.ownsRow w.heap.size 42 3 (.slice A6 n c6) n (frE.flat l2)) (hl : l2.length = n) (ha : at1 < n)
    (hb : Below w.heap.size w w6) {x0 x1 : Value} (hx : Blk w6 bx 24 #[x0, x1]) (hg : Blk w6 gx t2 c2) (ht : t2 ≠ 42) (hne : gx ≠ bx) (hbx : w.heap.size ≤ bx) :
    ∃ g, A6 = some ⟨g, 0, none⟩ ∧ ∀ W7, W7 = ((w6.setCell ⟨bx, 0, none⟩ (.slice A6 n c6)).setCell ⟨bx, 1, none⟩ (.int .i64 hn1)) →
      Blk W7 bx 24 #[.slice (some ⟨g, 0, none⟩) n c6, .int .i64 hn1] ∧ (∃ x, W7.cell? ⟨g, at1 * 3 + 1, none⟩ = some (.int .i64 x)) ∧ W7.frozen? ⟨g, at1 * 3 + 1, none⟩ = false ∧ g < W7.heap.size ∧
      (frE.Own (W7.setCell ⟨g, at1 * 3 + 1, none⟩ (.int .i64 1)) w.heap.size 42 (.slice (some ⟨g, 0, none⟩) n c6) (l2.modify at1 fun f => { f with pins := 1 }) ∧
        Blk (W7.setCell ⟨g, at1 * 3 + 1, none⟩ (.int .i64 1)) bx 24 #[.slice (some ⟨g, 0, none⟩) n c6, .int .i64 hn1] ∧
        Blk (W7.setCell ⟨g, at1 * 3 + 1, none⟩ (.int .i64 1)) gx t2 c2 ∧ Below w.heap.size w (W7.setCell ⟨g, at1 * 3 + 1, none⟩ (.int .i64 1))) := by
  subst hl
  have ho : frE.Own w6 w.heap.size 42 (.slice A6 l2.length c6) l2 := hown
  obtain ⟨g, cap, cur, hv, hgb, _⟩ := ho.blk (by omega)
  simp only [Value.slice.injEq, true_and] at hv
  obtain ⟨rfl, rfl⟩ := hv
  refine ⟨g, rfl, ?_⟩
  rintro W7 rfl
  have hx1 := hx.put 0 (.slice (some ⟨g, 0, none⟩) l2.length c6)
  have hx2 : Blk ((w6.setCell ⟨bx, 0, none⟩ (.slice (some ⟨g, 0, none⟩) l2.length c6)).setCell ⟨bx, 1, none⟩ (.int .i64 hn1)) bx 24 #[.slice (some ⟨g, 0, none⟩) l2.length c6, .int .i64 hn1] := by
    have := hx1.put 1 (.int .i64 hn1); simpa using this
  have ho1 : frE.Own _ w.heap.size 42 (.slice (some ⟨g, 0, none⟩) l2.length c6) l2 := own_put ho hx (by decide) 0 (.slice (some ⟨g, 0, none⟩) l2.length c6)
  have ho2 : frE.Own _ w.heap.size 42 (.slice (some ⟨g, 0, none⟩) l2.length c6) l2 := own_put ho1 hx1 (by decide) 1 (.int .i64 hn1)
  have hg2 := (hg.far (p := ⟨bx, 0, none⟩) hne (.slice (some ⟨g, 0, none⟩) l2.length c6)).far (p := ⟨bx, 1, none⟩) hne (.int .i64 hn1)
  have hb2 := (hb.setCell (p := ⟨bx, 0, none⟩) hbx (.slice (some ⟨g, 0, none⟩) l2.length c6)).setCell (p := ⟨bx, 1, none⟩) hbx (.int .i64 hn1)
  obtain ⟨_, k1, _, _, k4⟩ := fr_own ho2 at1 ha
  obtain ⟨hp, hgr⟩ := fr_pinned ho2 at1 ha 1
  refine ⟨hx2, ⟨_, k1⟩, World.ownsRow.frozenAt ho2 _, k4, ?_, hx2.grown hgr (own_ne ho2 hx2 (by decide)), hg2.grown hgr (own_ne ho2 hg2 ht), hb2.setCell (p := ⟨g, at1 * 3 + 1, none⟩) hgb _⟩
  have he : l2.set at1 { l2[at1] with pins := 1 } = l2.modify at1 fun f => { f with pins := 1 } := by rw [Ck.set_eq_modify ha]
  rw [he] at hp
  unfold Enc.Own at hp ⊢
  rw [List.length_modify] at hp ⊢
  exact hp
theorem start_own {W : World} {g B n : Nat} (hb : Blk W g 42 (frE.flat (List.replicate n fr0)).toArray) (hg : B ≤ g) (hn : n ≤ 8) : frE.Own W B 42 (.slice (some ⟨g, 0, none⟩) n n) (List.replicate n fr0) := by
  have hl : (List.replicate n fr0).length = n := List.length_replicate
  have h3 : (frE.flat (List.replicate n fr0)).length = n * 3 := by rw [frE.flat_length, hl]; rfl
  have := Enc.Own.of_blk (E := frE) (l := List.replicate n fr0) (cap := n) hg hb (by omega) (by unfold maxLen; omega) (by rw [List.size_toArray, h3]; rfl) (by rw [hl]; exact List.take_of_length_le (by rw [h3]; exact Nat.le_refl _))
  rw [hl] at this
  exact this
theorem goneN_none (n : Nat) : Ck.goneN (fun _ => false) n = 0 := by
  unfold Ck.goneN
  rw [List.countP_eq_zero]
  intro a _
  simp
/-PLAINEND-/
set_option maxRecDepth 100000 in
set_option maxHeartbeats 3200000 in
theorem clockTouch_walk {w : World} (many at1 hand : Int) (wf1 : (Lit.int .u8 many).wf = true) (wf2 : (Lit.int .u8 at1).wf = true) (wf3 : (Lit.int .u8 hand).wf = true) :
    Calls Try.prog 6 #[.int .u8 many, .int .u8 at1, .int .u8 hand] w fun e w' => e = .returned (.bool true) ∧ Below w.heap.size w w' := by
  obtain ⟨a, rfl, ha⟩ : ∃ a : Nat, many = (a : Int) ∧ a < 256 := by
    have h' : 0 ≤ many ∧ many ≤ 255 := by simpa [Lit.wf, IntKind.min, IntKind.max, IntKind.signed, IntKind.bits] using wf1
    exact ⟨many.toNat, by omega, by omega⟩
  obtain ⟨b, rfl, hb⟩ : ∃ a : Nat, at1 = (a : Int) ∧ a < 256 := by
    have h' : 0 ≤ at1 ∧ at1 ≤ 255 := by simpa [Lit.wf, IntKind.min, IntKind.max, IntKind.signed, IntKind.bits] using wf2
    exact ⟨at1.toNat, by omega, by omega⟩
  obtain ⟨c, rfl, hc⟩ : ∃ a : Nat, hand = (a : Int) ∧ a < 256 := by
    have h' : 0 ≤ hand ∧ hand ≤ 255 := by simpa [Lit.wf, IntKind.min, IntKind.max, IntKind.signed, IntKind.bits] using wf3
    exact ⟨hand.toNat, by omega, by omega⟩
  clear wf1 wf2 wf3
  obtain ⟨n, hn⟩ : ∃ n, 2 + a % 7 = n := ⟨_, rfl⟩
  have hn2 : 2 ≤ n := by omega
  have hn8 : n ≤ 8 := by omega
  obtain ⟨k, hk⟩ : ∃ k, b % n = k := ⟨_, rfl⟩
  obtain ⟨h0, hh0⟩ : ∃ h0, c % n = h0 := ⟨_, rfl⟩
  have hkn : k < n := by rw [← hk]; exact Nat.mod_lt _ (by omega)
  have hhn : h0 < n := by rw [← hh0]; exact Nat.mod_lt _ (by omega)
  have r1 : ((a : Int)).tmod 7 = ((a % 7 : Nat) : Int) := rem_nat a 7
  have r1' : (a : Int) % 7 = ((a % 7 : Nat) : Int) := rfl
  have r2 : ((b : Int)).tmod (n : Int) = (k : Int) := by rw [rem_nat, hk]
  have r2' : (b : Int) % (n : Int) = (k : Int) := by rw [← hk]; rfl
  have r3 : ((c : Int)).tmod (n : Int) = (h0 : Int) := by rw [rem_nat, hh0]
  have r3' : (c : Int) % (n : Int) = (h0 : Int) := by rw [← hh0]; rfl
  have hs1 : (2 : Int) + ((a % 7 : Nat) : Int) = (n : Int) := by omega
  have hnz : ¬ (n : Int) = 0 := by omega
  have hnz2 : ((n : Int) == 0) = false := by rw [beq_eq_false_iff_ne]; omega
  clear hn hk hh0
  generalize a % 7 = a7 at *
  go_enter Try.func6, Try.ntmps6
  go_wp2_with fail
  have hmk := madeF n hn8
  obtain ⟨i0, hi, hi1, hi2, hi3⟩ := info_parts infoCk
  have HI := Lib.hid (And.intro hi (And.intro hi1 (And.intro hi2 hi3)))
  clear hi hi1 hi2 hi3
  go_region
  all_goals go_wp2_with fail
  · -- the frames, then the box
    have hst0 : (frE.Own (((w.alloc (.cells (frE.flat (List.replicate n fr0)).toArray 42)).alloc (.cells #[.slice (some ⟨w.heap.size, 0, none⟩) n n, .int .i64 h0] 24)).alloc (.cells (gcells fun _ => false) 45)).drew w.heap.size 42 (.slice (some ⟨w.heap.size, 0, none⟩) n n) (List.replicate n fr0) ∧ Blk (((w.alloc (.cells (frE.flat (List.replicate n fr0)).toArray 42)).alloc (.cells #[.slice (some ⟨w.heap.size, 0, none⟩) n n, .int .i64 h0] 24)).alloc (.cells (gcells fun _ => false) 45)).drew (w.heap.size + 1) 24 #[.slice (some ⟨w.heap.size, 0, none⟩) n n, .int .i64 h0] ∧ Blk (((w.alloc (.cells (frE.flat (List.replicate n fr0)).toArray 42)).alloc (.cells #[.slice (some ⟨w.heap.size, 0, none⟩) n n, .int .i64 h0] 24)).alloc (.cells (gcells fun _ => false) 45)).drew (w.heap.size + 1 + 1) 45 (gcells fun _ => false) ∧ Below w.heap.size w (((w.alloc (.cells (frE.flat (List.replicate n fr0)).toArray 42)).alloc (.cells #[.slice (some ⟨w.heap.size, 0, none⟩) n n, .int .i64 h0] 24)).alloc (.cells (gcells fun _ => false) 45)).drew) := by
      have e2 : ((w.alloc (.cells (frE.flat (List.replicate n fr0)).toArray 42)).alloc (.cells #[.slice (some ⟨w.heap.size, 0, none⟩) n n, .int .i64 h0] 24)).heap.size = w.heap.size + 1 + 1 := by simp
      have hG := Blk.new ((w.alloc (.cells (frE.flat (List.replicate n fr0)).toArray 42)).alloc (.cells #[.slice (some ⟨w.heap.size, 0, none⟩) n n, .int .i64 h0] 24)) 45 (gcells fun _ => false)
      rw [e2] at hG
      have hF : Blk (((w.alloc (.cells (frE.flat (List.replicate n fr0)).toArray 42)).alloc (.cells #[.slice (some ⟨w.heap.size, 0, none⟩) n n, .int .i64 h0] 24)).alloc (.cells (gcells fun _ => false) 45)).drew (w.heap.size) 42 (frE.flat (List.replicate n fr0)).toArray := ((Blk.new w _ _).alloc _).alloc _
      have hX : Blk (((w.alloc (.cells (frE.flat (List.replicate n fr0)).toArray 42)).alloc (.cells #[.slice (some ⟨w.heap.size, 0, none⟩) n n, .int .i64 h0] 24)).alloc (.cells (gcells fun _ => false) 45)).drew (w.heap.size + 1) 24 #[.slice (some ⟨w.heap.size, 0, none⟩) n n, .int .i64 h0] := Blk.drew (by have := (Blk.new (w.alloc (.cells (frE.flat (List.replicate n fr0)).toArray 42)) 24 #[.slice (some ⟨w.heap.size, 0, none⟩) n n, .int .i64 h0]).alloc (.cells (gcells fun _ => false) 45); simpa using this)
      exact ⟨start_own hF (by omega) hn8, hX, hG, ((((Below.refl w.heap.size w).alloc (Nat.le_refl _) _).alloc (by simp) _).alloc (by rw [e2]; omega) _).drew⟩
    have HST := Lib.hid hst0
    clear hst0
    go_loopw [11, 12, 13, 34] (fun _ _ _ i wr => ∃ (m h : Nat) (A : Option Addr) (cp : Nat) (l : List Fr) (gone : Nat → Bool), m + 1 ≤ n ∧ i = .int .i64 m ∧ Ck.Tch l n k gone ∧ Ck.goneN gone n = m ∧ h < n ∧ frE.Own wr w.heap.size 42 (.slice A n cp) l ∧ Blk wr (w.heap.size + 1) 24 #[.slice A n cp, .int .i64 h] ∧ Blk wr (w.heap.size + 1 + 1) 45 (gcells gone) ∧ Below w.heap.size w wr) (fun _ _ _ i _ => n - (intOf i).toNat)
    case atStart => exact ⟨0, h0, _, n, _, fun _ => false, by omega, rfl, Ck.Tch.start n k, goneN_none n, hhn, HST.out.1, HST.out.2.1, HST.out.2.2.1, HST.out.2.2.2⟩
    case round =>
      clear HST
      obtain ⟨m, h, A, cp, l, gone, hm, rfl, ht, hgn, hh, hown, hbx, hgx, hB⟩ := hrel
      obtain ⟨hrt, N, hN, hgo, hlast⟩ := ht.round hn8 hh hkn
      have hlen := ht.len
      have hlen2 : (Ck.touch l k).length = n := by rw [Ck.touch_length]; exact hlen
      have hlen3 : (Ck.after (Ck.touch l k) h N).length = n := by rw [Ck.after_length]; exact hlen2
      have htc : Ck.touch' l (h : Int) (k : Int) = Ck.touch l k := by
        unfold Ck.touch'
        rw [ht.isRight hn8 hh, decide_eq_true (by omega)]
        rfl
      have ST := touch_any (.slice A n cp) l h k wr hown.sl
      rw [htc] at ST
      obtain ⟨at1, hat1⟩ : ∃ at1, (h + N) % n = at1 := ⟨_, rfl⟩
      obtain ⟨hn1, hhn1⟩ : ∃ hn1, (h + N + 1) % n = hn1 := ⟨_, rfl⟩
      have hatl : at1 < n := by rw [← hat1]; exact Nat.mod_lt _ (by omega)
      have hhnl : hn1 < n := by rw [← hhn1]; exact Nat.mod_lt _ (by omega)
      have SW := Lib.hid (fun (v : Value) (W : World) (hs : frE.Sl W v (Ck.touch l k)) => sweep_is v (Ck.touch l k) h N at1 hn1 _ W hs hrt hN rfl (by rw [hlen2]; exact hat1) (by rw [hlen2]; exact hhn1))
      rw [hat1] at hgo hlast
      generalize Ck.after (Ck.touch l k) h N = l2 at SW hgo hlen3
      have ST := Lib.hid ST
      have HOWN := Lib.hid hown
      have HBX := Lib.hid hbx
      have HGX := Lib.hid hgx
      obtain ⟨f0, f1, y0, y1, l1⟩ := pair_cells hbx
      have q1 : (0 : Int) ≤ (at1 : Int) := by omega
      have q2 : (at1 : Int) < (n : Int) := by omega
      have q2' : (at1 : Int) < 8 := by omega
      have q2'' : at1 < 8 := by omega
      have hn8i : (n : Int) ≤ 8 := by omega
      clear hN hrt htc hat1 hhn1 hlen hlen2 hown hbx hgx
      by_cases hlt : m + 1 < n
      · obtain ⟨hne, hgf, htn, hgn2⟩ := hgo (by omega)
        rw [hgn] at hgn2
        have HT := Lib.hid (And.intro htn hgn2)
        have hmi : (m : Int) < (n : Int) - 1 := by omega
        have q3 : ((at1 : Int) == (k : Int)) = false := by rw [beq_eq_false_iff_ne]; omega
        have q4 : ¬ at1 = k := hne
        clear hgo hlast htn hgn2 hne
        go_wp2_with fail
        refine ST.out.mono ?_
        rintro e W1 ⟨⟨u, rfl, hu⟩, hB1⟩
        have hb := hB.trans (hB1.mono hB.size)
        have SS := Lib.hid (SW.out u W1 hu)
        have HBX := Lib.hid (HBX.out.keep hB1)
        have HGX := Lib.hid (HGX.out.keep hB1)
        clear f0 f1 y0 y1 l1 hu ST SW HOWN
        go_wp2_with fail
        refine SS.out.mono ?_
        rintro e W2 ⟨⟨u2, rfl, hu2⟩, hB2⟩
        obtain ⟨A2, c2, rfl⟩ := own_form hu2
        rw [hlen3] at hu2
        have hb := hb.trans (hB2.mono hb.size)
        have HBX := Lib.hid (HBX.out.keep hB2)
        have HGX := Lib.hid (HGX.out.keep hB2)
        obtain ⟨f0, f1, y0, y1, l1⟩ := pair_cells HBX.out
        have gc : W2.cell? ⟨w.heap.size + 1 + 1, at1, none⟩ = some (.bool false) := by rw [HGX.out.cell, gcells_get gone at1 q2'', hgf]
        have gz : W2.frozen? ⟨w.heap.size + 1 + 1, at1, none⟩ = false := HGX.out.frozen at1
        have gl : w.heap.size + 1 + 1 < W2.heap.size := HGX.out.lt
        have q5 : ((n : Int) != (n : Int)) = false := by simp
        have q6 : ¬ (at1 : Int) < 0 := by omega
        have q7 : decide ((n : Int) ≤ (at1 : Int)) = false := decide_eq_false (by omega)
        have q8 : decide (n ≤ at1) = false := decide_eq_false (by omega)
        have HU := Lib.hid hu2
        have HB := Lib.hid hb
        have ho3 := @Below.refl W2.heap.size W2
        have hbs := (hb.setCell (p := ⟨w.heap.size + 1 + 1, at1, none⟩) (by simp; omega) (.bool true)).alloc (by have := hb.size; simpa using this) (.cells #[.slice A2 n c2, .int .i64 hn1] 24)
        have hxs := (HBX.out.far (p := ⟨w.heap.size + 1 + 1, at1, none⟩) (by simp <;> omega) (.bool true)).alloc (.cells #[.slice A2 n c2, .int .i64 hn1] 24)
        have hgs := (gcells_put HGX.out at1 q2'').alloc (.cells #[.slice A2 n c2, .int .i64 hn1] 24)
        have hds := Blk.new (W2.setCell ⟨w.heap.size + 1 + 1, at1, none⟩ (.bool true)) 24 #[.slice A2 n c2, .int .i64 hn1]
        have hus : frE.Own _ _ _ _ _ := own_keep (own_put hu2 HGX.out (by decide) at1 (.bool true)) ((Below.refl _ _).alloc (Nat.le_refl _) (.cells #[.slice A2 n c2, .int .i64 hn1] 24))
        rw [show (W2.setCell ⟨w.heap.size + 1 + 1, at1, none⟩ (.bool true)).heap.size = W2.heap.size by simp] at hds
        have HS3 := Lib.hid (And.intro hbs (And.intro hxs (And.intro hgs (And.intro hds hus))))
        clear ho3 hB2 SS hu2 hb hgf hB hB1 hbs hxs hgs hds hus
        go_wp2_with fail
        generalize ((W2.setCell ⟨w.heap.size + 1 + 1, at1, none⟩ (.bool true)).alloc (.cells #[.slice A2 n c2, .int .i64 hn1] 24)) = W3 at *
        generalize W2.heap.size = D at *
        obtain ⟨hb, hx, hg, hd, hu⟩ := HS3.out
        clear HS3 HU HB HBX HGX f0 f1 y0 y1 l1 gc gz gl
        obtain ⟨b2, off2, rfl, hbl, hc⟩ := (Enc.Own.sl (E := frE) hu).at' (by omega)
        have HC := Lib.hid (hc.below ((Below.refl _ _).alloc (Nat.le_refl _) (.cells #[] 42)) hbl).cells
        have hE := own_empty (size := 3) (Blk.new W3 42 #[]) hb.size
        have HE := Lib.hid hE
        obtain ⟨f0, f1, y0, y1, l1⟩ := pair_cells hx
        obtain ⟨d0, d1, _, _, d4⟩ := pair_cells hd
        have H3 := Lib.hid (And.intro hb (And.intro hx hg))
        have HD3 := Lib.hid hd
        have HSZ := Lib.hid (show w.heap.size ≤ ((W3.alloc (.cells #[] 42)).drew).heap.size from (hb.alloc hb.size _).size)
        have HL3 := Lib.hid hlen3
        have q9 : n ≤ maxLen := by unfold maxLen; omega
        have q10 : n * 24 ≤ 140737488355328 := by omega
        clear hc hE hb hx hg hd hu hlen3
        go_region_law (first
          | (refine step_append_own ((W3.alloc (.cells #[] 42)).drew) (by rfl) _ _ 22 (by rfl) w.heap.size 42 i0 (.agg #[.int .i64 0, .int .i64 0, .bool false]) 3 24 Try.underlying22 HI.out.1 HI.out.2.1 HI.out.2.2.1 HI.out.2.2.2 (by rfl) (by decide) (.slice (some ⟨W3.heap.size, 0, none⟩) 0 0) 0 [] (by rfl) HE.out ⟨b2, off2, none⟩ n c2 (frE.flat l2) (by rfl) (by rw [frE.flat_length, HL3.out]; rfl) HC.out (frE.flat_one _) (by rw [Nat.zero_add]; exact q9) (by rw [Nat.zero_add]; exact q10) HSZ.out ?_; intro v6 w6 hown6 hgr6; rw [Nat.zero_add, List.nil_append] at hown6; obtain ⟨A6, c6, rfl⟩ := own_form hown6; have HALL := Lib.hid (touched_after hown6 hgr6 H3.out.1 H3.out.2.1 H3.out.2.2 HD3.out); clear hown6 hgr6 f0 f1 y0 y1 l1 d0 d1 d4; obtain ⟨f0, f1, y0, y1, l1⟩ := pair_cells HALL.out.2.2.1; obtain ⟨d0, d1, _, _, d4⟩ := pair_cells HALL.out.2.2.2.2))
        all_goals
          obtain ⟨g, rfl, HW⟩ := touched_set (hn1 := (hn1 : Int)) HALL.out.1 HL3.out hatl HALL.out.2.1 HALL.out.2.2.1 HALL.out.2.2.2.1 (by decide) (by omega) (by omega)
          obtain ⟨W7, hW7⟩ : ∃ W7, W7 = ((w6.setCell ⟨w.heap.size + 1, 0, none⟩ (.slice (some ⟨g, 0, none⟩) n c6)).setCell ⟨w.heap.size + 1, 1, none⟩ (.int .i64 (hn1 : Int))) := ⟨_, rfl⟩
          rw [← hW7]
          obtain ⟨hx7, ⟨x7, p0⟩, p1, p2, hfin⟩ := HW W7 hW7
          have HFIN := Lib.hid hfin
          clear hfin HW hW7 f0 f1 y0 y1 l1 d0 d1 d4 HALL HE HC HSZ HD3 H3
          obtain ⟨f0, f1, y0, y1, l1⟩ := pair_cells hx7
          clear hx7
          go_wp2_with fail
          go_roundw
          case rel => exact ⟨m + 1, hn1, _, c6, _, _, by omega, by go_num, HT.out.1, HT.out.2, hhnl, HFIN.out.1, HFIN.out.2.1, HFIN.out.2.2.1, HFIN.out.2.2.2⟩
          case measure => simp only [intOf]; omega
      · have hk1 : at1 = k := hlast (by omega)
        subst hk1
        have hmi : (n : Int) - 1 ≤ (m : Int) := by omega
        have q3 : ((at1 : Int) == (at1 : Int)) = true := by simp
        clear hgo hlast hlt
        go_wp2_with fail
        refine ST.out.mono ?_
        rintro e W1 ⟨⟨u, rfl, hu⟩, hB1⟩
        have hb := hB.trans (hB1.mono hB.size)
        have SS := Lib.hid (SW.out u W1 hu)
        have HBX := Lib.hid (HBX.out.keep hB1)
        clear f0 f1 y0 y1 l1 hu ST SW HOWN hB1
        go_wp2_with fail
        refine SS.out.mono ?_
        rintro e W2 ⟨⟨u2, rfl, hu2⟩, hB2⟩
        obtain ⟨A2, c2, rfl⟩ := own_form hu2
        rw [hlen3]
        have hb := hb.trans (hB2.mono hb.size)
        have hb := hb.alloc hb.size (.cells #[.slice A2 n c2, .int .i64 hn1] 24)
        clear hu2 hB2 SS HBX
        go_wp2_with fail
        refine (awake09 _).mono ?_
        rintro e W9 ⟨rfl, hB9⟩
        have hb := hb.trans (hB9.mono hb.size)
        clear hB9
        go_wp2_with fail
        go_ret
        exact ⟨rfl, hb⟩
  · -- the box, then the frames
    have hst0 : (frE.Own (((w.alloc (.cells #[.slice (some ⟨w.heap.size + 1, 0, none⟩) n n, .int .i64 h0] 24)).alloc (.cells (frE.flat (List.replicate n fr0)).toArray 42)).alloc (.cells (gcells fun _ => false) 45)).drew w.heap.size 42 (.slice (some ⟨w.heap.size + 1, 0, none⟩) n n) (List.replicate n fr0) ∧ Blk (((w.alloc (.cells #[.slice (some ⟨w.heap.size + 1, 0, none⟩) n n, .int .i64 h0] 24)).alloc (.cells (frE.flat (List.replicate n fr0)).toArray 42)).alloc (.cells (gcells fun _ => false) 45)).drew (w.heap.size) 24 #[.slice (some ⟨w.heap.size + 1, 0, none⟩) n n, .int .i64 h0] ∧ Blk (((w.alloc (.cells #[.slice (some ⟨w.heap.size + 1, 0, none⟩) n n, .int .i64 h0] 24)).alloc (.cells (frE.flat (List.replicate n fr0)).toArray 42)).alloc (.cells (gcells fun _ => false) 45)).drew (w.heap.size + 1 + 1) 45 (gcells fun _ => false) ∧ Below w.heap.size w (((w.alloc (.cells #[.slice (some ⟨w.heap.size + 1, 0, none⟩) n n, .int .i64 h0] 24)).alloc (.cells (frE.flat (List.replicate n fr0)).toArray 42)).alloc (.cells (gcells fun _ => false) 45)).drew) := by
      have e2 : ((w.alloc (.cells #[.slice (some ⟨w.heap.size + 1, 0, none⟩) n n, .int .i64 h0] 24)).alloc (.cells (frE.flat (List.replicate n fr0)).toArray 42)).heap.size = w.heap.size + 1 + 1 := by simp
      have hG := Blk.new ((w.alloc (.cells #[.slice (some ⟨w.heap.size + 1, 0, none⟩) n n, .int .i64 h0] 24)).alloc (.cells (frE.flat (List.replicate n fr0)).toArray 42)) 45 (gcells fun _ => false)
      rw [e2] at hG
      have hF : Blk (((w.alloc (.cells #[.slice (some ⟨w.heap.size + 1, 0, none⟩) n n, .int .i64 h0] 24)).alloc (.cells (frE.flat (List.replicate n fr0)).toArray 42)).alloc (.cells (gcells fun _ => false) 45)).drew (w.heap.size + 1) 42 (frE.flat (List.replicate n fr0)).toArray := Blk.drew (by have := (Blk.new (w.alloc (.cells #[.slice (some ⟨w.heap.size + 1, 0, none⟩) n n, .int .i64 h0] 24)) 42 (frE.flat (List.replicate n fr0)).toArray).alloc (.cells (gcells fun _ => false) 45); simpa using this)
      have hX : Blk (((w.alloc (.cells #[.slice (some ⟨w.heap.size + 1, 0, none⟩) n n, .int .i64 h0] 24)).alloc (.cells (frE.flat (List.replicate n fr0)).toArray 42)).alloc (.cells (gcells fun _ => false) 45)).drew (w.heap.size) 24 #[.slice (some ⟨w.heap.size + 1, 0, none⟩) n n, .int .i64 h0] := ((Blk.new w _ _).alloc _).alloc _
      exact ⟨start_own hF (by omega) hn8, hX, hG, ((((Below.refl w.heap.size w).alloc (Nat.le_refl _) _).alloc (by simp) _).alloc (by rw [e2]; omega) _).drew⟩
    have HST := Lib.hid hst0
    clear hst0
    go_loopw [11, 12, 13, 34] (fun _ _ _ i wr => ∃ (m h : Nat) (A : Option Addr) (cp : Nat) (l : List Fr) (gone : Nat → Bool), m + 1 ≤ n ∧ i = .int .i64 m ∧ Ck.Tch l n k gone ∧ Ck.goneN gone n = m ∧ h < n ∧ frE.Own wr w.heap.size 42 (.slice A n cp) l ∧ Blk wr (w.heap.size) 24 #[.slice A n cp, .int .i64 h] ∧ Blk wr (w.heap.size + 1 + 1) 45 (gcells gone) ∧ Below w.heap.size w wr) (fun _ _ _ i _ => n - (intOf i).toNat)
    case atStart => exact ⟨0, h0, _, n, _, fun _ => false, by omega, rfl, Ck.Tch.start n k, goneN_none n, hhn, HST.out.1, HST.out.2.1, HST.out.2.2.1, HST.out.2.2.2⟩
    case round =>
      clear HST
      obtain ⟨m, h, A, cp, l, gone, hm, rfl, ht, hgn, hh, hown, hbx, hgx, hB⟩ := hrel
      obtain ⟨hrt, N, hN, hgo, hlast⟩ := ht.round hn8 hh hkn
      have hlen := ht.len
      have hlen2 : (Ck.touch l k).length = n := by rw [Ck.touch_length]; exact hlen
      have hlen3 : (Ck.after (Ck.touch l k) h N).length = n := by rw [Ck.after_length]; exact hlen2
      have htc : Ck.touch' l (h : Int) (k : Int) = Ck.touch l k := by
        unfold Ck.touch'
        rw [ht.isRight hn8 hh, decide_eq_true (by omega)]
        rfl
      have ST := touch_any (.slice A n cp) l h k wr hown.sl
      rw [htc] at ST
      obtain ⟨at1, hat1⟩ : ∃ at1, (h + N) % n = at1 := ⟨_, rfl⟩
      obtain ⟨hn1, hhn1⟩ : ∃ hn1, (h + N + 1) % n = hn1 := ⟨_, rfl⟩
      have hatl : at1 < n := by rw [← hat1]; exact Nat.mod_lt _ (by omega)
      have hhnl : hn1 < n := by rw [← hhn1]; exact Nat.mod_lt _ (by omega)
      have SW := Lib.hid (fun (v : Value) (W : World) (hs : frE.Sl W v (Ck.touch l k)) => sweep_is v (Ck.touch l k) h N at1 hn1 _ W hs hrt hN rfl (by rw [hlen2]; exact hat1) (by rw [hlen2]; exact hhn1))
      rw [hat1] at hgo hlast
      generalize Ck.after (Ck.touch l k) h N = l2 at SW hgo hlen3
      have ST := Lib.hid ST
      have HOWN := Lib.hid hown
      have HBX := Lib.hid hbx
      have HGX := Lib.hid hgx
      obtain ⟨f0, f1, y0, y1, l1⟩ := pair_cells hbx
      have q1 : (0 : Int) ≤ (at1 : Int) := by omega
      have q2 : (at1 : Int) < (n : Int) := by omega
      have q2' : (at1 : Int) < 8 := by omega
      have q2'' : at1 < 8 := by omega
      have hn8i : (n : Int) ≤ 8 := by omega
      clear hN hrt htc hat1 hhn1 hlen hlen2 hown hbx hgx
      by_cases hlt : m + 1 < n
      · obtain ⟨hne, hgf, htn, hgn2⟩ := hgo (by omega)
        rw [hgn] at hgn2
        have HT := Lib.hid (And.intro htn hgn2)
        have hmi : (m : Int) < (n : Int) - 1 := by omega
        have q3 : ((at1 : Int) == (k : Int)) = false := by rw [beq_eq_false_iff_ne]; omega
        have q4 : ¬ at1 = k := hne
        clear hgo hlast htn hgn2 hne
        go_wp2_with fail
        refine ST.out.mono ?_
        rintro e W1 ⟨⟨u, rfl, hu⟩, hB1⟩
        have hb := hB.trans (hB1.mono hB.size)
        have SS := Lib.hid (SW.out u W1 hu)
        have HBX := Lib.hid (HBX.out.keep hB1)
        have HGX := Lib.hid (HGX.out.keep hB1)
        clear f0 f1 y0 y1 l1 hu ST SW HOWN
        go_wp2_with fail
        refine SS.out.mono ?_
        rintro e W2 ⟨⟨u2, rfl, hu2⟩, hB2⟩
        obtain ⟨A2, c2, rfl⟩ := own_form hu2
        rw [hlen3] at hu2
        have hb := hb.trans (hB2.mono hb.size)
        have HBX := Lib.hid (HBX.out.keep hB2)
        have HGX := Lib.hid (HGX.out.keep hB2)
        obtain ⟨f0, f1, y0, y1, l1⟩ := pair_cells HBX.out
        have gc : W2.cell? ⟨w.heap.size + 1 + 1, at1, none⟩ = some (.bool false) := by rw [HGX.out.cell, gcells_get gone at1 q2'', hgf]
        have gz : W2.frozen? ⟨w.heap.size + 1 + 1, at1, none⟩ = false := HGX.out.frozen at1
        have gl : w.heap.size + 1 + 1 < W2.heap.size := HGX.out.lt
        have q5 : ((n : Int) != (n : Int)) = false := by simp
        have q6 : ¬ (at1 : Int) < 0 := by omega
        have q7 : decide ((n : Int) ≤ (at1 : Int)) = false := decide_eq_false (by omega)
        have q8 : decide (n ≤ at1) = false := decide_eq_false (by omega)
        have HU := Lib.hid hu2
        have HB := Lib.hid hb
        have ho3 := @Below.refl W2.heap.size W2
        have hbs := (hb.setCell (p := ⟨w.heap.size + 1 + 1, at1, none⟩) (by simp; omega) (.bool true)).alloc (by have := hb.size; simpa using this) (.cells #[.slice A2 n c2, .int .i64 hn1] 24)
        have hxs := (HBX.out.far (p := ⟨w.heap.size + 1 + 1, at1, none⟩) (by simp <;> omega) (.bool true)).alloc (.cells #[.slice A2 n c2, .int .i64 hn1] 24)
        have hgs := (gcells_put HGX.out at1 q2'').alloc (.cells #[.slice A2 n c2, .int .i64 hn1] 24)
        have hds := Blk.new (W2.setCell ⟨w.heap.size + 1 + 1, at1, none⟩ (.bool true)) 24 #[.slice A2 n c2, .int .i64 hn1]
        have hus : frE.Own _ _ _ _ _ := own_keep (own_put hu2 HGX.out (by decide) at1 (.bool true)) ((Below.refl _ _).alloc (Nat.le_refl _) (.cells #[.slice A2 n c2, .int .i64 hn1] 24))
        rw [show (W2.setCell ⟨w.heap.size + 1 + 1, at1, none⟩ (.bool true)).heap.size = W2.heap.size by simp] at hds
        have HS3 := Lib.hid (And.intro hbs (And.intro hxs (And.intro hgs (And.intro hds hus))))
        clear ho3 hB2 SS hu2 hb hgf hB hB1 hbs hxs hgs hds hus
        go_wp2_with fail
        generalize ((W2.setCell ⟨w.heap.size + 1 + 1, at1, none⟩ (.bool true)).alloc (.cells #[.slice A2 n c2, .int .i64 hn1] 24)) = W3 at *
        generalize W2.heap.size = D at *
        obtain ⟨hb, hx, hg, hd, hu⟩ := HS3.out
        clear HS3 HU HB HBX HGX f0 f1 y0 y1 l1 gc gz gl
        obtain ⟨b2, off2, rfl, hbl, hc⟩ := (Enc.Own.sl (E := frE) hu).at' (by omega)
        have HC := Lib.hid (hc.below ((Below.refl _ _).alloc (Nat.le_refl _) (.cells #[] 42)) hbl).cells
        have hE := own_empty (size := 3) (Blk.new W3 42 #[]) hb.size
        have HE := Lib.hid hE
        obtain ⟨f0, f1, y0, y1, l1⟩ := pair_cells hx
        obtain ⟨d0, d1, _, _, d4⟩ := pair_cells hd
        have H3 := Lib.hid (And.intro hb (And.intro hx hg))
        have HD3 := Lib.hid hd
        have HSZ := Lib.hid (show w.heap.size ≤ ((W3.alloc (.cells #[] 42)).drew).heap.size from (hb.alloc hb.size _).size)
        have HL3 := Lib.hid hlen3
        have q9 : n ≤ maxLen := by unfold maxLen; omega
        have q10 : n * 24 ≤ 140737488355328 := by omega
        clear hc hE hb hx hg hd hu hlen3
        go_region_law (first
          | (refine step_append_own ((W3.alloc (.cells #[] 42)).drew) (by rfl) _ _ 22 (by rfl) w.heap.size 42 i0 (.agg #[.int .i64 0, .int .i64 0, .bool false]) 3 24 Try.underlying22 HI.out.1 HI.out.2.1 HI.out.2.2.1 HI.out.2.2.2 (by rfl) (by decide) (.slice (some ⟨W3.heap.size, 0, none⟩) 0 0) 0 [] (by rfl) HE.out ⟨b2, off2, none⟩ n c2 (frE.flat l2) (by rfl) (by rw [frE.flat_length, HL3.out]; rfl) HC.out (frE.flat_one _) (by rw [Nat.zero_add]; exact q9) (by rw [Nat.zero_add]; exact q10) HSZ.out ?_; intro v6 w6 hown6 hgr6; rw [Nat.zero_add, List.nil_append] at hown6; obtain ⟨A6, c6, rfl⟩ := own_form hown6; have HALL := Lib.hid (touched_after hown6 hgr6 H3.out.1 H3.out.2.1 H3.out.2.2 HD3.out); clear hown6 hgr6 f0 f1 y0 y1 l1 d0 d1 d4; obtain ⟨f0, f1, y0, y1, l1⟩ := pair_cells HALL.out.2.2.1; obtain ⟨d0, d1, _, _, d4⟩ := pair_cells HALL.out.2.2.2.2))
        all_goals
          obtain ⟨g, rfl, HW⟩ := touched_set (hn1 := (hn1 : Int)) HALL.out.1 HL3.out hatl HALL.out.2.1 HALL.out.2.2.1 HALL.out.2.2.2.1 (by decide) (by omega) (by omega)
          obtain ⟨W7, hW7⟩ : ∃ W7, W7 = ((w6.setCell ⟨w.heap.size, 0, none⟩ (.slice (some ⟨g, 0, none⟩) n c6)).setCell ⟨w.heap.size, 1, none⟩ (.int .i64 (hn1 : Int))) := ⟨_, rfl⟩
          rw [← hW7]
          obtain ⟨hx7, ⟨x7, p0⟩, p1, p2, hfin⟩ := HW W7 hW7
          have HFIN := Lib.hid hfin
          clear hfin HW hW7 f0 f1 y0 y1 l1 d0 d1 d4 HALL HE HC HSZ HD3 H3
          obtain ⟨f0, f1, y0, y1, l1⟩ := pair_cells hx7
          clear hx7
          go_wp2_with fail
          go_roundw
          case rel => exact ⟨m + 1, hn1, _, c6, _, _, by omega, by go_num, HT.out.1, HT.out.2, hhnl, HFIN.out.1, HFIN.out.2.1, HFIN.out.2.2.1, HFIN.out.2.2.2⟩
          case measure => simp only [intOf]; omega
      · have hk1 : at1 = k := hlast (by omega)
        subst hk1
        have hmi : (n : Int) - 1 ≤ (m : Int) := by omega
        have q3 : ((at1 : Int) == (at1 : Int)) = true := by simp
        clear hgo hlast hlt
        go_wp2_with fail
        refine ST.out.mono ?_
        rintro e W1 ⟨⟨u, rfl, hu⟩, hB1⟩
        have hb := hB.trans (hB1.mono hB.size)
        have SS := Lib.hid (SW.out u W1 hu)
        have HBX := Lib.hid (HBX.out.keep hB1)
        clear f0 f1 y0 y1 l1 hu ST SW HOWN hB1
        go_wp2_with fail
        refine SS.out.mono ?_
        rintro e W2 ⟨⟨u2, rfl, hu2⟩, hB2⟩
        obtain ⟨A2, c2, rfl⟩ := own_form hu2
        rw [hlen3]
        have hb := hb.trans (hB2.mono hb.size)
        have hb := hb.alloc hb.size (.cells #[.slice A2 n c2, .int .i64 hn1] 24)
        clear hu2 hB2 SS HBX
        go_wp2_with fail
        refine (awake09 _).mono ?_
        rintro e W9 ⟨rfl, hB9⟩
        have hb := hb.trans (hB9.mono hb.size)
        clear hB9
        go_wp2_with fail
        go_ret
        exact ⟨rfl, hb⟩
end Go.Proofs.Ythhialnnhhemaaa
