/- LAYER 10: a slice of clients that came in, opened. No condition. -/
import Derived.Test.YtjdjdojmgoibbaaBankAwake
import Derived.Deep.Slices
import Derived.ProofKit
namespace Go.Proofs.Ytjdjdojmgoibbaa
open Go.RowKit Go.ChangeShapes Go.WideShapes
set_option linter.unusedVariables false

theorem cells_int : Try.prog.cellsOf 3 = 1 := by kernel_rfl
theorem cells_cl : Try.prog.cellsOf 60 = 3 := by kernel_rfl
theorem trod_cl {H : Type} {enc : TypeId × Value → H} {w : World} {base : Nat} {spare : Nat → Bool} {held : Bool} {fuel : Nat} {cs : List Value} {x : DataW H × List MemPlace}
    (h : DataW.trod enc Try.prog w base spare held fuel 60 cs = some x) : ∃ a b c : Int, cs = [.int .i64 a, .int .i64 b, .int .i64 c] ∧ Bk.fits a ∧ Bk.fits b ∧ Bk.fits c := by
  obtain ⟨xs, n, _, _, hl, hxs, hf⟩ := DataW.trod_struct Try.underlying60 h
  rw [cells_cl] at hl
  match cs, hl with
  | [x0, x1, x2], _ =>
    have one : ∀ (u : Value) (y : Option (DataW H × List MemPlace)), DataW.trod enc Try.prog w base spare held n 3 [u] = y → y.isSome → ∃ a, u = .int .i64 a ∧ Bk.fits a := by
      intro u y hy hs
      obtain ⟨z, rfl⟩ := Option.isSome_iff_exists.1 hs
      obtain ⟨a, hu, _, wa⟩ := DataW.trod_int Try.underlying3 hy
      exact ⟨a, by simpa using hu, by simpa [Bk.fits, Lit.wf, IntKind.min, IntKind.max, IntKind.signed, IntKind.bits] using wa⟩
    have h3 : xs.length = 3 := hxs
    have f0 := hf 0 _ rfl
    have f1 := hf 1 _ rfl
    have f2 := hf 2 _ rfl
    change DataW.trod enc Try.prog w base spare held n 3 (List.take (Try.prog.cellsOf 3) (List.drop 0 [x0, x1, x2])) = _ at f0
    change DataW.trod enc Try.prog w base spare held n 3 (List.take (Try.prog.cellsOf 3) (List.drop 1 [x0, x1, x2])) = _ at f1
    change DataW.trod enc Try.prog w base spare held n 3 (List.take (Try.prog.cellsOf 3) (List.drop 2 [x0, x1, x2])) = _ at f2
    rw [cells_int] at f0 f1 f2
    obtain ⟨a, rfl, ha⟩ := one x0 _ f0 (by rw [List.getElem?_eq_getElem (by omega)]; rfl)
    obtain ⟨b, rfl, hb⟩ := one x1 _ f1 (by rw [List.getElem?_eq_getElem (by omega)]; rfl)
    obtain ⟨c, rfl, hc⟩ := one x2 _ f2 (by rw [List.getElem?_eq_getElem (by omega)]; rfl)
    exact ⟨a, b, c, rfl, ha, hb, hc⟩

/-- a slice of clients that came in -/
def ClArg (w : World) (v : Value) : Prop := ∃ l, Sl w v l ∧ Bk.Fit l
theorem open_cls {H : Type} {enc : TypeId × Value → H} {w : World} {r : Reach} {b0 : Nat} {spare : Nat → Bool} {held : Bool} {v : Value} {d : DataW H} {p : List MemPlace}
    (hv : Value.okWide Try.prog w r b0 47 v) (h : DataW.Trod enc Try.prog w 0 spare held 47 v d p) : ClArg w v := by
  obtain ⟨a0, len0, cap0, rfl⟩ := okWide_slice Try.underlying47 hv
  obtain ⟨fuel, hf⟩ := h
  rcases Deep.open_slice Try.underlying47 hf with ⟨hcs, _⟩ | ⟨a, len, cap, m, n, D, Pl, hcs, _, hl, hm, hmm, _, hi⟩
  · simp [Value.cells] at hcs
    obtain ⟨rfl, rfl, rfl⟩ := hcs
    exact ⟨[], Sl.nil w, by intro c hc; simp at hc⟩
  · simp [Value.cells] at hcs
    obtain ⟨rfl, rfl, rfl⟩ := hcs
    have hlm : len0 ≤ m := by rw [hmm]; split <;> omega
    have each : ∀ i, i < len0 → ∃ c : Cl, (w.cell? (a.add (i * 3)) = some (.int .i64 c.who) ∧ w.cell? ((a.add (i * 3)).add 1) = some (.int .i64 c.claim) ∧ w.cell? ((a.add (i * 3)).add 2) = some (.int .i64 c.held)) ∧ Bk.fits c.who ∧ Bk.fits c.claim ∧ Bk.fits c.held := by
      intro i hil
      obtain ⟨cs', hc, ht⟩ := hi i (by omega)
      rw [cells_cl] at hc
      obtain ⟨x, y, z, rfl, hx, hy, hz⟩ := trod_cl ht
      obtain ⟨_, _, hat⟩ := World.cells?_some hc
      refine ⟨⟨x, y, z⟩, ⟨?_, hat 1 (by omega), hat 2 (by omega)⟩, hx, hy, hz⟩
      have h0 := hat 0 (by omega)
      simpa [Addr.add] using h0
    obtain ⟨F, hF⟩ := Deep.choose_lt each
    by_cases h0 : len0 = 0
    · subst h0
      exact ⟨[], ⟨some a, cap0, rfl, by omega, hm, .inl rfl⟩, by intro c hc; simp at hc⟩
    · obtain ⟨b, off, spot⟩ := a
      have hc0 := (hF 0 (by omega)).1.1
      rw [Nat.zero_mul] at hc0
      have hspot : spot = none := by simpa [Addr.add] using World.cell?_spot hc0
      subst hspot
      have hlt : b < w.heap.size := by
        have := World.block_lt_of_cell? w _ hc0
        simpa [Addr.add] using this
      have hlen : ((List.range len0).map F).length = len0 := by simp
      refine ⟨(List.range len0).map F, ⟨some ⟨b, off, none⟩, cap0, by rw [hlen], by rw [hlen]; exact hl, hm, .inr ⟨b, off, rfl, hlt, ?_⟩⟩, ?_⟩
      · intro i hi2
        rw [hlen] at hi2
        obtain ⟨⟨q0, q1, q2⟩, _⟩ := hF i hi2
        have e : ((List.range len0).map F)[i]'(by rw [hlen]; exact hi2) = F i := by simp
        rw [e]
        refine ⟨?_, ?_, ?_⟩
        · by_cases hz : i * 3 = 0
          · simpa [Addr.add, hz] using q0
          · simpa [Addr.add, hz] using q0
        · by_cases hz : i * 3 = 0
          · simpa [Addr.add, hz] using q1
          · simpa [Addr.add, hz] using q1
        · by_cases hz : i * 3 = 0
          · simpa [Addr.add, hz] using q2
          · simpa [Addr.add, hz] using q2
      · intro c hc
        obtain ⟨i, hi2, rfl⟩ := List.mem_map.1 hc
        exact (hF i (by simpa using hi2)).2

theorem order_known : Bk.order 1 [⟨1, 2, 1⟩, ⟨2, 3, 2⟩] = [0, 1] := by kernel_rfl
theorem right_known : Bk.right [⟨1, 2, 1⟩, ⟨2, 3, 2⟩] = true := by kernel_rfl
theorem safe_known : Bk.safe 1 [⟨1, 2, 1⟩, ⟨2, 3, 2⟩] = true := by kernel_rfl
theorem safe_known0 : Bk.safe 0 [⟨1, 2, 1⟩, ⟨2, 3, 2⟩] = false := by kernel_rfl

set_option maxRecDepth 100000 in
set_option maxHeartbeats 400000 in
theorem awake10 (w : World) :
    Calls Try.prog 23 #[] w fun e w' => e = .returned (.bool true) ∧ Below w.heap.size w w' := by
  have hblk := Blk.new w 60 (clCells [⟨1, 2, 1⟩, ⟨2, 3, 2⟩]).toArray
  have hw : Below w.heap.size w (w.alloc (.cells (clCells [⟨1, 2, 1⟩, ⟨2, 3, 2⟩]).toArray 60)) := (Below.refl _ _).alloc (Nat.le_refl _) _
  have hsl := Sl.of_blk hblk (by unfold maxLen; simp)
  have HSL := Lib.hid hsl
  have HW := Lib.hid hw
  clear hblk hw hsl
  go_enter Try.func23, Try.ntmps23
  go_wp2_with fail
  refine (order_sl 1 _ _ _ HSL.out right_known (by omega) (by omega)).mono ?_
  rintro e W1 ⟨⟨u, rfl, hown⟩, hB1⟩
  rw [order_known] at hown ⊢
  have hsl1 := HSL.out.below hB1
  have hw1 := HW.out.trans (hB1.mono HW.out.size)
  have HSL1 := Lib.hid hsl1
  have HW1 := Lib.hid hw1
  have HOWN := Lib.hid hown
  clear hsl1 hw1 hB1 HSL HW hown
  go_wp2_with fail
  have hb2 : Below W1.heap.size W1 (W1.alloc (.cells #[.int .i64 0, .int .i64 1] 3)) := (Below.refl _ _).alloc (Nat.le_refl _) _
  have nu : Ns (W1.alloc (.cells #[.int .i64 0, .int .i64 1] 3)) u [0, 1] := Ns.of_own (l := [0, 1]) (own_keep HOWN.out hb2)
  have nv : Ns (W1.alloc (.cells #[.int .i64 0, .int .i64 1] 3)) (.slice (some ⟨W1.heap.size, 0, none⟩) 2 2) [0, 1] := by
    refine ⟨_, 2, rfl, .inr ⟨W1.heap.size, 0, rfl, ?_⟩⟩
    intro i hi
    rw [(Blk.new W1 3 #[.int .i64 0, .int .i64 1]).cell]
    match i, hi with
    | 0, _ => rfl
    | 1, _ => rfl
  have hsl2 := HSL1.out.below hb2
  have hw2 := HW1.out.trans (hb2.mono HW1.out.size)
  generalize W1.alloc (.cells #[.int .i64 0, .int .i64 1] 3) = W2 at nu nv hsl2 hw2
  refine (equal_any _ _ [0, 1] [0, 1] W2 nu nv (by simp)).mono ?_
  rintro e W3 ⟨rfl, hB⟩
  rw [show decide (([0, 1] : List Int) = [0, 1]) = true from rfl]
  have hsl3 := hsl2.below hB
  have hw3 := hw2.trans (hB.mono hw2.size)
  clear nu nv hsl2 hw2 hB hb2 HOWN HSL1 HW1
  have S1 := Lib.hid (safe_sl 1 _ _ W3 hsl3)
  have HSL3 := Lib.hid hsl3
  clear hsl3
  rw [safe_known] at S1
  go_wp2_with fail
  refine S1.out.mono ?_
  rintro e W4 ⟨rfl, hB⟩
  have hsl4 := HSL3.out.below hB
  have hw4 := hw3.trans (hB.mono hw3.size)
  have S2 := Lib.hid (safe_sl 0 _ _ W4 hsl4)
  have HSL4 := Lib.hid hsl4
  clear hsl4 hB hw3 S1 HSL3
  rw [safe_known0] at S2
  go_wp2_with fail
  refine S2.out.mono ?_
  rintro e W5 ⟨rfl, hB⟩
  have hsl5 := HSL4.out.below hB
  have hw5 := hw4.trans (hB.mono hw4.size)
  have S3 := Lib.hid (right_sl _ _ W5 hsl5)
  clear hsl5 hB hw4 S2 HSL4
  rw [right_known] at S3
  go_wp2_with fail
  refine S3.out.mono ?_
  rintro e W6 ⟨rfl, hB⟩
  go_wp2_with fail
  go_ret
  exact ⟨rfl, hw5.trans (hB.mono hw5.size)⟩
end Go.Proofs.Ytjdjdojmgoibbaa
