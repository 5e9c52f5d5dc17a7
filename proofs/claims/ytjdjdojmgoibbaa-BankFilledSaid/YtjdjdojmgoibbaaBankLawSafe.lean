/- THE LAWS of layer 10, walked: BankSafe, the stage's theorem. Conditions: those of the arguments alone. -/
import Derived.Test.YtjdjdojmgoibbaaBankSome
import Derived.Deep.RegionWith
namespace Go.Proofs.Ytjdjdojmgoibbaa
open Go.RowKit
set_option linter.unusedVariables false

set_option maxRecDepth 100000 in
set_option maxHeartbeats 400000 in
theorem some_nil (f : Int) (A S : Option Addr) (cap sc : Nat) (w : World) :
    Calls Try.prog 31 #[.int .i64 f, .slice A 0 cap, .slice S 0 sc] w fun e w' => e = .returned (.bool true) ∧ w = w' := by
  go_enter Try.func31, Try.ntmps31
  go_wp2_with fail
  go_loop [7, 8] (fun t i => i = .int .i64 0 ∧ t = .bool false) (fun _ _ => 0)
  case atStart => exact ⟨rfl, rfl⟩
  case round =>
    obtain ⟨rfl, rfl⟩ := hrel
    go_wp2_with fail
    go_ret
    exact ⟨rfl, rfl⟩
/-- Some, from nobody served on, tells what Safe tells -/
theorem some_sl (f : Int) (u : Value) (l : List Cl) (sb : Nat) (w : World) (h : Sl w u l) (hr : Bk.right l = true) (hf1 : 0 ≤ f) (hf2 : f ≤ 1000) (hs : Blk w sb 4 (boolCells (List.replicate l.length false))) :
    Calls Try.prog 31 #[.int .i64 f, u, .slice (some ⟨sb, 0, none⟩) l.length l.length] w fun e w' => e = .returned (.bool (Bk.safe f l)) ∧ Below w.heap.size w w' := by
  obtain ⟨A, cap, rfl, h1, h2, h3⟩ := h
  obtain ⟨hgood, hl8⟩ := Bk.good_of_right hr
  rcases h3 with rfl | ⟨b, off, rfl, hbl, hc⟩
  · have hsafe : Bk.safe f [] = true := (Bk.safe_iff _ _).2 ⟨rfl, ⟨hf1, hf2⟩, .nil f⟩
    rw [hsafe]
    exact (some_nil f A _ cap _ w).mono fun e w' ⟨he, hw⟩ => ⟨he, by rw [← hw]; exact Below.refl _ _⟩
  · have hct : (List.replicate l.length false).count false = l.length := by simp
    refine (some_any _ f b off cap l sb l.length (List.replicate l.length false) w rfl hf1 (by rw [hct]; omega) hl8 hgood hbl hc hs.lt (BsAt.of_blk hs) (by simp)).mono fun e w' ⟨⟨r, he, hri⟩, hB⟩ => ⟨?_, hB⟩
    rw [he, Bk.unserved_none] at *
    have : r = Bk.safe f l := by
      rw [Bool.eq_iff_iff, hri, Bk.safe_iff]
      exact ⟨fun hh => ⟨hr, ⟨hf1, hf2⟩, hh⟩, fun hh => hh.2.2⟩
    rw [this]

theorem Sl.take {w : World} {A : Option Addr} {cap : Nat} {l : List Cl} (h : Sl w (.slice A l.length cap) l) (q : Nat) (hq : q ≤ l.length) : Sl w (.slice A q cap) (l.take q) := by
  obtain ⟨A', cap', hv, h1, h2, h3⟩ := h
  simp only [Value.slice.injEq, true_and] at hv
  obtain ⟨rfl, rfl⟩ := hv
  have hlen : (l.take q).length = q := by rw [List.length_take]; omega
  refine ⟨A, cap, by rw [hlen], by omega, h2, ?_⟩
  rcases h3 with rfl | ⟨b, off, hA, hbl, hc⟩
  · exact .inl (by simp)
  · refine .inr ⟨b, off, hA, hbl, ?_⟩
    intro i hi
    have := hc i (by omega)
    rw [List.getElem_take]
    exact this

theorem orderA {W Wa : World} {o : Obj} (h : Below (W.alloc o).drew.heap.size (W.alloc o).drew Wa) : Below W.heap.size W Wa :=
  (((Below.refl _ _).alloc (Nat.le_refl _) o).drew).trans (h.mono (by show W.heap.size ≤ (W.alloc o).heap.size; simp))
theorem orderB {W Wa : World} (o : Obj) (h : Below W.drew.heap.size W.drew Wa) : Below W.heap.size W (Wa.alloc o) :=
  ((Below.refl W.heap.size W).drew.trans h).alloc h.size o
theorem chain4 {w W X Y Z : World} (h : Below w.heap.size w W) (hx : Below W.heap.size W X) (hy : Below X.heap.size X Y) (hz : Below Y.heap.size Y Z) : Below w.heap.size w Z :=
  h.trans ((hx.trans ((hy.trans (hz.mono hy.size)).mono hx.size)).mono h.size)

set_option maxRecDepth 100000 in
set_option maxHeartbeats 1600000 in
theorem bankSafe_walk (f : Int) (hf : (Lit.int .i64 f).wf = true) (v : Value) (w : World) (hv : ClArg w v) :
    Calls Try.prog 9 #[.int .i64 f, v] w fun e w' => e = .returned (.bool true) ∧ Below w.heap.size w w' := by
  obtain ⟨l, hsl, hfit⟩ := hv
  clear hf
  obtain ⟨A, cap, rfl, h1, h2, h3⟩ := id hsl
  unfold maxLen at h2
  obtain ⟨q, hq⟩ : ∃ q : Nat, (if (5 : Int) < (l.length : Int) then (5 : Int) else (l.length : Int)) = (q : Int) := ⟨(if (5 : Int) < (l.length : Int) then (5 : Int) else (l.length : Int)).toNat, by split <;> omega⟩
  have hql : q ≤ l.length ∧ q ≤ 5 := by split at hq <;> omega
  have hst := hsl.take q hql.1
  have hlen : (l.take q).length = q := by rw [List.length_take]; omega
  generalize l.take q = t at hst hlen
  have hq0 : 0 ≤ (q : Int) := by omega
  have hqc : (q : Int) ≤ (cap : Int) := by omega
  have hqc2 : q ≤ cap := by omega
  have HST := Lib.hid hst
  have HLEN := Lib.hid hlen
  clear hst hlen h3 hsl
  go_enter Try.func9, Try.ntmps9
  go_wp2_with fail
  refine (ref_any _ t w (by rw [← HLEN.out] at HST ⊢; exact HST.out) (by rw [HLEN.out]; omega)).mono ?_
  rintro e W1 ⟨⟨u, rfl, hown⟩, hB⟩
  by_cases hfr : f < 0 ∨ (0 ≤ f ∧ 1000 < f)
  · rcases hfr with g1 | ⟨g1, g2⟩
    all_goals
      go_wp2_with fail
      refine (awake10 _).mono ?_
      rintro e W3 ⟨rfl, hB3⟩
      go_wp2_with fail
      go_ret
      exact ⟨rfl, hB.trans (hB3.mono hB.size)⟩
  have g1 : 0 ≤ f := by omega
  have g2 : f ≤ 1000 := by omega
  clear hfr
  have hslu := Sl.of_own hown
  obtain ⟨A2, c2, rfl⟩ := own_form hown
  rw [HLEN.out] at hslu ⊢
  have HSLU := Lib.hid hslu
  clear hslu hown
  cases hr : Bk.right t with
  | false =>
    have RR := refRight_sl _ t W1 HSLU.out
    rw [hr] at RR
    have RR := Lib.hid RR
    clear hr
    go_wp2_with fail
    refine RR.out.mono ?_
    rintro e W2 ⟨rfl, hB2⟩
    have hB3 := hB.trans (hB2.mono hB.size)
    clear hB hB2
    go_wp2_with fail
    refine (awake10 _).mono ?_
    rintro e W3 ⟨rfl, hB⟩
    go_wp2_with fail
    go_ret
    exact ⟨rfl, hB3.trans (hB.mono hB3.size)⟩
  | true =>
    have RR := refRight_sl _ t W1 HSLU.out
    rw [hr] at RR
    have RR := Lib.hid RR
    have HR := Lib.hid hr
    clear hr
    go_wp2_with fail
    refine RR.out.mono ?_
    rintro e W2 ⟨rfl, hB2⟩
    have hB3 := hB.trans (hB2.mono hB.size)
    have hsl2 := HST.out.below hB3
    have hslu2 := HSLU.out.below hB2
    clear hB hB2 RR HSLU HST
    have SAFE := Lib.hid (fun W (hb : Below W2.heap.size W2 W) => safe_sl f _ t W (hsl2.below hb))
    have SOME := Lib.hid (fun W sb (hb : Below W2.heap.size W2 W) (hs : Blk W sb 4 (boolCells (List.replicate q false))) => some_sl f _ t sb W (hslu2.below hb) HR.out g1 g2 (by rw [HLEN.out]; exact hs))
    rw [HLEN.out] at SOME
    clear hsl2 hslu2
    have hmk := madeB q (by omega)
    generalize hsv : Bk.safe f t = sv at SAFE SOME
    have hss : (sv == sv) = true := by simp
    clear hsv
    go_wp2_with fail
    go_region_with (first
      | (go_at_call 28; refine (SAFE.out _ (by first | exact (Below.refl _ _).drew | exact ((Below.refl _ _).alloc (Nat.le_refl _) _).drew)).mono ?_; rintro e Wa ⟨rfl, hBa⟩)
      | (go_at_call 31; refine (SOME.out _ _ (by first | exact orderA hBa | exact orderB _ hBa) (by first | exact ((Blk.new W2 _ _).drew).keep hBa | exact Blk.new Wa _ _)).mono ?_; rintro e Wb ⟨rfl, hBb⟩)
      | (go_at_call 23; refine (awake10 _).mono ?_; rintro e Wc ⟨rfl, hBc⟩))
    all_goals go_wp2_with fail
    all_goals go_ret
    all_goals refine ⟨rfl, ?_⟩
    · first | exact chain4 hB3 (orderA hBa) hBb hBc | exact chain4 hB3 (orderB _ hBa) hBb hBc
    · first | exact chain4 hB3 (orderA hBa) hBb hBc | exact chain4 hB3 (orderB _ hBa) hBb hBc
end Go.Proofs.Ytjdjdojmgoibbaa
