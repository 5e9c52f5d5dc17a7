/- THE LAWS of layer 10, walked: BankTurned. Conditions: those of the arguments alone. -/
import Derived.Test.YtjdjdojmgoibbaaBankOpen
import Derived.Test.YtjdjdojmgoibbaaBankPlain
namespace Go.Proofs.Ytjdjdojmgoibbaa
open Go.RowKit
set_option linter.unusedVariables false

def turnedTo (l : List Cl) (k m : Nat) : List Cl := (List.range m).map fun i => l.getD ((l.length - i + k) % l.length) default
theorem turn_perm : ∀ n, n < 9 → ∀ k, k < n → ((List.range n).map fun i => (n - i + k) % n).Perm (List.range n) := by decide +kernel
theorem turnedTo_perm (l : List Cl) (k : Nat) (h8 : l.length ≤ 8) (hk : k < l.length) : l.Perm (turnedTo l k l.length) := by
  have h := (turn_perm l.length (by omega) k hk).map fun i => l.getD i default
  rw [List.map_map] at h
  have e : (List.range l.length).map (fun i => l.getD i default) = l := by
    apply List.ext_getElem
    · simp
    · intro i h1 h2
      simp [List.getElem?_eq_getElem h2]
  rw [e] at h
  exact h.symm
theorem infoCl : (Try.prog.info? 60).map (fun i => (i.zero, i.size, i.bytes)) = some (some (.agg #[.int .i64 0, .int .i64 0, .int .i64 0]), 3, 24) := by kernel_rfl

set_option maxRecDepth 100000 in
set_option maxHeartbeats 1000000 in
theorem bankTurned_walk (f : Int) (hf : (Lit.int .i64 f).wf = true) (v : Value) (w : World) (hv : ClArg w v) (y : Int) (hy : (Lit.int .u8 y).wf = true) :
    Calls Try.prog 13 #[.int .i64 f, v, .int .u8 y] w fun e w' => e = .returned (.bool true) ∧ Below w.heap.size w w' := by
  obtain ⟨l, hsl, hfit⟩ := hv
  have hy' : 0 ≤ y ∧ y ≤ 255 := by simpa [Lit.wf, IntKind.min, IntKind.max, IntKind.signed, IntKind.bits] using hy
  obtain ⟨hy1, hy2⟩ := hy'
  clear hy hf
  have HSL := Lib.hid hsl
  obtain ⟨A, cap, rfl, h1, h2, h3⟩ := hsl
  unfold maxLen at h2
  by_cases h0 : l = []
  · subst h0
    clear h3 HSL
    go_enter Try.func13, Try.ntmps13
    go_wp2_with fail
    refine (awake10 _).mono ?_
    rintro e W1 ⟨rfl, hB⟩
    go_wp2_with fail
    go_ret
    exact ⟨rfl, hB⟩
  have hlen0 : 0 < l.length := List.length_pos_iff.2 h0
  by_cases h8 : 8 < l.length
  · have h8i : (8 : Int) < (l.length : Int) := by omega
    have hn0 : ((l.length : Int) == 0) = false := beq_eq_false_iff_ne.2 (by omega)
    clear h3 HSL h0
    go_enter Try.func13, Try.ntmps13
    go_wp2_with fail
    refine (awake10 _).mono ?_
    rintro e W1 ⟨rfl, hB⟩
    go_wp2_with fail
    go_ret
    exact ⟨rfl, hB⟩
  obtain ⟨b, off, rfl, hbl, hc⟩ := h3.resolve_left h0
  clear h3 h0
  obtain ⟨k, hk⟩ : ∃ k : Nat, y % (l.length : Int) = (k : Int) := ⟨(y % (l.length : Int)).toNat, by have := Int.emod_nonneg y (show (l.length : Int) ≠ 0 by omega); omega⟩
  have hkl : k < l.length := by have := Int.emod_lt_of_pos y (show 0 < (l.length : Int) by omega); omega
  have hn0 : ((l.length : Int) == 0) = false := beq_eq_false_iff_ne.2 (by omega)
  have h8i : (l.length : Int) ≤ 8 := by omega
  have HC := Lib.hid hc
  obtain ⟨i0, hi, hz0, hz1, hz2⟩ := info_parts infoCl
  have HI := Lib.hid (And.intro hi (And.intro hz0 (And.intro hz1 hz2)))
  clear hc hi hz0 hz1 hz2
  go_enter Try.func13, Try.ntmps13
  go_wp2_with fail
  rw [hk]
  have HK := Lib.hid hk
  clear hk hy1 hy2
  go_loopw [8, 9, 26] (fun u _ i wr => ∃ (m : Nat) (A : Option Addr) (c : Nat), m ≤ l.length ∧ i = .int .i64 m ∧ u = .slice A m c ∧ wr.ownsRow w.heap.size 60 3 (.slice A m c) m (clCells (turnedTo l k m)) ∧ Below w.heap.size w wr) (fun _ _ i _ => l.length - (intOf i).toNat)
  case atStart => exact ⟨0, none, 0, by omega, rfl, rfl, ⟨rfl, .inl ⟨rfl, rfl⟩⟩, Below.refl _ _⟩
  case round =>
    obtain ⟨m, A, c, hm, rfl, rfl, hown, hB⟩ := hrel
    by_cases hlt : m < l.length
    · have hidx : ((l.length : Int) - (m : Int) + (k : Int)) % (l.length : Int) = (((l.length - m + k) % l.length : Nat) : Int) := by
        rw [Int.natCast_emod]; congr 1; omega
      have hil : (l.length - m + k) % l.length < l.length := Nat.mod_lt _ hlen0
      have hcl : clCells (turnedTo l k (m + 1)) = clCells (turnedTo l k m) ++ Bk.cells3 (l.getD ((l.length - m + k) % l.length) default) := by
        unfold turnedTo clCells
        rw [List.range_succ, List.map_append, List.flatMap_append]
        simp
      generalize (l.length - m + k) % l.length = x at hidx hil hcl
      have hld : l.getD x default = l[x] := by rw [List.getD_eq_getElem?_getD, List.getElem?_eq_getElem hil]; rfl
      obtain ⟨c0, c1, c2⟩ := (HC.out.below hB hbl) x hil
      rw [hld] at hcl
      generalize l[x] = d at c0 c1 c2 hcl
      have HCL := Lib.hid hcl
      have hxi : (x : Int) < (l.length : Int) := by omega
      have hx0 : (0 : Int) ≤ (x : Int) := by omega
      clear hcl hld
      obtain ⟨hi, hz0, hz1, hz2⟩ := HI.out
      have hm7 : m + 1 ≤ maxLen := by unfold maxLen; omega
      have hm8 : (m + 1) * 24 ≤ 140737488355328 := by omega
      go_wp2_with (at_builtin; go_must (refine wpList_append_own _ rfl _ _ 47 rfl w.heap.size 60 i0 (.agg #[.int .i64 0, .int .i64 0, .int .i64 0]) 3 24 Try.underlying47 hi hz0 hz1 hz2 rfl (by decide) _ _ _ rfl (hown.alloc _) ⟨wr.heap.size, 0, none⟩ 1 1 (Bk.cells3 d) rfl rfl ?c1 ?c2 hm7 hm8 ?c5 ?_))
      case c1 => exact news3 wr 60 _ _ _
      case c2 => intro u hu; simp [Bk.cells3] at hu; rcases hu with rfl | rfl | rfl <;> rfl
      case c5 => have := hB.size; simp; omega
      intro v' w1 hown1 hgrow _
      have hB1 : Below w.heap.size w w1 := (hB.alloc hB.size _).grown hgrow (by have := hB.size; simp; omega) (own_base hown)
      obtain ⟨A', c', rfl⟩ := own_form hown1
      rw [← HCL.out] at hown1
      clear hi hz0 hz1 hz2 hown hgrow c0 c1 c2 hB
      go_wp2_with fail
      go_roundw
      case rel => exact ⟨m + 1, A', c', by omega, by go_num, rfl, hown1, hB1⟩
      case measure => simp [intOf]; omega
    · obtain rfl : m = l.length := by omega
      have hp := turnedTo_perm l k (by omega) hkl
      have htl : (turnedTo l k l.length).length = l.length := hp.length_eq.symm
      have hsl2 : Sl wr (.slice A l.length c) (turnedTo l k l.length) := Sl.of_own (by rw [htl]; exact hown)
      have hs1 := Bk.safe_perm f hp
      have hr1 := Bk.right_perm hp
      generalize turnedTo l k l.length = t at *
      have hsl1 := HSL.out.below hB
      have S1 := Lib.hid (safe_sl f _ l wr hsl1)
      rw [hs1] at S1
      clear hown hp hs1 hlt
      have HTL := Lib.hid htl
      have HSL1 := Lib.hid hsl1
      have HSL2 := Lib.hid hsl2
      have HR1 := Lib.hid hr1
      clear htl hsl1 hsl2 hr1
      go_wp2_with fail
      refine S1.out.mono ?_
      rintro e W1 ⟨rfl, hB1⟩
      have S2 := Lib.hid (safe_sl f _ t W1 (HSL2.out.below hB1))
      have hB2 := hB.trans (hB1.mono hB.size)
      generalize hsv : Bk.safe f t = s at S2
      have hss : (s == s) = true := by simp
      clear hsv
      go_wp2_with fail
      refine S2.out.mono ?_
      rintro e W2 ⟨rfl, hB3⟩
      have hB4 := hB2.trans (hB3.mono hB2.size)
      have hB5 := hB1.trans (hB3.mono hB1.size)
      have R1 := Lib.hid (right_sl _ l W2 (HSL1.out.below hB5))
      rw [HR1.out] at R1
      have R2 := Lib.hid (fun W (h : Below wr.heap.size wr W) => right_sl _ t W (HSL2.out.below h))
      generalize hrv : Bk.right t = r at R1 R2
      have hrr : (r == r) = true := by simp
      clear hrv hB1 hB2 hB3 hB
      go_wp2_with fail
      refine R1.out.mono ?_
      rintro e W3 ⟨rfl, hB6⟩
      have hB7 := hB4.trans (hB6.mono hB4.size)
      have R3 := Lib.hid (R2.out W3 (hB5.trans (hB6.mono hB5.size)))
      clear R1 R2 hB4 hB5 hB6
      go_wp2_with fail
      refine R3.out.mono ?_
      rintro e W4 ⟨rfl, hB8⟩
      have hB9 := hB7.trans (hB8.mono hB7.size)
      clear hB7 hB8
      go_wp2_with fail
      refine (awake10 _).mono ?_
      rintro e W5 ⟨rfl, hB⟩
      go_wp2_with fail
      go_ret
      exact ⟨rfl, hB9.trans (hB.mono hB9.size)⟩
end Go.Proofs.Ytjdjdojmgoibbaa
