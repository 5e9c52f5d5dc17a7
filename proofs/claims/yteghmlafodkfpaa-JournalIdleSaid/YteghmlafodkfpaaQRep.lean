/- slices.Repeat at one string. -/
import Derived.Test.YteghmlafodkfpaaQRead2
import Derived.Test.YteghmlafodkfpaaShelf
import Derived.Laws.CopyOwn
import Derived.OwnWalk
import Derived.ProofKit
import Derived.Maps.AppendAt
import Derived.Deep.RegionLaw
import Derived.Lib.Hide
namespace Go.Proofs.Yteghmlafodkfpaa
open Go.RowKit
set_option linter.unusedVariables false
theorem splice_rep {α : Type} {a z : α} {k m n : Nat} (h : k + m ≤ n) : splice (List.replicate k a ++ List.replicate (n - k) z) k (List.replicate m a) = List.replicate (k + m) a ++ List.replicate (n - (k + m)) z := by
  unfold splice
  rw [List.take_left' (by simp), List.drop_append, List.length_replicate, List.length_replicate, List.drop_eq_nil_of_le (by simp), List.nil_append, ← List.append_assoc, List.replicate_append_replicate, List.drop_replicate]
  congr 2
  omega
theorem infoStr : (Try.prog.info? 9).map (fun i => (i.zero, i.size, i.bytes)) = some (some (.string ⟨#[]⟩), 1, 16) := by kernel_rfl
set_option maxRecDepth 100000 in
set_option maxHeartbeats 2000000 in
theorem rep_sl (b off cap n : Nat) (s : ByteArray) (w : World) (hn1 : 1 ≤ n) (hn : n ≤ 64) (hc : w.cell? ⟨b, off, none⟩ = some (.string s)) (hb : b < w.heap.size) (hcap : 1 ≤ cap) :
    Calls Try.prog 93 #[.slice (some ⟨b, off, none⟩) 1 cap, .int .i64 n] w fun e w' => ∃ g, e = .returned (.slice (some ⟨g, 0, none⟩) n n) ∧ w.heap.size ≤ g ∧ w'.heap[g]? = some (.cells (List.replicate n (.string s)).toArray 9 (0, 0)) ∧ Below w.heap.size w w' := by
  have hw1 : IntKind.u64.wrap (n : Int) = (n : Int) := by rw [IntKind.wrap_u64]; omega
  go_enter Try.func93, Try.ntmps93
  have hq : ¬ ((n : Int) < 0) := by omega
  have hmul : Calls Try.prog 105 #[.int .u64 1, .int .u64 n] w fun e w' => e = .returned (.tuple #[.int .u64 0, .int .u64 n]) ∧ w' = w := by
    refine (Try.bits_Mul 1 n (by omega) (by omega) w).mono ?_
    rintro e w' ⟨rfl, rfl⟩
    have e1 : 1 * n / 18446744073709551616 = 0 := by omega
    have e2 : 1 * n % 18446744073709551616 = n := by omega
    rw [e1, e2]
    exact ⟨rfl, rfl⟩
  go_wp2_with fail
  refine hmul.mono ?_
  rintro e w1 ⟨rfl, rfl⟩
  have hw2 : IntKind.i64.wrap (n : Int) = (n : Int) := by rw [IntKind.wrap_i64]; omega
  have hq2 : ¬ ((9223372036854775807 : Int) < (n : Int)) := by omega
  go_wp2_with fail
  obtain ⟨i0, hi, hz0, hz1, hz2⟩ := info_parts infoStr
  rw [run_make (P := Try.prog) w1 65 9 i0 _ Try.underlying65 hi hz0 .i64 .i64 n n (by omega) (by omega) (by rw [hz2]; omega) (by omega)]
  have hmc : madeCells (Value.string ⟨#[]⟩).cells ((n : Int).toNat * i0.size) = (List.replicate n (Value.string ⟨#[]⟩)).toArray := by
    rw [hz1]
    apply Array.ext
    · simp [size_madeCells]
    · intro i h1 h2
      simp [madeCells, Value.cells, Nat.mod_one]
  rw [hmc, Int.toNat_natCast]
  obtain ⟨W2, hW2⟩ : ∃ W2, w1.alloc (.cells (List.replicate n (Value.string ⟨#[]⟩)).toArray 9) = W2 := ⟨_, rfl⟩
  have hB2 : Below w1.heap.size w1 W2 := by rw [← hW2]; exact (Below.refl _ _).alloc (Nat.le_refl _) _
  have hk2 : W2.heap[w1.heap.size]? = some (.cells (List.replicate n (Value.string ⟨#[]⟩)).toArray 9 (0, 0)) := by rw [← hW2]; exact World.alloc_heap_new w1 _
  rw [hW2]
  have hc2 : W2.cell? ⟨b, off, none⟩ = some (.string s) := (hB2.cell (p := ⟨b, off, none⟩) hb).trans hc
  have hsz : (Try.prog.info? 9).map (·.size) = some 1 := by rw [hi]; simp [hz1]
  go_wp2_with fail
  rw [run_copy_row (P := Try.prog) W2 65 65 3 9 w1.heap.size 0 n n ⟨b, off, none⟩ 1 cap (List.replicate n (Value.string ⟨#[]⟩)).toArray 9 [.string s] Try.underlying65 hsz hk2 (by show 1 = min 1 n; omega) (fun j v hj => by
    cases j with
    | zero => simp only [List.getElem?_cons_zero, Option.some.injEq] at hj; subst hj; exact hc2
    | succ j => simp at hj) (by simp; omega) (by simp [Value.oneCell'])]
  have hrow : (((List.replicate n (Value.string ⟨#[]⟩)).toArray.toList.take 0) ++ [Value.string s] ++ ((List.replicate n (Value.string ⟨#[]⟩)).toArray.toList.drop (0 + [Value.string s].length))) = List.replicate 1 (Value.string s) ++ List.replicate (n - 1) (Value.string ⟨#[]⟩) := by simp
  rw [hrow]
  obtain ⟨W3, hW3⟩ : ∃ W3, W2.setRow w1.heap.size (List.replicate 1 (Value.string s) ++ List.replicate (n - 1) (Value.string ⟨#[]⟩)).toArray = W3 := ⟨_, rfl⟩
  have hB3 : Below w1.heap.size w1 W3 := by rw [← hW3]; exact below_setRow hB2 (Nat.le_refl _) _
  have hk3 : W3.heap[w1.heap.size]? = some (.cells (List.replicate 1 (Value.string s) ++ List.replicate (n - 1) (Value.string ⟨#[]⟩)).toArray 9 (0, 0)) := by rw [← hW3]; exact setRow_heap W2 _ _ _ _ _ hk2
  rw [hW3]
  clear hW3 hrow hW2 hk2 hB2 hc2 hmc hmul
  go_wp2_with fail
  go_loopw [8] (fun v wr => ∃ k : Nat, 1 ≤ k ∧ k ≤ n ∧ v = .int .i64 k ∧ Hid (wr.heap[w1.heap.size]? = some (.cells (List.replicate k (Value.string s) ++ List.replicate (n - k) (Value.string ⟨#[]⟩)).toArray 9 (0, 0))) ∧ Below w1.heap.size w1 wr)
    (fun v _ => n - (intOf v).toNat)
  case atStart => exact ⟨1, Nat.le_refl _, hn1, rfl, hk3, hB3⟩
  case round =>
    obtain ⟨k, hk1, hkn, rfl, hkr, hBr⟩ := hrel
    by_cases hlt : k < n
    · go_wp2_with fail
      obtain ⟨m, hm⟩ : ∃ m, m = Nat.min k (n - k) := ⟨_, rfl⟩
      have hkd : wr.drew.heap[w1.heap.size]? = some (.cells (List.replicate k (Value.string s) ++ List.replicate (n - k) (Value.string ⟨#[]⟩)).toArray 9 (0, 0)) := hkr.out
      have hBd : Below w1.heap.size w1 wr.drew := hBr.drew
      have hm1 : 1 ≤ m := by rw [hm]; show 1 ≤ min k (n - k); omega
      have hm2 : k + m ≤ n := by rw [hm]; show k + min k (n - k) ≤ n; omega
      have hm3 : m ≤ k := by rw [hm]; show min k (n - k) ≤ k; omega
      have hsrc : ∀ j v, (List.replicate m (Value.string s))[j]? = some v → wr.drew.cell? ((⟨w1.heap.size, 0, none⟩ : Addr).add j) = some v := by
        intro j v hj
        have hj2 : j < m := by
          have := (List.getElem?_eq_some_iff.1 hj).1
          simpa using this
        have hv : v = .string s := by
          obtain ⟨h1, h2⟩ := List.getElem?_eq_some_iff.1 hj
          simpa using h2.symm
        subst hv
        have := heapCell (i := j) (v := .string s) hkd (by rw [List.getElem?_toArray, List.getElem?_append_left (by simp; omega), List.getElem?_replicate, if_pos (by omega)])
        by_cases h0 : j = 0
        · subst h0; simpa [Addr.add] using this
        · simpa [Addr.add, h0] using this
      have HSZ := Lib.hid hsz
      have HKD := Lib.hid hkd
      have HBD := Lib.hid hBd
      have HLM := Lib.hid (show (List.replicate m (Value.string s)).length = Nat.min k (n - k) by rw [List.length_replicate]; exact hm)
      have HSR := Lib.hid (show 0 < (List.replicate m (Value.string s)).length → some (⟨w1.heap.size, k, none⟩ : Addr) = some ⟨w1.heap.size, k, none⟩ ∧ ∃ ad, some (⟨w1.heap.size, 0, none⟩ : Addr) = some ad ∧ ∀ j v, (List.replicate m (Value.string s))[j]? = some v → wr.drew.cell? (ad.add j) = some v from fun _ => ⟨rfl, ⟨w1.heap.size, 0, none⟩, rfl, hsrc⟩)
      have HFT := Lib.hid (show k + (List.replicate m (Value.string s)).length ≤ (List.replicate k (Value.string s) ++ List.replicate (n - k) (Value.string ⟨#[]⟩)).length by simp; omega)
      have HON := Lib.hid (show ∀ v ∈ List.replicate m (Value.string s), v.oneCell' = true by intro v hv; rw [List.mem_replicate] at hv; rw [hv.2]; rfl)
      have hcut1 : k ≤ n := hkn
      have hcut2 : ¬ (n = k) := by omega
      have hcut3 : ¬ (n ≤ k) := by omega
      clear hkd hBd hsrc hsz hm
      go_region_law (refine step_copy_splice (w := wr.drew) (by rfl) (.tmp 41) (.tmp 44) 65 65 (by rfl) 9 Try.underlying65 HSZ.out (some ⟨w1.heap.size, k, none⟩) (some ⟨w1.heap.size, 0, none⟩) (n - k) (n - k) k n (by simp [Act.put, Act.eval, go_sem]) (by simp [Act.put, Act.eval, go_sem]) w1.heap.size k (List.replicate k (Value.string s) ++ List.replicate (n - k) (Value.string ⟨#[]⟩)) 9 HKD.out (List.replicate m (Value.string s)) HLM.out HSR.out HFT.out HON.out w1.heap.size w1 HBD.out (Nat.le_refl _) ?_; intro w4 hg4 hb4)
      have hwk : IntKind.i64.wrap ((k : Int) + (m : Int)) = ((k + m : Nat) : Int) := by rw [IntKind.wrap_i64]; omega
      rw [hwk]
      have H4 : Hid (w4.heap[w1.heap.size]? = some (.cells (List.replicate (k + m) (Value.string s) ++ List.replicate (n - (k + m)) (Value.string ⟨#[]⟩)).toArray 9 (0, 0))) := by
        rw [← splice_rep hm2]
        exact hg4
      clear hg4 HKD HBD HLM HSR HFT HON HSZ
      simp [Act.put]
      go_wp2_with fail
      go_roundw
      case rel => exact ⟨k + m, by omega, hm2, by simp, H4, hb4⟩
      case measure => simp [intOf]; omega
    · obtain rfl : k = n := by omega
      go_wp2_with fail
      go_ret
      refine ⟨w1.heap.size, rfl, Nat.le_refl _, ?_, hBr⟩
      have := hkr.out
      simpa using this
end Go.Proofs.Yteghmlafodkfpaa
