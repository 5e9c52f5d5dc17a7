/- 16 of one letter. -/
import Derived.Test.YtmknfchmnangbaaOpen3
import Derived.Tactics
import Derived.Lib.Hide
import Derived.Maps.AppendAt
import Derived.ProofKit
namespace Go.Proofs.Ytmknfchmnangbaa
open Go.RowKit Go.ChangeShapes
set_option linter.unusedVariables false
def str (l : List UInt8) : ByteArray := ⟨l.toArray⟩
theorem str_size (l : List UInt8) : (str l).size = l.length := rfl
theorem str_append (l r : List UInt8) : str l ++ str r = str (l ++ r) := by
  apply ByteArray.ext
  simp [str]
theorem conv1 (a : Int) (w : World) : (convert 78 9 (.slice (some ⟨w.heap.size, 0, none⟩) 1 1)).run Try.prog (w.alloc (.cells #[.int .u8 a] 5)) = .ok (.string (strOfNums [a])) (w.alloc (.cells #[.int .u8 a] 5)) := by
  refine run_convert_bytes_arg _ 78 5 Try.underlying78 Try.underlying5 w.heap.size 0 1 1 [a] rfl ?_ 9 Try.underlying9
  intro i hi
  obtain rfl : i = 0 := by omega
  rw [show (w.alloc (.cells #[.int .u8 a] 5)).cell? ⟨w.heap.size, 0 + 0, none⟩ = (#[Value.int .u8 a])[0 + 0]? from cell_of_row _ _ (0 + 0) _ 5 (0, 0) (heap_alloc_new w _)]
  rfl
set_option maxRecDepth 100000 in
set_option maxHeartbeats 2000000 in
theorem letters_in (n : Int) (hn : 0 ≤ n ∧ n ≤ 255) (w : World) (c : UInt8) (hc : strOfNums [97 + n % 26] = str [c]) : Calls Try.prog 28 #[.int .u8 n] w fun e w' => e = .returned (.string (str (List.replicate 16 c))) ∧ Below w.heap.size w w' := by
  have hcv := fun W => conv1 (97 + n % 26) W
  rw [hc] at hcv
  go_enter Try.func28, Try.ntmps28
  go_wp2_with fail
  go_loopw [3, 4] (fun b i wr => ∃ k : Nat, k ≤ 16 ∧ i = .int .i64 k ∧ b = .string (str (List.replicate k c)) ∧ Below w.heap.size w wr) (fun _ i _ => 16 - (intOf i).toNat)
  case atStart => exact ⟨0, by omega, rfl, rfl, Below.refl _ _⟩
  case round =>
    obtain ⟨k, hk, rfl, rfl, hB⟩ := hrel
    by_cases hlt : k < 16
    · have hcat : ¬ 9223372036854775807 < k + 1 := by omega
      have hrep : str (List.replicate k c) ++ str [c] = str (List.replicate (k + 1) c) := by rw [str_append, List.replicate_succ']
      have hsz := str_size (List.replicate k c)
      have hsz1 := str_size [c]
      simp only [List.length_replicate, List.length_singleton] at hsz hsz1
      go_wp2_with fail
      exact ⟨⟨k + 1, by omega, by simp, rfl, hB.alloc hB.size _⟩, by simp [intOf]; omega⟩
    · obtain rfl : k = 16 := by omega
      go_wp2_with fail
      go_ret
      exact ⟨rfl, hB⟩
def letC (n : Int) : UInt8 := UInt8.ofNat (97 + n % 26).toNat
def letD (n : Int) : ByteArray := str (List.replicate 16 (letC n))
theorem letD_size (n : Int) : ((letD n).size : Int) = 16 := by rw [letD, str_size, List.length_replicate]; rfl
theorem letters_spec (n : Int) (hn : 0 ≤ n ∧ n ≤ 255) : Spec Try.prog 28 [.c (.pv (.int .u8 n))] (.val (rS (letD n))) := by
  intro w O us hO hus
  obtain ⟨u, us', rfl, h1, h2⟩ := hus.cons_inv
  rw [h2.nil_inv]
  have e : u = .int .u8 n := RepS.flat h1
  subst e
  refine (letters_in n hn w (letC n) rfl).mono ?_
  rintro e w' ⟨rfl, hB⟩
  exact ⟨_, rfl, .pv rfl, hB⟩
end Go.Proofs.Ytmknfchmnangbaa
