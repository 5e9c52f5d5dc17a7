/- THE LAWS of layer 1, walked: each returns true and turns nothing that was there. Conditions: those of the arguments alone (a string that lies in memory; an int of its kind). -/
import Derived.Test.YtekkmlhkcdijkaaSumWalks
import Derived.Below
namespace Go.Proofs.Ytekkmlhkcdijkaa
open Go.RowKit
set_option linter.unusedVariables false

/-- the table lies at block b -/
def TabAt (W : World) (b : Nat) : Prop := ∀ j, j < 256 → W.cell? ⟨b, j, none⟩ = some (.int .i64 (Sm.table.getD j 0))
theorem TabAt.below {W W' : World} {b : Nat} (h : TabAt W b) (hb : Below W.heap.size W W') (hl : b < W.heap.size) : TabAt W' b :=
  fun j hj => (hb.cell (p := ⟨b, j, none⟩) hl).trans (h j hj)

theorem tabAt_new (w : World) : TabAt (w.alloc (.cells (tabCells 256) 3)) w.heap.size := by
  intro j hj
  rw [show (w.alloc (.cells (tabCells 256) 3)).cell? ⟨w.heap.size, j, none⟩ = (tabCells 256)[j]? from cell_of_row _ _ j _ 3 (0, 0) (heap_alloc_new w _)]
  simp only [tabCells, List.getElem?_toArray, List.getElem?_map, List.getElem?_range hj, Option.map_some, if_pos hj]
  rw [Sm.table_get j hj]

theorem table_abs (w : World) :
    Calls Try.prog 16 #[] w fun e w' => e = .returned (.slice (some ⟨w.heap.size, 0, none⟩) 256 256) ∧ TabAt w' w.heap.size ∧ w.heap.size < w'.heap.size ∧ Below w.heap.size w w' :=
  (table_any w).mono fun e w' ⟨he, hw⟩ => ⟨he, by rw [hw]; exact tabAt_new w, by rw [hw]; simp, by rw [hw]; exact (Below.refl _ _).alloc (Nat.le_refl _) _⟩

theorem sum_tab (b : Nat) (s : ByteArray) (w : World) (hs : s.size ≤ maxLen) (hT : TabAt w b) :
    Calls Try.prog 18 #[.slice (some ⟨b, 0, none⟩) 256 256, .string s] w fun e w' => e = .returned (.tuple #[.int .i64 (Sm.sum s.data.toList), .bool true]) ∧ w = w' := by
  have h := sum_any b 0 256 Sm.table s w hs (fun j hj => by rw [Nat.zero_add]; exact hT j hj)
  rw [Sm.sumT_table] at h
  exact h

set_option maxHeartbeats 400000 in
theorem sum_nil (s : ByteArray) (w : World) :
    Calls Try.prog 18 #[.slice none 0 0, .string s] w fun e w' => e = .returned (.tuple #[.int .i64 0, .bool false]) ∧ w = w' := by
  go_enter Try.func18, Try.ntmps18
  go_wp2
  go_ret2
  exact ⟨rfl, rfl⟩

theorem sum_known : Sm.sum [49, 50, 51, 52, 53, 54, 55, 56, 57] = 3421780262 := by kernel_rfl

theorem sum_awake (b : Nat) (w : World) (hT : TabAt w b) :
    Calls Try.prog 18 #[.slice (some ⟨b, 0, none⟩) 256 256, .string ⟨#[49, 50, 51, 52, 53, 54, 55, 56, 57]⟩] w fun e w' => e = .returned (.tuple #[.int .i64 3421780262, .bool true]) ∧ w = w' := by
  have h := sum_tab b ⟨#[49, 50, 51, 52, 53, 54, 55, 56, 57]⟩ w (by unfold maxLen; simp [ByteArray.size]) hT
  rw [show (ByteArray.data ⟨#[49, 50, 51, 52, 53, 54, 55, 56, 57]⟩).toList = [49, 50, 51, 52, 53, 54, 55, 56, 57] from rfl, sum_known] at h
  exact h

set_option maxHeartbeats 400000 in
theorem awake01 (w : World) :
    Calls Try.prog 15 #[] w fun e w' => e = .returned (.bool true) ∧ Below w.heap.size w w' := by
  go_enter Try.func15, Try.ntmps15
  go_wp2_with fail
  refine (table_abs _).mono ?_
  rintro e W1 ⟨rfl, hT, hlt, hB⟩
  go_wp2_with fail
  refine (sum_awake _ _ hT).mono ?_
  rintro e w' ⟨rfl, rfl⟩
  go_wp2_with fail
  refine (sum_nil _ _).mono ?_
  rintro e w' ⟨rfl, rfl⟩
  go_wp2
  go_ret
  exact ⟨rfl, hB⟩

set_option maxRecDepth 100000 in
set_option maxHeartbeats 400000 in
theorem sumTable_walk (s : ByteArray) (hs : s.size ≤ maxLen) (w : World) :
    Calls Try.prog 3 #[.string s] w fun e w' => e = .returned (.bool true) ∧ Below w.heap.size w w' := by
  by_cases hlen : (300 : Int) < (s.size : Int)
  · go_enter Try.func3, Try.ntmps3
    go_wp2_with fail
    refine (awake01 _).mono ?_
    rintro e W1 ⟨rfl, hB⟩
    go_wp2
    go_ret
    exact ⟨rfl, hB⟩
  · go_enter Try.func3, Try.ntmps3
    go_wp2_with fail
    refine (table_abs _).mono ?_
    rintro e W1 ⟨rfl, hT, hlt, hB⟩
    go_wp2_with fail
    go_loop [4, 5, 18] (fun _ _ i => ∃ (k : Nat), k ≤ 256 ∧ i = .int .i64 k) (fun _ _ i => 256 - (intOf i).toNat)
    case atStart => exact ⟨0, by omega, rfl⟩
    case round =>
      obtain ⟨k, hk, rfl⟩ := hrel
      by_cases hlt2 : k < 256
      · have hcell := hT k hlt2
        rw [Sm.table_get k hlt2] at hcell
        have hy := i32_lt (Sm.entry (BitVec.ofNat 32 k))
        have hE := refEntry_any k (by omega)
        generalize Sm.entry (BitVec.ofNat 32 k) = y at hcell hy hE
        have HE := Lib.hid hE
        clear hE
        go_wp2_with fail
        refine (HE.out _).mono ?_
        rintro e w' ⟨rfl, rfl⟩
        go_wp2
        go_round
        case rel => exact ⟨k + 1, by omega, by go_num⟩
        case measure => simp [intOf]; omega
      · have hge : 256 ≤ k := by omega
        clear hlt2
        go_wp2_with fail
        refine (sum_tab _ _ _ hs hT).mono ?_
        rintro e w' ⟨rfl, rfl⟩
        go_wp2_with fail
        refine (refSum_any _ _ hs).mono ?_
        rintro e w' ⟨rfl, rfl⟩
        go_wp2_with fail
        refine (awake01 _).mono ?_
        rintro e W2 ⟨rfl, hB2⟩
        go_wp2
        go_ret
        exact ⟨rfl, hB.trans (hB2.mono (by omega))⟩
end Go.Proofs.Ytekkmlhkcdijkaa
