/- slices.Sort of a row of numbers of the caller's own. -/
import Derived.Test.YtcindpblgbpcoaaShelf
import Derived.Test.YtcindpblgbpcoaaInsKit
import Derived.Test.YtcindpblgbpcoaaY2
import Derived.KernelRfl
namespace Go.Proofs.Ytcindpblgbpcoaa
open Go.RowKit
set_option linter.unusedVariables false
set_option linter.unusedSimpArgs false
def srt (zs : List Int) : List Int := zs.mergeSort fun x y => decide (x ≤ y)
theorem srt_len {zs : List Int} : (srt zs).length = zs.length := List.length_mergeSort zs
theorem flat_encI (zs : List Int) : (zs.map encI).flatten = zs.map fun z => SC.pv (.int .i64 z) := by
  induction zs with
  | nil => rfl
  | cons z zs ih => simp only [List.map_cons, List.flatten_cons, ih]; rfl
theorem block_grow {w : World} {os : Array Obj} {k : Nat} (h : k < w.heap.size) : (Go.Sort.grow w os).heap[k]? = w.heap[k]? := by
  unfold Go.Sort.grow
  simp only
  rw [Array.getElem?_append_left h]
theorem put_blk {w : World} {g : Nat} {ty : TypeId} {cur : Array Value} (h : Blk w g ty cur) (n : Nat) (d : Array Int) : Blk (Go.Sort.putRow (Value.int .i64) (Go.Sort.ahead w n) g 0 d) g ty (Go.Sort.putCells (Value.int .i64) 0 d cur) := by
  unfold Blk Go.Sort.putRow Go.Sort.mapBlock Go.Sort.ahead at *
  simp only [Array.getElem?_modify, if_pos, h, Option.map_some]
  rfl
theorem put_oth {w : World} {g k n : Nat} {d : Array Int} (h : k ≠ g) : (Go.Sort.putRow (Value.int .i64) (Go.Sort.ahead w n) g 0 d).heap[k]? = w.heap[k]? := by
  unfold Go.Sort.putRow Go.Sort.mapBlock Go.Sort.ahead
  simp only [Array.getElem?_modify]
  rw [if_neg (fun e => h e.symm)]
theorem put_size {w : World} {g n : Nat} {d : Array Int} : (Go.Sort.putRow (Value.int .i64) (Go.Sort.ahead w n) g 0 d).heap.size = w.heap.size := by
  unfold Go.Sort.putRow Go.Sort.mapBlock Go.Sort.ahead
  simp
theorem sort_spec (zs : List Int) (hl : zs.length ≤ 1000000) : SpecX Try.prog 88 ⟨true, 3, 1, zs.map encI, none, (srt zs).map encI, some (.tup [])⟩ [] := by
  refine ⟨Nat.succ_pos _, ?_, ?_⟩
  · intro w O b cap us hO hX hus
    obtain rfl := hus.nil_inv
    obtain ⟨he, cur, hB, hr, hc⟩ := hX
    obtain ⟨hc1, hc2, hc3⟩ := hc rfl
    simp only at he hB hr hc1 hc3
    rw [List.length_map] at hc1
    have hcz : cur.size = cap := by omega
    rw [flat_encI, List.length_map] at hr
    have hcell : ∀ j (h : j < zs.length), cur[j]? = some (.int .i64 zs[j]) := by
      intro j h
      have hj : j < cur.size := by omega
      have h2 := hr.2 j (by simpa using h) (by simp only [List.length_take, Array.length_toList]; omega)
      simp only [List.getElem_map, List.getElem_take, Array.getElem_toList] at h2
      have h3 := RepS.flat h2
      rw [Array.getElem?_eq_getElem hj, h3]
    have hH : Go.Sort.Holds (Value.int .i64) w b 0 zs.toArray := by
      intro j hj
      have hj' : j < zs.length := by simpa using hj
      refine ⟨?_, by rw [Nat.zero_add]; exact hB.frozen j⟩
      rw [Nat.zero_add, hB.cell, hcell j hj', getElem!_pos zs.toArray j hj]
      simp
    have h := Try.slices_Sort_int b 0 cap zs w hH hB.lt (by omega)
    unfold XR.val
    simp only [List.length_map]
    refine h.mono ?_
    rintro ex w' ⟨rfl, n, os, rfl⟩
    have hpb := put_blk hB n (srt zs).toArray
    have hlt : b < (Go.Sort.putRow (Value.int .i64) (Go.Sort.ahead w n) b 0 (srt zs).toArray).heap.size := hpb.lt
    have hsz : (Go.Sort.putCells (Value.int .i64) 0 (srt zs).toArray cur).size = cap := by unfold Go.Sort.putCells; simp [hcz]
    refine ⟨_, rfl, ⟨[], rfl, rfl, fun i h => by simp at h⟩, ⟨fun x hx => ?_, _, ?_, ?_, fun _ => ⟨by simp only [List.length_map, srt_len]; exact hc1, hc2, by show _ = cap * 1; rw [hsz]; omega⟩⟩, by simp only [List.length_map, srt_len], ?_⟩
    · obtain ⟨z, _, rfl⟩ := List.mem_map.1 hx; rfl
    · exact (block_grow hlt).trans hpb
    · show RL _ ((srt zs).map encI).flatten _
      rw [flat_encI, List.length_map]
      refine ⟨by simp only [List.length_map, List.length_take, Array.length_toList, hsz, srt_len]; omega, fun i h1 h2 => ?_⟩
      simp only [List.length_map] at h1
      simp only [List.getElem_map, List.getElem_take, Array.getElem_toList]
      have hcase : (Go.Sort.putCells (Value.int .i64) 0 (srt zs).toArray cur)[i]'(by rw [hsz]; rw [srt_len] at h1; omega) = .int .i64 (srt zs)[i] := by
        unfold Go.Sort.putCells
        rw [Array.getElem_mapIdx, if_pos ⟨Nat.zero_le _, by simpa using h1⟩]
        rw [getElem!_pos (srt zs).toArray (i - 0) (by simpa using h1)]
        simp
      rw [hcase]
      exact .pv rfl
    · refine ⟨?_, rfl, rfl, rfl, fun k hk hne => ?_⟩
      · rw [Go.Sort.size_grow, put_size]; omega
      · exact (block_grow (by rw [put_size]; exact hk)).trans (put_oth hne)
  · intro hX0 _ w O A us hO hus
    obtain rfl := hus.nil_inv
    have hz : zs = [] := by simpa using hX0
    subst hz
    refine (Try.slices_Sort_int_none A 0 w).mono ?_
    rintro ex w' ⟨rfl, rfl⟩
    refine ⟨_, rfl, .refl _ _, ⟨[], rfl, rfl, fun i h => by simp at h⟩, ?_⟩
    simp [srt]
end Go.Proofs.Ytcindpblgbpcoaa
