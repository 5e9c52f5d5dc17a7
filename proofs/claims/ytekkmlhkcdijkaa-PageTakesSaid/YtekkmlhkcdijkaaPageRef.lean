/- LAYER 2: the document's Put, walked. Conditions: the page is one. -/
import Derived.Test.YtekkmlhkcdijkaaPageLaws5
namespace Go.Proofs.Ytekkmlhkcdijkaa
open Go.RowKit
set_option linter.unusedVariables false

set_option maxRecDepth 100000 in
set_option maxHeartbeats 400000 in
theorem refPut_yes (i v : Nat) (l : List UInt8) (w : World) (h : isPage i v (str l) = true) :
    Calls Try.prog 25 #[.agg #[.int .i64 i, .int .i64 v, .string (str l)]] w fun e w' => e = .returned (.string (str (pageBytes i v l))) ∧ Below w.heap.size w w' := by
  obtain ⟨hb1, hb2, hb3, hb4, hb5⟩ := (isPage_iff i v (str l)).1 h
  rw [str_size] at hb5
  clear h
  have hap := str_append
  have hsz := str_size
  have hfl := four_length
  go_enter Try.func25, Try.ntmps25
  go_wp2_with fail
  have hblk := Blk.new w 37 #[.int .i64 i, .int .i64 v, .string (str l)]
  have hbel : Below w.heap.size w (w.alloc (.cells #[.int .i64 i, .int .i64 v, .string (str l)] 37)) := (Below.refl _ _).alloc (Nat.le_refl _) _
  generalize w.alloc (.cells #[.int .i64 i, .int .i64 v, .string (str l)] 37) = W at hblk hbel
  have c0 : W.cell? ⟨w.heap.size, 0, none⟩ = some (.int .i64 i) := hblk.cell 0
  have c1 : W.cell? ⟨w.heap.size, 1, none⟩ = some (.int .i64 v) := hblk.cell 1
  have c2 : W.cell? ⟨w.heap.size, 2, none⟩ = some (.string (str l)) := hblk.cell 2
  have hlt := hblk.lt
  have hk := fun A B C => (Below3 W A B C)
  have HK := Lib.hid hk
  clear hk
  go_region_held3 (fun w' => w'.cell? ⟨w.heap.size, 0, none⟩ = some (.int .i64 i) ∧ w'.cell? ⟨w.heap.size, 1, none⟩ = some (.int .i64 v) ∧ w'.cell? ⟨w.heap.size, 2, none⟩ = some (.string (str l))) (first | (go_keep; done) | (go_split_ands; refine ⟨?_, ?_, ?_⟩; (exact ((HK.out _ _ _).cell (p := ⟨w.heap.size, 0, none⟩) hlt).trans c0); (exact ((HK.out _ _ _).cell (p := ⟨w.heap.size, 1, none⟩) hlt).trans c1); (exact ((HK.out _ _ _).cell (p := ⟨w.heap.size, 2, none⟩) hlt).trans c2)))
    (first | (go_at_call 32; refine (refFour_any _ _ (by omega) (by omega)).mono ?_; rintro e w' ⟨rfl, rfl⟩))
  have hblk2 : Blk (((W.alloc (numObj i)).alloc (numObj v)).alloc (numObj l.length)).drew w.heap.size 37 #[.int .i64 i, .int .i64 v, .string (str l)] := hblk.keep (HK.out _ _ _)
  have hbel2 : Below w.heap.size w (((W.alloc (numObj i)).alloc (numObj v)).alloc (numObj l.length)).drew := hbel.trans ((HK.out _ _ _).mono (by omega))
  generalize (((W.alloc (numObj i)).alloc (numObj v)).alloc (numObj l.length)).drew = W2 at hblk2 hbel2
  clear hblk hbel c0 c1 c2 HK hlt
  have c2 : W2.cell? ⟨w.heap.size, 2, none⟩ = some (.string (str l)) := hblk2.cell 2
  go_wp2_with fail
  clear hblk2 c2
  obtain ⟨m, hm⟩ : ∃ m, l.length + m = 16 := ⟨16 - l.length, by omega⟩
  have HM := Lib.hid hm
  clear hm
  go_loopw [4] (fun b wr => ∃ k : Nat, k ≤ m ∧ b = .string (str (l ++ List.replicate k 0)) ∧ Below w.heap.size w wr) (fun b _ => match b with | .string s => 16 - s.size | _ => 0)
  case atStart => exact ⟨0, by omega, by simp, hbel2⟩
  case round =>
    obtain ⟨k, hk, rfl, hB⟩ := hrel
    have hmm := HM.out
    have hln : (l ++ List.replicate k (0 : UInt8)).length = l.length + k := by simp
    have hrep : l ++ List.replicate k (0 : UInt8) ++ [0] = l ++ List.replicate (k + 1) 0 := by
      rw [List.append_assoc]; congr 1; rw [List.replicate_succ']
    have hln2 : (l ++ List.replicate (k + 1) (0 : UInt8)).length = l.length + (k + 1) := by simp
    generalize hx : l ++ List.replicate k (0 : UInt8) = x at hln hrep
    have HX := Lib.hid hx
    have HREP := Lib.hid hrep
    have HLN2 := Lib.hid hln2
    clear hx hrep hln2
    by_cases hlt : k < m
    · have hx16 : (x.length : Int) < 16 := by omega
      have hcv := conv1 0
      have h0 : strOfNums [(0 : Int)] = str [0] := rfl
      rw [h0] at hcv
      have hcat : ¬ 9223372036854775807 < x.length + 1 := by omega
      have HLN := Lib.hid hln
      have HMM := Lib.hid hmm
      clear hln hmm
      go_wp2_with fail
      go_roundw
      case rel => exact ⟨k + 1, by omega, by rw [HREP.out], hB.alloc hB.size _⟩
      case measure =>
        have h1 := HLN.out
        rw [HREP.out]
        simp only [str_size, HLN2.out, h1]
        omega
    · have hx16 : (16 : Int) ≤ (x.length : Int) := by omega
      obtain rfl : k = m := by omega
      have hl4 : ¬ 9223372036854775807 < 12 + x.length := by omega
      have hl5 : ¬ 9223372036854775807 < 4 + (4 + (4 + x.length)) := by omega
      have hl6 : ¬ 9223372036854775807 < 12 + (4 + x.length) := by omega
      have hl7 : ¬ 9223372036854775807 < 16 + x.length := by omega
      have hl8 : ¬ 9223372036854775807 < 4 + (4 + (4 + 4)) + x.length := by omega
      have hl9 : ¬ 9223372036854775807 < 4 + (4 + (4 + (4 + x.length))) := by omega
      have hall : (str (four i ++ (four v ++ (four l.length ++ x)))).size ≤ maxLen := by
        rw [str_size]; simp only [List.length_append, four_length]; unfold maxLen; omega
      have HLN := Lib.hid hln
      have HMM := Lib.hid hmm
      clear hln hmm
      have hn := Sm.sum_nonneg (four i ++ (four v ++ (four l.length ++ x)))
      have hsumc := fun W => refSum_any (str (four i ++ (four v ++ (four l.length ++ x)))) W hall
      simp only [str_toList] at hsumc
      have hfin : pageBytes i v l = four i ++ (four v ++ (four l.length ++ (four (Sm.sum (four i ++ (four v ++ (four l.length ++ x)))).toNat ++ x))) := by
        unfold pageBytes pageFront pageBack
        rw [show 16 - l.length = k by have := HMM.out; omega, HX.out]
        simp only [List.append_assoc]
      generalize Sm.sum (four i ++ (four v ++ (four l.length ++ x))) = n at hn hsumc hfin
      have HS := Lib.hid hsumc
      have HF := Lib.hid hfin
      clear hsumc hfin hall
      obtain ⟨hn1, hn2⟩ := hn
      go_wp2_with fail
      refine (HS.out _).mono ?_
      rintro e w' ⟨rfl, rfl⟩
      go_wp2_with fail
      refine (refFour_any _ _ hn1 hn2).mono ?_
      rintro e w' ⟨rfl, rfl⟩
      go_wp2_with fail
      go_ret
      exact ⟨by rw [HF.out]; rfl, hB.alloc hB.size _⟩
end Go.Proofs.Ytekkmlhkcdijkaa
