/- THE LAWS of layer 2, walked: PageTakes. Conditions: those of the arguments alone. -/
import Derived.Test.YtekkmlhkcdijkaaPageRefTake
namespace Go.Proofs.Ytekkmlhkcdijkaa
open Go.RowKit
set_option linter.unusedVariables false

set_option maxRecDepth 100000 in
set_option maxHeartbeats 400000 in
theorem refTake_form (l : List UInt8) (w : World) (h : l.length ≠ 32) :
    Calls Try.prog 26 #[.string (str l)] w (fun en w' => en = .returned (.tuple #[pageVal 0 0 [], .int .i64 2]) ∧ Below w.heap.size w w') := by
  have hsz := str_size
  have ht : ((l.length : Int) != 32) = true := by simp; omega
  go_enter Try.func26, Try.ntmps26
  go_wp2_with fail
  refine bodyPost_ret (v := .tuple #[.agg #[.int .i64 0, .int .i64 0, .string ⟨#[]⟩], .int .i64 2]) (by simp [results, Try.results26, go_sem]) rfl ⟨rfl, (Below.refl _ _).alloc (Nat.le_refl _) _⟩
set_option maxRecDepth 100000 in
set_option maxHeartbeats 400000 in
theorem refTake_none (l : List UInt8) (w : World) (h : l.length = 32) (hz : l = List.replicate 32 0) :
    Calls Try.prog 26 #[.string (str l)] w (fun en w' => en = .returned (.tuple #[pageVal 0 0 [], .int .i64 3]) ∧ Below w.heap.size w w') := by
  have hsz := str_size
  have hne : ((l.length : Int) != 32) = false := by rw [h]; rfl
  have hno : l.all (· == 0) = true := (all_noughts l h).2 hz
  have NO := noughts_any l (by omega)
  rw [hno] at NO
  have NO := Lib.hid NO
  clear h hno hz
  go_enter Try.func26, Try.ntmps26
  go_wp2_with fail
  refine (NO.out _).mono ?_
  rintro e W1 ⟨rfl, rfl⟩
  go_wp2_with fail
  refine bodyPost_ret (v := .tuple #[.agg #[.int .i64 0, .int .i64 0, .string ⟨#[]⟩], .int .i64 3]) (by simp [results, Try.results26, go_sem]) rfl ⟨rfl, (Below.refl _ _).alloc (Nat.le_refl _) _⟩
theorem refTake_any (l : List UInt8) (w : World) :
    Calls Try.prog 26 #[.string (str l)] w fun en w' => en = .returned (.tuple #[pageVal (takeI l) (takeV l) (takeB l), .int .i64 (takeE l)]) ∧ Below w.heap.size w w' := by
  by_cases h : l.length ≠ 32
  · have e : takeE l = 2 := by unfold takeE; rw [if_pos h]
    have e1 : takeI l = 0 := by unfold takeI; rw [if_neg (by omega)]
    have e2 : takeV l = 0 := by unfold takeV; rw [if_neg (by omega)]
    have e3 : takeB l = [] := by unfold takeB; rw [if_neg (by omega)]
    rw [e, e1, e2, e3]
    exact refTake_form l w h
  have h32 : l.length = 32 := by omega
  by_cases h0 : l = List.replicate 32 0
  · have e : takeE l = 3 := by unfold takeE; rw [if_neg h, if_pos h0]
    have e1 : takeI l = 0 := by unfold takeI; rw [if_neg (by omega)]
    have e2 : takeV l = 0 := by unfold takeV; rw [if_neg (by omega)]
    have e3 : takeB l = [] := by unfold takeB; rw [if_neg (by omega)]
    rw [e, e1, e2, e3]
    exact refTake_none l w h32 h0
  exact refTake_page l w h32 h0

set_option maxRecDepth 100000 in
set_option maxHeartbeats 800000 in
theorem pageTakes_walk (s : ByteArray) (hs : s.size ≤ maxLen) (w : World) :
    Calls Try.prog 9 #[.string s] w fun e w' => e = .returned (.bool true) ∧ Below w.heap.size w w' := by
  have hss := str_of s
  generalize s.data.toList = l at hss
  subst hss
  rw [str_size] at hs
  unfold maxLen at hs
  have hsz := str_size
  have htl := str_list
  by_cases hlen : (100 : Int) < (l.length : Int)
  · go_enter Try.func9, Try.ntmps9
    go_wp2_with fail
    refine (awake02 _).mono ?_
    rintro e W1 ⟨rfl, hB⟩
    go_wp2_with fail
    go_ret
    exact ⟨rfl, hB⟩
  have T1 := Lib.hid (take_any l)
  have T2 := Lib.hid (refTake_any l)
  have he : -9223372036854775808 ≤ takeE l ∧ takeE l ≤ 9223372036854775807 := by
    unfold takeE; split
    · omega
    · split
      · omega
      · split
        · omega
        · split <;> omega
  generalize takeE l = e at *
  generalize takeI l = i at *
  generalize takeV l = v at *
  generalize takeB l = b at *
  obtain ⟨he1, he2⟩ := he
  go_enter Try.func9, Try.ntmps9
  go_wp2_with fail
  refine (T1.out _).mono ?_
  rintro e W1 ⟨rfl, hw⟩
  unfold pageVal
  go_wp2_with fail
  have bp := Blk.new W1 37 #[.int .i64 i, .int .i64 v, .string (str b)]
  have hw := hw.alloc hw.size (.cells #[.int .i64 i, .int .i64 v, .string (str b)] 37)
  generalize W1.alloc (.cells #[.int .i64 i, .int .i64 v, .string (str b)] 37) = W2 at bp hw
  refine (T2.out _).mono ?_
  rintro e W3 ⟨rfl, hB⟩
  have bp := bp.keep hB
  have hw := hw.trans (hB.mono hw.size)
  clear hB
  obtain ⟨c0, c1, c2, _, _, _⟩ := bp.three
  have hlt := bp.lt
  unfold pageVal
  go_wp2_with fail
  refine (awake02 _).mono ?_
  rintro e W4 ⟨rfl, hB⟩
  go_wp2_with fail
  go_ret
  exact ⟨rfl, (hw.alloc hw.size _).trans (hB.mono (by have := hw.size; simp; omega))⟩
end Go.Proofs.Ytekkmlhkcdijkaa
