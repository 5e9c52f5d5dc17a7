/- THE LAWS of layer 2, walked: PagePuts. Conditions: those of the arguments alone. -/
import Derived.Test.YtekkmlhkcdijkaaPageRef
namespace Go.Proofs.Ytekkmlhkcdijkaa
open Go.RowKit
set_option linter.unusedVariables false

set_option maxRecDepth 100000 in
set_option maxHeartbeats 800000 in
theorem pagePuts_walk (p : Value) (hp : PageArg p) (w : World) :
    Calls Try.prog 8 #[p] w fun e w' => e = .returned (.bool true) ∧ Below w.heap.size w w' := by
  have hsz := str_size
  have htl := str_list
  rcases hp.cases with ⟨i, n, l, rfl, hpg, hbl⟩ | ⟨i, n, l, rfl, hpg, hi16, hi1, hn1, hn2, hbl⟩
  · by_cases h100 : (100 : Int) < (l.length : Int)
    · go_enter Try.func8, Try.ntmps8
      go_wp2_with fail
      refine (awake02 _).mono ?_
      rintro e W1 ⟨rfl, hB⟩
      go_wp2_with fail
      go_ret
      exact ⟨rfl, ((Below.refl _ _).alloc (Nat.le_refl _) _).trans (hB.mono (by simp))⟩
    · go_enter Try.func8, Try.ntmps8
      go_wp2_with fail
      have bp := Blk.new w 37 #[.int .i64 i, .int .i64 n, .string (str l)]
      have hw : Below w.heap.size w (w.alloc (.cells #[.int .i64 i, .int .i64 n, .string (str l)] 37)) := (Below.refl _ _).alloc (Nat.le_refl _) _
      generalize w.alloc (.cells #[.int .i64 i, .int .i64 n, .string (str l)] 37) = W0 at bp hw
      refine (put_no i n (str l) _ hpg).mono ?_
      rintro e W1 ⟨rfl, hB⟩
      have bp := bp.keep hB
      have hw := hw.trans (hB.mono hw.size)
      clear hB
      obtain ⟨c0, c1, c2, _, _, _⟩ := bp.three
      go_wp2_with fail
      refine (refRight_any i n (str l) _).mono ?_
      rw [hpg]
      rintro e W2 ⟨rfl, rfl⟩
      have bp := bp.alloc (.cells #[.int .i64 i, .int .i64 n, .string (str l)] 37)
      have hw := hw.alloc hw.size (.cells #[.int .i64 i, .int .i64 n, .string (str l)] 37)
      generalize W1.alloc (.cells #[.int .i64 i, .int .i64 n, .string (str l)] 37) = W2 at bp hw
      clear c0 c1 c2
      obtain ⟨c0, c1, c2, _, _, _⟩ := bp.three
      go_wp2_with fail
      refine (pageRight_any i n (str l) _).mono ?_
      rw [hpg]
      rintro e W3 ⟨rfl, rfl⟩
      go_wp2_with fail
      refine (awake02 _).mono ?_
      rintro e W4 ⟨rfl, hB⟩
      go_wp2_with fail
      go_ret
      exact ⟨rfl, (hw.alloc hw.size _).trans (hB.mono (by have := hw.size; simp; omega))⟩
  · have PU := Lib.hid (put_yes i n l · hpg)
    have RU := Lib.hid (refPut_yes i n l · hpg)
    have TU := Lib.hid (take_put i n l · hpg)
    generalize pageBytes i n l = x at PU RU TU
    go_enter Try.func8, Try.ntmps8
    go_wp2_with fail
    have bp := Blk.new w 37 #[.int .i64 i, .int .i64 n, .string (str l)]
    have hw : Below w.heap.size w (w.alloc (.cells #[.int .i64 i, .int .i64 n, .string (str l)] 37)) := (Below.refl _ _).alloc (Nat.le_refl _) _
    generalize w.alloc (.cells #[.int .i64 i, .int .i64 n, .string (str l)] 37) = W0 at bp hw
    refine (PU.out _).mono ?_
    rintro e W1 ⟨rfl, hB⟩
    have bp := bp.keep hB
    have hw := hw.trans (hB.mono hw.size)
    clear hB
    obtain ⟨c0, c1, c2, _, _, _⟩ := bp.three
    go_wp2_with fail
    refine (refRight_any i n (str l) _).mono ?_
    rw [hpg]
    rintro e W2 ⟨rfl, rfl⟩
    have bp := bp.alloc (.cells #[.int .i64 i, .int .i64 n, .string (str l)] 37)
    have hw := hw.alloc hw.size (.cells #[.int .i64 i, .int .i64 n, .string (str l)] 37)
    generalize W1.alloc (.cells #[.int .i64 i, .int .i64 n, .string (str l)] 37) = W2 at bp hw
    clear c0 c1 c2
    obtain ⟨c0, c1, c2, _, _, _⟩ := bp.three
    go_wp2_with fail
    refine (pageRight_any i n (str l) _).mono ?_
    rw [hpg]
    rintro e W3 ⟨rfl, rfl⟩
    have bp := bp.alloc (.cells #[.int .i64 i, .int .i64 n, .string (str l)] 37)
    have hw := hw.alloc hw.size (.cells #[.int .i64 i, .int .i64 n, .string (str l)] 37)
    generalize W2.alloc (.cells #[.int .i64 i, .int .i64 n, .string (str l)] 37) = W3 at bp hw
    clear c0 c1 c2
    go_wp2_with fail
    refine (TU.out _).mono ?_
    rintro e W4 ⟨rfl, hB⟩
    have bp := bp.keep hB
    have hw := hw.trans (hB.mono hw.size)
    clear hB
    have bq := Blk.new W4 37 #[.int .i64 i, .int .i64 n, .string (str l)]
    have bp := bp.alloc (.cells #[.int .i64 i, .int .i64 n, .string (str l)] 37)
    have hw := hw.alloc hw.size (.cells #[.int .i64 i, .int .i64 n, .string (str l)] 37)
    unfold pageVal
    obtain ⟨c0, c1, c2, _, _, _⟩ := bp.three
    have hlt := bp.lt
    go_wp2_with fail
    generalize W4.alloc (.cells #[.int .i64 i, .int .i64 n, .string (str l)] 37) = W5 at *
    refine (RU.out _).mono ?_
    rintro e W6 ⟨rfl, hB⟩
    have bp := bp.keep hB
    have bq := bq.keep hB
    have hw := hw.trans (hB.mono hw.size)
    clear hB c0 c1 c2
    obtain ⟨c0, c1, c2, _, _, _⟩ := bp.three
    obtain ⟨d0, d1, d2, _, _, _⟩ := bq.three
    go_wp2_with fail
    refine (awake02 _).mono ?_
    rintro e W7 ⟨rfl, hB⟩
    go_wp2_with fail
    go_ret
    exact ⟨rfl, hw.trans (hB.mono hw.size)⟩
end Go.Proofs.Ytekkmlhkcdijkaa
