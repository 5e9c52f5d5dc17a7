/- THE LAWS of layer 14, walked: DirtyBack. Conditions: those of the arguments alone. -/
import Derived.Test.YthhialnnhhemaaaDirtyOpen
namespace Go.Proofs.Ythhialnnhhemaaa
open Go.RowKit
set_option linter.unusedVariables false

set_option maxRecDepth 100000 in
set_option maxHeartbeats 1600000 in
theorem dirtyBack_walk {w : World} (v : Value) (ha : ItArg w v) (p : Int) (wp : (Lit.int .i64 p).wf = true) (now : Int) (wn : (Lit.int .i64 now).wf = true) :
    Calls Try.prog 11 #[v, .int .i64 p, .int .i64 now] w fun e w' => e = .returned (.bool true) ∧ Below w.heap.size w w' := by
  obtain ⟨l, hs, _⟩ := ha
  have HS := Lib.hid hs
  obtain ⟨A, cap, rfl, h1, h2, h0, h3⟩ := hs
  clear h3 h0 wp wn
  by_cases h40 : 40 < l.length
  · have h40' : (40 : Int) < (l.length : Int) := by omega
    go_enter Try.func11, Try.ntmps11
    go_wp2_with fail
    refine (awake14 _).mono ?_
    rintro e W1 ⟨rfl, hB⟩
    go_wp2_with fail
    go_ret
    exact ⟨rfl, hB⟩
  have h40' : (l.length : Int) ≤ 40 := by omega
  have hl40 : l.length ≤ 1000000 := by omega
  have hl41 : (l ++ [(⟨p, now⟩ : It)]).length ≤ 1000000 := by simp; omega
  have HL := Lib.hid (And.intro hl40 hl41)
  have SR := Lib.hid (fun W hw => refs_any (.slice A l.length cap) l W hw hl40)
  have SM := fun W hw => mark_any (.slice A l.length cap) l p now W hw hl40
  clear h40 hl40 hl41
  rcases Dy.mark_cases l p now with hm | ⟨hm, hat⟩ | ⟨hm, hat, hcl⟩
  · rw [hm] at SM
    have SM := Lib.hid SM
    clear hm
    go_enter Try.func11, Try.ntmps11
    go_wp2_with fail
    refine (SR.out w HS.out).mono ?_
    rintro e W1 ⟨⟨x, rfl, hx⟩, hB1⟩
    have SM1 := Lib.hid (SM.out W1 (HS.out.below hB1))
    have HX := Lib.hid hx.sl
    clear hx
    go_wp2_with fail
    refine SM1.out.mono ?_
    rintro e W2 ⟨⟨m, rfl, hm⟩, hB2⟩
    have hb := hB1.trans (hB2.mono hB1.size)
    have HX := Lib.hid (HX.out.below hB2)
    have SR2 := Lib.hid (refs_any m l W2 hm HL.out.1)
    clear hB1 hB2 hm
    go_wp2_with fail
    refine SR2.out.mono ?_
    rintro e W3 ⟨⟨y, rfl, hy⟩, hB3⟩
    have hb := hb.trans (hB3.mono hb.size)
    have S := Lib.hid (same_self y x l W3 hy.sl (HX.out.below hB3))
    clear hB3 hy
    go_wp2_with fail
    refine S.out.mono ?_
    rintro e W4 ⟨rfl, hB4⟩
    have hb := hb.trans (hB4.mono hb.size)
    clear hB4
    go_wp2_with fail
    refine (awake14 _).mono ?_
    rintro e W5 ⟨rfl, hB5⟩
    have hb := hb.trans (hB5.mono hb.size)
    clear hB5
    go_wp2_with fail
    go_ret
    exact ⟨rfl, hb⟩
  · rw [hm] at SM
    have SM := Lib.hid SM
    have SF := Lib.hid (fun x W hw => refFind_any x l p W hw)
    generalize Dy.at' l p = at1 at hat SF
    clear hm
    go_enter Try.func11, Try.ntmps11
    go_wp2_with fail
    refine (SR.out w HS.out).mono ?_
    rintro e W1 ⟨⟨x, rfl, hx⟩, hB1⟩
    have SM1 := Lib.hid (SM.out W1 (HS.out.below hB1))
    have HX := Lib.hid hx.sl
    clear hx
    go_wp2_with fail
    refine SM1.out.mono ?_
    rintro e W2 ⟨⟨m, rfl, hm⟩, hB2⟩
    have hb := hB1.trans (hB2.mono hB1.size)
    have HX := Lib.hid (HX.out.below hB2)
    have HM := Lib.hid hm
    have SF1 := Lib.hid (SF.out x W2 HX.out)
    clear hB1 hB2 hm
    go_wp2_with fail
    refine SF1.out.mono ?_
    rintro e W3 ⟨rfl, hB3⟩
    have hb := hb.trans (hB3.mono hb.size)
    have HX := Lib.hid (HX.out.below hB3)
    have SR2 := Lib.hid (refs_any m l W3 (HM.out.below hB3) HL.out.1)
    clear hB3
    go_wp2_with fail
    refine SR2.out.mono ?_
    rintro e W4 ⟨⟨y, rfl, hy⟩, hB4⟩
    have hb := hb.trans (hB4.mono hb.size)
    have S := Lib.hid (same_self y x l W4 hy.sl (HX.out.below hB4))
    clear hB4 hy
    go_wp2_with fail
    refine S.out.mono ?_
    rintro e W5 ⟨rfl, hB5⟩
    have hb := hb.trans (hB5.mono hb.size)
    clear hB5
    go_wp2_with fail
    refine (awake14 _).mono ?_
    rintro e W6 ⟨rfl, hB6⟩
    have hb := hb.trans (hB6.mono hb.size)
    clear hB6
    go_wp2_with fail
    go_ret
    exact ⟨rfl, hb⟩
  · rw [hm] at SM
    have SM := Lib.hid SM
    have SF := Lib.hid (fun x W hw => refFind_any x l p W hw)
    have SC := fun m W hw => clean_any m (l ++ [(⟨p, now⟩ : It)]) p W hw HL.out.2
    rw [hcl] at SC
    have SC := Lib.hid SC
    generalize Dy.at' l p = at1 at hat SF
    clear hm hcl
    go_enter Try.func11, Try.ntmps11
    go_wp2_with fail
    refine (SR.out w HS.out).mono ?_
    rintro e W1 ⟨⟨x, rfl, hx⟩, hB1⟩
    have SM1 := Lib.hid (SM.out W1 (HS.out.below hB1))
    have HX := Lib.hid hx.sl
    clear hx
    go_wp2_with fail
    refine SM1.out.mono ?_
    rintro e W2 ⟨⟨m, rfl, hm⟩, hB2⟩
    have hb := hB1.trans (hB2.mono hB1.size)
    have HX := Lib.hid (HX.out.below hB2)
    have HM := Lib.hid hm
    have SF1 := Lib.hid (SF.out x W2 HX.out)
    clear hB1 hB2 hm
    go_wp2_with fail
    refine SF1.out.mono ?_
    rintro e W3 ⟨rfl, hB3⟩
    have hb := hb.trans (hB3.mono hb.size)
    have HX := Lib.hid (HX.out.below hB3)
    have SC1 := Lib.hid (SC.out m W3 (HM.out.below hB3))
    clear hB3
    go_wp2_with fail
    refine SC1.out.mono ?_
    rintro e W3b ⟨⟨c, rfl, hc⟩, hB3⟩
    have hb := hb.trans (hB3.mono hb.size)
    have HX := Lib.hid (HX.out.below hB3)
    have SR2 := Lib.hid (refs_any c l W3b hc HL.out.1)
    clear hB3 hc
    go_wp2_with fail
    refine SR2.out.mono ?_
    rintro e W4 ⟨⟨y, rfl, hy⟩, hB4⟩
    have hb := hb.trans (hB4.mono hb.size)
    have S := Lib.hid (same_self y x l W4 hy.sl (HX.out.below hB4))
    clear hB4 hy
    go_wp2_with fail
    refine S.out.mono ?_
    rintro e W5 ⟨rfl, hB5⟩
    have hb := hb.trans (hB5.mono hb.size)
    clear hB5
    go_wp2_with fail
    refine (awake14 _).mono ?_
    rintro e W6 ⟨rfl, hB6⟩
    have hb := hb.trans (hB6.mono hb.size)
    clear hB6
    go_wp2_with fail
    go_ret
    exact ⟨rfl, hb⟩
end Go.Proofs.Ythhialnnhhemaaa
