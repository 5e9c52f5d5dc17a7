/- LAYER 10: the document's clients: who they are; the law's copies of them. Conditions: the slice leads to the clients. -/
import Derived.Test.YtjdjdojmgoibbaaBankOpen
import Derived.Test.YtjdjdojmgoibbaaBankPlain
namespace Go.Proofs.Ytjdjdojmgoibbaa
open Go.RowKit
set_option linter.unusedVariables false

set_option maxRecDepth 100000 in
set_option maxHeartbeats 400000 in
theorem refRight_any (b off cap : Nat) (l : List Cl) (w : World) (hcap : l.length ≤ cap) (hm : cap ≤ maxLen) (hb : b < w.heap.size) (hc : ClsAt w b off l) :
    Calls Try.prog 26 #[.slice (some ⟨b, off, none⟩) l.length cap] w fun e w' => e = .returned (.bool (Bk.right l)) ∧ Below w.heap.size w w' := by
  unfold maxLen at hm
  by_cases h8 : 8 < l.length
  · have hr : Bk.right l = false := by unfold Bk.right; rw [decide_eq_false (by omega)]; rfl
    rw [hr]
    have h8' : (8 : Int) < (l.length : Int) := by omega
    go_enter Try.func26, Try.ntmps26
    go_wp2_with fail
    go_ret
    exact ⟨rfl, Below.refl _ _⟩
  have h8' : (l.length : Int) ≤ 8 := by omega
  have HC := Lib.hid hc
  clear hc
  go_enter Try.func26, Try.ntmps26
  go_wp2_with fail
  go_loopw [3, 4, 5] (fun i _ _ wr => ∃ k : Nat, k ≤ l.length ∧ i = .int .i64 k ∧ (List.range k).all (Bk.okAt l) = true ∧ Below w.heap.size w wr) (fun i _ _ _ => l.length - (intOf i).toNat)
  case atStart => exact ⟨0, by omega, rfl, rfl, Below.refl _ _⟩
  case round =>
    obtain ⟨k, hk, rfl, hok, hB⟩ := hrel
    have HOK := Lib.hid hok
    clear hok
    by_cases hlt : k < l.length
    · obtain ⟨c0, c1, c2⟩ := (HC.out.below hB hb) k hlt
      have hblt : b < wr.heap.size := Nat.lt_of_lt_of_le hb hB.size
      have hno : Bk.okAt l k = false → Bk.right l = false := by
        intro h
        unfold Bk.right
        rw [Bool.and_eq_false_iff]
        refine .inr ?_
        rw [Bool.eq_false_iff]
        intro hh
        rw [List.all_eq_true] at hh
        rw [hh k (by simpa using hlt)] at h
        exact Bool.noConfusion h
      have hokk : Bk.okAt l k = (Bk.good l[k] && Bk.apart (l.take k) l[k]) := by
        unfold Bk.okAt; rw [List.getElem?_eq_getElem hlt]
      generalize hck : l[k] = c at c0 c1 c2 hokk
      by_cases hg : 0 ≤ c.who ∧ c.who ≤ 2147483647 ∧ 0 ≤ c.claim ∧ c.claim ≤ 100 ∧ 0 ≤ c.held ∧ c.held ≤ c.claim
      · have hgood : Bk.good c = true := by unfold Bk.good; exact decide_eq_true hg
        rw [hgood, Bool.true_and] at hokk
        have HNO := Lib.hid hno
        have HOKK := Lib.hid hokk
        have HCK := Lib.hid hck
        clear hno hokk hck hgood
        obtain ⟨g1, g2, g3, g4, g5, g6⟩ := hg
        have hkc : k ≤ cap := by omega
        have hkci : (k : Int) ≤ (cap : Int) := by omega
        go_wp2_with fail
        have hcb := Blk.new wr 71 #[.int .i64 c.who, .int .i64 c.claim, .int .i64 c.held]
        have hBa := hB.alloc hB.size (.cells #[.int .i64 c.who, .int .i64 c.claim, .int .i64 c.held] 71)
        have hgb : w.heap.size ≤ wr.heap.size := hB.size
        generalize hgg : wr.heap.size = g at hcb hgb
        generalize wr.alloc (.cells #[.int .i64 c.who, .int .i64 c.claim, .int .i64 c.held] 71) = W0 at hcb hBa
        clear c0 c1 c2 hB hblt hgg wr
        go_loopw [5] (fun j ws => ∃ m : Nat, m ≤ k ∧ j = .int .i64 m ∧ Bk.apart (l.take m) c = true ∧ Blk ws g 71 #[.int .i64 c.who, .int .i64 c.claim, .int .i64 c.held] ∧ Below w.heap.size w ws) (fun j _ => k - (intOf j).toNat)
        case atStart => exact ⟨0, by omega, rfl, rfl, hcb, hBa⟩
        case round =>
          obtain ⟨m, hm2, rfl, hap, hcb2, hB2⟩ := hrel
          have HAP := Lib.hid hap
          clear hap
          by_cases hlt2 : m < k
          · obtain ⟨d0, d1, d2⟩ := (HC.out.below hB2 hb) m (by omega)
            have hblt : b < wr.heap.size := Nat.lt_of_lt_of_le hb hB2.size
            have hglt := hcb2.lt
            have hmi : (m : Int) < (l.length : Int) := by omega
            have hm0 : (0 : Int) ≤ (m : Int) := by omega
            have hgc := hcb2.cell 0
            rw [show (#[Value.int .i64 c.who, Value.int .i64 c.claim, Value.int .i64 c.held])[0]? = some (.int .i64 c.who) from rfl] at hgc
            have hts : l.take (m + 1) = l.take m ++ [l[m]] := List.take_succ_eq_append_getElem (by omega)
            generalize l[m] = o at d0 d1 d2 hts
            have HTS := Lib.hid hts
            clear hts
            by_cases he : o.who = c.who
            · have he1 : (o.who == c.who) = true := by simpa using he
              have hap2 : Bk.apart (l.take k) c = false := by
                unfold Bk.apart
                rw [List.all_eq_false]
                refine ⟨o, ?_, by simpa using he⟩
                have h1 : o ∈ l.take (m + 1) := by rw [HTS.out]; simp
                exact List.mem_of_mem_take (by rw [List.take_take, Nat.min_eq_left (by omega : m + 1 ≤ k)]; exact h1)
              have hrf := HNO.out (HOKK.out.trans hap2)
              have HRF := Lib.hid hrf
              clear he hap2 hrf
              go_wp2_with fail
              go_quiet (fail)
              go_wp2_with fail
              go_ret
              exact ⟨by rw [HRF.out]; rfl, hB2.trans (drewN_below _ _ _)⟩
            · have he1 : (o.who == c.who) = false := beq_eq_false_iff_ne.2 he
              have hap2 : Bk.apart (l.take (m + 1)) c = true := by
                rw [HTS.out]
                unfold Bk.apart at *
                rw [List.all_append, HAP.out]
                simpa using he
              have HAP2 := Lib.hid hap2
              clear he hap2
              go_wp2_with fail
              go_quiet (fail)
              go_wp2_with fail
              go_roundw
              case rel => exact ⟨m + 1, by omega, by go_num, HAP2.out, hcb2.drewN _, hB2.trans (drewN_below _ _ _)⟩
              case measure => simp [intOf]; omega
          · obtain rfl : m = k := by omega
            have hok2 : (List.range (m + 1)).all (Bk.okAt l) = true := by
              rw [List.range_succ, List.all_append, HOK.out]
              simp only [List.all_cons, List.all_nil, Bool.and_true, Bool.true_and]
              rw [HOKK.out]; exact HAP.out
            have HOK2 := Lib.hid hok2
            clear hok2
            have hge : ¬ m < m := by omega
            clear hlt2
            go_wp2_with fail
            go_roundw
            case rel => exact ⟨m + 1, by omega, by go_num, HOK2.out, hB2⟩
            case measure => simp [intOf]; omega
      · have hbad : Bk.good c = false := by unfold Bk.good; exact decide_eq_false hg
        rw [hbad, Bool.false_and] at hokk
        have hrf := hno hokk
        have HRF := Lib.hid hrf
        have HG := Lib.hid hg
        clear hno hokk hrf hck hbad hg
        go_wp2_with fail
        all_goals first | (go_ret; refine ⟨?_, hB.alloc hB.size _⟩; rw [HRF.out]; rfl) | (exfalso; refine HG.out ?_; omega)
    · obtain rfl : k = l.length := by omega
      have hr : Bk.right l = true := by unfold Bk.right; rw [HOK.out, decide_eq_true (by omega)]; rfl
      have HR := Lib.hid hr
      clear hr hlt
      go_wp2_with fail
      go_ret
      exact ⟨by rw [HR.out]; rfl, hB⟩

set_option maxRecDepth 100000 in
set_option maxHeartbeats 400000 in
theorem refRight_nil (A : Option Addr) (cap : Nat) (w : World) :
    Calls Try.prog 26 #[.slice A 0 cap] w fun e w' => e = .returned (.bool true) ∧ Below w.heap.size w w' := by
  go_enter Try.func26, Try.ntmps26
  go_wp2_with fail
  go_loop [3, 4, 5] (fun i _ _ => i = .int .i64 0) (fun _ _ _ => 0)
  case atStart => rfl
  case round =>
    obtain rfl := hrel
    go_wp2_with fail
    go_ret
    exact ⟨rfl, Below.refl _ _⟩
theorem refRight_sl (v : Value) (l : List Cl) (w : World) (h : Sl w v l) :
    Calls Try.prog 26 #[v] w fun e w' => e = .returned (.bool (Bk.right l)) ∧ Below w.heap.size w w' := by
  obtain ⟨A, cap, rfl, h1, h2, h3⟩ := h
  rcases h3 with rfl | ⟨b, off, rfl, hbl, hc⟩
  · exact refRight_nil A cap w
  · exact refRight_any b off cap l w h1 h2 hbl hc
theorem infoRc : (Try.prog.info? 71).map (fun i => (i.zero, i.size, i.bytes)) = some (some (.agg #[.int .i64 0, .int .i64 0, .int .i64 0]), 3, 24) := by kernel_rfl
/-- the copies: a row of the call's own -/
def Copies (B : Nat) (t : TypeId) (l : List Cl) (e : Ending) (w' : World) : Prop := ∃ u, e = .returned u ∧ w'.ownsRow B t 3 u l.length (clCells l)
theorem clCells_snoc (l : List Cl) (k : Nat) (h : k < l.length) : clCells (l.take (k + 1)) = clCells (l.take k) ++ Bk.cells3 l[k] := by
  rw [List.take_succ_eq_append_getElem h]; unfold clCells; rw [List.flatMap_append]; simp
set_option maxRecDepth 100000 in
set_option maxHeartbeats 800000 in
theorem ref_any (v : Value) (l : List Cl) (w : World) (h : Sl w v l) (h40 : l.length ≤ 1000000) :
    Calls Try.prog 24 #[v] w fun e w' => Copies w.heap.size 71 l e w' ∧ Below w.heap.size w w' := by
  obtain ⟨A, cap, rfl, h1, h2, h3⟩ := h
  unfold maxLen at h2
  rcases h3 with rfl | ⟨b, off, rfl, hbl, hc⟩
  · go_enter Try.func24, Try.ntmps24
    go_wp2_with fail
    go_loop [3, 5, 8] (fun u _ i => i = .int .i64 0 ∧ u = .slice none 0 0) (fun _ _ _ => 0)
    case atStart => exact ⟨rfl, rfl⟩
    case round =>
      obtain ⟨rfl, rfl⟩ := hrel
      go_wp2_with fail
      go_ret
      exact ⟨⟨_, rfl, rfl, .inl ⟨rfl, rfl⟩⟩, Below.refl _ _⟩
  · have HC := Lib.hid hc
    obtain ⟨i0, hi, hz0, hz1, hz2⟩ := info_parts infoRc
    have HI := Lib.hid (And.intro hi (And.intro hz0 (And.intro hz1 hz2)))
    clear hc hi hz0 hz1 hz2
    go_enter Try.func24, Try.ntmps24
    go_wp2_with fail
    go_loopw [3, 5, 8] (fun u _ i wr => ∃ (m : Nat) (A : Option Addr) (c : Nat), m ≤ l.length ∧ i = .int .i64 m ∧ u = .slice A m c ∧ wr.ownsRow w.heap.size 71 3 (.slice A m c) m (clCells (l.take m)) ∧ Below w.heap.size w wr) (fun _ _ i _ => l.length - (intOf i).toNat)
    case atStart => exact ⟨0, none, 0, by omega, rfl, rfl, ⟨rfl, .inl ⟨rfl, rfl⟩⟩, Below.refl _ _⟩
    case round =>
      obtain ⟨m, A, c, hm, rfl, rfl, hown, hB⟩ := hrel
      by_cases hlt : m < l.length
      · have hcl := clCells_snoc l m hlt
        obtain ⟨c0, c1, c2⟩ := (HC.out.below hB hbl) m hlt
        have hblt : b < wr.heap.size := Nat.lt_of_lt_of_le hbl hB.size
        generalize l[m] = d at c0 c1 c2 hcl
        have HCL := Lib.hid hcl
        clear hcl
        obtain ⟨hi, hz0, hz1, hz2⟩ := HI.out
        have hm7 : m + 1 ≤ maxLen := by unfold maxLen; omega
        have hm8 : (m + 1) * 24 ≤ 140737488355328 := by omega
        go_wp2_with (at_builtin; go_must (refine wpList_append_own _ rfl _ _ 48 rfl w.heap.size 71 i0 (.agg #[.int .i64 0, .int .i64 0, .int .i64 0]) 3 24 Try.underlying48 hi hz0 hz1 hz2 rfl (by decide) _ _ _ rfl ((hown.alloc _).alloc _) ⟨wr.heap.size + 1, 0, none⟩ 1 1 (Bk.cells3 d) rfl rfl ?c1 ?c2 hm7 hm8 ?c5 ?_))
        case c1 => have := news3 (wr.alloc (.cells #[.int .i64 d.who, .int .i64 d.claim, .int .i64 d.held] 60)) 71 (.int .i64 d.who) (.int .i64 d.claim) (.int .i64 d.held); simpa [Bk.cells3] using this
        case c2 => intro u hu; simp [Bk.cells3] at hu; rcases hu with rfl | rfl | rfl <;> rfl
        case c5 => have := hB.size; simp; omega
        intro v' w1 hown1 hgrow _
        have hB1 : Below w.heap.size w w1 := ((hB.alloc hB.size _).alloc (by have := hB.size; simp; omega) _).grown hgrow (by have := hB.size; simp; omega) (own_base hown)
        obtain ⟨A', c', rfl⟩ := own_form hown1
        rw [← HCL.out] at hown1
        clear hi hz0 hz1 hz2 hown hgrow c0 c1 c2 hB
        go_wp2_with fail
        go_roundw
        case rel => exact ⟨m + 1, A', c', by omega, by go_num, rfl, hown1, hB1⟩
        case measure => simp [intOf]; omega
      · obtain rfl : m = l.length := by omega
        rw [List.take_length] at hown
        go_wp2_with fail
        go_ret
        exact ⟨⟨_, rfl, hown⟩, hB⟩
end Go.Proofs.Ytjdjdojmgoibbaa
