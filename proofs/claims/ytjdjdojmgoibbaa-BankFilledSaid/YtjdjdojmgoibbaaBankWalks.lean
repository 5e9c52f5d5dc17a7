/- THE WALKS of layer 10: who are clients, who can be served next, in what order. Conditions: the slice's cells hold the clients. -/
import Derived.Test.YtjdjdojmgoibbaaProg
import Derived.Test.YtjdjdojmgoibbaaMem
import Derived.WalkKit
import Derived.WalkSpells
import Derived.WalkLawsBesides
import Derived.Lib.Hide
namespace Go.Proofs.Ytjdjdojmgoibbaa
open Go.RowKit
set_option linter.unusedVariables false

structure Cl where
  who : Int
  claim : Int
  held : Int
deriving DecidableEq, Inhabited
namespace Bk
def fits (n : Int) : Prop := -9223372036854775808 ≤ n ∧ n ≤ 9223372036854775807
def Fit (l : List Cl) : Prop := ∀ c ∈ l, fits c.who ∧ fits c.claim ∧ fits c.held
def good (c : Cl) : Bool := decide (0 ≤ c.who ∧ c.who ≤ 2147483647 ∧ 0 ≤ c.claim ∧ c.claim ≤ 100 ∧ 0 ≤ c.held ∧ c.held ≤ c.claim)
def apart (l : List Cl) (c : Cl) : Bool := l.all fun o => o.who != c.who
def okAt (l : List Cl) (i : Nat) : Bool := match l[i]? with
  | some c => good c && apart (l.take i) c
  | none => true
def right (l : List Cl) : Bool := decide (l.length ≤ 8) && (List.range l.length).all (okAt l)
end Bk
/-- from b, off on lie these clients, three cells each -/
def ClsAt (w : World) (b off : Nat) (l : List Cl) : Prop := ∀ i (h : i < l.length), w.cell? ⟨b, off + i * 3, none⟩ = some (.int .i64 l[i].who) ∧ w.cell? ⟨b, off + i * 3 + 1, none⟩ = some (.int .i64 l[i].claim) ∧ w.cell? ⟨b, off + i * 3 + 2, none⟩ = some (.int .i64 l[i].held)
theorem ClsAt.below {w w' : World} {b off : Nat} {l : List Cl} (h : ClsAt w b off l) (hb : Below w.heap.size w w') (hl : b < w.heap.size) : ClsAt w' b off l := by
  intro i hi
  obtain ⟨h0, h1, h2⟩ := h i hi
  exact ⟨(hb.cell (p := ⟨b, _, none⟩) hl).trans h0, (hb.cell (p := ⟨b, _, none⟩) hl).trans h1, (hb.cell (p := ⟨b, _, none⟩) hl).trans h2⟩

set_option maxRecDepth 100000 in
set_option maxHeartbeats 400000 in
theorem right_any (b off cap : Nat) (l : List Cl) (w : World) (hcap : l.length ≤ cap) (hm : cap ≤ maxLen) (hb : b < w.heap.size) (hc : ClsAt w b off l) :
    Calls Try.prog 27 #[.slice (some ⟨b, off, none⟩) l.length cap] w fun e w' => e = .returned (.bool (Bk.right l)) ∧ Below w.heap.size w w' := by
  unfold maxLen at hm
  by_cases h8 : 8 < l.length
  · have hr : Bk.right l = false := by unfold Bk.right; rw [decide_eq_false (by omega)]; rfl
    rw [hr]
    have h8' : (8 : Int) < (l.length : Int) := by omega
    go_enter Try.func27, Try.ntmps27
    go_wp2_with fail
    go_ret
    exact ⟨rfl, Below.refl _ _⟩
  have h8' : (l.length : Int) ≤ 8 := by omega
  have HC := Lib.hid hc
  clear hc
  go_enter Try.func27, Try.ntmps27
  go_wp2_with fail
  go_loopw [3, 4, 6, 12] (fun _ _ _ i wr => ∃ k : Nat, k ≤ l.length ∧ i = .int .i64 k ∧ (List.range k).all (Bk.okAt l) = true ∧ Below w.heap.size w wr) (fun _ _ _ i _ => l.length - (intOf i).toNat)
  case atStart => exact ⟨0, by omega, rfl, rfl, Below.refl _ _⟩
  case round =>
    obtain ⟨k, hk, rfl, hok, hB⟩ := hrel
    have HOK := Lib.hid hok
    clear hok
    by_cases hlt : k < l.length
    · obtain ⟨c0, c1, c2⟩ := (HC.out.below hB hb) k hlt
      have hblt : b < wr.heap.size := Nat.lt_of_lt_of_le hb hB.size
      have hno : Bk.okAt l k = false → Bk.right l = false := by
        intro h
        unfold Bk.right
        rw [Bool.and_eq_false_iff]
        refine .inr ?_
        rw [Bool.eq_false_iff]
        intro hh
        rw [List.all_eq_true] at hh
        rw [hh k (by simpa using hlt)] at h
        exact Bool.noConfusion h
      have hokk : Bk.okAt l k = (Bk.good l[k] && Bk.apart (l.take k) l[k]) := by
        unfold Bk.okAt; rw [List.getElem?_eq_getElem hlt]
      generalize hck : l[k] = c at c0 c1 c2 hokk
      by_cases hg : 0 ≤ c.who ∧ c.who ≤ 2147483647 ∧ 0 ≤ c.claim ∧ c.claim ≤ 100 ∧ 0 ≤ c.held ∧ c.held ≤ c.claim
      · have hgood : Bk.good c = true := by unfold Bk.good; exact decide_eq_true hg
        rw [hgood, Bool.true_and] at hokk
        have HNO := Lib.hid hno
        have HOKK := Lib.hid hokk
        have HCK := Lib.hid hck
        clear hno hokk hck hgood
        obtain ⟨g1, g2, g3, g4, g5, g6⟩ := hg
        have hkc : k ≤ cap := by omega
        have hkci : (k : Int) ≤ (cap : Int) := by omega
        go_wp2_with fail
        have hcb := Blk.new wr 60 #[.int .i64 c.who, .int .i64 c.claim, .int .i64 c.held]
        have hBa := hB.alloc hB.size (.cells #[.int .i64 c.who, .int .i64 c.claim, .int .i64 c.held] 60)
        have hgb : w.heap.size ≤ wr.heap.size := hB.size
        generalize hgg : wr.heap.size = g at hcb hgb
        generalize wr.alloc (.cells #[.int .i64 c.who, .int .i64 c.claim, .int .i64 c.held] 60) = W0 at hcb hBa
        clear c0 c1 c2 hB hblt hgg wr
        go_loopw [6, 51] (fun _ j ws => ∃ m : Nat, m ≤ k ∧ j = .int .i64 m ∧ Bk.apart (l.take m) c = true ∧ Blk ws g 60 #[.int .i64 c.who, .int .i64 c.claim, .int .i64 c.held] ∧ Below w.heap.size w ws) (fun _ j _ => k - (intOf j).toNat)
        case atStart => exact ⟨0, by omega, rfl, rfl, hcb, hBa⟩
        case round =>
          obtain ⟨m, hm2, rfl, hap, hcb2, hB2⟩ := hrel
          have HAP := Lib.hid hap
          clear hap
          by_cases hlt2 : m < k
          · obtain ⟨d0, d1, d2⟩ := (HC.out.below hB2 hb) m (by omega)
            have hblt : b < wr.heap.size := Nat.lt_of_lt_of_le hb hB2.size
            have hglt := hcb2.lt
            have hgc := hcb2.cell 0
            rw [show (#[Value.int .i64 c.who, Value.int .i64 c.claim, Value.int .i64 c.held])[0]? = some (.int .i64 c.who) from rfl] at hgc
            have hts : l.take (m + 1) = l.take m ++ [l[m]] := List.take_succ_eq_append_getElem (by omega)
            generalize l[m] = o at d0 d1 d2 hts
            have HTS := Lib.hid hts
            clear hts
            by_cases he : o.who = c.who
            · have he1 : (o.who == c.who) = true := by simpa using he
              have hap2 : Bk.apart (l.take k) c = false := by
                unfold Bk.apart
                rw [List.all_eq_false]
                refine ⟨o, ?_, by simpa using he⟩
                have h1 : o ∈ l.take (m + 1) := by rw [HTS.out]; simp
                exact List.mem_of_mem_take (by rw [List.take_take, Nat.min_eq_left (by omega : m + 1 ≤ k)]; exact h1)
              have hrf := HNO.out (HOKK.out.trans hap2)
              have HRF := Lib.hid hrf
              clear he hap2 hrf
              go_wp2_with fail
              go_ret
              exact ⟨by rw [HRF.out]; rfl, hB2.alloc hB2.size _⟩
            · have he1 : (o.who == c.who) = false := beq_eq_false_iff_ne.2 he
              have hap2 : Bk.apart (l.take (m + 1)) c = true := by
                rw [HTS.out]
                unfold Bk.apart at *
                rw [List.all_append, HAP.out]
                simpa using he
              have HAP2 := Lib.hid hap2
              clear he hap2
              go_wp2_with fail
              go_roundw
              case rel => exact ⟨m + 1, by omega, by go_num, HAP2.out, hcb2.alloc _, hB2.alloc hB2.size _⟩
              case measure => simp [intOf]; omega
          · obtain rfl : m = k := by omega
            have hok2 : (List.range (m + 1)).all (Bk.okAt l) = true := by
              rw [List.range_succ, List.all_append, HOK.out]
              simp only [List.all_cons, List.all_nil, Bool.and_true, Bool.true_and]
              rw [HOKK.out]; exact HAP.out
            have HOK2 := Lib.hid hok2
            clear hok2
            have hge : ¬ m < m := by omega
            clear hlt2
            go_wp2_with fail
            go_roundw
            case rel => exact ⟨m + 1, by omega, by go_num, HOK2.out, hB2⟩
            case measure => simp [intOf]; omega
      · have hbad : Bk.good c = false := by unfold Bk.good; exact decide_eq_false hg
        rw [hbad, Bool.false_and] at hokk
        have hrf := hno hokk
        have HRF := Lib.hid hrf
        have HG := Lib.hid hg
        clear hno hokk hrf hck hbad hg
        go_wp2_with fail
        all_goals first | (go_ret; refine ⟨?_, hB.alloc hB.size _⟩; rw [HRF.out]; rfl) | (exfalso; refine HG.out ?_; omega)
    · obtain rfl : k = l.length := by omega
      have hr : Bk.right l = true := by unfold Bk.right; rw [HOK.out, decide_eq_true (by omega)]; rfl
      have HR := Lib.hid hr
      clear hr hlt
      go_wp2_with fail
      go_ret
      exact ⟨by rw [HR.out]; rfl, hB⟩
end Go.Proofs.Ytjdjdojmgoibbaa
