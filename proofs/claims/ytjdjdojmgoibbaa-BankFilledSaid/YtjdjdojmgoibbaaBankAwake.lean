/- LAYER 10: the laws' fixed answer; lists of numbers that are compared. Conditions: the slices lead to the lists. -/
import Derived.Test.YtjdjdojmgoibbaaBankSafe
import Derived.BigQuiet
import Derived.Deep.QuietTactic
import Derived.Below
namespace Go.Proofs.Ytjdjdojmgoibbaa
open Go.RowKit
set_option linter.unusedVariables false

/-- the three cells of a client -/
def Bk.cells3 (c : Cl) : List Value := [.int .i64 c.who, .int .i64 c.claim, .int .i64 c.held]
def clCells (l : List Cl) : List Value := l.flatMap Bk.cells3
theorem clCells_get (l : List Cl) : ∀ (i : Nat) (h : i < l.length) (j : Nat), j < 3 → (clCells l)[i * 3 + j]? = (Bk.cells3 l[i])[j]? := by
  induction l with
  | nil => intro i h; simp at h
  | cons c l ih =>
    intro i h j hj
    have e : clCells (c :: l) = Bk.cells3 c ++ clCells l := rfl
    match i with
    | 0 =>
      rw [e, List.getElem?_append_left (by simp [Bk.cells3]; omega)]
      simp
    | i + 1 =>
      rw [e, List.getElem?_append_right (by simp [Bk.cells3]; omega)]
      rw [show (i + 1) * 3 + j - (Bk.cells3 c).length = i * 3 + j by simp [Bk.cells3]; omega]
      rw [ih i (by simpa using h) j hj]
      simp
theorem clCells_length (l : List Cl) : (clCells l).length = l.length * 3 := by
  induction l with
  | nil => rfl
  | cons c l ih =>
    have e : clCells (c :: l) = Bk.cells3 c ++ clCells l := rfl
    rw [e, List.length_append, ih]; simp [Bk.cells3]; omega
theorem ClsAt.of_blk {w : World} {g : Nat} {t : TypeId} {cs : Array Value} {l : List Cl} (h : Blk w g t cs) (hp : ∀ (j : Nat) (v : Value), (clCells l)[j]? = some v → cs[j]? = some v) : ClsAt w g 0 l := by
  intro i hi
  refine ⟨?_, ?_, ?_⟩
  · rw [h.cell, Nat.zero_add]; exact hp _ _ (by have := clCells_get l i hi 0 (by omega); rw [Nat.add_zero] at this; rw [this]; rfl)
  · rw [h.cell, Nat.zero_add]; exact hp _ _ (by rw [clCells_get l i hi 1 (by omega)]; rfl)
  · rw [h.cell, Nat.zero_add]; exact hp _ _ (by rw [clCells_get l i hi 2 (by omega)]; rfl)
theorem Sl.of_blk {w : World} {g : Nat} {t : TypeId} {l : List Cl} (h : Blk w g t (clCells l).toArray) (hm : l.length ≤ maxLen) : Sl w (.slice (some ⟨g, 0, none⟩) l.length l.length) l :=
  ⟨_, _, rfl, Nat.le_refl _, hm, .inr ⟨g, 0, rfl, h.lt, ClsAt.of_blk h (fun j v hv => by simpa using hv)⟩⟩
theorem Sl.of_own {w : World} {base : Nat} {e : TypeId} {v : Value} {l : List Cl} (h : w.ownsRow base e 3 v l.length (clCells l)) : Sl w v l := by
  rcases h.2 with ⟨rfl, h0⟩ | ⟨g, cap, cur, rfl, hg, hh, h3, h4, h5, h6⟩
  · obtain rfl := List.eq_nil_of_length_eq_zero h0
    exact ⟨none, 0, rfl, Nat.le_refl _, by unfold maxLen; omega, .inl rfl⟩
  · have hb : Blk w g e cur := hh
    refine ⟨_, cap, rfl, h3, h4, .inr ⟨g, 0, rfl, hb.lt, ClsAt.of_blk hb ?_⟩⟩
    intro j v hv
    rw [← h6, List.getElem?_take] at hv
    split at hv
    · simpa using hv
    · simp at hv
theorem Sl.nil (w : World) : Sl w (.slice none 0 0) [] := ⟨none, 0, rfl, Nat.le_refl _, by unfold maxLen; omega, .inl rfl⟩

/-- this value is a slice of these numbers -/
def Ns (w : World) (v : Value) (l : List Int) : Prop :=
  ∃ A cap, v = .slice A l.length cap ∧ (l = [] ∨ ∃ b off, A = some ⟨b, off, none⟩ ∧ ∀ i (h : i < l.length), w.cell? ⟨b, off + i, none⟩ = some (.int .i64 l[i]))
theorem Ns.of_own {w : World} {base : Nat} {e : TypeId} {v : Value} {l : List Int} (h : w.ownsRow base e 1 v l.length (l.map (Value.int .i64))) : Ns w v l := by
  rcases h.2 with ⟨rfl, h0⟩ | ⟨g, cap, cur, rfl, hg, hh, h3, h4, h5, h6⟩
  · obtain rfl := List.eq_nil_of_length_eq_zero h0
    exact ⟨none, 0, rfl, .inl rfl⟩
  · have hb : Blk w g e cur := hh
    refine ⟨_, cap, rfl, .inr ⟨g, 0, rfl, ?_⟩⟩
    intro i hi
    rw [hb.cell, Nat.zero_add]
    have hv : (l.map (Value.int IntKind.i64))[i]? = some (.int .i64 l[i]) := by rw [List.getElem?_map, List.getElem?_eq_getElem hi]; rfl
    rw [← h6, List.getElem?_take] at hv
    split at hv
    · simpa using hv
    · simp at hv

def SameCells (w w' : World) : Prop := (∀ p, w'.cell? p = w.cell? p) ∧ Below w.heap.size w w'
theorem SameCells.drewN {w w' : World} (h : SameCells w w') (n : Nat) : SameCells w (w'.drewN n) := ⟨fun p => h.1 p, h.2.trans (drewN_below _ _ _)⟩
def EqIs (a b : List Int) (w : World) (e : Ending) (w' : World) : Prop := e = .returned (.bool (decide (a = b))) ∧ Below w.heap.size w w'
set_option maxRecDepth 100000 in
set_option maxHeartbeats 400000 in
theorem equal_any (u v : Value) (a b : List Int) (w : World) (ha : Ns w u a) (hb : Ns w v b) (hl : a.length ≤ 1000000) :
    Calls Try.prog 30 #[u, v] w (EqIs a b w) := by
  obtain ⟨A, cap, rfl, ha2⟩ := ha
  obtain ⟨B, cap2, rfl, hb2⟩ := hb
  by_cases hne : a.length = b.length
  · have hne1 : ((a.length : Int) != (b.length : Int)) = false := by rw [hne]; simp
    rcases ha2 with rfl | ⟨ab, ao, rfl, hca⟩
    · obtain rfl := List.eq_nil_of_length_eq_zero (hne.symm.trans rfl)
      clear hne hne1 hb2 hl
      go_enter Try.func30, Try.ntmps30
      go_wp2_with fail
      go_loop [5] (fun i => i = .int .i64 0) (fun _ => 0)
      case atStart => rfl
      case round =>
        obtain rfl := hrel
        go_wp2_with fail
        go_ret
        exact ⟨rfl, Below.refl _ _⟩
    · rcases hb2 with rfl | ⟨bb, bo, rfl, hcb⟩
      · obtain rfl := List.eq_nil_of_length_eq_zero (hne.trans rfl)
        clear hne hne1 hca hl
        go_enter Try.func30, Try.ntmps30
        go_wp2_with fail
        go_loop [5] (fun i => i = .int .i64 0) (fun _ => 0)
        case atStart => rfl
        case round =>
          obtain rfl := hrel
          go_wp2_with fail
          go_ret
          exact ⟨rfl, Below.refl _ _⟩
      · have HCA := Lib.hid hca
        have HCB := Lib.hid hcb
        have HNE := Lib.hid hne
        clear hca hcb hne
        go_enter Try.func30, Try.ntmps30
        go_wp2_with fail
        go_loopw [5] (fun i wr => ∃ k : Nat, k ≤ a.length ∧ i = .int .i64 k ∧ a.take k = b.take k ∧ SameCells w wr) (fun i _ => a.length - (intOf i).toNat)
        case atStart => exact ⟨0, by omega, rfl, rfl, fun _ => rfl, Below.refl _ _⟩
        case round =>
          obtain ⟨k, hk, rfl, heq, hS⟩ := hrel
          have HEQ := Lib.hid heq
          clear heq
          by_cases hlt : k < a.length
          · have hltb : k < b.length := by have := HNE.out; omega
            have hlta : (k : Int) < (a.length : Int) := by omega
            have hltbi : (k : Int) < (b.length : Int) := by omega
            have hk0 : (0 : Int) ≤ (k : Int) := by omega
            have c1 : wr.cell? ⟨ab, ao + k, none⟩ = some (.int .i64 a[k]) := (hS.1 _).trans (HCA.out k hlt)
            have c2 : wr.cell? ⟨bb, bo + k, none⟩ = some (.int .i64 b[k]) := (hS.1 _).trans (HCB.out k hltb)
            have ta : a.take (k + 1) = a.take k ++ [a[k]] := List.take_succ_eq_append_getElem hlt
            have tb : b.take (k + 1) = b.take k ++ [b[k]] := List.take_succ_eq_append_getElem hltb
            by_cases he : a[k] = b[k]
            · have hb1 : (a[k] != b[k]) = false := by simpa using he
              have hst : a.take (k + 1) = b.take (k + 1) := by rw [ta, tb, HEQ.out, he]
              have HST := Lib.hid hst
              clear ta tb hst he
              generalize a[k] = x at *
              generalize b[k] = y at *
              go_wp2_with fail
              go_quiet (fail)
              go_wp2_with fail
              go_roundw
              case rel => exact ⟨k + 1, by omega, by go_num, HST.out, hS.drewN _⟩
              case measure => simp [intOf]; omega
            · have hb1 : (a[k] != b[k]) = true := by simpa using he
              have hf : decide (a = b) = false := decide_eq_false (by rintro rfl; exact he rfl)
              have HF := Lib.hid hf
              clear ta tb hf he
              generalize a[k] = x at *
              generalize b[k] = y at *
              go_wp2_with fail
              go_quiet (fail)
              go_wp2_with fail
              go_ret
              unfold EqIs
              rw [HF.out]
              exact ⟨rfl, (hS.drewN _).2⟩
          · have hge : a.length ≤ k := by omega
            have ht : decide (a = b) = true := by
              apply decide_eq_true
              have h1 := HEQ.out
              rw [List.take_of_length_le hge, List.take_of_length_le (by have := HNE.out; omega)] at h1
              exact h1
            have HT := Lib.hid ht
            clear ht hlt
            go_wp2_with fail
            go_ret
            unfold EqIs
            rw [HT.out]
            exact ⟨rfl, hS.2⟩
  · have hne1 : ((a.length : Int) != (b.length : Int)) = true := by rw [bne_iff_ne]; omega
    have hf : decide (a = b) = false := decide_eq_false (by rintro rfl; exact hne rfl)
    unfold EqIs
    rw [hf]
    clear ha2 hb2 hne hf
    go_enter Try.func30, Try.ntmps30
    go_wp2_with fail
    go_ret
    exact ⟨rfl, Below.refl _ _⟩
end Go.Proofs.Ytjdjdojmgoibbaa
