/- layer 12: the journal, plain. -/
import Derived.Test.YteghmlafodkfpaaQ0
namespace Go.Proofs.Yteghmlafodkfpaa
set_option linter.unusedVariables false
set_option linter.unusedSimpArgs false
structure Jo where
  sync : Bool
  w : Wr
namespace Jn
def usable (d : Dk) : Bool := rightB d && decide (35 ≤ d.sectors.length)
def isPage (p : Int) : Bool := decide (1 ≤ p ∧ p ≤ 16)
def wr (n : Int) (s : ByteArray) : Jo := ⟨false, ⟨n, s⟩⟩
def sy : Jo := ⟨true, ⟨0, ⟨#[]⟩⟩⟩
def headB (p : Int) : ByteArray := ⟨#[74, UInt8.ofNat p.toNat, 0, 0, 0, 0, 0, 0, 0, 0, 0, 0, 0, 0, 0, 0]⟩
def lo (s : ByteArray) : ByteArray := s.extract 0 16
def hi (s : ByteArray) : ByteArray := s.extract 16 32
def plan (p : Int) (s : ByteArray) : List Jo := [wr 1 (lo s), wr 2 (hi s), sy, wr 0 (headB p), sy, wr (2 * p + 1) (lo s), wr (2 * p + 2) (hi s), sy, wr 0 noughts, sy]
def planM (d : Dk) (p : Int) (s : ByteArray) : List Jo × Int := if usable d = true ∧ isPage p = true ∧ s.size = 32 then (plan p s, 0) else ([], 1)
def stepJ (d : Dk) (o : Jo) : Dk := if o.sync then syncD d else (putD d o.w).1
def runJ (d : Dk) (l : List Jo) : Dk := l.foldl stepJ d
def runM (d : Dk) (l : List Jo) (most : Int) : Dk := runJ d (l.take most.toNat)
def commitM (d : Dk) (p : Int) (s : ByteArray) : Dk × Int := (runJ d (planM d p s).1, (planM d p s).2)
def pageOf (s : ByteArray) : Int := (s[1]?.getD 0).toNat
def mend (d : Dk) (p : Int) : List Jo := [wr (2 * p + 1) (readD d 1).1, wr (2 * p + 2) (readD d 2).1, sy]
def clear : List Jo := [wr 0 noughts, sy]
def headed (s : ByteArray) : Option Int := if isPage (pageOf s) = true ∧ s = headB (pageOf s) then some (pageOf s) else none
def repairM (d : Dk) : List Jo := if usable d = false then [] else if (readD d 0).1 = noughts then [] else match headed (readD d 0).1 with
  | some p => mend d p ++ clear
  | none => clear
def recoverM (d : Dk) : Dk := runJ d (repairM d)
def getM (d : Dk) (p : Int) : ByteArray × Int := if usable d = true ∧ isPage p = true then ((readD d (2 * p + 1)).1 ++ (readD d (2 * p + 2)).1, 0) else (⟨#[]⟩, 1)
/-! disks by their sectors -/
/-- so many sectors of 16 bytes -/
def Ok (n : Nat) (s : List ByteArray) : Prop := s.length = n ∧ ∀ x ∈ s, x.size = 16
def Cok (n : Nat) (c : List Wr) : Prop := c.length ≤ 100 ∧ ∀ w ∈ c, 0 ≤ w.at_ ∧ w.at_ < n ∧ w.data.size = 16
theorem right_ok {n : Nat} {s : List ByteArray} {c : List Wr} (hn : 1 ≤ n ∧ n ≤ 64) (hs : Ok n s) (hc : Cok n c) : rightB ⟨s, c⟩ = true := by
  unfold rightB
  simp only [Bool.and_eq_true, decide_eq_true_eq, List.all_eq_true]
  refine ⟨⟨⟨by rw [hs.1]; omega, by rw [hs.1]; omega, by have := hc.1; omega⟩, fun x hx => by simp [len16, hs.2 x hx]⟩, fun w hw => ?_⟩
  obtain ⟨h1, h2, h3⟩ := hc.2 w hw
  simp [fitsB, hasB, hs.1, h1, h2, h3]
theorem fits_ok {n : Nat} {s : List ByteArray} {c : List Wr} {w : Wr} (hs : Ok n s) (h1 : 0 ≤ w.at_) (h2 : w.at_ < n) (h3 : w.data.size = 16) : fitsB ⟨s, c⟩ w = true := by
  simp [fitsB, hasB, hs.1, h1, h2, h3]
theorem step_w {n : Nat} {s : List ByteArray} {c : List Wr} {i : Int} {x : ByteArray} (hn : 1 ≤ n ∧ n ≤ 64) (hs : Ok n s) (hc : Cok n c) (h1 : 0 ≤ i ∧ i < n) (h3 : x.size = 16) : stepJ ⟨s, c⟩ (wr i x) = ⟨s, c ++ [⟨i, x⟩]⟩ := by
  have hl := hc.1
  unfold stepJ wr
  simp only [Bool.false_eq_true, if_false]
  rw [put_ok (right_ok hn hs hc) (fits_ok hs h1.1 h1.2 h3) (by simp only; omega)]
theorem step_s {n : Nat} {s : List ByteArray} {c : List Wr} (hn : 1 ≤ n ∧ n ≤ 64) (hs : Ok n s) (hc : Cok n c) : stepJ ⟨s, c⟩ sy = ⟨doneS s c, []⟩ := by
  unfold stepJ sy syncD
  rw [right_ok hn hs hc]; rfl
theorem cok_nil {n : Nat} : Cok n [] := ⟨by simp, by simp⟩
theorem cok_snoc {n : Nat} {c : List Wr} {i : Int} {x : ByteArray} (hc : Cok n c) (hl : c.length < 100) (h1 : 0 ≤ i ∧ i < n) (h3 : x.size = 16) : Cok n (c ++ [⟨i, x⟩]) := by
  refine ⟨by simp; omega, fun w hw => ?_⟩
  rcases List.mem_append.1 hw with hw | hw
  · exact hc.2 w hw
  · rw [List.mem_singleton.1 hw]; exact ⟨h1.1, h1.2, h3⟩
theorem ok_set {n : Nat} {s : List ByteArray} {i : Nat} {x : ByteArray} (hs : Ok n s) (h3 : x.size = 16) : Ok n (s.set i x) := by
  refine ⟨by simp [hs.1], fun y hy => ?_⟩
  rcases List.mem_or_eq_of_mem_set hy with h | h
  · exact hs.2 y h
  · rw [h]; exact h3
theorem ok_done {n : Nat} {s : List ByteArray} {c : List Wr} (hs : Ok n s) (hc : Cok n c) : Ok n (doneS s c) := by
  obtain ⟨_, hc⟩ := hc
  induction c generalizing s with
  | nil => exact hs
  | cons w c ih =>
    have hw := hc w (by simp)
    exact ih (s := put1 s w) (ok_set hs hw.2.2) (by rename_i hl; simp at hl; omega) (fun v hv => hc v (by simp [hv]))
theorem usable_ok {n : Nat} {s : List ByteArray} {c : List Wr} (hn : 35 ≤ n ∧ n ≤ 64) (hs : Ok n s) (hc : Cok n c) : usable ⟨s, c⟩ = true := by
  unfold usable
  rw [right_ok ⟨by omega, hn.2⟩ hs hc]
  simp [hs.1]; omega
/-- what a sector reads -/
def rd (s : List ByteArray) (c : List Wr) (i : Int) : ByteArray := match lookB c i with
  | some w => w.data
  | none => s[i.toNat]?.getD ByteArray.empty
theorem read_rd {n : Nat} {s : List ByteArray} {c : List Wr} {i : Int} (hn : 1 ≤ n ∧ n ≤ 64) (hs : Ok n s) (hc : Cok n c) (h1 : 0 ≤ i ∧ i < n) : readD ⟨s, c⟩ i = (rd s c i, 0) := by
  rw [read_ok (right_ok hn hs hc) (by simp [hasB, hs.1, h1])]
  unfold rd
  simp only
  cases lookB c i <;> rfl
theorem get_rd {n : Nat} {s : List ByteArray} {c : List Wr} {p : Int} (hn : 35 ≤ n ∧ n ≤ 64) (hs : Ok n s) (hc : Cok n c) (hp : isPage p = true) : getM ⟨s, c⟩ p = (rd s c (2 * p + 1) ++ rd s c (2 * p + 2), 0) := by
  unfold isPage at hp
  rw [decide_eq_true_iff] at hp
  unfold getM
  rw [if_pos ⟨usable_ok hn hs hc, by unfold isPage; rw [decide_eq_true_iff]; exact hp⟩, read_rd ⟨by omega, hn.2⟩ hs hc (by omega), read_rd ⟨by omega, hn.2⟩ hs hc (by omega)]
theorem rd_nil {s : List ByteArray} {i : Int} : rd s [] i = s[i.toNat]?.getD ByteArray.empty := rfl
theorem rd_snoc {s : List ByteArray} {c : List Wr} {i k : Int} {x : ByteArray} : rd s (c ++ [⟨k, x⟩]) i = if k = i then x else rd s c i := by
  unfold rd
  rw [lookB_snoc]
  by_cases h : k = i
  · simp [h]
  · simp [h]
theorem rd_set {n : Nat} {s : List ByteArray} (hs : Ok n s) {i : Int} {k : Nat} {x : ByteArray} (hi : 0 ≤ i) (hk : k < n) : rd (s.set k x) [] i = if (k : Int) = i then x else rd s [] i := by
  rw [rd_nil, rd_nil, List.getElem?_set]
  by_cases h : (k : Int) = i
  · have : k = i.toNat := by omega
    subst this
    rw [if_pos rfl, if_pos (by rw [hs.1]; omega), if_pos h]; rfl
  · rw [if_neg (by omega), if_neg h]
theorem rd_done {n : Nat} {s : List ByteArray} {c : List Wr} {i : Int} (hs : Ok n s) (hc : Cok n c) (h1 : 0 ≤ i ∧ i < n) : rd (doneS s c) [] i = rd s c i := by
  unfold rd
  rw [lookB_nil]
  simp only
  rw [doneS_at s i.toNat (by rw [hs.1]; omega) c.length c rfl (fun w hw => (hc.2 w hw).1), show ((i.toNat : Nat) : Int) = i by omega]
  cases lookB c i <;> rfl
theorem size_lo {s : ByteArray} (h : s.size = 32) : (lo s).size = 16 := by unfold lo; simp [h]
theorem size_hi {s : ByteArray} (h : s.size = 32) : (hi s).size = 16 := by unfold hi; simp [h]
theorem lo_hi {s : ByteArray} (h : s.size = 32) : lo s ++ hi s = s := by
  unfold lo hi
  have h2 := ByteArray.extract_zero_size (b := s)
  rw [h] at h2
  rw [ByteArray.extract_append_extract]
  simpa using h2
theorem size_head {p : Int} : (headB p).size = 16 := rfl
theorem size_noughts : noughts.size = 16 := rfl
theorem page_iff {p : Int} : isPage p = true ↔ 1 ≤ p ∧ p ≤ 16 := by unfold isPage; rw [decide_eq_true_iff]
theorem headed_head {p : Int} (hp : isPage p = true) : headed (headB p) = some p := by
  have hp2 := page_iff.1 hp
  have h1 : pageOf (headB p) = p := by
    show ((UInt8.ofNat p.toNat).toNat : Int) = p
    rw [UInt8.toNat_ofNat']
    omega
  unfold headed
  rw [h1, if_pos ⟨hp, rfl⟩]
theorem head_nought {p : Int} : headB p ≠ noughts := by
  intro h
  have : (headB p)[0]? = noughts[0]? := by rw [h]
  have h2 : (headB p)[0]? = some 74 := rfl
  rw [h2] at this
  exact absurd this (by decide)
end Jn
end Go.Proofs.Yteghmlafodkfpaa
