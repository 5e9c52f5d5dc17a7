/- layer 7: tables, plain. -/
import Derived.Test.YtcindpblgbpcoaaAm22
import Derived.Test.YtcindpblgbpcoaaSrt
import Derived.Lib.Hide
import Derived.Shelf.RegionOpenPlain
import Derived.WalkKit
import Derived.ProofKit
namespace Go.Proofs.Ytcindpblgbpcoaa
set_option linter.unusedVariables false
set_option linter.unusedSimpArgs false
structure Sl where
  p : Int
  f : Int
deriving DecidableEq, Inhabited
namespace Ta
def z : Sl := ⟨0, 0⟩
def free (s : Sl) : Bool := (s.p == 0 && s.f == 0)
def isP (n : Int) : Bool := decide (1 ≤ n ∧ n ≤ 2147483647)
def isF (n : Int) : Bool := decide (0 ≤ n ∧ n ≤ 2147483647)
def at' (t : List Sl) (k : Nat) : Sl := t.getD k z
def hit (t : List Sl) (p : Int) (k : Nat) : Bool := (at' t k).p == p || free (at' t k)
def pl (p : Int) (i : Nat) : Nat := (p.toNat + i) % 16
def seek (t : List Sl) (p : Int) : Int := match (List.range 16).find? (fun i => hit t p (pl p i)) with
  | some i => (pl p i : Nat)
  | none => -1
def okS (t : List Sl) (k : Nat) : Bool := free (at' t k) || (isP (at' t k).p && isF (at' t k).f && decide (seek t (at' t k).p = k))
def right (t : List Sl) : Bool := decide (t.length = 16) && (List.range 16).all (okS t)
def slot (t : List Sl) (p : Int) : Int × Bool := if isP p = true then (seek t p, decide (0 ≤ seek t p ∧ (at' t (seek t p).toNat).p = p)) else (0, false)
def find (t : List Sl) (p : Int) : Int × Bool := if right t = true ∧ (slot t p).2 = true then ((at' t (slot t p).1.toNat).f, true) else (0, false)
def put (t : List Sl) (p f : Int) : List Sl × Int := if right t = false ∨ isP p = false ∨ isF f = false then (t, 1) else if (slot t p).2 = true then (t, 4) else if seek t p < 0 then (t, 7) else (t.set (seek t p).toNat ⟨p, f⟩, 0)
def ahead (p : Int) (a : Nat) : Nat := (a + 16 - p.toNat % 16) % 16
def delL (first : Nat) : Nat → Nat → List Sl → List Sl
  | 0, hole, t => t
  | n + 1, hole, t =>
    if free (at' t ((first + (15 - n)) % 16)) = true then t
    else if ahead (at' t ((first + (15 - n)) % 16)).p hole < ahead (at' t ((first + (15 - n)) % 16)).p ((first + (15 - n)) % 16) then delL first n ((first + (15 - n)) % 16) ((t.set hole (at' t ((first + (15 - n)) % 16))).set ((first + (15 - n)) % 16) z)
    else delL first n hole t
def del (t : List Sl) (p : Int) : List Sl × Int := if right t = false then (t, 1) else if (slot t p).2 = false then (t, 3) else (delL (slot t p).1.toNat 15 (slot t p).1.toNat (t.set (slot t p).1.toNat z), 0)
def pgs (t : List Sl) : List Int := (t.filter fun s => !free s).map Sl.p
def pages (t : List Sl) : List Int := if right t = true then srt (pgs t) else []
theorem at_get {t : List Sl} {k : Nat} (hk : k < t.length) : at' t k = t[k] := by unfold at'; rw [List.getD_eq_getElem?_getD, List.getElem?_eq_getElem hk]; rfl
theorem pl_lt {p : Int} {i : Nat} : pl p i < 16 := Nat.mod_lt _ (by decide)
theorem seek_range {t : List Sl} {p : Int} : seek t p = -1 ∨ ∃ i, i < 16 ∧ seek t p = (pl p i : Nat) ∧ hit t p (pl p i) = true ∧ ∀ j, j < i → hit t p (pl p j) = false := by
  unfold seek
  cases h : (List.range 16).find? (fun i => hit t p (pl p i)) with
  | none => exact .inl rfl
  | some i =>
    refine .inr ⟨i, ?_, rfl, ?_, ?_⟩
    · simpa using List.mem_of_find?_eq_some h
    · simpa using List.find?_some h
    · intro j hj
      rw [List.find?_range_eq_some] at h
      have := h.2.2 j hj
      simpa using this
theorem seek_at {t : List Sl} {p : Int} {i : Nat} (hi : i < 16) (h : hit t p (pl p i) = true) (hno : ∀ j, j < i → hit t p (pl p j) = false) : seek t p = (pl p i : Nat) := by
  unfold seek
  rw [show (List.range 16).find? (fun i => hit t p (pl p i)) = some i from List.find?_range_eq_some.2 ⟨h, by simpa using hi, fun j hj => by rw [hno j hj]; rfl⟩]
theorem seek_none {t : List Sl} {p : Int} (hno : ∀ j, j < 16 → hit t p (pl p j) = false) : seek t p = -1 := by
  unfold seek
  rw [show (List.range 16).find? (fun i => hit t p (pl p i)) = none from by
    rw [List.find?_eq_none]; intro i hi; rw [hno i (by simpa using hi)]; simp]
theorem right_iff {t : List Sl} : right t = true ↔ t.length = 16 ∧ ∀ k, k < 16 → okS t k = true := by
  unfold right
  simp only [Bool.and_eq_true, decide_eq_true_eq, List.all_eq_true, List.mem_range]
end Ta
end Go.Proofs.Ytcindpblgbpcoaa
