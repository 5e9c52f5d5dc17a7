/- layer 4: the device's contracts: is, Right. -/
import Derived.Test.YtfmbfgoofiojcaaQE
namespace Go.Proofs.Ytfmbfgoofiojcaa
open Go.RowKit
set_option linter.unusedVariables false
set_option linter.unusedSimpArgs false
theorem toL_loop (a : ByteArray) : ∀ (n i : Nat) (r : List UInt8), a.size - i = n → ByteArray.toList.loop a i r = r.reverse ++ (a.data.toList.drop i)
  | n, i, r, h => by
    unfold ByteArray.toList.loop
    split
    · rename_i hlt
      rw [toL_loop a (n - 1) (i + 1) _ (by omega)]
      have h1 : i < a.data.toList.length := by simpa using hlt
      rw [List.drop_eq_getElem_cons h1]
      have h2 : i < a.data.size := by simpa using hlt
      have : a.get! i = a.data.toList[i] := by
        simp only [ByteArray.get!, Array.getElem_toList]
        exact getElem!_pos a.data i h2
      simp [this]
    · rename_i hge
      have : a.data.toList.drop i = [] := List.drop_eq_nil_of_le (by simp; omega)
      rw [this]; simp
termination_by n i => a.size - i
theorem toL (a : ByteArray) : a.toList = a.data.toList := by
  unfold ByteArray.toList
  rw [toL_loop a a.size 0 [] (by omega)]; simp
theorem toL_len (a : ByteArray) : a.toList.length = a.size := by rw [toL]; simp
theorem toL_nil (s : ByteArray) : s.toList = [] ↔ s.size = 0 := by
  rw [← List.length_eq_zero_iff, toL_len]
theorem toL_inj {a b : ByteArray} (h : a.toList = b.toList) : a = b := by
  rw [toL, toL] at h
  cases a with | mk x => cases b with | mk y => cases x; cases y; simp at h; rw [h]
structure Rq where
  ticket : Int
  kind : Int
  page : Int
  data : ByteArray
structure Dv where
  disk : Dk
  next : Int
  flight : List Rq
def encRq (r : Rq) : List SC := [.pv (.int .i64 r.ticket), .pv (.int .i64 r.kind), .pv (.int .i64 r.page), .pv (.string r.data)]
def encDv (d : Dv) : List SC := [.sl 1 (d.disk.sectors.map encS), .sl 2 (d.disk.cache.map encWr), .pv (.int .i64 d.next), .sl 4 (d.flight.map encRq)]
theorem nilL : ByteArray.toList ⟨#[]⟩ = [] := by decide +kernel
def isB (k p : Int) (s : ByteArray) : Bool := (k == 1 && decide (1 ≤ p) && decide (p ≤ 16) && s.toList == []) || (k == 2 && decide (1 ≤ p) && decide (p ≤ 16) && (s.size : Int) == 32) || (k == 3 && p == 0 && s.toList == [])
theorem is_spec (k p : Int) (s : ByteArray) : Spec Try.prog 76 [rI k, rI p, rS s] (.val (rB (isB k p s))) := by
  refine spec_val mixed fn76 (by simp) ?_
  unfold ac76
  simp -implicitDefEqProofs only [↓aP, aQ, ↓reduceIte, Nat.reduceEqDiff, Nat.reduceAdd, Nat.reduceSub, Nat.reduceMul, Nat.reduceLT, Nat.reduceLeDiff, reduceCtorEq, Nat.reduceBEq, forall_const, implies_true, exists_const, ne_eq, Int.reduceAdd, Int.reduceSub, Int.reduceMul, Int.reduceBEq, Int.reduceEq, Int.reduceLT, Int.reduceLE, Int.reduceToNat, Int.reduceNeg, Int.reduceBNe, nilL]
  repeat' ((first | ((first | with_reducible refine fork ?_ ?_ | with_reducible refine gcase ?_ ?_ | with_reducible refine gcaseD ?_ ?_) <;> intro hc <;> (have hp := hc) <;> (try simp only [aB] at hp)) | (have hc := True.intro; first | with_reducible refine askM (by omega) ?_ | with_reducible refine And.intro (by first | omega | decide +kernel) ?_ | fail)) <;> (try simp -implicitDefEqProofs only [↓aP, aQ, ↓reduceIte, Nat.reduceEqDiff, Nat.reduceAdd, Nat.reduceSub, Nat.reduceMul, Nat.reduceLT, Nat.reduceLeDiff, reduceCtorEq, Nat.reduceBEq, forall_const, implies_true, exists_const, ne_eq, Int.reduceAdd, Int.reduceSub, Int.reduceMul, Int.reduceBEq, Int.reduceEq, Int.reduceLT, Int.reduceLE, Int.reduceToNat, Int.reduceNeg, Int.reduceBNe, hc, nilL]))
  all_goals (first | omega | (simp_all [isB]; done) | (simp_all [isB]; omega) | grind [isB])
def okF (next : Int) : Int → List Rq → Bool
  | _, [] => true
  | last, r :: rs => decide (last < r.ticket) && decide (r.ticket < next) && isB r.kind r.page r.data && okF next r.ticket rs
def rightV (d : Dv) : Bool := rightB d.disk && decide (35 ≤ d.disk.sectors.length) && decide (0 ≤ d.next) && decide (d.next ≤ 2147483647) && decide (d.flight.length ≤ 4) && okF d.next (-1) d.flight

theorem dvRight_spec (d : Dv) : Spec Try.prog 46 [.agg (encDv d)] (.val (rB (rightV d))) := by
  refine spec_val mixed fn46 (by simp) ?_
  unfold ac46
  simp -implicitDefEqProofs only [↓aP, aQ, ↓reduceIte, Nat.reduceEqDiff, Nat.reduceAdd, Nat.reduceSub, Nat.reduceMul, Nat.reduceLT, Nat.reduceLeDiff, reduceCtorEq, Nat.reduceBEq, forall_const, implies_true, exists_const, ne_eq, Int.reduceAdd, Int.reduceSub, Int.reduceMul, Int.reduceBEq, Int.reduceEq, Int.reduceLT, Int.reduceLE, Int.reduceToNat, Int.reduceNeg, Int.reduceBNe, encDv]
  repeat' ((first | ((first | with_reducible refine fork ?_ ?_ | with_reducible refine gcase ?_ ?_ | with_reducible refine gcaseD ?_ ?_) <;> intro hc <;> (have hp := hc) <;> (try simp only [aB] at hp)) | (have hc := True.intro; first | with_reducible refine askM (by omega) ?_ | with_reducible refine And.intro (by first | omega | decide +kernel) ?_ | refine ask (right_spec d.disk) ?_ | fail)) <;> (try simp -implicitDefEqProofs only [↓aP, aQ, ↓reduceIte, Nat.reduceEqDiff, Nat.reduceAdd, Nat.reduceSub, Nat.reduceMul, Nat.reduceLT, Nat.reduceLeDiff, reduceCtorEq, Nat.reduceBEq, forall_const, implies_true, exists_const, ne_eq, Int.reduceAdd, Int.reduceSub, Int.reduceMul, Int.reduceBEq, Int.reduceEq, Int.reduceLT, Int.reduceLE, Int.reduceToNat, Int.reduceNeg, Int.reduceBNe, hc, encDv]))
  all_goals first | with_reducible refine rangeB d.flight.length (fun i σ => ∃ last, okF d.next (-1) d.flight = okF d.next last (d.flight.drop i) ∧ σ.slot 3 = vI last ∧ σ.slot 1 = .c (.ptr 1 1 0 0) ∧ σ.h.gen 1 = 1 ∧ σ.h.blk 1 = .box 65 4 [(encDv d).map AC.s] ∧ σ.slot 32 = vL 4 (d.flight.map encRq) ∧ σ.slot 33 = vI d.flight.length ∧ σ.slot 34 = vI i) ?_ ?_ ?_ | (first | omega | (simp_all [rightV]; done) | (simp_all [rightV]; omega) | grind [rightV])
  · simp -implicitDefEqProofs only [↓aP, aQ, ↓reduceIte, Nat.reduceEqDiff, Nat.reduceAdd, Nat.reduceSub, Nat.reduceMul, Nat.reduceLT, Nat.reduceLeDiff, reduceCtorEq, Nat.reduceBEq, forall_const, implies_true, exists_const, ne_eq, Int.reduceAdd, Int.reduceSub, Int.reduceMul, Int.reduceBEq, Int.reduceEq, Int.reduceLT, Int.reduceLE, Int.reduceToNat, Int.reduceNeg, Int.reduceBNe, encDv]
    exact ⟨-1, by simp⟩
  · rintro i m σ him hi hlt ⟨last, hok, s3, s1, g1, b1, s32, s33, s34⟩
    simp only [encDv] at b1
    rw [drop_cons hi, okF] at hok
    simp -implicitDefEqProofs only [↓aP, aQ, ↓reduceIte, Nat.reduceEqDiff, Nat.reduceAdd, Nat.reduceSub, Nat.reduceMul, Nat.reduceLT, Nat.reduceLeDiff, reduceCtorEq, Nat.reduceBEq, forall_const, implies_true, exists_const, ne_eq, Int.reduceAdd, Int.reduceSub, Int.reduceMul, Int.reduceBEq, Int.reduceEq, Int.reduceLT, Int.reduceLE, Int.reduceToNat, Int.reduceNeg, Int.reduceBNe, hlt, s3, s1, g1, b1, s32, s33, s34]
    repeat' ((first | ((first | with_reducible refine fork ?_ ?_ | with_reducible refine gcase ?_ ?_ | with_reducible refine gcaseD ?_ ?_) <;> intro hc <;> (have hp := hc) <;> (try simp only [aB] at hp)) | (have hc := True.intro; first | with_reducible refine askM (by omega) ?_ | with_reducible refine And.intro (by first | omega | decide +kernel) ?_ | refine ask (is_spec _ _ _) ?_ | fail)) <;> (try simp -implicitDefEqProofs only [↓aP, aQ, ↓reduceIte, Nat.reduceEqDiff, Nat.reduceAdd, Nat.reduceSub, Nat.reduceMul, Nat.reduceLT, Nat.reduceLeDiff, reduceCtorEq, Nat.reduceBEq, forall_const, implies_true, exists_const, ne_eq, Int.reduceAdd, Int.reduceSub, Int.reduceMul, Int.reduceBEq, Int.reduceEq, Int.reduceLT, Int.reduceLE, Int.reduceToNat, Int.reduceNeg, Int.reduceBNe, hc, s1, g1, b1, s32, s33, s34, s3, wrapS (show i < 4611686018427387904 by omega), encRq]))
    all_goals first | (refine nextR hi him ⟨d.flight[i].ticket, ?_⟩; simp -implicitDefEqProofs only [↓aP, aQ, ↓reduceIte, Nat.reduceEqDiff, Nat.reduceAdd, Nat.reduceSub, Nat.reduceMul, Nat.reduceLT, Nat.reduceLeDiff, reduceCtorEq, Nat.reduceBEq, forall_const, implies_true, exists_const, ne_eq, Int.reduceAdd, Int.reduceSub, Int.reduceMul, Int.reduceBEq, Int.reduceEq, Int.reduceLT, Int.reduceLE, Int.reduceToNat, Int.reduceNeg, Int.reduceBNe, s1, g1, b1, s32, s33, s34, encDv, wrapS (show i < 4611686018427387904 by omega)]; (first | omega | (simp_all [rightV]; done) | (simp_all [rightV]; omega) | grind [rightV])) | (first | omega | (simp_all [rightV]; done) | (simp_all [rightV]; omega) | grind [rightV])
  · rintro m σ hlt ⟨last, hok, s3, s1, g1, b1, s32, s33, s34⟩
    simp -implicitDefEqProofs only [↓aP, aQ, ↓reduceIte, Nat.reduceEqDiff, Nat.reduceAdd, Nat.reduceSub, Nat.reduceMul, Nat.reduceLT, Nat.reduceLeDiff, reduceCtorEq, Nat.reduceBEq, forall_const, implies_true, exists_const, ne_eq, Int.reduceAdd, Int.reduceSub, Int.reduceMul, Int.reduceBEq, Int.reduceEq, Int.reduceLT, Int.reduceLE, Int.reduceToNat, Int.reduceNeg, Int.reduceBNe, hlt, s3, s1, g1, b1, s32, s33, s34]
    (first | omega | (simp_all [rightV, okF]; done) | (simp_all [rightV, okF]; omega) | grind [rightV, okF])
end Go.Proofs.Ytfmbfgoofiojcaa
