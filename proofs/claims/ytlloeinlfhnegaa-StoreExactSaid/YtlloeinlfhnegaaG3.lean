/- layer 13: pages, plain; the contracts of page.Put, page.Take, and the document's. -/
import Derived.Test.YtlloeinlfhnegaaG2
import Derived.Test.YtlloeinlfhnegaaYP
namespace Go.Proofs.Ytlloeinlfhnegaa
open Go.RowKit
set_option linter.unusedVariables false
set_option linter.unusedSimpArgs false
structure Pg where
  id : Int
  ver : Int
  body : ByteArray
def zP : Pg := ⟨0, 0, ⟨#[]⟩⟩
def encPg (p : Pg) : List SC := [.pv (.int .i64 p.id), .pv (.int .i64 p.ver), .pv (.string p.body)]
def okP (p : Pg) : Bool := isPage p.id p.ver p.body
def bytesP (p : Pg) : ByteArray := str (pageBytes p.id.toNat p.ver.toNat p.body.data.toList)
def putM (p : Pg) : ByteArray × Int := if okP p = true then (bytesP p, 0) else (⟨#[]⟩, 1)
def takeM (s : ByteArray) : Pg × Int := (⟨takeI s.data.toList, takeV s.data.toList, str (takeB s.data.toList)⟩, takeE s.data.toList)
theorem str_id (s : ByteArray) : str s.data.toList = s := by cases s; rfl
theorem okP_iff {p : Pg} : okP p = true ↔ 1 ≤ p.id ∧ p.id ≤ 16 ∧ 1 ≤ p.ver ∧ p.ver ≤ 2147483647 ∧ p.body.size ≤ 16 := by unfold okP isPage; rw [decide_eq_true_iff]
theorem okP_nat {p : Pg} (h : okP p = true) : isPage (p.id.toNat : Int) (p.ver.toNat : Int) (str p.body.data.toList) = true := by
  have h2 := okP_iff.1 h
  rw [str_id]
  unfold isPage
  rw [decide_eq_true_iff]
  omega
theorem bytesP_size {p : Pg} (h : okP p = true) : (bytesP p).size = 32 := by
  unfold bytesP
  rw [str_size]
  refine pageBytes_length _ _ _ ?_
  have := (okP_iff.1 h).2.2.2.2
  have e : p.body.size = p.body.data.toList.length := by show p.body.data.size = _; simp
  omega
theorem take_bytes {p : Pg} (h : okP p = true) : takeM (bytesP p) = (p, 0) := by
  have h2 := okP_iff.1 h
  have hn := okP_nat h
  have e0 := takeE_page p.id.toNat p.ver.toNat p.body.data.toList hn
  have e : p.body.size = p.body.data.toList.length := by show p.body.data.size = _; simp
  unfold takeM bytesP
  have ed : (str (pageBytes p.id.toNat p.ver.toNat p.body.data.toList)).data.toList = pageBytes p.id.toNat p.ver.toNat p.body.data.toList := by unfold str; simp
  rw [ed]
  unfold takeI takeV takeB
  rw [e0, if_pos rfl, if_pos rfl, if_pos rfl, partI_page _ _ _ (by omega), partV_page _ _ _ (by omega), partB_page _ _ _ (by omega), str_id]
  have e1 : ((p.id.toNat : Nat) : Int) = p.id := by omega
  have e2 : ((p.ver.toNat : Nat) : Int) = p.ver := by omega
  rw [e1, e2]
theorem take_err {s : ByteArray} (h : (takeM s).2 ≠ 0) : (takeM s).1 = zP := by
  have h2 : takeE s.data.toList ≠ 0 := h
  unfold takeM takeI takeV takeB zP
  rw [if_neg h2, if_neg h2, if_neg h2]; rfl
def nought32 : ByteArray := ⟨#[0, 0, 0, 0, 0, 0, 0, 0, 0, 0, 0, 0, 0, 0, 0, 0, 0, 0, 0, 0, 0, 0, 0, 0, 0, 0, 0, 0, 0, 0, 0, 0]⟩
theorem nought32_size : nought32.size = 32 := rfl
theorem take_nought : takeM nought32 = (zP, 3) := by
  have e : takeE nought32.data.toList = 3 := by unfold takeE; rw [if_neg (by decide), if_pos (by decide)]
  have h2 : (takeM nought32).2 = 3 := e
  have := take_err (s := nought32) (by rw [h2]; decide)
  exact Prod.ext this h2
theorem nought_add : noughts ++ noughts = nought32 := rfl
/-- raw calls of plain values as contracts -/
theorem pput_spec (p : Pg) : Spec Try.prog 36 [.agg (encPg p)] (.val (.tup [(false, [.pv (.string (putM p).1)]), (false, [.pv (.int .i64 (putM p).2)])])) := by
  intro w O us hO hus
  obtain ⟨a, us', rfl, ha, hn⟩ := hus.cons_inv
  obtain rfl := hn.nil_inv
  obtain ⟨vs, rfl, hv⟩ := ha
  obtain ⟨x, vs1, rfl, hx, hv⟩ := hv.cons_inv
  obtain ⟨y, vs2, rfl, hy, hv⟩ := hv.cons_inv
  obtain ⟨z, vs3, rfl, hz, hv⟩ := hv.cons_inv
  obtain rfl := hv.nil_inv
  obtain rfl := RepS.flat hx
  obtain rfl := RepS.flat hy
  obtain rfl := RepS.flat hz
  have fin : ∀ (s : ByteArray) (e : Int) (w' : World), RepT (RepS w' O) (.tup [(false, [.pv (.string s)]), (false, [.pv (.int .i64 e)])]) (.tuple #[.string s, .int .i64 e]) := fun s e w' => by
    refine ⟨[.string s, .int .i64 e], rfl, rfl, fun i a b => ?_⟩
    match i, a, b with
    | 0, _, _ => exact ⟨fun e => by simp at e, fun _ => ⟨_, rfl, .pv rfl⟩⟩
    | 1, _, _ => exact ⟨fun e => by simp at e, fun _ => ⟨_, rfl, .pv rfl⟩⟩
  cases h : okP p
  · refine (y_put_no p.id p.ver p.body w h).mono ?_
    rintro e w' ⟨rfl, hB⟩
    have e1 : putM p = (⟨#[]⟩, 1) := by unfold putM; rw [if_neg (by rw [h]; simp)]
    rw [e1]
    exact ⟨_, rfl, fin _ _ _, hB⟩
  · have hn := okP_nat h
    have h2 := okP_iff.1 h
    have hc := put_yes p.id.toNat p.ver.toNat p.body.data.toList w hn
    rw [str_id, show ((p.id.toNat : Nat) : Int) = p.id by omega, show ((p.ver.toNat : Nat) : Int) = p.ver by omega] at hc
    refine hc.mono ?_
    rintro e w' ⟨rfl, hB⟩
    have e1 : putM p = (bytesP p, 0) := by unfold putM; rw [if_pos h]
    rw [e1]
    exact ⟨_, rfl, fin _ _ _, hB⟩
theorem tk_rep (s : ByteArray) (w' : World) (O : Nat → Prop) : RepT (RepS w' O) (.tup [(true, encPg (takeM s).1), (false, [.pv (.int .i64 (takeM s).2)])]) (.tuple #[pageVal (takeI s.data.toList) (takeV s.data.toList) (takeB s.data.toList), .int .i64 (takeE s.data.toList)]) := by
  refine ⟨[pageVal (takeI s.data.toList) (takeV s.data.toList) (takeB s.data.toList), .int .i64 (takeE s.data.toList)], rfl, rfl, fun i a b => ?_⟩
  match i, a, b with
  | 0, _, _ => exact ⟨fun _ => ⟨[_, _, _], rfl, .cons (.pv rfl) (.cons (.pv rfl) (.cons (.pv rfl) .nil))⟩, fun e => by simp at e⟩
  | 1, _, _ => exact ⟨fun e => by simp at e, fun _ => ⟨_, rfl, .pv rfl⟩⟩
theorem ptake_spec (s : ByteArray) : Spec Try.prog 29 [rS s] (.val (.tup [(true, encPg (takeM s).1), (false, [.pv (.int .i64 (takeM s).2)])])) := by
  intro w O us hO hus
  obtain ⟨a, us', rfl, ha, hn⟩ := hus.cons_inv
  obtain rfl := hn.nil_inv
  obtain rfl : a = .string s := RepS.flat ha
  have hc := take_any s.data.toList w
  rw [str_id] at hc
  refine hc.mono ?_
  rintro e w' ⟨rfl, hB⟩
  exact ⟨_, rfl, tk_rep s w' O, hB⟩
theorem rtake_spec (s : ByteArray) : Spec Try.prog 30 [rS s] (.val (.tup [(true, encPg (takeM s).1), (false, [.pv (.int .i64 (takeM s).2)])])) := by
  intro w O us hO hus
  obtain ⟨a, us', rfl, ha, hn⟩ := hus.cons_inv
  obtain rfl := hn.nil_inv
  obtain rfl : a = .string s := RepS.flat ha
  have hc := refTake_any s.data.toList w
  rw [str_id] at hc
  refine hc.mono ?_
  rintro e w' ⟨rfl, hB⟩
  exact ⟨_, rfl, tk_rep s w' O, hB⟩
theorem rput_spec (p : Pg) (h : okP p = true) : Spec Try.prog 34 [.agg (encPg p)] (.val (rS (bytesP p))) := by
  intro w O us hO hus
  obtain ⟨a, us', rfl, ha, hn⟩ := hus.cons_inv
  obtain rfl := hn.nil_inv
  obtain ⟨vs, rfl, hv⟩ := ha
  obtain ⟨x, vs1, rfl, hx, hv⟩ := hv.cons_inv
  obtain ⟨y, vs2, rfl, hy, hv⟩ := hv.cons_inv
  obtain ⟨z, vs3, rfl, hz, hv⟩ := hv.cons_inv
  obtain rfl := hv.nil_inv
  obtain rfl := RepS.flat hx
  obtain rfl := RepS.flat hy
  obtain rfl := RepS.flat hz
  have hn := okP_nat h
  have h2 := okP_iff.1 h
  have hc := refPut_yes p.id.toNat p.ver.toNat p.body.data.toList w hn
  rw [str_id, show ((p.id.toNat : Nat) : Int) = p.id by omega, show ((p.ver.toNat : Nat) : Int) = p.ver by omega] at hc
  refine hc.mono ?_
  rintro e w' ⟨rfl, hB⟩
  exact ⟨_, rfl, .pv rfl, hB⟩
theorem rright2_spec (p : Pg) : Spec Try.prog 19 [.agg (encPg p)] (.val (rB (okP p))) := by
  intro w O us hO hus
  obtain ⟨a, us', rfl, ha, hn⟩ := hus.cons_inv
  obtain rfl := hn.nil_inv
  obtain ⟨vs, rfl, hv⟩ := ha
  obtain ⟨x, vs1, rfl, hx, hv⟩ := hv.cons_inv
  obtain ⟨y, vs2, rfl, hy, hv⟩ := hv.cons_inv
  obtain ⟨z, vs3, rfl, hz, hv⟩ := hv.cons_inv
  obtain rfl := hv.nil_inv
  obtain rfl := RepS.flat hx
  obtain rfl := RepS.flat hy
  obtain rfl := RepS.flat hz
  refine (refRight_any p.id p.ver p.body w).mono ?_
  rintro e w' ⟨rfl, rfl⟩
  exact ⟨_, rfl, .pv rfl, (Below.refl _ _).alloc (Nat.le_refl _) _⟩
theorem absent_spec : Spec Try.prog 35 [] (.val (rS nought32)) := by
  refine spec_val mixed fn35 (by simp) ?_
  unfold ac35
  have hr : Spec Try.prog 41 [rS ⟨#[0]⟩, rI 32] (.val (rS nought32)) := by
    intro w O us hO hus
    obtain ⟨a, b, rfl, ha, hb⟩ := hus.two
    have e1 : a = .string ⟨#[0]⟩ := RepS.flat ha
    have e2 : b = .int .i64 32 := RepS.flat hb
    subst e1 e2
    refine (Try.strings_Repeat ⟨#[0]⟩ 32 w (by omega) (by decide)).mono ?_
    rintro e w' ⟨rfl, hB⟩
    exact ⟨_, rfl, .pv rfl, hB⟩
  simp -implicitDefEqProofs only [↓aP, aQ, ↓reduceIte, Nat.reduceEqDiff, Nat.reduceAdd, Nat.reduceSub, Nat.reduceMul, Nat.reduceLT, Nat.reduceLeDiff, reduceCtorEq, Nat.reduceBEq, forall_const, implies_true, exists_const, ne_eq, Int.reduceAdd, Int.reduceSub, Int.reduceMul, Int.reduceBEq, Int.reduceEq, Int.reduceLT, Int.reduceLE, Int.reduceToNat, Int.reduceNeg, Int.reduceBNe]
  refine ask hr ?_
  simp -implicitDefEqProofs only [↓aP, aQ, ↓reduceIte, Nat.reduceEqDiff, Nat.reduceAdd, Nat.reduceSub, Nat.reduceMul, Nat.reduceLT, Nat.reduceLeDiff, reduceCtorEq, Nat.reduceBEq, forall_const, implies_true, exists_const, ne_eq, Int.reduceAdd, Int.reduceSub, Int.reduceMul, Int.reduceBEq, Int.reduceEq, Int.reduceLT, Int.reduceLE, Int.reduceToNat, Int.reduceNeg, Int.reduceBNe]
end Go.Proofs.Ytlloeinlfhnegaa
