/- layer 8: the law LatchWriters, plain. -/
import Derived.Test.YtkiddlkmodclhaaK14
namespace Go.Proofs.Ytkiddlkmodclhaa
open Go.RowKit La Go.ChangeShapes Go.WideShapes
set_option linter.unusedVariables false
set_option linter.unusedSimpArgs false
def U8 (l : List Int) : Prop := ∀ u ∈ l, 0 ≤ u ∧ u ≤ 255
def encU (n : Int) : List SC := [.pv (.int .u8 n)]
theorem all_of_mem2 {α β : Type} {f : α → β} {p : α → Prop} : ∀ {ys : List β}, (∀ y ∈ ys, ∃ x, y = f x ∧ p x) → ∃ xs : List α, ys = xs.map f ∧ ∀ x ∈ xs, p x
  | [], _ => ⟨[], rfl, by simp⟩
  | y :: ys, h => by
    obtain ⟨x, hx, px⟩ := h y (by simp)
    obtain ⟨xs, hxs, pxs⟩ := all_of_mem2 (ys := ys) (fun z hz => h z (by simp [hz]))
    exact ⟨x :: xs, by rw [hx, hxs]; rfl, fun z hz => (List.mem_cons.1 hz).elim (fun e => by rw [e]; exact px) (pxs z)⟩
set_option maxRecDepth 100000 in
theorem open_us {H : Type} {enc : TypeId × Value → H} {w : World} {spare : Nat → Bool} {held : Bool} {r : Reach} {b0 : Nat} {v : Value} {d : DataW H} {p : List MemPlace} 
    (hv : Value.okWide Try.prog w r b0 77 v) (h : DataW.Trod enc Try.prog w 0 spare held 77 v d p) : ∃ l : List Int, (U8 l ∧ l.length ≤ maxLen) ∧ RepT (RepS w fun _ => False) (rL 1 (l.map encU)) v := by
  obtain ⟨y, ⟨els, e1, e2, e3⟩, h2⟩ := open_one (opens_slice Try.underlying77 (by kernel_rfl) (by decide) (opens_int Try.underlying5 (by kernel_rfl))) (slice_cells Try.underlying77 hv) h
  simp only [List.cons.injEq, and_true] at e1
  subst e1
  obtain ⟨l, rfl, hl⟩ := all_of_mem2 (f := encU) (p := fun n => 0 ≤ n ∧ n ≤ 255) (fun y hy => by obtain ⟨n, e, hw⟩ := e2 y hy; exact ⟨n, e, u8_of hw⟩)
  exact ⟨l, ⟨hl, by simpa using e3⟩, h2⟩
namespace La
def Wl : List Int → Lt
  | [] => ⟨[], false, []⟩
  | a :: t => ⟨[a], true, t.map fun b => ⟨b, true⟩⟩
def Tb (O : List Int) : List Bool := (List.range 256).map fun k : Nat => decide ((k : Int) ∈ O)
end La
theorem tb_len {O : List Int} : (Tb O).length = 256 := by simp [Tb]
theorem tb_at {O : List Int} {w : Int} (hw : 0 ≤ w ∧ w ≤ 255) (h : w.toNat < (Tb O).length) : (Tb O)[w.toNat] = decide (w ∈ O) := by
  have e : ((w.toNat : Nat) : Int) = w := by omega
  simp only [Tb, List.getElem_map, List.getElem_range, e]
theorem tb_set {O : List Int} {w : Int} (hw : 0 ≤ w ∧ w ≤ 255) : (Tb O).set w.toNat true = Tb (O ++ [w]) := by
  refine List.ext_getElem (by simp [tb_len]) (fun k h1 h2 => ?_)
  rw [List.getElem_set]
  simp only [Tb, List.getElem_map, List.getElem_range, List.mem_append, List.mem_singleton]
  by_cases e : w.toNat = k
  · rw [if_pos e, eq_comm, decide_eq_true_eq]
    exact .inr (by omega)
  · rw [if_neg e, decide_eq_decide]
    constructor
    · exact .inl
    · rintro (h | h)
      · exact h
      · exact absurd (by omega) e
theorem wl_whos {O : List Int} : whos (Wl O) = O := by
  cases O with
  | nil => rfl
  | cons a t =>
    have e : (Wt.who ∘ fun b : Int => (⟨b, true⟩ : Wt)) = id := rfl
    simp [Wl, whos, e]
theorem wl_len {O : List Int} : (Wl O).h.length + (Wl O).q.length = O.length := by
  cases O with
  | nil => rfl
  | cons a t => simp [Wl]; omega
theorem ok_u8 {w : Int} (hw : 0 ≤ w ∧ w ≤ 255) : okWho w = true := by unfold okWho; simp; omega
theorem wl_again {O : List Int} {w : Int} (h : right (Wl O) = true) (hw : 0 ≤ w ∧ w ≤ 255) (hm : w ∈ O) : La.askM (Wl O) w true = (Wl O, false, 4) := by
  unfold La.askM
  rw [if_neg (by simp [h, ok_u8 hw]), if_pos (by rw [wl_whos]; exact hm)]
theorem wl_ask {O : List Int} {w : Int} (h : right (Wl O) = true) (hw : 0 ≤ w ∧ w ≤ 255) (hm : w ∉ O) (hl : O.length < 64) : La.askM (Wl O) w true = (Wl (O ++ [w]), decide (O.length = 0), 0) ∧ right (Wl (O ++ [w])) = true := by
  obtain ⟨e1, e2, e3⟩ := ask_in (ex := true) h (ok_u8 hw) (by rw [wl_whos]; exact hm) (by rw [wl_len]; omega)
  cases O with
  | nil =>
    have e : La.askM (Wl []) w true = (Wl ([] ++ [w]), true, 0) := by
      rw [if_pos ⟨rfl, by simp [may, Wl]⟩] at e3
      have e4 : ins (Wl []).h w = [w] := rfl
      rw [e4] at e3
      rw [e3] at e1
      rw [e1]
      simp [Wl]
    refine ⟨e, ?_⟩
    rw [e] at e2
    exact e2
  | cons a t =>
    have e4 : (La.askM (Wl (a :: t)) w true).1 = Wl (a :: t ++ [w]) := by
      rw [e3, if_neg]
      · simp [Wl]
      · simp [may, Wl]
    rw [e4] at e1 e2
    refine ⟨?_, e2⟩
    rw [e1]
    have : w ∉ (Wl (a :: t ++ [w])).h := by simp only [Wl, List.cons_append, List.mem_singleton]; intro e; exact hm (by simp [e])
    rw [decide_eq_false this]
    simp
theorem wl_drop {w : Int} {t : List Int} (h : right (Wl (w :: t)) = true) : dropM (Wl (w :: t)) w = (Wl t, t.take 1, 0) ∧ right (Wl t) = true := by
  obtain ⟨d1, d2⟩ := dropH_right (l := Wl (w :: t)) (who := w) h (by simp [Wl])
  have e0 : (Wl (w :: t)).h.eraseIdx (pos (Wl (w :: t)).h w) = [] := by simp only [Wl, pos_head, List.eraseIdx_cons_zero]
  have key : ent [] false (Wl (w :: t)).q = (Wl t, t.take 1) := by
    cases t with
    | nil => rfl
    | cons b t =>
      simp only [Wl, List.map_cons]
      rw [ent_yes (by simp [may])]
      have e1 : ent (ins [] b) true (t.map fun b => (⟨b, true⟩ : Wt)) = (⟨[b], true, t.map fun b => ⟨b, true⟩⟩, []) := by
        refine ent_no ?_
        cases t with
        | nil => rfl
        | cons c t => rfl
      simp only [e1]
      rfl
  rw [e0, key] at d1 d2
  exact ⟨d1, d2⟩
theorem wl_holds {w : Int} {t : List Int} (h : right (Wl (w :: t)) = true) : holdsM (Wl (w :: t)) w = (true, true) := by
  unfold holdsM
  rw [if_pos ⟨h, by simp [Wl]⟩]
  rfl
end Go.Proofs.Ytkiddlkmodclhaa
