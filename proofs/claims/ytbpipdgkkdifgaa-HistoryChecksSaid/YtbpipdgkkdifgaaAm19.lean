/- ARGUMENTS THAT CAME IN, OPENED, for any type of numbers, truths, texts, structs and slices of such. No condition. -/
import Derived.Test.YtbpipdgkkdifgaaAm18
import Derived.Deep.Slices
import Derived.ProofKit
import Derived.OpenShut
namespace Go.Proofs.Ytbpipdgkkdifgaa
open Go.RowKit Go.ChangeShapes Go.WideShapes
set_option linter.unusedVariables false
section
variable {P : Program} {H : Type} {enc : TypeId × Value → H} {w : World} {spare : Nat → Bool} {held : Bool}
/-- what a value of this type may be -/
def Opens (P : Program) {H : Type} (enc : TypeId × Value → H) (w : World) (spare : Nat → Bool) (held : Bool) (t : TypeId) (n : Nat) (S : List SC → Prop) : Prop :=
  P.cellsOf t = n ∧ ∀ (fuel : Nat) (cs : List Value) (x : DataW H × List MemPlace), DataW.trod enc P w 0 spare held fuel t cs = some x → ∃ ys, S ys ∧ ys.length = n ∧ RL (RepS w fun _ => False) ys cs
theorem opens_int {t : TypeId} {k : IntKind} (ht : P.underlying t = some (.int k)) (hc : P.cellsOf t = 1) : Opens P enc w spare held t 1 (fun ys => ∃ n, ys = [.pv (.int k n)] ∧ (Lit.int k n).wf = true) := by
  refine ⟨hc, fun fuel cs x h => ?_⟩
  obtain ⟨n, rfl, _, hw⟩ := DataW.trod_int ht h
  exact ⟨_, ⟨n, rfl, hw⟩, rfl, .one (.pv rfl)⟩
theorem opens_bool {t : TypeId} (ht : P.underlying t = some .bool) (hc : P.cellsOf t = 1) : Opens P enc w spare held t 1 (fun ys => ∃ b, ys = [.pv (.bool b)]) := by
  refine ⟨hc, fun fuel cs x h => ?_⟩
  obtain ⟨b, rfl, _⟩ := DataW.trod_bool ht h
  exact ⟨_, ⟨b, rfl⟩, rfl, .one (.pv rfl)⟩
theorem opens_str {t : TypeId} (ht : P.underlying t = some .string) (hc : P.cellsOf t = 1) : Opens P enc w spare held t 1 (fun ys => ∃ s : ByteArray, ys = [.pv (.string s)] ∧ s.size ≤ maxLen) := by
  refine ⟨hc, fun fuel cs x h => ?_⟩
  obtain ⟨s, rfl, _, hw⟩ := DataW.trod_string ht h
  exact ⟨_, ⟨s, rfl, hw⟩, rfl, .one (.pv rfl)⟩
theorem opens_slice {t e : TypeId} {n : Nat} {S : List SC → Prop} (ht : P.underlying t = some (.slice e)) (hc : P.cellsOf t = 1) (hn : 0 < n) (ho : Opens P enc w spare held e n S) :
    Opens P enc w spare held t 1 (fun ys => ∃ els, ys = [.sl n els] ∧ (∀ x ∈ els, S x) ∧ els.length ≤ maxLen) := by
  refine ⟨hc, fun fuel cs x h => ?_⟩
  rcases Deep.open_slice ht h with ⟨rfl, _⟩ | ⟨a, len0, cap0, m, k, D, Pl, rfl, _, hl, hm, hmm, _, hi⟩
  · exact ⟨_, ⟨[], rfl, by intro x hx; simp at hx, by simp⟩, rfl, .one (.sl0 hn (by simp))⟩
  · have hlm : len0 ≤ m := by rw [hmm]; split <;> omega
    have each : ∀ i, i < len0 → ∃ p : List SC × List Value, S p.1 ∧ p.1.length = n ∧ p.2.length = n ∧ RL (RepS w fun _ => False) p.1 p.2 ∧ ∀ j, j < n → w.cell? ((a.add (i * n)).add j) = p.2[j]? := by
      intro i hil
      obtain ⟨cs', hcs, ht'⟩ := hi i (by omega)
      rw [ho.1] at hcs
      obtain ⟨ys, h1, h2, h3⟩ := ho.2 _ _ _ ht'
      obtain ⟨_, _, hat⟩ := World.cells?_some hcs
      refine ⟨(ys, cs'), h1, h2, by rw [← h3.1]; exact h2, h3, fun j hj => ?_⟩
      have hj2 : j < cs'.length := by rw [← h3.1, h2]; exact hj
      have := hat j (by omega)
      rw [this]
      try simp [List.getElem?_eq_getElem hj2]
    obtain ⟨F, hF⟩ := Deep.choose_lt each
    by_cases h0 : len0 = 0
    · subst h0
      exact ⟨_, ⟨[], rfl, by intro x hx; simp at hx, by simp⟩, rfl, .one (.sl0 hn hm)⟩
    · obtain ⟨b, off, spot⟩ := a
      obtain ⟨_, _, q0, _, q1⟩ := hF 0 (by omega)
      have hc0 := q1 0 hn
      have hlen0 : 0 < (F 0).2.length := by omega
      rw [List.getElem?_eq_getElem hlen0, Nat.zero_mul] at hc0
      have hspot : spot = none := by simpa [Addr.add] using World.cell?_spot hc0
      subst hspot
      have hlt : b < w.heap.size := by
        have := World.block_lt_of_cell? w _ hc0
        simpa [Addr.add] using this
      have hadd : ∀ k o : Nat, (⟨b, o, none⟩ : Addr).add k = ⟨b, o + k, none⟩ := by
        intro k o
        by_cases hk : k = 0
        · subst hk; simp [Addr.add]
        · simp [Addr.add, hk]
      have hall : ∀ k, k ≤ len0 → RL (RepS w fun _ => False) ((List.range k).map fun i => (F i).1).flatten ((List.range k).map fun i => (F i).2).flatten ∧ ((List.range k).map fun i => (F i).2).flatten.length = k * n := by
        intro k
        induction k with
        | zero => intro _; exact ⟨by simpa using RL.nil, by simp⟩
        | succ k ih =>
          intro hk
          obtain ⟨i1, i2⟩ := ih (by omega)
          obtain ⟨_, _, r2, r3, _⟩ := hF k (by omega)
          simp only [List.range_succ, List.map_append, List.flatten_append, List.map_cons, List.map_nil, List.flatten_cons, List.flatten_nil, List.append_nil]
          refine ⟨i1.append r3, ?_⟩
          rw [List.length_append, i2, r2, Nat.add_mul]
          omega
      obtain ⟨a1, a2⟩ := hall len0 (Nat.le_refl _)
      have e2 : ∀ x ∈ ((List.range len0).map fun i => (F i).2), x.length = n := by
        intro x hx
        obtain ⟨i, hi2, rfl⟩ := List.mem_map.1 hx
        exact (hF i (by simpa using hi2)).2.2.1
      have e1 : ∀ x ∈ ((List.range len0).map fun i => (F i).1), x.length = n ∧ S x := by
        intro x hx
        obtain ⟨i, hi2, rfl⟩ := List.mem_map.1 hx
        exact ⟨(hF i (by simpa using hi2)).2.1, (hF i (by simpa using hi2)).1⟩
      refine ⟨_, ⟨(List.range len0).map fun i => (F i).1, rfl, fun x hx => (e1 x hx).2, by rw [List.length_map, List.length_range]; omega⟩, rfl, .one ?_⟩
      have hln : ((List.range len0).map fun i => (F i).1).length = len0 := by simp
      have key := RepS.sl (w := w) (O := fun _ => False) (e := n) (els := (List.range len0).map fun i => (F i).1) (b := b) (off := off) (cap := cap0) (us := ((List.range len0).map fun i => (F i).2).flatten) hn (by rw [hln]; exact hl) hm hlt (fun h => h)
        (fun x hx => (e1 x hx).1) a1.1 a1.2 (fun i h' => ?_)
      · rw [hln] at key
        exact key
      · have hi3 : i / n < len0 := by
          rw [a2] at h'
          exact Nat.div_lt_of_lt_mul (by rw [Nat.mul_comm]; exact h')
        have hj3 : i % n < n := Nat.mod_lt _ hn
        have g1 := flatten_get _ e2 (i / n) (by simpa using hi3) (i % n) hj3
        have ei : i / n * n + i % n = i := by rw [Nat.mul_comm]; exact Nat.div_add_mod i n
        rw [ei, List.getElem?_eq_getElem h'] at g1
        have g2 := (hF (i / n) hi3).2.2.2.2 (i % n) hj3
        rw [hadd, hadd, Nat.add_assoc, ei] at g2
        rw [g2, g1]
        simp
/-- a struct's fields, from a place on -/
inductive Flds (P : Program) {H : Type} (enc : TypeId × Value → H) (w : World) (spare : Nat → Bool) (held : Bool) : Nat → List Field → Nat → (List SC → Prop) → Prop
  | nil (off : Nat) : Flds P enc w spare held off [] off (fun ys => ys = [])
  | cons {off n fin : Nat} {f : Field} {fs : List Field} {S T : List SC → Prop} (hoff : f.offset = off) (ho : Opens P enc w spare held f.type n S) (hr : Flds P enc w spare held (off + n) fs fin T) : Flds P enc w spare held off (f :: fs) fin (fun ys => ∃ a b, ys = a ++ b ∧ S a ∧ T b)
theorem Flds.open {off fin : Nat} {fs : List Field} {T : List SC → Prop} (hf : Flds P enc w spare held off fs fin T) : ∀ {k : Nat} {cs : List Value}, cs.length = fin →
    (∀ f ∈ fs, ∃ x, DataW.trod enc P w 0 spare held k f.type ((cs.drop f.offset).take (P.cellsOf f.type)) = some x) → ∃ ys, T ys ∧ RL (RepS w fun _ => False) ys (cs.drop off) := by
  induction hf with
  | nil off =>
    intro k cs hl _
    exact ⟨[], rfl, by rw [List.drop_eq_nil_of_le (by omega)]; exact .nil⟩
  | @cons off n fin f fs S T hoff ho hr ih =>
    intro k cs hl h
    obtain ⟨x, hx⟩ := h f (by simp)
    rw [hoff, ho.1] at hx
    obtain ⟨a, a1, a2, a3⟩ := ho.2 _ _ _ hx
    obtain ⟨b, b1, b2⟩ := ih hl (fun g hg => h g (by simp [hg]))
    refine ⟨a ++ b, ⟨a, b, rfl, a1, b1⟩, ?_⟩
    have := a3.append b2
    rw [← List.drop_drop, List.take_append_drop] at this
    exact this
theorem opens_struct {t : TypeId} {fin : Nat} {fs : Array Field} {T : List SC → Prop} (ht : P.underlying t = some (.struct fs)) (hc : P.cellsOf t = fin) (hf : Flds P enc w spare held 0 fs.toList fin T) : Opens P enc w spare held t fin T := by
  refine ⟨hc, fun fuel cs x h => ?_⟩
  obtain ⟨xs, n, _, _, hl, hxs, hfs⟩ := DataW.trod_struct ht h
  rw [hc] at hl
  obtain ⟨ys, y1, y2⟩ := hf.open (k := n) hl (fun f hm => by
    obtain ⟨i, hi, rfl⟩ := List.getElem_of_mem hm
    have hi2 : i < fs.size := by simpa using hi
    refine ⟨xs[i]'(by omega), ?_⟩
    rw [hfs i fs.toList[i] (by simp [hi2])]
    simp)
  rw [List.drop_zero] at y2
  exact ⟨ys, y1, by rw [y2.1]; exact hl, y2⟩
theorem opens_arr2 {t e : TypeId} {S : List SC → Prop} (ht : P.underlying t = some (.array 2 e)) (hc : P.cellsOf t = 2) (ho : Opens P enc w spare held e 1 S) : Opens P enc w spare held t 2 (fun ys => ∃ a b, ys = [a, b] ∧ S [a] ∧ S [b]) := by
  refine ⟨hc, fun fuel cs x h => ?_⟩
  obtain ⟨xs, m, _, _, hl, hx, hi⟩ := DataW.trod_array ht h
  rw [hc] at hl
  match cs, hl, xs, hx with
  | [c0, c1], _, [x0, x1], _ =>
    have h0 := hi 0 (by decide)
    have h1 := hi 1 (by decide)
    rw [ho.1] at h0 h1
    simp only [Nat.zero_mul, List.drop_zero, List.take_succ_cons, List.take_zero, List.getElem?_cons_zero, Nat.one_mul, List.drop_succ_cons, List.getElem?_cons_succ] at h0 h1
    obtain ⟨ys0, a1, a2, a3⟩ := ho.2 _ _ _ h0
    obtain ⟨ys1, b1, b2, b3⟩ := ho.2 _ _ _ h1
    match ys0, a2, ys1, b2 with
    | [a], _, [b], _ => exact ⟨[a, b], ⟨a, b, rfl, a1, b1⟩, rfl, .cons a3.head b3⟩
/-- an argument of one cell; of more -/
theorem open_one {t : TypeId} {S : List SC → Prop} {v : Value} {d : DataW H} {p : List MemPlace} (ho : Opens P enc w spare held t 1 S) (hv : v.cells = #[v]) (h : DataW.Trod enc P w 0 spare held t v d p) : ∃ y, S [y] ∧ RepT (RepS w fun _ => False) (.c y) v := by
  obtain ⟨fuel, hf⟩ := h
  rw [hv] at hf
  obtain ⟨ys, h1, h2, h3⟩ := ho.2 _ _ _ hf
  obtain ⟨y, rfl⟩ := List.length_eq_one_iff.1 h2
  exact ⟨y, h1, h3.head⟩
theorem open_more {t : TypeId} {n : Nat} {S : List SC → Prop} {r : Reach} {b0 : Nat} {fs : Array Field} {v : Value} {d : DataW H} {p : List MemPlace} (ho : Opens P enc w spare held t n S) (ht : P.underlying t = some (.struct fs)) (hv : Value.okWide P w r b0 t v) (h : DataW.Trod enc P w 0 spare held t v d p) :
    ∃ ys, S ys ∧ RepT (RepS w fun _ => False) (.agg ys) v := by
  obtain ⟨cs, rfl, hsz⟩ := okWide_struct ht hv
  obtain ⟨fuel, hf⟩ := h
  obtain ⟨ys, h1, h2, h3⟩ := ho.2 _ _ _ hf
  exact ⟨ys, h1, cs.toList, by simp, h3⟩
theorem slice_cells {t e : TypeId} {r : Reach} {b0 : Nat} {v : Value} (ht : P.underlying t = some (.slice e)) (hv : Value.okWide P w r b0 t v) : v.cells = #[v] := by
  obtain ⟨a, l, c, rfl⟩ := okWide_slice ht hv
  rfl
theorem all_of_mem {α β : Type} {f : α → β} : ∀ {ys : List β}, (∀ y ∈ ys, ∃ x, y = f x) → ∃ xs : List α, ys = xs.map f
  | [], _ => ⟨[], rfl⟩
  | y :: ys, h => by
    obtain ⟨x, hx⟩ := h y (by simp)
    obtain ⟨xs, hxs⟩ := all_of_mem (ys := ys) (fun z hz => h z (by simp [hz]))
    exact ⟨x :: xs, by rw [hx, hxs]; rfl⟩
end
end Go.Proofs.Ytbpipdgkkdifgaa
