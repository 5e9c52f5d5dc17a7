/- THE LAWS of layer 1, walked: one bit turned; three texts laid over one another. Conditions: those of the arguments alone. -/
import Derived.Test.YtekkmlhkcdijkaaSumLaws2
import Derived.Laws.IdiomStrings
namespace Go.Proofs.Ytekkmlhkcdijkaa
open Go.RowKit
set_option linter.unusedVariables false

/-- '[]byte(s)': a new block that bears the bytes -/
theorem bytesOf (s : ByteArray) (w : World) : ∃ (g cap : Nat) (W1 : World), (convert 9 32 (.string s)).run Try.prog w = .ok (.slice (some ⟨g, 0, none⟩) s.size cap) W1 ∧
    w.heap.size ≤ g ∧ g < W1.heap.size ∧ Below w.heap.size w W1 ∧ (∀ j (h : j < s.size), W1.cell? ⟨g, j, none⟩ = some (.int .u8 (s[j].toNat : Int))) ∧ (∀ j, j < s.size → W1.frozen? ⟨g, j, none⟩ = false) := by
  refine ⟨_, _, _, run_bytes_of_string w 9 32 5 s Try.underlying9 Try.underlying32 Try.underlying5, Nat.le_refl _, by simp, ((Below.refl _ _).drew).alloc (by simp) _, ?_, ?_⟩
  · intro j h
    exact (cell_of_row _ w.drew.heap.size j _ 5 _ (heap_alloc_new w.drew _)).trans (bytesRow_at s _ j h)
  · intro j h
    have hs : s.size ≤ (bytesRow s (grownCap w s.size 0 5)).size := by
      rw [bytesRow, Array.size_append, Array.size_map]
      show s.data.size ≤ _
      omega
    generalize bytesRow s (grownCap w s.size 0 5) = C at hs
    have hh := heap_alloc_new w.drew (.cells C 5 (C.size, C.size + 1))
    simp only [World.frozen?]
    rw [show (w.drew.alloc (.cells C 5 (C.size, C.size + 1))).heap[w.heap.size]? = _ from hh]
    simp
    omega

/-- the byte with one bit turned -/
def turned (c : UInt8) (b : Int) : UInt8 := UInt8.ofNat (bits BinOp.xor IntKind.u8 (c.toNat : Int) (2 ^ (b % 8).toNat % 256)).toNat
theorem turned_all : ∀ c : Fin 256, ∀ k : Fin 8, 0 ≤ bits BinOp.xor IntKind.u8 (c.val : Int) (2 ^ k.val % 256) ∧ bits BinOp.xor IntKind.u8 (c.val : Int) (2 ^ k.val % 256) ≤ 255 ∧ bits BinOp.xor IntKind.u8 (c.val : Int) (2 ^ k.val % 256) ≠ c.val := by decide +kernel
theorem turned_is (c : UInt8) (b : Int) : bits BinOp.xor IntKind.u8 (c.toNat : Int) (2 ^ (b % 8).toNat % 256) = ((turned c b).toNat : Int) ∧ turned c b ≠ c := by
  have h := turned_all ⟨c.toNat, c.toNat_lt⟩ ⟨(b % 8).toNat, by omega⟩
  simp only at h
  unfold turned
  generalize bits BinOp.xor IntKind.u8 (c.toNat : Int) (2 ^ (b % 8).toNat % 256) = z at h
  constructor
  · rw [UInt8.toNat_ofNat']; omega
  · intro e
    have := congrArg UInt8.toNat e
    rw [UInt8.toNat_ofNat'] at this
    omega

set_option maxRecDepth 100000 in
set_option maxHeartbeats 400000 in
theorem sumBit_walk (s : ByteArray) (hs : s.size ≤ maxLen) (a : Int) (ha : (Lit.int .u16 a).wf = true) (b : Int) (hb : (Lit.int .u8 b).wf = true) (w : World) :
    Calls Try.prog 4 #[.string s, .int .u16 a, .int .u8 b] w fun e w' => e = .returned (.bool true) ∧ Below w.heap.size w w' := by
  have ha' : 0 ≤ a ∧ a ≤ 65535 := by simpa [Lit.wf, IntKind.min, IntKind.max, IntKind.signed, IntKind.bits] using ha
  have hb' : 0 ≤ b ∧ b ≤ 255 := by simpa [Lit.wf, IntKind.min, IntKind.max, IntKind.signed, IntKind.bits] using hb
  clear ha hb
  by_cases h0 : s.size = 0
  · have he : s.toList = [] := by
      rw [Go.ByteArray.toList_eq, ← List.length_eq_zero_iff]; exact h0
    go_enter Try.func4, Try.ntmps4
    go_wp2_with fail
    refine (awake01 _).mono ?_
    rintro e W1 ⟨rfl, hB⟩
    go_wp2
    go_ret
    exact ⟨rfl, hB⟩
  have he : ¬ s.toList = [] := by
    intro h
    have := congrArg List.length h
    rw [Go.ByteArray.toList_eq] at this
    exact h0 (by simpa using this)
  have he2 : s.toList.isEmpty = false := by
    rw [Bool.eq_false_iff]; intro h; exact he (List.isEmpty_iff.1 h)
  by_cases hlen : (300 : Int) < (s.size : Int)
  · go_enter Try.func4, Try.ntmps4
    go_wp2_with fail
    refine (awake01 _).mono ?_
    rintro e W1 ⟨rfl, hB⟩
    go_wp2
    go_ret
    exact ⟨rfl, hB⟩
  · obtain ⟨g, cap, W1, hconv, hg, hgl, hB, hC, hF⟩ := bytesOf s w
    have hj : a % (s.size : Int) < (s.size : Int) ∧ 0 ≤ a % (s.size : Int) := ⟨Int.emod_lt_of_pos _ (by omega), Int.emod_nonneg _ (by omega)⟩
    have hjn : (a % (s.size : Int)).toNat < s.size := by omega
    have hcell := hC _ hjn
    have hfr := hF _ hjn
    obtain ⟨htv, htn⟩ := turned_is s[(a % (s.size : Int)).toNat] b
    generalize hcc : s[(a % (s.size : Int)).toNat] = c at hcell htv htn
    have HC := Lib.hid hC
    have HCC := Lib.hid hcc
    clear hC hF hcc h0
    obtain ⟨hj1, hj2⟩ := hj
    have hb8 : 0 ≤ b % 8 ∧ b % 8 < 8 := by omega
    go_enter Try.func4, Try.ntmps4
    go_wp2_with fail
    have hB2 : Below w.heap.size w (W1.setCell ⟨g, (a % (s.size : Int)).toNat, none⟩ (.int .u8 ((turned c b).toNat : Int))) := hB.setCell (by exact hg) _
    have hgl2 : g < (W1.setCell ⟨g, (a % (s.size : Int)).toNat, none⟩ (.int .u8 ((turned c b).toNat : Int))).heap.size := by simpa using hgl
    have hC2 : ∀ i (h : i < s.size), (W1.setCell ⟨g, (a % (s.size : Int)).toNat, none⟩ (.int .u8 ((turned c b).toNat : Int))).cell? ⟨g, i, none⟩ = some (.int .u8 (((s.data.toList.set (a % (s.size : Int)).toNat (turned c b)).map fun x => (x.toNat : Int)).getD i 0)) := by
      intro i h
      rw [List.getD_eq_getElem?_getD, List.getElem?_map, List.getElem?_set]
      by_cases e : (a % (s.size : Int)).toNat = i
      · subst e
        rw [World.cell?_setCell_same _ _ _ hcell, if_pos rfl, if_pos (by simpa using h)]
        rfl
      · rw [World.cell?_setCell_other _ _ _ _ (by simp), HC.out i h, if_neg e, List.getElem?_eq_getElem (by simpa using h)]
        rfl
    generalize W1.setCell ⟨g, (a % (s.size : Int)).toNat, none⟩ (.int .u8 ((turned c b).toNat : Int)) = W2 at hB2 hgl2 hC2
    have HC2 := Lib.hid hC2
    clear hC2 hcell hfr hconv hB hgl htv
    refine (table_abs _).mono ?_
    rintro e W3 ⟨rfl, hT, hlt, hB3⟩
    go_wp2_with fail
    refine (sum_tab _ _ _ hs hT).mono ?_
    rintro e w' ⟨rfl, rfl⟩
    have hback : (convert 32 9 (.slice (some ⟨g, 0, none⟩) s.size cap)).run Try.prog W3 = .ok (.string (strOfNums ((s.data.toList.set (a % (s.size : Int)).toNat (turned c b)).map fun x => (x.toNat : Int)))) W3 := by
      refine run_convert_bytes_arg _ 32 5 Try.underlying32 Try.underlying5 g 0 s.size cap _ (by simp) ?_ 9 Try.underlying9
      intro i hi
      rw [Nat.zero_add, hB3.cell (p := ⟨g, i, none⟩) hgl2]
      exact HC2.out i hi
    have hr : (strOfNums ((s.data.toList.set (a % (s.size : Int)).toNat (turned c b)).map fun x => (x.toNat : Int))).data.toList = s.data.toList.take (a % (s.size : Int)).toNat ++ turned c b :: s.data.toList.drop ((a % (s.size : Int)).toNat + 1) := by
      rw [strOfNums_data, List.map_map]
      rw [show ((fun n : Int => UInt8.ofNat n.toNat) ∘ fun x : UInt8 => (x.toNat : Int)) = id by funext x; simp, List.map_id]
      rw [List.set_eq_take_append_cons_drop, if_pos (by simpa using hjn)]
    have hrs : (strOfNums ((s.data.toList.set (a % (s.size : Int)).toNat (turned c b)).map fun x => (x.toNat : Int))).size = s.size := by
      rw [strOfNums_size]; simp
    generalize strOfNums ((s.data.toList.set (a % (s.size : Int)).toNat (turned c b)).map fun x => (x.toNat : Int)) = r at hback hr hrs
    have hl : s.data.toList = s.data.toList.take (a % (s.size : Int)).toNat ++ c :: s.data.toList.drop ((a % (s.size : Int)).toNat + 1) := by
      rw [← HCC.out]
      have h1 : (a % (s.size : Int)).toNat < s.data.toList.length := by simpa using hjn
      conv => lhs; rw [← List.take_append_drop (a % (s.size : Int)).toNat s.data.toList, List.drop_eq_getElem_cons h1]
      rfl
    have hne : Sm.sum s.data.toList ≠ Sm.sum r.data.toList := by
      rw [hr]
      conv => lhs; rw [hl]
      exact Sm.sum_one (Ne.symm htn)
    have hn0 := Sm.sum_nonneg s.data.toList
    have hrl : r.size ≤ maxLen := by rw [hrs]; exact hs
    clear hr hl hrs
    generalize Sm.sum s.data.toList = n at hne hn0
    generalize hk : Sm.sum r.data.toList = k at hne
    have HK := Lib.hid hk
    clear hk
    have hnk : (n != k) = true := by simpa using hne
    obtain ⟨hn1, hn2⟩ := hn0
    go_wp2_with fail
    refine (sum_tab _ _ _ hrl hT).mono ?_
    rintro e w' ⟨rfl, rfl⟩
    rw [HK.out]
    go_wp2_with fail
    refine (awake01 _).mono ?_
    rintro e W4 ⟨rfl, hB4⟩
    go_wp2
    go_ret
    have hs2 := hB2.size
    exact ⟨rfl, hB2.trans ((hB3.trans (hB4.mono (by omega))).mono hs2)⟩
end Go.Proofs.Ytekkmlhkcdijkaa
