/-
  No cell of these rows narrows 'for every input' (looked for: loops, veiled, ifaces, maps, wideKeys, modest, calm, conditions, laid).
  DERIVED. THE GIVEN ROWS OF THIS SEAT. 11 by the template 'for every input the law returns true; each argument reads behind the call as it read before'; 0 by the template 'total and deterministic' (their statements: YthhialnnhhemaaaTotals.lean).
  GIVEN WITH THE SEED: the statements are not yours to turn. If you find one false, say at which input.
  Laid BY PROGRAM, IN A SANDBOX (cutbox-rows.mjs): the forced cells as the released guide's own fill.sh prints them over the translation bf965f16d0518ca5… (all of the seat's roots in one cut). By AI agents, Wed Nov 11 2026. No macro, syntax, notation, axiom, sorry.
-/
import Derived.Test.YthhialnnhhemaaaChecked
import GoSem.Claim
import GoSem.ClaimJoined
import GoSem.ClaimMapViews
import Derived.JoinedTies
import Derived.KernelRfl
namespace Go.Proofs.Ythhialnnhhemaaa
/- THE CELL 'sum', in the pinned program and in every row, IS THE sha256 OF THE DUMP (.gsa) THAT YthhialnnhhemaaaProg.lean LOADS. Nothing in Lean hashes anything: it is a label: what it is worth is what the hold of that sum in a sandbox is worth. -/
noncomputable def Try.pinned : Pinned := { name := "ythhialnnhhemaaa", sum := "bf965f16d0518ca5a91b1980a1532745a7d839afe50388ac07c79d2b1c52e72e", checked := Try.checked }
namespace Rows
def none {H : Type} : Left H := { results := [], args := [] }

/-- 'lockkeeperlaw09.ClockSweeps': WHATEVER THE INPUT: true; the input reads as it did. -/
def clockSweepsSpec : ChangeSpec := { name := "clockSweeps", fn := fun _ => fun
  | [d1, d2] => { results := [.lit (.bool true)], args := [d1, d2] }
  | _ => none }
def clockSweepsRow : OpenClaim := { program := "ythhialnnhhemaaa", sum := "bf965f16d0518ca5a91b1980a1532745a7d839afe50388ac07c79d2b1c52e72e", func := "lockkeeper/lockkeeperlaw09.ClockSweeps", spec := "clockSweeps", unfollowed := true, recurses := true, apart := false }
def ClockSweepsSaid : Prop := clockSweepsRow.holds Try.pinned (OpenSpec.ofChange clockSweepsSpec)

/-- ITS FALSE NEIGHBOUR: 'it returns false'. Refute it at one input. -/
def clockSweepsWrong : ChangeSpec := { name := "clockSweeps", fn := fun _ => fun
  | [d1, d2] => { results := [.lit (.bool false)], args := [d1, d2] }
  | _ => none }
def ClockSweepsWrongFalsely : Prop := clockSweepsRow.holds Try.pinned (OpenSpec.ofChange clockSweepsWrong)

/-- 'lockkeeperlaw09.ClockFair': WHATEVER THE INPUT: true; the input reads as it did. -/
def clockFairSpec : ChangeSpec := { name := "clockFair", fn := fun _ => fun
  | [d] => { results := [.lit (.bool true)], args := [d] }
  | _ => none }
def clockFairRow : OpenClaim := { program := "ythhialnnhhemaaa", sum := "bf965f16d0518ca5a91b1980a1532745a7d839afe50388ac07c79d2b1c52e72e", func := "lockkeeper/lockkeeperlaw09.ClockFair", spec := "clockFair", unfollowed := true, recurses := true, apart := false }
def ClockFairSaid : Prop := clockFairRow.holds Try.pinned (OpenSpec.ofChange clockFairSpec)

/-- ITS FALSE NEIGHBOUR: 'it returns false'. Refute it at one input. -/
def clockFairWrong : ChangeSpec := { name := "clockFair", fn := fun _ => fun
  | [d] => { results := [.lit (.bool false)], args := [d] }
  | _ => none }
def ClockFairWrongFalsely : Prop := clockFairRow.holds Try.pinned (OpenSpec.ofChange clockFairWrong)

/-- 'lockkeeperlaw09.ClockRound': WHATEVER THE INPUT: true; the input reads as it did. -/
def clockRoundSpec : ChangeSpec := { name := "clockRound", fn := fun _ => fun
  | [d1, d2] => { results := [.lit (.bool true)], args := [d1, d2] }
  | _ => none }
def clockRoundRow : OpenClaim := { program := "ythhialnnhhemaaa", sum := "bf965f16d0518ca5a91b1980a1532745a7d839afe50388ac07c79d2b1c52e72e", func := "lockkeeper/lockkeeperlaw09.ClockRound", spec := "clockRound", unfollowed := true, recurses := true, apart := false }
def ClockRoundSaid : Prop := clockRoundRow.holds Try.pinned (OpenSpec.ofChange clockRoundSpec)

/-- ITS FALSE NEIGHBOUR: 'it returns false'. Refute it at one input. -/
def clockRoundWrong : ChangeSpec := { name := "clockRound", fn := fun _ => fun
  | [d1, d2] => { results := [.lit (.bool false)], args := [d1, d2] }
  | _ => none }
def ClockRoundWrongFalsely : Prop := clockRoundRow.holds Try.pinned (OpenSpec.ofChange clockRoundWrong)

/-- 'lockkeeperlaw09.ClockTouch': WHATEVER THE INPUT: true; the input reads as it did. -/
def clockTouchSpec : ChangeSpec := { name := "clockTouch", fn := fun _ => fun
  | [d1, d2, d3] => { results := [.lit (.bool true)], args := [d1, d2, d3] }
  | _ => none }
def clockTouchRow : OpenClaim := { program := "ythhialnnhhemaaa", sum := "bf965f16d0518ca5a91b1980a1532745a7d839afe50388ac07c79d2b1c52e72e", func := "lockkeeper/lockkeeperlaw09.ClockTouch", spec := "clockTouch", unfollowed := true, recurses := true, apart := false }
def ClockTouchSaid : Prop := clockTouchRow.holds Try.pinned (OpenSpec.ofChange clockTouchSpec)

/-- ITS FALSE NEIGHBOUR: 'it returns false'. Refute it at one input. -/
def clockTouchWrong : ChangeSpec := { name := "clockTouch", fn := fun _ => fun
  | [d1, d2, d3] => { results := [.lit (.bool false)], args := [d1, d2, d3] }
  | _ => none }
def ClockTouchWrongFalsely : Prop := clockTouchRow.holds Try.pinned (OpenSpec.ofChange clockTouchWrong)

/-- 'lockkeeperlaw09.ClockHand': WHATEVER THE INPUT: true; the input reads as it did. -/
def clockHandSpec : ChangeSpec := { name := "clockHand", fn := fun _ => fun
  | [d] => { results := [.lit (.bool true)], args := [d] }
  | _ => none }
def clockHandRow : OpenClaim := { program := "ythhialnnhhemaaa", sum := "bf965f16d0518ca5a91b1980a1532745a7d839afe50388ac07c79d2b1c52e72e", func := "lockkeeper/lockkeeperlaw09.ClockHand", spec := "clockHand", unfollowed := true, recurses := true, apart := false }
def ClockHandSaid : Prop := clockHandRow.holds Try.pinned (OpenSpec.ofChange clockHandSpec)

/-- ITS FALSE NEIGHBOUR: 'it returns false'. Refute it at one input. -/
def clockHandWrong : ChangeSpec := { name := "clockHand", fn := fun _ => fun
  | [d] => { results := [.lit (.bool false)], args := [d] }
  | _ => none }
def ClockHandWrongFalsely : Prop := clockHandRow.holds Try.pinned (OpenSpec.ofChange clockHandWrong)

/-- 'lockkeeperlaw14.DirtyExact': WHATEVER THE INPUT: true; the input reads as it did. -/
def dirtyExactSpec : ChangeSpec := { name := "dirtyExact", fn := fun _ => fun
  | [d1, d2, d3] => { results := [.lit (.bool true)], args := [d1, d2, d3] }
  | _ => none }
def dirtyExactRow : OpenClaim := { program := "ythhialnnhhemaaa", sum := "bf965f16d0518ca5a91b1980a1532745a7d839afe50388ac07c79d2b1c52e72e", func := "lockkeeper/lockkeeperlaw14.DirtyExact", spec := "dirtyExact", unfollowed := true, recurses := true, apart := false }
def DirtyExactSaid : Prop := dirtyExactRow.holds Try.pinned (OpenSpec.ofChange dirtyExactSpec)

/-- ITS FALSE NEIGHBOUR: 'it returns false'. Refute it at one input. -/
def dirtyExactWrong : ChangeSpec := { name := "dirtyExact", fn := fun _ => fun
  | [d1, d2, d3] => { results := [.lit (.bool false)], args := [d1, d2, d3] }
  | _ => none }
def DirtyExactWrongFalsely : Prop := dirtyExactRow.holds Try.pinned (OpenSpec.ofChange dirtyExactWrong)

/-- 'lockkeeperlaw14.DirtyDue': WHATEVER THE INPUT: true; the input reads as it did. -/
def dirtyDueSpec : ChangeSpec := { name := "dirtyDue", fn := fun _ => fun
  | [d1, d2, d3, d4] => { results := [.lit (.bool true)], args := [d1, d2, d3, d4] }
  | _ => none }
def dirtyDueRow : OpenClaim := { program := "ythhialnnhhemaaa", sum := "bf965f16d0518ca5a91b1980a1532745a7d839afe50388ac07c79d2b1c52e72e", func := "lockkeeper/lockkeeperlaw14.DirtyDue", spec := "dirtyDue", unfollowed := true, recurses := true, apart := false }
def DirtyDueSaid : Prop := dirtyDueRow.holds Try.pinned (OpenSpec.ofChange dirtyDueSpec)

/-- ITS FALSE NEIGHBOUR: 'it returns false'. Refute it at one input. -/
def dirtyDueWrong : ChangeSpec := { name := "dirtyDue", fn := fun _ => fun
  | [d1, d2, d3, d4] => { results := [.lit (.bool false)], args := [d1, d2, d3, d4] }
  | _ => none }
def DirtyDueWrongFalsely : Prop := dirtyDueRow.holds Try.pinned (OpenSpec.ofChange dirtyDueWrong)

/-- 'lockkeeperlaw14.DirtyFirst': WHATEVER THE INPUT: true; the input reads as it did. -/
def dirtyFirstSpec : ChangeSpec := { name := "dirtyFirst", fn := fun _ => fun
  | [d1, d2] => { results := [.lit (.bool true)], args := [d1, d2] }
  | _ => none }
def dirtyFirstRow : OpenClaim := { program := "ythhialnnhhemaaa", sum := "bf965f16d0518ca5a91b1980a1532745a7d839afe50388ac07c79d2b1c52e72e", func := "lockkeeper/lockkeeperlaw14.DirtyFirst", spec := "dirtyFirst", unfollowed := true, recurses := true, apart := false }
def DirtyFirstSaid : Prop := dirtyFirstRow.holds Try.pinned (OpenSpec.ofChange dirtyFirstSpec)

/-- ITS FALSE NEIGHBOUR: 'it returns false'. Refute it at one input. -/
def dirtyFirstWrong : ChangeSpec := { name := "dirtyFirst", fn := fun _ => fun
  | [d1, d2] => { results := [.lit (.bool false)], args := [d1, d2] }
  | _ => none }
def DirtyFirstWrongFalsely : Prop := dirtyFirstRow.holds Try.pinned (OpenSpec.ofChange dirtyFirstWrong)

/-- 'lockkeeperlaw14.DirtyBack': WHATEVER THE INPUT: true; the input reads as it did. -/
def dirtyBackSpec : ChangeSpec := { name := "dirtyBack", fn := fun _ => fun
  | [d1, d2, d3] => { results := [.lit (.bool true)], args := [d1, d2, d3] }
  | _ => none }
def dirtyBackRow : OpenClaim := { program := "ythhialnnhhemaaa", sum := "bf965f16d0518ca5a91b1980a1532745a7d839afe50388ac07c79d2b1c52e72e", func := "lockkeeper/lockkeeperlaw14.DirtyBack", spec := "dirtyBack", unfollowed := true, recurses := true, apart := false }
def DirtyBackSaid : Prop := dirtyBackRow.holds Try.pinned (OpenSpec.ofChange dirtyBackSpec)

/-- ITS FALSE NEIGHBOUR: 'it returns false'. Refute it at one input. -/
def dirtyBackWrong : ChangeSpec := { name := "dirtyBack", fn := fun _ => fun
  | [d1, d2, d3] => { results := [.lit (.bool false)], args := [d1, d2, d3] }
  | _ => none }
def DirtyBackWrongFalsely : Prop := dirtyBackRow.holds Try.pinned (OpenSpec.ofChange dirtyBackWrong)

/-- 'lockkeeperlaw14.DirtyAll': WHATEVER THE INPUT: true; the input reads as it did. -/
def dirtyAllSpec : ChangeSpec := { name := "dirtyAll", fn := fun _ => fun
  | [d1, d2] => { results := [.lit (.bool true)], args := [d1, d2] }
  | _ => none }
def dirtyAllRow : OpenClaim := { program := "ythhialnnhhemaaa", sum := "bf965f16d0518ca5a91b1980a1532745a7d839afe50388ac07c79d2b1c52e72e", func := "lockkeeper/lockkeeperlaw14.DirtyAll", spec := "dirtyAll", unfollowed := true, recurses := true, apart := false }
def DirtyAllSaid : Prop := dirtyAllRow.holds Try.pinned (OpenSpec.ofChange dirtyAllSpec)

/-- ITS FALSE NEIGHBOUR: 'it returns false'. Refute it at one input. -/
def dirtyAllWrong : ChangeSpec := { name := "dirtyAll", fn := fun _ => fun
  | [d1, d2] => { results := [.lit (.bool false)], args := [d1, d2] }
  | _ => none }
def DirtyAllWrongFalsely : Prop := dirtyAllRow.holds Try.pinned (OpenSpec.ofChange dirtyAllWrong)

/-- 'lockkeeperlaw14.DirtyOld': WHATEVER THE INPUT: true; the input reads as it did. -/
def dirtyOldSpec : ChangeSpec := { name := "dirtyOld", fn := fun _ => fun
  | [d1, d2] => { results := [.lit (.bool true)], args := [d1, d2] }
  | _ => none }
def dirtyOldRow : OpenClaim := { program := "ythhialnnhhemaaa", sum := "bf965f16d0518ca5a91b1980a1532745a7d839afe50388ac07c79d2b1c52e72e", func := "lockkeeper/lockkeeperlaw14.DirtyOld", spec := "dirtyOld", unfollowed := true, recurses := true, apart := false }
def DirtyOldSaid : Prop := dirtyOldRow.holds Try.pinned (OpenSpec.ofChange dirtyOldSpec)

/-- ITS FALSE NEIGHBOUR: 'it returns false'. Refute it at one input. -/
def dirtyOldWrong : ChangeSpec := { name := "dirtyOld", fn := fun _ => fun
  | [d1, d2] => { results := [.lit (.bool false)], args := [d1, d2] }
  | _ => none }
def DirtyOldWrongFalsely : Prop := dirtyOldRow.holds Try.pinned (OpenSpec.ofChange dirtyOldWrong)

/- THE SECOND FORM. 'bulk': how many values and letters a reading holds, each counted each time it is reached (what is shared counts as often as it is met; a slice's spare places count too). A statement '..UptoSaid' is the law's where the arguments, and the package variables that the reading takes, are together of bulk at most 1048576: NARROWER than '..Said'. Prove '..Said' where nothing that the law and all that it calls make is longer than what came in: it says more and counts as full. Else prove '..UptoSaid'. A law counts once. -/
mutual
def uptoBulk {H : Type} : DataW H → Nat
  | .lit (.string bytes) => bytes.length + 1
  | .lit _ => 1
  | .nil => 1
  | .ptr d => uptoBulk d + 1
  | .slice elems spare => uptoBulkAll elems + uptoBulkAll spare + 1
  | .agg parts => uptoBulkAll parts + 1
  | .iface _ d => uptoBulk d + 1
  | .map entries => uptoBulkEntries entries + 1
  | .held _ => 1
def uptoBulkAll {H : Type} : List (DataW H) → Nat
  | [] => 0
  | d :: r => uptoBulk d + uptoBulkAll r
def uptoBulkEntries {H : Type} : List (Lit × DataW H) → Nat
  | [] => 0
  | x :: r => uptoBulkEntry x + uptoBulkEntries r
def uptoBulkEntry {H : Type} : Lit × DataW H → Nat
  | (.string bytes, d) => bytes.length + uptoBulk d + 1
  | (_, d) => uptoBulk d + 1
 end
def uptoSmall : (H : Type) → List (DataW H) → Bool := fun _ ds => decide (uptoBulkAll ds ≤ 1048576)
def OpenSpec.upto (s : _root_.Go.ChangeSpec) : _root_.Go.OpenSpec := { _root_.Go.OpenSpec.ofChange s with cond := some uptoSmall }

/-- 'lockkeeperlaw09.ClockSweeps', WHERE WHAT IT READS IS OF BULK AT MOST 1048576: true; the input reads as it did. -/
def clockSweepsUptoRow : OpenClaim := { program := "ythhialnnhhemaaa", sum := "bf965f16d0518ca5a91b1980a1532745a7d839afe50388ac07c79d2b1c52e72e", func := "lockkeeper/lockkeeperlaw09.ClockSweeps", spec := "clockSweeps", unfollowed := true, recurses := true, apart := false, narrowed := true }
def ClockSweepsUptoSaid : Prop := clockSweepsUptoRow.holds Try.pinned (OpenSpec.upto clockSweepsSpec)

/-- 'lockkeeperlaw09.ClockFair', WHERE WHAT IT READS IS OF BULK AT MOST 1048576: true; the input reads as it did. -/
def clockFairUptoRow : OpenClaim := { program := "ythhialnnhhemaaa", sum := "bf965f16d0518ca5a91b1980a1532745a7d839afe50388ac07c79d2b1c52e72e", func := "lockkeeper/lockkeeperlaw09.ClockFair", spec := "clockFair", unfollowed := true, recurses := true, apart := false, narrowed := true }
def ClockFairUptoSaid : Prop := clockFairUptoRow.holds Try.pinned (OpenSpec.upto clockFairSpec)

/-- 'lockkeeperlaw09.ClockRound', WHERE WHAT IT READS IS OF BULK AT MOST 1048576: true; the input reads as it did. -/
def clockRoundUptoRow : OpenClaim := { program := "ythhialnnhhemaaa", sum := "bf965f16d0518ca5a91b1980a1532745a7d839afe50388ac07c79d2b1c52e72e", func := "lockkeeper/lockkeeperlaw09.ClockRound", spec := "clockRound", unfollowed := true, recurses := true, apart := false, narrowed := true }
def ClockRoundUptoSaid : Prop := clockRoundUptoRow.holds Try.pinned (OpenSpec.upto clockRoundSpec)

/-- 'lockkeeperlaw09.ClockTouch', WHERE WHAT IT READS IS OF BULK AT MOST 1048576: true; the input reads as it did. -/
def clockTouchUptoRow : OpenClaim := { program := "ythhialnnhhemaaa", sum := "bf965f16d0518ca5a91b1980a1532745a7d839afe50388ac07c79d2b1c52e72e", func := "lockkeeper/lockkeeperlaw09.ClockTouch", spec := "clockTouch", unfollowed := true, recurses := true, apart := false, narrowed := true }
def ClockTouchUptoSaid : Prop := clockTouchUptoRow.holds Try.pinned (OpenSpec.upto clockTouchSpec)

/-- 'lockkeeperlaw09.ClockHand', WHERE WHAT IT READS IS OF BULK AT MOST 1048576: true; the input reads as it did. -/
def clockHandUptoRow : OpenClaim := { program := "ythhialnnhhemaaa", sum := "bf965f16d0518ca5a91b1980a1532745a7d839afe50388ac07c79d2b1c52e72e", func := "lockkeeper/lockkeeperlaw09.ClockHand", spec := "clockHand", unfollowed := true, recurses := true, apart := false, narrowed := true }
def ClockHandUptoSaid : Prop := clockHandUptoRow.holds Try.pinned (OpenSpec.upto clockHandSpec)

/-- 'lockkeeperlaw14.DirtyExact', WHERE WHAT IT READS IS OF BULK AT MOST 1048576: true; the input reads as it did. -/
def dirtyExactUptoRow : OpenClaim := { program := "ythhialnnhhemaaa", sum := "bf965f16d0518ca5a91b1980a1532745a7d839afe50388ac07c79d2b1c52e72e", func := "lockkeeper/lockkeeperlaw14.DirtyExact", spec := "dirtyExact", unfollowed := true, recurses := true, apart := false, narrowed := true }
def DirtyExactUptoSaid : Prop := dirtyExactUptoRow.holds Try.pinned (OpenSpec.upto dirtyExactSpec)

/-- 'lockkeeperlaw14.DirtyDue', WHERE WHAT IT READS IS OF BULK AT MOST 1048576: true; the input reads as it did. -/
def dirtyDueUptoRow : OpenClaim := { program := "ythhialnnhhemaaa", sum := "bf965f16d0518ca5a91b1980a1532745a7d839afe50388ac07c79d2b1c52e72e", func := "lockkeeper/lockkeeperlaw14.DirtyDue", spec := "dirtyDue", unfollowed := true, recurses := true, apart := false, narrowed := true }
def DirtyDueUptoSaid : Prop := dirtyDueUptoRow.holds Try.pinned (OpenSpec.upto dirtyDueSpec)

/-- 'lockkeeperlaw14.DirtyFirst', WHERE WHAT IT READS IS OF BULK AT MOST 1048576: true; the input reads as it did. -/
def dirtyFirstUptoRow : OpenClaim := { program := "ythhialnnhhemaaa", sum := "bf965f16d0518ca5a91b1980a1532745a7d839afe50388ac07c79d2b1c52e72e", func := "lockkeeper/lockkeeperlaw14.DirtyFirst", spec := "dirtyFirst", unfollowed := true, recurses := true, apart := false, narrowed := true }
def DirtyFirstUptoSaid : Prop := dirtyFirstUptoRow.holds Try.pinned (OpenSpec.upto dirtyFirstSpec)

/-- 'lockkeeperlaw14.DirtyBack', WHERE WHAT IT READS IS OF BULK AT MOST 1048576: true; the input reads as it did. -/
def dirtyBackUptoRow : OpenClaim := { program := "ythhialnnhhemaaa", sum := "bf965f16d0518ca5a91b1980a1532745a7d839afe50388ac07c79d2b1c52e72e", func := "lockkeeper/lockkeeperlaw14.DirtyBack", spec := "dirtyBack", unfollowed := true, recurses := true, apart := false, narrowed := true }
def DirtyBackUptoSaid : Prop := dirtyBackUptoRow.holds Try.pinned (OpenSpec.upto dirtyBackSpec)

/-- 'lockkeeperlaw14.DirtyAll', WHERE WHAT IT READS IS OF BULK AT MOST 1048576: true; the input reads as it did. -/
def dirtyAllUptoRow : OpenClaim := { program := "ythhialnnhhemaaa", sum := "bf965f16d0518ca5a91b1980a1532745a7d839afe50388ac07c79d2b1c52e72e", func := "lockkeeper/lockkeeperlaw14.DirtyAll", spec := "dirtyAll", unfollowed := true, recurses := true, apart := false, narrowed := true }
def DirtyAllUptoSaid : Prop := dirtyAllUptoRow.holds Try.pinned (OpenSpec.upto dirtyAllSpec)

/-- 'lockkeeperlaw14.DirtyOld', WHERE WHAT IT READS IS OF BULK AT MOST 1048576: true; the input reads as it did. -/
def dirtyOldUptoRow : OpenClaim := { program := "ythhialnnhhemaaa", sum := "bf965f16d0518ca5a91b1980a1532745a7d839afe50388ac07c79d2b1c52e72e", func := "lockkeeper/lockkeeperlaw14.DirtyOld", spec := "dirtyOld", unfollowed := true, recurses := true, apart := false, narrowed := true }
def DirtyOldUptoSaid : Prop := dirtyOldUptoRow.holds Try.pinned (OpenSpec.upto dirtyOldSpec)

end Rows
end Go.Proofs.Ythhialnnhhemaaa
