/-
  No cell of these rows narrows 'for every input' (looked for: loops, veiled, ifaces, maps, wideKeys, modest, calm, conditions, laid).
  DERIVED. THE GIVEN ROWS OF THIS SEAT. 12 by the template 'for every input the law returns true; each argument reads behind the call as it read before'; 0 by the template 'total and deterministic' (their statements: YteghmlafodkfpaaTotals.lean).
  GIVEN WITH THE SEED: the statements are not yours to turn. If you find one false, say at which input.
  Laid BY PROGRAM, IN A SANDBOX (cutbox-rows.mjs): the forced cells as the released guide's own fill.sh prints them over the translation 25d2bc679fe2e9ca… (all of the seat's roots in one cut). By AI agents, Wed Nov 11 2026. No macro, syntax, notation, axiom, sorry.
-/
import Derived.Test.YteghmlafodkfpaaChecked
import GoSem.Claim
import GoSem.ClaimJoined
import GoSem.ClaimMapViews
import Derived.JoinedTies
import Derived.KernelRfl
namespace Go.Proofs.Yteghmlafodkfpaa
/- THE CELL 'sum', in the pinned program and in every row, IS THE sha256 OF THE DUMP (.gsa) THAT YteghmlafodkfpaaProg.lean LOADS. Nothing in Lean hashes anything: it is a label: what it is worth is what the hold of that sum in a sandbox is worth. -/
noncomputable def Try.pinned : Pinned := { name := "yteghmlafodkfpaa", sum := "25d2bc679fe2e9cab49980e63bd50fda19d43883c10ad78f328d40f9e87fac99", checked := Try.checked }
namespace Rows
def none {H : Type} : Left H := { results := [], args := [] }

/-- 'lockkeeperlaw11.AdmitComes': WHATEVER THE INPUT: true; the input reads as it did. -/
def admitComesSpec : ChangeSpec := { name := "admitComes", fn := fun _ => fun
  | [d1, d2, d3] => { results := [.lit (.bool true)], args := [d1, d2, d3] }
  | _ => none }
def admitComesRow : OpenClaim := { program := "yteghmlafodkfpaa", sum := "25d2bc679fe2e9cab49980e63bd50fda19d43883c10ad78f328d40f9e87fac99", func := "lockkeeper/lockkeeperlaw11.AdmitComes", spec := "admitComes", unfollowed := true, recurses := true, apart := false }
def AdmitComesSaid : Prop := admitComesRow.holds Try.pinned (OpenSpec.ofChange admitComesSpec)

/-- ITS FALSE NEIGHBOUR: 'it returns false'. Refute it at one input. -/
def admitComesWrong : ChangeSpec := { name := "admitComes", fn := fun _ => fun
  | [d1, d2, d3] => { results := [.lit (.bool false)], args := [d1, d2, d3] }
  | _ => none }
def AdmitComesWrongFalsely : Prop := admitComesRow.holds Try.pinned (OpenSpec.ofChange admitComesWrong)

/-- 'lockkeeperlaw11.AdmitPins': WHATEVER THE INPUT: true; the input reads as it did. -/
def admitPinsSpec : ChangeSpec := { name := "admitPins", fn := fun _ => fun
  | [d1, d2] => { results := [.lit (.bool true)], args := [d1, d2] }
  | _ => none }
def admitPinsRow : OpenClaim := { program := "yteghmlafodkfpaa", sum := "25d2bc679fe2e9cab49980e63bd50fda19d43883c10ad78f328d40f9e87fac99", func := "lockkeeper/lockkeeperlaw11.AdmitPins", spec := "admitPins", unfollowed := true, recurses := true, apart := false }
def AdmitPinsSaid : Prop := admitPinsRow.holds Try.pinned (OpenSpec.ofChange admitPinsSpec)

/-- ITS FALSE NEIGHBOUR: 'it returns false'. Refute it at one input. -/
def admitPinsWrong : ChangeSpec := { name := "admitPins", fn := fun _ => fun
  | [d1, d2] => { results := [.lit (.bool false)], args := [d1, d2] }
  | _ => none }
def AdmitPinsWrongFalsely : Prop := admitPinsRow.holds Try.pinned (OpenSpec.ofChange admitPinsWrong)

/-- 'lockkeeperlaw11.AdmitSafe': WHATEVER THE INPUT: true; the input reads as it did. -/
def admitSafeSpec : ChangeSpec := { name := "admitSafe", fn := fun _ => fun
  | [d1, d2, d3] => { results := [.lit (.bool true)], args := [d1, d2, d3] }
  | _ => none }
def admitSafeRow : OpenClaim := { program := "yteghmlafodkfpaa", sum := "25d2bc679fe2e9cab49980e63bd50fda19d43883c10ad78f328d40f9e87fac99", func := "lockkeeper/lockkeeperlaw11.AdmitSafe", spec := "admitSafe", unfollowed := true, recurses := true, apart := false }
def AdmitSafeSaid : Prop := admitSafeRow.holds Try.pinned (OpenSpec.ofChange admitSafeSpec)

/-- ITS FALSE NEIGHBOUR: 'it returns false'. Refute it at one input. -/
def admitSafeWrong : ChangeSpec := { name := "admitSafe", fn := fun _ => fun
  | [d1, d2, d3] => { results := [.lit (.bool false)], args := [d1, d2, d3] }
  | _ => none }
def AdmitSafeWrongFalsely : Prop := admitSafeRow.holds Try.pinned (OpenSpec.ofChange admitSafeWrong)

/-- 'lockkeeperlaw11.AdmitEnds': WHATEVER THE INPUT: true; the input reads as it did. -/
def admitEndsSpec : ChangeSpec := { name := "admitEnds", fn := fun _ => fun
  | [d] => { results := [.lit (.bool true)], args := [d] }
  | _ => none }
def admitEndsRow : OpenClaim := { program := "yteghmlafodkfpaa", sum := "25d2bc679fe2e9cab49980e63bd50fda19d43883c10ad78f328d40f9e87fac99", func := "lockkeeper/lockkeeperlaw11.AdmitEnds", spec := "admitEnds", unfollowed := true, recurses := true, apart := false }
def AdmitEndsSaid : Prop := admitEndsRow.holds Try.pinned (OpenSpec.ofChange admitEndsSpec)

/-- ITS FALSE NEIGHBOUR: 'it returns false'. Refute it at one input. -/
def admitEndsWrong : ChangeSpec := { name := "admitEnds", fn := fun _ => fun
  | [d] => { results := [.lit (.bool false)], args := [d] }
  | _ => none }
def AdmitEndsWrongFalsely : Prop := admitEndsRow.holds Try.pinned (OpenSpec.ofChange admitEndsWrong)

/-- 'lockkeeperlaw11.AdmitBack': WHATEVER THE INPUT: true; the input reads as it did. -/
def admitBackSpec : ChangeSpec := { name := "admitBack", fn := fun _ => fun
  | [d1, d2] => { results := [.lit (.bool true)], args := [d1, d2] }
  | _ => none }
def admitBackRow : OpenClaim := { program := "yteghmlafodkfpaa", sum := "25d2bc679fe2e9cab49980e63bd50fda19d43883c10ad78f328d40f9e87fac99", func := "lockkeeper/lockkeeperlaw11.AdmitBack", spec := "admitBack", unfollowed := true, recurses := true, apart := false }
def AdmitBackSaid : Prop := admitBackRow.holds Try.pinned (OpenSpec.ofChange admitBackSpec)

/-- ITS FALSE NEIGHBOUR: 'it returns false'. Refute it at one input. -/
def admitBackWrong : ChangeSpec := { name := "admitBack", fn := fun _ => fun
  | [d1, d2] => { results := [.lit (.bool false)], args := [d1, d2] }
  | _ => none }
def AdmitBackWrongFalsely : Prop := admitBackRow.holds Try.pinned (OpenSpec.ofChange admitBackWrong)

/-- 'lockkeeperlaw11.AdmitOnes': WHATEVER THE INPUT: true; the input reads as it did. -/
def admitOnesSpec : ChangeSpec := { name := "admitOnes", fn := fun _ => fun
  | [d] => { results := [.lit (.bool true)], args := [d] }
  | _ => none }
def admitOnesRow : OpenClaim := { program := "yteghmlafodkfpaa", sum := "25d2bc679fe2e9cab49980e63bd50fda19d43883c10ad78f328d40f9e87fac99", func := "lockkeeper/lockkeeperlaw11.AdmitOnes", spec := "admitOnes", unfollowed := true, recurses := true, apart := false }
def AdmitOnesSaid : Prop := admitOnesRow.holds Try.pinned (OpenSpec.ofChange admitOnesSpec)

/-- ITS FALSE NEIGHBOUR: 'it returns false'. Refute it at one input. -/
def admitOnesWrong : ChangeSpec := { name := "admitOnes", fn := fun _ => fun
  | [d] => { results := [.lit (.bool false)], args := [d] }
  | _ => none }
def AdmitOnesWrongFalsely : Prop := admitOnesRow.holds Try.pinned (OpenSpec.ofChange admitOnesWrong)

/-- 'lockkeeperlaw12.JournalPlans': WHATEVER THE INPUT: true; the input reads as it did. -/
def journalPlansSpec : ChangeSpec := { name := "journalPlans", fn := fun _ => fun
  | [d1, d2, d3] => { results := [.lit (.bool true)], args := [d1, d2, d3] }
  | _ => none }
def journalPlansRow : OpenClaim := { program := "yteghmlafodkfpaa", sum := "25d2bc679fe2e9cab49980e63bd50fda19d43883c10ad78f328d40f9e87fac99", func := "lockkeeper/lockkeeperlaw12.JournalPlans", spec := "journalPlans", inPlace := ["internal/abi.NoEscape", "internal/bytealg.MakeNoZero"], unfollowed := true, recurses := true, apart := false }
def JournalPlansSaid : Prop := journalPlansRow.holds Try.pinned (OpenSpec.ofChange journalPlansSpec)

/-- ITS FALSE NEIGHBOUR: 'it returns false'. Refute it at one input. -/
def journalPlansWrong : ChangeSpec := { name := "journalPlans", fn := fun _ => fun
  | [d1, d2, d3] => { results := [.lit (.bool false)], args := [d1, d2, d3] }
  | _ => none }
def JournalPlansWrongFalsely : Prop := journalPlansRow.holds Try.pinned (OpenSpec.ofChange journalPlansWrong)

/-- 'lockkeeperlaw12.JournalWhole': WHATEVER THE INPUT: true; the input reads as it did. -/
def journalWholeSpec : ChangeSpec := { name := "journalWhole", fn := fun _ => fun
  | [d1, d2, d3, d4, d5, d6, d7] => { results := [.lit (.bool true)], args := [d1, d2, d3, d4, d5, d6, d7] }
  | _ => none }
def journalWholeRow : OpenClaim := { program := "yteghmlafodkfpaa", sum := "25d2bc679fe2e9cab49980e63bd50fda19d43883c10ad78f328d40f9e87fac99", func := "lockkeeper/lockkeeperlaw12.JournalWhole", spec := "journalWhole", inPlace := ["internal/abi.NoEscape", "internal/bytealg.MakeNoZero"], unfollowed := true, recurses := true, apart := false }
def JournalWholeSaid : Prop := journalWholeRow.holds Try.pinned (OpenSpec.ofChange journalWholeSpec)

/-- ITS FALSE NEIGHBOUR: 'it returns false'. Refute it at one input. -/
def journalWholeWrong : ChangeSpec := { name := "journalWhole", fn := fun _ => fun
  | [d1, d2, d3, d4, d5, d6, d7] => { results := [.lit (.bool false)], args := [d1, d2, d3, d4, d5, d6, d7] }
  | _ => none }
def JournalWholeWrongFalsely : Prop := journalWholeRow.holds Try.pinned (OpenSpec.ofChange journalWholeWrong)

/-- 'lockkeeperlaw12.JournalMany': WHATEVER THE INPUT: true; the input reads as it did. -/
def journalManySpec : ChangeSpec := { name := "journalMany", fn := fun _ => fun
  | [d1, d2] => { results := [.lit (.bool true)], args := [d1, d2] }
  | _ => none }
def journalManyRow : OpenClaim := { program := "yteghmlafodkfpaa", sum := "25d2bc679fe2e9cab49980e63bd50fda19d43883c10ad78f328d40f9e87fac99", func := "lockkeeper/lockkeeperlaw12.JournalMany", spec := "journalMany", inPlace := ["internal/abi.NoEscape", "internal/bytealg.MakeNoZero"], unfollowed := true, recurses := true, apart := false }
def JournalManySaid : Prop := journalManyRow.holds Try.pinned (OpenSpec.ofChange journalManySpec)

/-- ITS FALSE NEIGHBOUR: 'it returns false'. Refute it at one input. -/
def journalManyWrong : ChangeSpec := { name := "journalMany", fn := fun _ => fun
  | [d1, d2] => { results := [.lit (.bool false)], args := [d1, d2] }
  | _ => none }
def JournalManyWrongFalsely : Prop := journalManyRow.holds Try.pinned (OpenSpec.ofChange journalManyWrong)

/-- 'lockkeeperlaw12.JournalIdle': WHATEVER THE INPUT: true; the input reads as it did. -/
def journalIdleSpec : ChangeSpec := { name := "journalIdle", fn := fun _ => fun
  | [d1, d2, d3] => { results := [.lit (.bool true)], args := [d1, d2, d3] }
  | _ => none }
def journalIdleRow : OpenClaim := { program := "yteghmlafodkfpaa", sum := "25d2bc679fe2e9cab49980e63bd50fda19d43883c10ad78f328d40f9e87fac99", func := "lockkeeper/lockkeeperlaw12.JournalIdle", spec := "journalIdle", inPlace := ["internal/abi.NoEscape", "internal/bytealg.MakeNoZero"], unfollowed := true, recurses := true, apart := false }
def JournalIdleSaid : Prop := journalIdleRow.holds Try.pinned (OpenSpec.ofChange journalIdleSpec)

/-- ITS FALSE NEIGHBOUR: 'it returns false'. Refute it at one input. -/
def journalIdleWrong : ChangeSpec := { name := "journalIdle", fn := fun _ => fun
  | [d1, d2, d3] => { results := [.lit (.bool false)], args := [d1, d2, d3] }
  | _ => none }
def JournalIdleWrongFalsely : Prop := journalIdleRow.holds Try.pinned (OpenSpec.ofChange journalIdleWrong)

/-- 'lockkeeperlaw12.JournalHead': WHATEVER THE INPUT: true; the input reads as it did. -/
def journalHeadSpec : ChangeSpec := { name := "journalHead", fn := fun _ => fun
  | [d1, d2] => { results := [.lit (.bool true)], args := [d1, d2] }
  | _ => none }
def journalHeadRow : OpenClaim := { program := "yteghmlafodkfpaa", sum := "25d2bc679fe2e9cab49980e63bd50fda19d43883c10ad78f328d40f9e87fac99", func := "lockkeeper/lockkeeperlaw12.JournalHead", spec := "journalHead", inPlace := ["internal/abi.NoEscape", "internal/bytealg.MakeNoZero"], unfollowed := true, recurses := true, apart := false }
def JournalHeadSaid : Prop := journalHeadRow.holds Try.pinned (OpenSpec.ofChange journalHeadSpec)

/-- ITS FALSE NEIGHBOUR: 'it returns false'. Refute it at one input. -/
def journalHeadWrong : ChangeSpec := { name := "journalHead", fn := fun _ => fun
  | [d1, d2] => { results := [.lit (.bool false)], args := [d1, d2] }
  | _ => none }
def JournalHeadWrongFalsely : Prop := journalHeadRow.holds Try.pinned (OpenSpec.ofChange journalHeadWrong)

/-- 'lockkeeperlaw12.JournalApart': WHATEVER THE INPUT: true; the input reads as it did. -/
def journalApartSpec : ChangeSpec := { name := "journalApart", fn := fun _ => fun
  | [d1, d2, d3, d4, d5] => { results := [.lit (.bool true)], args := [d1, d2, d3, d4, d5] }
  | _ => none }
def journalApartRow : OpenClaim := { program := "yteghmlafodkfpaa", sum := "25d2bc679fe2e9cab49980e63bd50fda19d43883c10ad78f328d40f9e87fac99", func := "lockkeeper/lockkeeperlaw12.JournalApart", spec := "journalApart", inPlace := ["internal/abi.NoEscape", "internal/bytealg.MakeNoZero"], unfollowed := true, recurses := true, apart := false }
def JournalApartSaid : Prop := journalApartRow.holds Try.pinned (OpenSpec.ofChange journalApartSpec)

/-- ITS FALSE NEIGHBOUR: 'it returns false'. Refute it at one input. -/
def journalApartWrong : ChangeSpec := { name := "journalApart", fn := fun _ => fun
  | [d1, d2, d3, d4, d5] => { results := [.lit (.bool false)], args := [d1, d2, d3, d4, d5] }
  | _ => none }
def JournalApartWrongFalsely : Prop := journalApartRow.holds Try.pinned (OpenSpec.ofChange journalApartWrong)

/- THE SECOND FORM. 'bulk': how many values and letters a reading holds, each counted each time it is reached (what is shared counts as often as it is met; a slice's spare places count too). A statement '..UptoSaid' is the law's where the arguments, and the package variables that the reading takes, are together of bulk at most 1048576: NARROWER than '..Said'. Prove '..Said' where nothing that the law and all that it calls make is longer than what came in: it says more and counts as full. Else prove '..UptoSaid'. A law counts once. -/
mutual
def uptoBulk {H : Type} : DataW H → Nat
  | .lit (.string bytes) => bytes.length + 1
  | .lit _ => 1
  | .nil => 1
  | .ptr d => uptoBulk d + 1
  | .slice elems spare => uptoBulkAll elems + uptoBulkAll spare + 1
  | .agg parts => uptoBulkAll parts + 1
  | .iface _ d => uptoBulk d + 1
  | .map entries => uptoBulkEntries entries + 1
  | .held _ => 1
def uptoBulkAll {H : Type} : List (DataW H) → Nat
  | [] => 0
  | d :: r => uptoBulk d + uptoBulkAll r
def uptoBulkEntries {H : Type} : List (Lit × DataW H) → Nat
  | [] => 0
  | x :: r => uptoBulkEntry x + uptoBulkEntries r
def uptoBulkEntry {H : Type} : Lit × DataW H → Nat
  | (.string bytes, d) => bytes.length + uptoBulk d + 1
  | (_, d) => uptoBulk d + 1
 end
def uptoSmall : (H : Type) → List (DataW H) → Bool := fun _ ds => decide (uptoBulkAll ds ≤ 1048576)
def OpenSpec.upto (s : _root_.Go.ChangeSpec) : _root_.Go.OpenSpec := { _root_.Go.OpenSpec.ofChange s with cond := some uptoSmall }

/-- 'lockkeeperlaw11.AdmitComes', WHERE WHAT IT READS IS OF BULK AT MOST 1048576: true; the input reads as it did. -/
def admitComesUptoRow : OpenClaim := { program := "yteghmlafodkfpaa", sum := "25d2bc679fe2e9cab49980e63bd50fda19d43883c10ad78f328d40f9e87fac99", func := "lockkeeper/lockkeeperlaw11.AdmitComes", spec := "admitComes", unfollowed := true, recurses := true, apart := false, narrowed := true }
def AdmitComesUptoSaid : Prop := admitComesUptoRow.holds Try.pinned (OpenSpec.upto admitComesSpec)

/-- 'lockkeeperlaw11.AdmitPins', WHERE WHAT IT READS IS OF BULK AT MOST 1048576: true; the input reads as it did. -/
def admitPinsUptoRow : OpenClaim := { program := "yteghmlafodkfpaa", sum := "25d2bc679fe2e9cab49980e63bd50fda19d43883c10ad78f328d40f9e87fac99", func := "lockkeeper/lockkeeperlaw11.AdmitPins", spec := "admitPins", unfollowed := true, recurses := true, apart := false, narrowed := true }
def AdmitPinsUptoSaid : Prop := admitPinsUptoRow.holds Try.pinned (OpenSpec.upto admitPinsSpec)

/-- 'lockkeeperlaw11.AdmitSafe', WHERE WHAT IT READS IS OF BULK AT MOST 1048576: true; the input reads as it did. -/
def admitSafeUptoRow : OpenClaim := { program := "yteghmlafodkfpaa", sum := "25d2bc679fe2e9cab49980e63bd50fda19d43883c10ad78f328d40f9e87fac99", func := "lockkeeper/lockkeeperlaw11.AdmitSafe", spec := "admitSafe", unfollowed := true, recurses := true, apart := false, narrowed := true }
def AdmitSafeUptoSaid : Prop := admitSafeUptoRow.holds Try.pinned (OpenSpec.upto admitSafeSpec)

/-- 'lockkeeperlaw11.AdmitEnds', WHERE WHAT IT READS IS OF BULK AT MOST 1048576: true; the input reads as it did. -/
def admitEndsUptoRow : OpenClaim := { program := "yteghmlafodkfpaa", sum := "25d2bc679fe2e9cab49980e63bd50fda19d43883c10ad78f328d40f9e87fac99", func := "lockkeeper/lockkeeperlaw11.AdmitEnds", spec := "admitEnds", unfollowed := true, recurses := true, apart := false, narrowed := true }
def AdmitEndsUptoSaid : Prop := admitEndsUptoRow.holds Try.pinned (OpenSpec.upto admitEndsSpec)

/-- 'lockkeeperlaw11.AdmitBack', WHERE WHAT IT READS IS OF BULK AT MOST 1048576: true; the input reads as it did. -/
def admitBackUptoRow : OpenClaim := { program := "yteghmlafodkfpaa", sum := "25d2bc679fe2e9cab49980e63bd50fda19d43883c10ad78f328d40f9e87fac99", func := "lockkeeper/lockkeeperlaw11.AdmitBack", spec := "admitBack", unfollowed := true, recurses := true, apart := false, narrowed := true }
def AdmitBackUptoSaid : Prop := admitBackUptoRow.holds Try.pinned (OpenSpec.upto admitBackSpec)

/-- 'lockkeeperlaw11.AdmitOnes', WHERE WHAT IT READS IS OF BULK AT MOST 1048576: true; the input reads as it did. -/
def admitOnesUptoRow : OpenClaim := { program := "yteghmlafodkfpaa", sum := "25d2bc679fe2e9cab49980e63bd50fda19d43883c10ad78f328d40f9e87fac99", func := "lockkeeper/lockkeeperlaw11.AdmitOnes", spec := "admitOnes", unfollowed := true, recurses := true, apart := false, narrowed := true }
def AdmitOnesUptoSaid : Prop := admitOnesUptoRow.holds Try.pinned (OpenSpec.upto admitOnesSpec)

/-- 'lockkeeperlaw12.JournalPlans', WHERE WHAT IT READS IS OF BULK AT MOST 1048576: true; the input reads as it did. -/
def journalPlansUptoRow : OpenClaim := { program := "yteghmlafodkfpaa", sum := "25d2bc679fe2e9cab49980e63bd50fda19d43883c10ad78f328d40f9e87fac99", func := "lockkeeper/lockkeeperlaw12.JournalPlans", spec := "journalPlans", inPlace := ["internal/abi.NoEscape", "internal/bytealg.MakeNoZero"], unfollowed := true, recurses := true, apart := false, narrowed := true }
def JournalPlansUptoSaid : Prop := journalPlansUptoRow.holds Try.pinned (OpenSpec.upto journalPlansSpec)

/-- 'lockkeeperlaw12.JournalWhole', WHERE WHAT IT READS IS OF BULK AT MOST 1048576: true; the input reads as it did. -/
def journalWholeUptoRow : OpenClaim := { program := "yteghmlafodkfpaa", sum := "25d2bc679fe2e9cab49980e63bd50fda19d43883c10ad78f328d40f9e87fac99", func := "lockkeeper/lockkeeperlaw12.JournalWhole", spec := "journalWhole", inPlace := ["internal/abi.NoEscape", "internal/bytealg.MakeNoZero"], unfollowed := true, recurses := true, apart := false, narrowed := true }
def JournalWholeUptoSaid : Prop := journalWholeUptoRow.holds Try.pinned (OpenSpec.upto journalWholeSpec)

/-- 'lockkeeperlaw12.JournalMany', WHERE WHAT IT READS IS OF BULK AT MOST 1048576: true; the input reads as it did. -/
def journalManyUptoRow : OpenClaim := { program := "yteghmlafodkfpaa", sum := "25d2bc679fe2e9cab49980e63bd50fda19d43883c10ad78f328d40f9e87fac99", func := "lockkeeper/lockkeeperlaw12.JournalMany", spec := "journalMany", inPlace := ["internal/abi.NoEscape", "internal/bytealg.MakeNoZero"], unfollowed := true, recurses := true, apart := false, narrowed := true }
def JournalManyUptoSaid : Prop := journalManyUptoRow.holds Try.pinned (OpenSpec.upto journalManySpec)

/-- 'lockkeeperlaw12.JournalIdle', WHERE WHAT IT READS IS OF BULK AT MOST 1048576: true; the input reads as it did. -/
def journalIdleUptoRow : OpenClaim := { program := "yteghmlafodkfpaa", sum := "25d2bc679fe2e9cab49980e63bd50fda19d43883c10ad78f328d40f9e87fac99", func := "lockkeeper/lockkeeperlaw12.JournalIdle", spec := "journalIdle", inPlace := ["internal/abi.NoEscape", "internal/bytealg.MakeNoZero"], unfollowed := true, recurses := true, apart := false, narrowed := true }
def JournalIdleUptoSaid : Prop := journalIdleUptoRow.holds Try.pinned (OpenSpec.upto journalIdleSpec)

/-- 'lockkeeperlaw12.JournalHead', WHERE WHAT IT READS IS OF BULK AT MOST 1048576: true; the input reads as it did. -/
def journalHeadUptoRow : OpenClaim := { program := "yteghmlafodkfpaa", sum := "25d2bc679fe2e9cab49980e63bd50fda19d43883c10ad78f328d40f9e87fac99", func := "lockkeeper/lockkeeperlaw12.JournalHead", spec := "journalHead", inPlace := ["internal/abi.NoEscape", "internal/bytealg.MakeNoZero"], unfollowed := true, recurses := true, apart := false, narrowed := true }
def JournalHeadUptoSaid : Prop := journalHeadUptoRow.holds Try.pinned (OpenSpec.upto journalHeadSpec)

/-- 'lockkeeperlaw12.JournalApart', WHERE WHAT IT READS IS OF BULK AT MOST 1048576: true; the input reads as it did. -/
def journalApartUptoRow : OpenClaim := { program := "yteghmlafodkfpaa", sum := "25d2bc679fe2e9cab49980e63bd50fda19d43883c10ad78f328d40f9e87fac99", func := "lockkeeper/lockkeeperlaw12.JournalApart", spec := "journalApart", inPlace := ["internal/abi.NoEscape", "internal/bytealg.MakeNoZero"], unfollowed := true, recurses := true, apart := false, narrowed := true }
def JournalApartUptoSaid : Prop := journalApartUptoRow.holds Try.pinned (OpenSpec.upto journalApartSpec)

end Rows
end Go.Proofs.Yteghmlafodkfpaa
