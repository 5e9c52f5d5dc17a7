/-
  No cell of these rows narrows 'for every input' (looked for: loops, veiled, ifaces, maps, wideKeys, modest, calm, conditions, laid).
  DERIVED. THE GIVEN ROWS OF THIS SEAT. 12 by the template 'for every input the law returns true; each argument reads behind the call as it read before'; 0 by the template 'total and deterministic' (their statements: YtfmbfgoofiojcaaTotals.lean).
  GIVEN WITH THE SEED: the statements are not yours to turn. If you find one false, say at which input.
  Laid BY PROGRAM, IN A SANDBOX (cutbox-rows.mjs): the forced cells as the released guide's own fill.sh prints them over the translation e4f94dc8d80c54c1… (all of the seat's roots in one cut). By AI agents, Wed Nov 11 2026. No macro, syntax, notation, axiom, sorry.
-/
import Derived.Test.YtfmbfgoofiojcaaChecked
import GoSem.Claim
import GoSem.ClaimJoined
import GoSem.ClaimMapViews
import Derived.JoinedTies
import Derived.KernelRfl
namespace Go.Proofs.Ytfmbfgoofiojcaa
/- THE CELL 'sum', in the pinned program and in every row, IS THE sha256 OF THE DUMP (.gsa) THAT YtfmbfgoofiojcaaProg.lean LOADS. Nothing in Lean hashes anything: it is a label: what it is worth is what the hold of that sum in a sandbox is worth. -/
noncomputable def Try.pinned : Pinned := { name := "ytfmbfgoofiojcaa", sum := "e4f94dc8d80c54c10c21c80528022c237b0f7f224f498f71160e96a274221770", checked := Try.checked }
namespace Rows
def none {H : Type} : Left H := { results := [], args := [] }

/-- 'lockkeeperlaw05.LanesPush': WHATEVER THE INPUT: true; the input reads as it did. -/
def lanesPushSpec : ChangeSpec := { name := "lanesPush", fn := fun _ => fun
  | [d1, d2, d3, d4] => { results := [.lit (.bool true)], args := [d1, d2, d3, d4] }
  | _ => none }
def lanesPushRow : OpenClaim := { program := "ytfmbfgoofiojcaa", sum := "e4f94dc8d80c54c10c21c80528022c237b0f7f224f498f71160e96a274221770", func := "lockkeeper/lockkeeperlaw05.LanesPush", spec := "lanesPush", unfollowed := true, recurses := true, apart := false }
def LanesPushSaid : Prop := lanesPushRow.holds Try.pinned (OpenSpec.ofChange lanesPushSpec)

/-- ITS FALSE NEIGHBOUR: 'it returns false'. Refute it at one input. -/
def lanesPushWrong : ChangeSpec := { name := "lanesPush", fn := fun _ => fun
  | [d1, d2, d3, d4] => { results := [.lit (.bool false)], args := [d1, d2, d3, d4] }
  | _ => none }
def LanesPushWrongFalsely : Prop := lanesPushRow.holds Try.pinned (OpenSpec.ofChange lanesPushWrong)

/-- 'lockkeeperlaw05.LanesFair': WHATEVER THE INPUT: true; the input reads as it did. -/
def lanesFairSpec : ChangeSpec := { name := "lanesFair", fn := fun _ => fun
  | [d1, d2, d3] => { results := [.lit (.bool true)], args := [d1, d2, d3] }
  | _ => none }
def lanesFairRow : OpenClaim := { program := "ytfmbfgoofiojcaa", sum := "e4f94dc8d80c54c10c21c80528022c237b0f7f224f498f71160e96a274221770", func := "lockkeeper/lockkeeperlaw05.LanesFair", spec := "lanesFair", unfollowed := true, recurses := true, apart := false }
def LanesFairSaid : Prop := lanesFairRow.holds Try.pinned (OpenSpec.ofChange lanesFairSpec)

/-- ITS FALSE NEIGHBOUR: 'it returns false'. Refute it at one input. -/
def lanesFairWrong : ChangeSpec := { name := "lanesFair", fn := fun _ => fun
  | [d1, d2, d3] => { results := [.lit (.bool false)], args := [d1, d2, d3] }
  | _ => none }
def LanesFairWrongFalsely : Prop := lanesFairRow.holds Try.pinned (OpenSpec.ofChange lanesFairWrong)

/-- 'lockkeeperlaw05.LanesStretch': WHATEVER THE INPUT: true; the input reads as it did. -/
def lanesStretchSpec : ChangeSpec := { name := "lanesStretch", fn := fun _ => fun
  | [d1, d2, d3, d4] => { results := [.lit (.bool true)], args := [d1, d2, d3, d4] }
  | _ => none }
def lanesStretchRow : OpenClaim := { program := "ytfmbfgoofiojcaa", sum := "e4f94dc8d80c54c10c21c80528022c237b0f7f224f498f71160e96a274221770", func := "lockkeeper/lockkeeperlaw05.LanesStretch", spec := "lanesStretch", unfollowed := true, recurses := true, apart := false }
def LanesStretchSaid : Prop := lanesStretchRow.holds Try.pinned (OpenSpec.ofChange lanesStretchSpec)

/-- ITS FALSE NEIGHBOUR: 'it returns false'. Refute it at one input. -/
def lanesStretchWrong : ChangeSpec := { name := "lanesStretch", fn := fun _ => fun
  | [d1, d2, d3, d4] => { results := [.lit (.bool false)], args := [d1, d2, d3, d4] }
  | _ => none }
def LanesStretchWrongFalsely : Prop := lanesStretchRow.holds Try.pinned (OpenSpec.ofChange lanesStretchWrong)

/-- 'lockkeeperlaw05.LanesAll': WHATEVER THE INPUT: true; the input reads as it did. -/
def lanesAllSpec : ChangeSpec := { name := "lanesAll", fn := fun _ => fun
  | [d1, d2] => { results := [.lit (.bool true)], args := [d1, d2] }
  | _ => none }
def lanesAllRow : OpenClaim := { program := "ytfmbfgoofiojcaa", sum := "e4f94dc8d80c54c10c21c80528022c237b0f7f224f498f71160e96a274221770", func := "lockkeeper/lockkeeperlaw05.LanesAll", spec := "lanesAll", unfollowed := true, recurses := true, apart := false }
def LanesAllSaid : Prop := lanesAllRow.holds Try.pinned (OpenSpec.ofChange lanesAllSpec)

/-- ITS FALSE NEIGHBOUR: 'it returns false'. Refute it at one input. -/
def lanesAllWrong : ChangeSpec := { name := "lanesAll", fn := fun _ => fun
  | [d1, d2] => { results := [.lit (.bool false)], args := [d1, d2] }
  | _ => none }
def LanesAllWrongFalsely : Prop := lanesAllRow.holds Try.pinned (OpenSpec.ofChange lanesAllWrong)

/-- 'lockkeeperlaw05.LanesAlone': WHATEVER THE INPUT: true; the input reads as it did. -/
def lanesAloneSpec : ChangeSpec := { name := "lanesAlone", fn := fun _ => fun
  | [d1, d2, d3] => { results := [.lit (.bool true)], args := [d1, d2, d3] }
  | _ => none }
def lanesAloneRow : OpenClaim := { program := "ytfmbfgoofiojcaa", sum := "e4f94dc8d80c54c10c21c80528022c237b0f7f224f498f71160e96a274221770", func := "lockkeeper/lockkeeperlaw05.LanesAlone", spec := "lanesAlone", unfollowed := true, recurses := true, apart := false }
def LanesAloneSaid : Prop := lanesAloneRow.holds Try.pinned (OpenSpec.ofChange lanesAloneSpec)

/-- ITS FALSE NEIGHBOUR: 'it returns false'. Refute it at one input. -/
def lanesAloneWrong : ChangeSpec := { name := "lanesAlone", fn := fun _ => fun
  | [d1, d2, d3] => { results := [.lit (.bool false)], args := [d1, d2, d3] }
  | _ => none }
def LanesAloneWrongFalsely : Prop := lanesAloneRow.holds Try.pinned (OpenSpec.ofChange lanesAloneWrong)

/-- 'lockkeeperlaw05.LanesEqual': WHATEVER THE INPUT: true; the input reads as it did. -/
def lanesEqualSpec : ChangeSpec := { name := "lanesEqual", fn := fun _ => fun
  | [d1, d2, d3] => { results := [.lit (.bool true)], args := [d1, d2, d3] }
  | _ => none }
def lanesEqualRow : OpenClaim := { program := "ytfmbfgoofiojcaa", sum := "e4f94dc8d80c54c10c21c80528022c237b0f7f224f498f71160e96a274221770", func := "lockkeeper/lockkeeperlaw05.LanesEqual", spec := "lanesEqual", unfollowed := true, recurses := true, apart := false }
def LanesEqualSaid : Prop := lanesEqualRow.holds Try.pinned (OpenSpec.ofChange lanesEqualSpec)

/-- ITS FALSE NEIGHBOUR: 'it returns false'. Refute it at one input. -/
def lanesEqualWrong : ChangeSpec := { name := "lanesEqual", fn := fun _ => fun
  | [d1, d2, d3] => { results := [.lit (.bool false)], args := [d1, d2, d3] }
  | _ => none }
def LanesEqualWrongFalsely : Prop := lanesEqualRow.holds Try.pinned (OpenSpec.ofChange lanesEqualWrong)

/-- 'lockkeeperlaw05.LanesServed': WHATEVER THE INPUT: true; the input reads as it did. -/
def lanesServedSpec : ChangeSpec := { name := "lanesServed", fn := fun _ => fun
  | [d1, d2, d3] => { results := [.lit (.bool true)], args := [d1, d2, d3] }
  | _ => none }
def lanesServedRow : OpenClaim := { program := "ytfmbfgoofiojcaa", sum := "e4f94dc8d80c54c10c21c80528022c237b0f7f224f498f71160e96a274221770", func := "lockkeeper/lockkeeperlaw05.LanesServed", spec := "lanesServed", unfollowed := true, recurses := true, apart := false }
def LanesServedSaid : Prop := lanesServedRow.holds Try.pinned (OpenSpec.ofChange lanesServedSpec)

/-- ITS FALSE NEIGHBOUR: 'it returns false'. Refute it at one input. -/
def lanesServedWrong : ChangeSpec := { name := "lanesServed", fn := fun _ => fun
  | [d1, d2, d3] => { results := [.lit (.bool false)], args := [d1, d2, d3] }
  | _ => none }
def LanesServedWrongFalsely : Prop := lanesServedRow.holds Try.pinned (OpenSpec.ofChange lanesServedWrong)

/-- 'lockkeeperlaw06.SchedActs': WHATEVER THE INPUT: true; the input reads as it did. -/
def schedActsSpec : ChangeSpec := { name := "schedActs", fn := fun _ => fun
  | [d1, d2] => { results := [.lit (.bool true)], args := [d1, d2] }
  | _ => none }
def schedActsRow : OpenClaim := { program := "ytfmbfgoofiojcaa", sum := "e4f94dc8d80c54c10c21c80528022c237b0f7f224f498f71160e96a274221770", func := "lockkeeper/lockkeeperlaw06.SchedActs", spec := "schedActs", inPlace := ["internal/abi.NoEscape", "internal/bytealg.MakeNoZero"], unfollowed := true, recurses := true, apart := false }
def SchedActsSaid : Prop := schedActsRow.holds Try.pinned (OpenSpec.ofChange schedActsSpec)

/-- ITS FALSE NEIGHBOUR: 'it returns false'. Refute it at one input. -/
def schedActsWrong : ChangeSpec := { name := "schedActs", fn := fun _ => fun
  | [d1, d2] => { results := [.lit (.bool false)], args := [d1, d2] }
  | _ => none }
def SchedActsWrongFalsely : Prop := schedActsRow.holds Try.pinned (OpenSpec.ofChange schedActsWrong)

/-- 'lockkeeperlaw06.SchedOnce': WHATEVER THE INPUT: true; the input reads as it did. -/
def schedOnceSpec : ChangeSpec := { name := "schedOnce", fn := fun _ => fun
  | [d] => { results := [.lit (.bool true)], args := [d] }
  | _ => none }
def schedOnceRow : OpenClaim := { program := "ytfmbfgoofiojcaa", sum := "e4f94dc8d80c54c10c21c80528022c237b0f7f224f498f71160e96a274221770", func := "lockkeeper/lockkeeperlaw06.SchedOnce", spec := "schedOnce", inPlace := ["internal/abi.NoEscape", "internal/bytealg.MakeNoZero"], unfollowed := true, recurses := true, apart := false }
def SchedOnceSaid : Prop := schedOnceRow.holds Try.pinned (OpenSpec.ofChange schedOnceSpec)

/-- ITS FALSE NEIGHBOUR: 'it returns false'. Refute it at one input. -/
def schedOnceWrong : ChangeSpec := { name := "schedOnce", fn := fun _ => fun
  | [d] => { results := [.lit (.bool false)], args := [d] }
  | _ => none }
def SchedOnceWrongFalsely : Prop := schedOnceRow.holds Try.pinned (OpenSpec.ofChange schedOnceWrong)

/-- 'lockkeeperlaw06.SchedDrains': WHATEVER THE INPUT: true; the input reads as it did. -/
def schedDrainsSpec : ChangeSpec := { name := "schedDrains", fn := fun _ => fun
  | [d] => { results := [.lit (.bool true)], args := [d] }
  | _ => none }
def schedDrainsRow : OpenClaim := { program := "ytfmbfgoofiojcaa", sum := "e4f94dc8d80c54c10c21c80528022c237b0f7f224f498f71160e96a274221770", func := "lockkeeper/lockkeeperlaw06.SchedDrains", spec := "schedDrains", inPlace := ["internal/abi.NoEscape", "internal/bytealg.MakeNoZero"], unfollowed := true, recurses := true, apart := false }
def SchedDrainsSaid : Prop := schedDrainsRow.holds Try.pinned (OpenSpec.ofChange schedDrainsSpec)

/-- ITS FALSE NEIGHBOUR: 'it returns false'. Refute it at one input. -/
def schedDrainsWrong : ChangeSpec := { name := "schedDrains", fn := fun _ => fun
  | [d] => { results := [.lit (.bool false)], args := [d] }
  | _ => none }
def SchedDrainsWrongFalsely : Prop := schedDrainsRow.holds Try.pinned (OpenSpec.ofChange schedDrainsWrong)

/-- 'lockkeeperlaw06.SchedCrash': WHATEVER THE INPUT: true; the input reads as it did. -/
def schedCrashSpec : ChangeSpec := { name := "schedCrash", fn := fun _ => fun
  | [d1, d2] => { results := [.lit (.bool true)], args := [d1, d2] }
  | _ => none }
def schedCrashRow : OpenClaim := { program := "ytfmbfgoofiojcaa", sum := "e4f94dc8d80c54c10c21c80528022c237b0f7f224f498f71160e96a274221770", func := "lockkeeper/lockkeeperlaw06.SchedCrash", spec := "schedCrash", inPlace := ["internal/abi.NoEscape", "internal/bytealg.MakeNoZero"], unfollowed := true, recurses := true, apart := false }
def SchedCrashSaid : Prop := schedCrashRow.holds Try.pinned (OpenSpec.ofChange schedCrashSpec)

/-- ITS FALSE NEIGHBOUR: 'it returns false'. Refute it at one input. -/
def schedCrashWrong : ChangeSpec := { name := "schedCrash", fn := fun _ => fun
  | [d1, d2] => { results := [.lit (.bool false)], args := [d1, d2] }
  | _ => none }
def SchedCrashWrongFalsely : Prop := schedCrashRow.holds Try.pinned (OpenSpec.ofChange schedCrashWrong)

/-- 'lockkeeperlaw06.SchedFull': WHATEVER THE INPUT: true; the input reads as it did. -/
def schedFullSpec : ChangeSpec := { name := "schedFull", fn := fun _ => fun
  | [d] => { results := [.lit (.bool true)], args := [d] }
  | _ => none }
def schedFullRow : OpenClaim := { program := "ytfmbfgoofiojcaa", sum := "e4f94dc8d80c54c10c21c80528022c237b0f7f224f498f71160e96a274221770", func := "lockkeeper/lockkeeperlaw06.SchedFull", spec := "schedFull", inPlace := ["internal/abi.NoEscape", "internal/bytealg.MakeNoZero"], unfollowed := true, recurses := true, apart := false }
def SchedFullSaid : Prop := schedFullRow.holds Try.pinned (OpenSpec.ofChange schedFullSpec)

/-- ITS FALSE NEIGHBOUR: 'it returns false'. Refute it at one input. -/
def schedFullWrong : ChangeSpec := { name := "schedFull", fn := fun _ => fun
  | [d] => { results := [.lit (.bool false)], args := [d] }
  | _ => none }
def SchedFullWrongFalsely : Prop := schedFullRow.holds Try.pinned (OpenSpec.ofChange schedFullWrong)

/- THE SECOND FORM. 'bulk': how many values and letters a reading holds, each counted each time it is reached (what is shared counts as often as it is met; a slice's spare places count too). A statement '..UptoSaid' is the law's where the arguments, and the package variables that the reading takes, are together of bulk at most 1048576: NARROWER than '..Said'. Prove '..Said' where nothing that the law and all that it calls make is longer than what came in: it says more and counts as full. Else prove '..UptoSaid'. A law counts once. -/
mutual
def uptoBulk {H : Type} : DataW H → Nat
  | .lit (.string bytes) => bytes.length + 1
  | .lit _ => 1
  | .nil => 1
  | .ptr d => uptoBulk d + 1
  | .slice elems spare => uptoBulkAll elems + uptoBulkAll spare + 1
  | .agg parts => uptoBulkAll parts + 1
  | .iface _ d => uptoBulk d + 1
  | .map entries => uptoBulkEntries entries + 1
  | .held _ => 1
def uptoBulkAll {H : Type} : List (DataW H) → Nat
  | [] => 0
  | d :: r => uptoBulk d + uptoBulkAll r
def uptoBulkEntries {H : Type} : List (Lit × DataW H) → Nat
  | [] => 0
  | x :: r => uptoBulkEntry x + uptoBulkEntries r
def uptoBulkEntry {H : Type} : Lit × DataW H → Nat
  | (.string bytes, d) => bytes.length + uptoBulk d + 1
  | (_, d) => uptoBulk d + 1
 end
def uptoSmall : (H : Type) → List (DataW H) → Bool := fun _ ds => decide (uptoBulkAll ds ≤ 1048576)
def OpenSpec.upto (s : _root_.Go.ChangeSpec) : _root_.Go.OpenSpec := { _root_.Go.OpenSpec.ofChange s with cond := some uptoSmall }

/-- 'lockkeeperlaw05.LanesPush', WHERE WHAT IT READS IS OF BULK AT MOST 1048576: true; the input reads as it did. -/
def lanesPushUptoRow : OpenClaim := { program := "ytfmbfgoofiojcaa", sum := "e4f94dc8d80c54c10c21c80528022c237b0f7f224f498f71160e96a274221770", func := "lockkeeper/lockkeeperlaw05.LanesPush", spec := "lanesPush", unfollowed := true, recurses := true, apart := false, narrowed := true }
def LanesPushUptoSaid : Prop := lanesPushUptoRow.holds Try.pinned (OpenSpec.upto lanesPushSpec)

/-- 'lockkeeperlaw05.LanesFair', WHERE WHAT IT READS IS OF BULK AT MOST 1048576: true; the input reads as it did. -/
def lanesFairUptoRow : OpenClaim := { program := "ytfmbfgoofiojcaa", sum := "e4f94dc8d80c54c10c21c80528022c237b0f7f224f498f71160e96a274221770", func := "lockkeeper/lockkeeperlaw05.LanesFair", spec := "lanesFair", unfollowed := true, recurses := true, apart := false, narrowed := true }
def LanesFairUptoSaid : Prop := lanesFairUptoRow.holds Try.pinned (OpenSpec.upto lanesFairSpec)

/-- 'lockkeeperlaw05.LanesStretch', WHERE WHAT IT READS IS OF BULK AT MOST 1048576: true; the input reads as it did. -/
def lanesStretchUptoRow : OpenClaim := { program := "ytfmbfgoofiojcaa", sum := "e4f94dc8d80c54c10c21c80528022c237b0f7f224f498f71160e96a274221770", func := "lockkeeper/lockkeeperlaw05.LanesStretch", spec := "lanesStretch", unfollowed := true, recurses := true, apart := false, narrowed := true }
def LanesStretchUptoSaid : Prop := lanesStretchUptoRow.holds Try.pinned (OpenSpec.upto lanesStretchSpec)

/-- 'lockkeeperlaw05.LanesAll', WHERE WHAT IT READS IS OF BULK AT MOST 1048576: true; the input reads as it did. -/
def lanesAllUptoRow : OpenClaim := { program := "ytfmbfgoofiojcaa", sum := "e4f94dc8d80c54c10c21c80528022c237b0f7f224f498f71160e96a274221770", func := "lockkeeper/lockkeeperlaw05.LanesAll", spec := "lanesAll", unfollowed := true, recurses := true, apart := false, narrowed := true }
def LanesAllUptoSaid : Prop := lanesAllUptoRow.holds Try.pinned (OpenSpec.upto lanesAllSpec)

/-- 'lockkeeperlaw05.LanesAlone', WHERE WHAT IT READS IS OF BULK AT MOST 1048576: true; the input reads as it did. -/
def lanesAloneUptoRow : OpenClaim := { program := "ytfmbfgoofiojcaa", sum := "e4f94dc8d80c54c10c21c80528022c237b0f7f224f498f71160e96a274221770", func := "lockkeeper/lockkeeperlaw05.LanesAlone", spec := "lanesAlone", unfollowed := true, recurses := true, apart := false, narrowed := true }
def LanesAloneUptoSaid : Prop := lanesAloneUptoRow.holds Try.pinned (OpenSpec.upto lanesAloneSpec)

/-- 'lockkeeperlaw05.LanesEqual', WHERE WHAT IT READS IS OF BULK AT MOST 1048576: true; the input reads as it did. -/
def lanesEqualUptoRow : OpenClaim := { program := "ytfmbfgoofiojcaa", sum := "e4f94dc8d80c54c10c21c80528022c237b0f7f224f498f71160e96a274221770", func := "lockkeeper/lockkeeperlaw05.LanesEqual", spec := "lanesEqual", unfollowed := true, recurses := true, apart := false, narrowed := true }
def LanesEqualUptoSaid : Prop := lanesEqualUptoRow.holds Try.pinned (OpenSpec.upto lanesEqualSpec)

/-- 'lockkeeperlaw05.LanesServed', WHERE WHAT IT READS IS OF BULK AT MOST 1048576: true; the input reads as it did. -/
def lanesServedUptoRow : OpenClaim := { program := "ytfmbfgoofiojcaa", sum := "e4f94dc8d80c54c10c21c80528022c237b0f7f224f498f71160e96a274221770", func := "lockkeeper/lockkeeperlaw05.LanesServed", spec := "lanesServed", unfollowed := true, recurses := true, apart := false, narrowed := true }
def LanesServedUptoSaid : Prop := lanesServedUptoRow.holds Try.pinned (OpenSpec.upto lanesServedSpec)

/-- 'lockkeeperlaw06.SchedActs', WHERE WHAT IT READS IS OF BULK AT MOST 1048576: true; the input reads as it did. -/
def schedActsUptoRow : OpenClaim := { program := "ytfmbfgoofiojcaa", sum := "e4f94dc8d80c54c10c21c80528022c237b0f7f224f498f71160e96a274221770", func := "lockkeeper/lockkeeperlaw06.SchedActs", spec := "schedActs", inPlace := ["internal/abi.NoEscape", "internal/bytealg.MakeNoZero"], unfollowed := true, recurses := true, apart := false, narrowed := true }
def SchedActsUptoSaid : Prop := schedActsUptoRow.holds Try.pinned (OpenSpec.upto schedActsSpec)

/-- 'lockkeeperlaw06.SchedOnce', WHERE WHAT IT READS IS OF BULK AT MOST 1048576: true; the input reads as it did. -/
def schedOnceUptoRow : OpenClaim := { program := "ytfmbfgoofiojcaa", sum := "e4f94dc8d80c54c10c21c80528022c237b0f7f224f498f71160e96a274221770", func := "lockkeeper/lockkeeperlaw06.SchedOnce", spec := "schedOnce", inPlace := ["internal/abi.NoEscape", "internal/bytealg.MakeNoZero"], unfollowed := true, recurses := true, apart := false, narrowed := true }
def SchedOnceUptoSaid : Prop := schedOnceUptoRow.holds Try.pinned (OpenSpec.upto schedOnceSpec)

/-- 'lockkeeperlaw06.SchedDrains', WHERE WHAT IT READS IS OF BULK AT MOST 1048576: true; the input reads as it did. -/
def schedDrainsUptoRow : OpenClaim := { program := "ytfmbfgoofiojcaa", sum := "e4f94dc8d80c54c10c21c80528022c237b0f7f224f498f71160e96a274221770", func := "lockkeeper/lockkeeperlaw06.SchedDrains", spec := "schedDrains", inPlace := ["internal/abi.NoEscape", "internal/bytealg.MakeNoZero"], unfollowed := true, recurses := true, apart := false, narrowed := true }
def SchedDrainsUptoSaid : Prop := schedDrainsUptoRow.holds Try.pinned (OpenSpec.upto schedDrainsSpec)

/-- 'lockkeeperlaw06.SchedCrash', WHERE WHAT IT READS IS OF BULK AT MOST 1048576: true; the input reads as it did. -/
def schedCrashUptoRow : OpenClaim := { program := "ytfmbfgoofiojcaa", sum := "e4f94dc8d80c54c10c21c80528022c237b0f7f224f498f71160e96a274221770", func := "lockkeeper/lockkeeperlaw06.SchedCrash", spec := "schedCrash", inPlace := ["internal/abi.NoEscape", "internal/bytealg.MakeNoZero"], unfollowed := true, recurses := true, apart := false, narrowed := true }
def SchedCrashUptoSaid : Prop := schedCrashUptoRow.holds Try.pinned (OpenSpec.upto schedCrashSpec)

/-- 'lockkeeperlaw06.SchedFull', WHERE WHAT IT READS IS OF BULK AT MOST 1048576: true; the input reads as it did. -/
def schedFullUptoRow : OpenClaim := { program := "ytfmbfgoofiojcaa", sum := "e4f94dc8d80c54c10c21c80528022c237b0f7f224f498f71160e96a274221770", func := "lockkeeper/lockkeeperlaw06.SchedFull", spec := "schedFull", inPlace := ["internal/abi.NoEscape", "internal/bytealg.MakeNoZero"], unfollowed := true, recurses := true, apart := false, narrowed := true }
def SchedFullUptoSaid : Prop := schedFullUptoRow.holds Try.pinned (OpenSpec.upto schedFullSpec)

end Rows
end Go.Proofs.Ytfmbfgoofiojcaa
