/-
  No cell of these rows narrows 'for every input' (looked for: loops, veiled, ifaces, maps, wideKeys, modest, calm, conditions, laid).
  DERIVED. THE GIVEN ROWS OF THIS SEAT. 12 by the template 'for every input the law returns true; each argument reads behind the call as it read before'; 0 by the template 'total and deterministic' (their statements: YtphamleejifhoaaTotals.lean).
  GIVEN WITH THE SEED: the statements are not yours to turn. If you find one false, say at which input.
  Laid BY PROGRAM, IN A SANDBOX (cutbox-rows.mjs): the forced cells as the released guide's own fill.sh prints them over the translation b28c7c40c3ba0e1b… (all of the seat's roots in one cut). By AI agents, Wed Nov 11 2026. No macro, syntax, notation, axiom, sorry.
-/
import Derived.Test.YtphamleejifhoaaChecked
import GoSem.Claim
import GoSem.ClaimJoined
import GoSem.ClaimMapViews
import Derived.JoinedTies
import Derived.KernelRfl
namespace Go.Proofs.Ytphamleejifhoaa
/- THE CELL 'sum', in the pinned program and in every row, IS THE sha256 OF THE DUMP (.gsa) THAT YtphamleejifhoaaProg.lean LOADS. Nothing in Lean hashes anything: it is a label: what it is worth is what the hold of that sum in a sandbox is worth. -/
noncomputable def Try.pinned : Pinned := { name := "ytphamleejifhoaa", sum := "b28c7c40c3ba0e1bc073a80e107f01979df06939d639b6a468b73e87dc661941", checked := Try.checked }
namespace Rows
def none {H : Type} : Left H := { results := [], args := [] }

/-- 'lockkeeperlaw13.StoreExact': WHATEVER THE INPUT: true; the input reads as it did. -/
def storeExactSpec : ChangeSpec := { name := "storeExact", fn := fun _ => fun
  | [d1, d2, d3] => { results := [.lit (.bool true)], args := [d1, d2, d3] }
  | _ => none }
def storeExactRow : OpenClaim := { program := "ytphamleejifhoaa", sum := "b28c7c40c3ba0e1bc073a80e107f01979df06939d639b6a468b73e87dc661941", func := "lockkeeper/lockkeeperlaw13.StoreExact", spec := "storeExact", inPlace := ["internal/abi.NoEscape", "internal/bytealg.MakeNoZero"], unfollowed := true, recurses := true, apart := false }
def StoreExactSaid : Prop := storeExactRow.holds Try.pinned (OpenSpec.ofChange storeExactSpec)

/-- ITS FALSE NEIGHBOUR: 'it returns false'. Refute it at one input. -/
def storeExactWrong : ChangeSpec := { name := "storeExact", fn := fun _ => fun
  | [d1, d2, d3] => { results := [.lit (.bool false)], args := [d1, d2, d3] }
  | _ => none }
def StoreExactWrongFalsely : Prop := storeExactRow.holds Try.pinned (OpenSpec.ofChange storeExactWrong)

/-- 'lockkeeperlaw13.StoreLists': WHATEVER THE INPUT: true; the input reads as it did. -/
def storeListsSpec : ChangeSpec := { name := "storeLists", fn := fun _ => fun
  | [d] => { results := [.lit (.bool true)], args := [d] }
  | _ => none }
def storeListsRow : OpenClaim := { program := "ytphamleejifhoaa", sum := "b28c7c40c3ba0e1bc073a80e107f01979df06939d639b6a468b73e87dc661941", func := "lockkeeper/lockkeeperlaw13.StoreLists", spec := "storeLists", inPlace := ["internal/abi.NoEscape", "internal/bytealg.MakeNoZero"], unfollowed := true, recurses := true, apart := false }
def StoreListsSaid : Prop := storeListsRow.holds Try.pinned (OpenSpec.ofChange storeListsSpec)

/-- ITS FALSE NEIGHBOUR: 'it returns false'. Refute it at one input. -/
def storeListsWrong : ChangeSpec := { name := "storeLists", fn := fun _ => fun
  | [d] => { results := [.lit (.bool false)], args := [d] }
  | _ => none }
def StoreListsWrongFalsely : Prop := storeListsRow.holds Try.pinned (OpenSpec.ofChange storeListsWrong)

/-- 'lockkeeperlaw13.StoreKeeps': WHATEVER THE INPUT: true; the input reads as it did. -/
def storeKeepsSpec : ChangeSpec := { name := "storeKeeps", fn := fun _ => fun
  | [d] => { results := [.lit (.bool true)], args := [d] }
  | _ => none }
def storeKeepsRow : OpenClaim := { program := "ytphamleejifhoaa", sum := "b28c7c40c3ba0e1bc073a80e107f01979df06939d639b6a468b73e87dc661941", func := "lockkeeper/lockkeeperlaw13.StoreKeeps", spec := "storeKeeps", inPlace := ["internal/abi.NoEscape", "internal/bytealg.MakeNoZero"], unfollowed := true, recurses := true, apart := false }
def StoreKeepsSaid : Prop := storeKeepsRow.holds Try.pinned (OpenSpec.ofChange storeKeepsSpec)

/-- ITS FALSE NEIGHBOUR: 'it returns false'. Refute it at one input. -/
def storeKeepsWrong : ChangeSpec := { name := "storeKeeps", fn := fun _ => fun
  | [d] => { results := [.lit (.bool false)], args := [d] }
  | _ => none }
def StoreKeepsWrongFalsely : Prop := storeKeepsRow.holds Try.pinned (OpenSpec.ofChange storeKeepsWrong)

/-- 'lockkeeperlaw13.StoreCrash': WHATEVER THE INPUT: true; the input reads as it did. -/
def storeCrashSpec : ChangeSpec := { name := "storeCrash", fn := fun _ => fun
  | [d1, d2, d3, d4] => { results := [.lit (.bool true)], args := [d1, d2, d3, d4] }
  | _ => none }
def storeCrashRow : OpenClaim := { program := "ytphamleejifhoaa", sum := "b28c7c40c3ba0e1bc073a80e107f01979df06939d639b6a468b73e87dc661941", func := "lockkeeper/lockkeeperlaw13.StoreCrash", spec := "storeCrash", inPlace := ["internal/abi.NoEscape", "internal/bytealg.MakeNoZero"], unfollowed := true, recurses := true, apart := false }
def StoreCrashSaid : Prop := storeCrashRow.holds Try.pinned (OpenSpec.ofChange storeCrashSpec)

/-- ITS FALSE NEIGHBOUR: 'it returns false'. Refute it at one input. -/
def storeCrashWrong : ChangeSpec := { name := "storeCrash", fn := fun _ => fun
  | [d1, d2, d3, d4] => { results := [.lit (.bool false)], args := [d1, d2, d3, d4] }
  | _ => none }
def StoreCrashWrongFalsely : Prop := storeCrashRow.holds Try.pinned (OpenSpec.ofChange storeCrashWrong)

/-- 'lockkeeperlaw13.StoreOther': WHATEVER THE INPUT: true; the input reads as it did. -/
def storeOtherSpec : ChangeSpec := { name := "storeOther", fn := fun _ => fun
  | [d1, d2, d3] => { results := [.lit (.bool true)], args := [d1, d2, d3] }
  | _ => none }
def storeOtherRow : OpenClaim := { program := "ytphamleejifhoaa", sum := "b28c7c40c3ba0e1bc073a80e107f01979df06939d639b6a468b73e87dc661941", func := "lockkeeper/lockkeeperlaw13.StoreOther", spec := "storeOther", inPlace := ["internal/abi.NoEscape", "internal/bytealg.MakeNoZero"], unfollowed := true, recurses := true, apart := false }
def StoreOtherSaid : Prop := storeOtherRow.holds Try.pinned (OpenSpec.ofChange storeOtherSpec)

/-- ITS FALSE NEIGHBOUR: 'it returns false'. Refute it at one input. -/
def storeOtherWrong : ChangeSpec := { name := "storeOther", fn := fun _ => fun
  | [d1, d2, d3] => { results := [.lit (.bool false)], args := [d1, d2, d3] }
  | _ => none }
def StoreOtherWrongFalsely : Prop := storeOtherRow.holds Try.pinned (OpenSpec.ofChange storeOtherWrong)

/-- 'lockkeeperlaw13.StoreSame': WHATEVER THE INPUT: true; the input reads as it did. -/
def storeSameSpec : ChangeSpec := { name := "storeSame", fn := fun _ => fun
  | [d] => { results := [.lit (.bool true)], args := [d] }
  | _ => none }
def storeSameRow : OpenClaim := { program := "ytphamleejifhoaa", sum := "b28c7c40c3ba0e1bc073a80e107f01979df06939d639b6a468b73e87dc661941", func := "lockkeeper/lockkeeperlaw13.StoreSame", spec := "storeSame", inPlace := ["internal/abi.NoEscape", "internal/bytealg.MakeNoZero"], unfollowed := true, recurses := true, apart := false }
def StoreSameSaid : Prop := storeSameRow.holds Try.pinned (OpenSpec.ofChange storeSameSpec)

/-- ITS FALSE NEIGHBOUR: 'it returns false'. Refute it at one input. -/
def storeSameWrong : ChangeSpec := { name := "storeSame", fn := fun _ => fun
  | [d] => { results := [.lit (.bool false)], args := [d] }
  | _ => none }
def StoreSameWrongFalsely : Prop := storeSameRow.holds Try.pinned (OpenSpec.ofChange storeSameWrong)

/-- 'lockkeeperlaw14.DirtyExact': WHATEVER THE INPUT: true; the input reads as it did. -/
def dirtyExactSpec : ChangeSpec := { name := "dirtyExact", fn := fun _ => fun
  | [d1, d2, d3] => { results := [.lit (.bool true)], args := [d1, d2, d3] }
  | _ => none }
def dirtyExactRow : OpenClaim := { program := "ytphamleejifhoaa", sum := "b28c7c40c3ba0e1bc073a80e107f01979df06939d639b6a468b73e87dc661941", func := "lockkeeper/lockkeeperlaw14.DirtyExact", spec := "dirtyExact", unfollowed := true, recurses := true, apart := false }
def DirtyExactSaid : Prop := dirtyExactRow.holds Try.pinned (OpenSpec.ofChange dirtyExactSpec)

/-- ITS FALSE NEIGHBOUR: 'it returns false'. Refute it at one input. -/
def dirtyExactWrong : ChangeSpec := { name := "dirtyExact", fn := fun _ => fun
  | [d1, d2, d3] => { results := [.lit (.bool false)], args := [d1, d2, d3] }
  | _ => none }
def DirtyExactWrongFalsely : Prop := dirtyExactRow.holds Try.pinned (OpenSpec.ofChange dirtyExactWrong)

/-- 'lockkeeperlaw14.DirtyDue': WHATEVER THE INPUT: true; the input reads as it did. -/
def dirtyDueSpec : ChangeSpec := { name := "dirtyDue", fn := fun _ => fun
  | [d1, d2, d3, d4] => { results := [.lit (.bool true)], args := [d1, d2, d3, d4] }
  | _ => none }
def dirtyDueRow : OpenClaim := { program := "ytphamleejifhoaa", sum := "b28c7c40c3ba0e1bc073a80e107f01979df06939d639b6a468b73e87dc661941", func := "lockkeeper/lockkeeperlaw14.DirtyDue", spec := "dirtyDue", unfollowed := true, recurses := true, apart := false }
def DirtyDueSaid : Prop := dirtyDueRow.holds Try.pinned (OpenSpec.ofChange dirtyDueSpec)

/-- ITS FALSE NEIGHBOUR: 'it returns false'. Refute it at one input. -/
def dirtyDueWrong : ChangeSpec := { name := "dirtyDue", fn := fun _ => fun
  | [d1, d2, d3, d4] => { results := [.lit (.bool false)], args := [d1, d2, d3, d4] }
  | _ => none }
def DirtyDueWrongFalsely : Prop := dirtyDueRow.holds Try.pinned (OpenSpec.ofChange dirtyDueWrong)

/-- 'lockkeeperlaw14.DirtyFirst': WHATEVER THE INPUT: true; the input reads as it did. -/
def dirtyFirstSpec : ChangeSpec := { name := "dirtyFirst", fn := fun _ => fun
  | [d1, d2] => { results := [.lit (.bool true)], args := [d1, d2] }
  | _ => none }
def dirtyFirstRow : OpenClaim := { program := "ytphamleejifhoaa", sum := "b28c7c40c3ba0e1bc073a80e107f01979df06939d639b6a468b73e87dc661941", func := "lockkeeper/lockkeeperlaw14.DirtyFirst", spec := "dirtyFirst", unfollowed := true, recurses := true, apart := false }
def DirtyFirstSaid : Prop := dirtyFirstRow.holds Try.pinned (OpenSpec.ofChange dirtyFirstSpec)

/-- ITS FALSE NEIGHBOUR: 'it returns false'. Refute it at one input. -/
def dirtyFirstWrong : ChangeSpec := { name := "dirtyFirst", fn := fun _ => fun
  | [d1, d2] => { results := [.lit (.bool false)], args := [d1, d2] }
  | _ => none }
def DirtyFirstWrongFalsely : Prop := dirtyFirstRow.holds Try.pinned (OpenSpec.ofChange dirtyFirstWrong)

/-- 'lockkeeperlaw14.DirtyBack': WHATEVER THE INPUT: true; the input reads as it did. -/
def dirtyBackSpec : ChangeSpec := { name := "dirtyBack", fn := fun _ => fun
  | [d1, d2, d3] => { results := [.lit (.bool true)], args := [d1, d2, d3] }
  | _ => none }
def dirtyBackRow : OpenClaim := { program := "ytphamleejifhoaa", sum := "b28c7c40c3ba0e1bc073a80e107f01979df06939d639b6a468b73e87dc661941", func := "lockkeeper/lockkeeperlaw14.DirtyBack", spec := "dirtyBack", unfollowed := true, recurses := true, apart := false }
def DirtyBackSaid : Prop := dirtyBackRow.holds Try.pinned (OpenSpec.ofChange dirtyBackSpec)

/-- ITS FALSE NEIGHBOUR: 'it returns false'. Refute it at one input. -/
def dirtyBackWrong : ChangeSpec := { name := "dirtyBack", fn := fun _ => fun
  | [d1, d2, d3] => { results := [.lit (.bool false)], args := [d1, d2, d3] }
  | _ => none }
def DirtyBackWrongFalsely : Prop := dirtyBackRow.holds Try.pinned (OpenSpec.ofChange dirtyBackWrong)

/-- 'lockkeeperlaw14.DirtyAll': WHATEVER THE INPUT: true; the input reads as it did. -/
def dirtyAllSpec : ChangeSpec := { name := "dirtyAll", fn := fun _ => fun
  | [d1, d2] => { results := [.lit (.bool true)], args := [d1, d2] }
  | _ => none }
def dirtyAllRow : OpenClaim := { program := "ytphamleejifhoaa", sum := "b28c7c40c3ba0e1bc073a80e107f01979df06939d639b6a468b73e87dc661941", func := "lockkeeper/lockkeeperlaw14.DirtyAll", spec := "dirtyAll", unfollowed := true, recurses := true, apart := false }
def DirtyAllSaid : Prop := dirtyAllRow.holds Try.pinned (OpenSpec.ofChange dirtyAllSpec)

/-- ITS FALSE NEIGHBOUR: 'it returns false'. Refute it at one input. -/
def dirtyAllWrong : ChangeSpec := { name := "dirtyAll", fn := fun _ => fun
  | [d1, d2] => { results := [.lit (.bool false)], args := [d1, d2] }
  | _ => none }
def DirtyAllWrongFalsely : Prop := dirtyAllRow.holds Try.pinned (OpenSpec.ofChange dirtyAllWrong)

/-- 'lockkeeperlaw14.DirtyOld': WHATEVER THE INPUT: true; the input reads as it did. -/
def dirtyOldSpec : ChangeSpec := { name := "dirtyOld", fn := fun _ => fun
  | [d1, d2] => { results := [.lit (.bool true)], args := [d1, d2] }
  | _ => none }
def dirtyOldRow : OpenClaim := { program := "ytphamleejifhoaa", sum := "b28c7c40c3ba0e1bc073a80e107f01979df06939d639b6a468b73e87dc661941", func := "lockkeeper/lockkeeperlaw14.DirtyOld", spec := "dirtyOld", unfollowed := true, recurses := true, apart := false }
def DirtyOldSaid : Prop := dirtyOldRow.holds Try.pinned (OpenSpec.ofChange dirtyOldSpec)

/-- ITS FALSE NEIGHBOUR: 'it returns false'. Refute it at one input. -/
def dirtyOldWrong : ChangeSpec := { name := "dirtyOld", fn := fun _ => fun
  | [d1, d2] => { results := [.lit (.bool false)], args := [d1, d2] }
  | _ => none }
def DirtyOldWrongFalsely : Prop := dirtyOldRow.holds Try.pinned (OpenSpec.ofChange dirtyOldWrong)

/- THE SECOND FORM. 'bulk': how many values and letters a reading holds, each counted each time it is reached (what is shared counts as often as it is met; a slice's spare places count too). A statement '..UptoSaid' is the law's where the arguments, and the package variables that the reading takes, are together of bulk at most 1048576: NARROWER than '..Said'. Prove '..Said' where nothing that the law and all that it calls make is longer than what came in: it says more and counts as full. Else prove '..UptoSaid'. A law counts once. -/
mutual
def uptoBulk {H : Type} : DataW H → Nat
  | .lit (.string bytes) => bytes.length + 1
  | .lit _ => 1
  | .nil => 1
  | .ptr d => uptoBulk d + 1
  | .slice elems spare => uptoBulkAll elems + uptoBulkAll spare + 1
  | .agg parts => uptoBulkAll parts + 1
  | .iface _ d => uptoBulk d + 1
  | .map entries => uptoBulkEntries entries + 1
  | .held _ => 1
def uptoBulkAll {H : Type} : List (DataW H) → Nat
  | [] => 0
  | d :: r => uptoBulk d + uptoBulkAll r
def uptoBulkEntries {H : Type} : List (Lit × DataW H) → Nat
  | [] => 0
  | x :: r => uptoBulkEntry x + uptoBulkEntries r
def uptoBulkEntry {H : Type} : Lit × DataW H → Nat
  | (.string bytes, d) => bytes.length + uptoBulk d + 1
  | (_, d) => uptoBulk d + 1
 end
def uptoSmall : (H : Type) → List (DataW H) → Bool := fun _ ds => decide (uptoBulkAll ds ≤ 1048576)
def OpenSpec.upto (s : _root_.Go.ChangeSpec) : _root_.Go.OpenSpec := { _root_.Go.OpenSpec.ofChange s with cond := some uptoSmall }

/-- 'lockkeeperlaw13.StoreExact', WHERE WHAT IT READS IS OF BULK AT MOST 1048576: true; the input reads as it did. -/
def storeExactUptoRow : OpenClaim := { program := "ytphamleejifhoaa", sum := "b28c7c40c3ba0e1bc073a80e107f01979df06939d639b6a468b73e87dc661941", func := "lockkeeper/lockkeeperlaw13.StoreExact", spec := "storeExact", inPlace := ["internal/abi.NoEscape", "internal/bytealg.MakeNoZero"], unfollowed := true, recurses := true, apart := false, narrowed := true }
def StoreExactUptoSaid : Prop := storeExactUptoRow.holds Try.pinned (OpenSpec.upto storeExactSpec)

/-- 'lockkeeperlaw13.StoreLists', WHERE WHAT IT READS IS OF BULK AT MOST 1048576: true; the input reads as it did. -/
def storeListsUptoRow : OpenClaim := { program := "ytphamleejifhoaa", sum := "b28c7c40c3ba0e1bc073a80e107f01979df06939d639b6a468b73e87dc661941", func := "lockkeeper/lockkeeperlaw13.StoreLists", spec := "storeLists", inPlace := ["internal/abi.NoEscape", "internal/bytealg.MakeNoZero"], unfollowed := true, recurses := true, apart := false, narrowed := true }
def StoreListsUptoSaid : Prop := storeListsUptoRow.holds Try.pinned (OpenSpec.upto storeListsSpec)

/-- 'lockkeeperlaw13.StoreKeeps', WHERE WHAT IT READS IS OF BULK AT MOST 1048576: true; the input reads as it did. -/
def storeKeepsUptoRow : OpenClaim := { program := "ytphamleejifhoaa", sum := "b28c7c40c3ba0e1bc073a80e107f01979df06939d639b6a468b73e87dc661941", func := "lockkeeper/lockkeeperlaw13.StoreKeeps", spec := "storeKeeps", inPlace := ["internal/abi.NoEscape", "internal/bytealg.MakeNoZero"], unfollowed := true, recurses := true, apart := false, narrowed := true }
def StoreKeepsUptoSaid : Prop := storeKeepsUptoRow.holds Try.pinned (OpenSpec.upto storeKeepsSpec)

/-- 'lockkeeperlaw13.StoreCrash', WHERE WHAT IT READS IS OF BULK AT MOST 1048576: true; the input reads as it did. -/
def storeCrashUptoRow : OpenClaim := { program := "ytphamleejifhoaa", sum := "b28c7c40c3ba0e1bc073a80e107f01979df06939d639b6a468b73e87dc661941", func := "lockkeeper/lockkeeperlaw13.StoreCrash", spec := "storeCrash", inPlace := ["internal/abi.NoEscape", "internal/bytealg.MakeNoZero"], unfollowed := true, recurses := true, apart := false, narrowed := true }
def StoreCrashUptoSaid : Prop := storeCrashUptoRow.holds Try.pinned (OpenSpec.upto storeCrashSpec)

/-- 'lockkeeperlaw13.StoreOther', WHERE WHAT IT READS IS OF BULK AT MOST 1048576: true; the input reads as it did. -/
def storeOtherUptoRow : OpenClaim := { program := "ytphamleejifhoaa", sum := "b28c7c40c3ba0e1bc073a80e107f01979df06939d639b6a468b73e87dc661941", func := "lockkeeper/lockkeeperlaw13.StoreOther", spec := "storeOther", inPlace := ["internal/abi.NoEscape", "internal/bytealg.MakeNoZero"], unfollowed := true, recurses := true, apart := false, narrowed := true }
def StoreOtherUptoSaid : Prop := storeOtherUptoRow.holds Try.pinned (OpenSpec.upto storeOtherSpec)

/-- 'lockkeeperlaw13.StoreSame', WHERE WHAT IT READS IS OF BULK AT MOST 1048576: true; the input reads as it did. -/
def storeSameUptoRow : OpenClaim := { program := "ytphamleejifhoaa", sum := "b28c7c40c3ba0e1bc073a80e107f01979df06939d639b6a468b73e87dc661941", func := "lockkeeper/lockkeeperlaw13.StoreSame", spec := "storeSame", inPlace := ["internal/abi.NoEscape", "internal/bytealg.MakeNoZero"], unfollowed := true, recurses := true, apart := false, narrowed := true }
def StoreSameUptoSaid : Prop := storeSameUptoRow.holds Try.pinned (OpenSpec.upto storeSameSpec)

/-- 'lockkeeperlaw14.DirtyExact', WHERE WHAT IT READS IS OF BULK AT MOST 1048576: true; the input reads as it did. -/
def dirtyExactUptoRow : OpenClaim := { program := "ytphamleejifhoaa", sum := "b28c7c40c3ba0e1bc073a80e107f01979df06939d639b6a468b73e87dc661941", func := "lockkeeper/lockkeeperlaw14.DirtyExact", spec := "dirtyExact", unfollowed := true, recurses := true, apart := false, narrowed := true }
def DirtyExactUptoSaid : Prop := dirtyExactUptoRow.holds Try.pinned (OpenSpec.upto dirtyExactSpec)

/-- 'lockkeeperlaw14.DirtyDue', WHERE WHAT IT READS IS OF BULK AT MOST 1048576: true; the input reads as it did. -/
def dirtyDueUptoRow : OpenClaim := { program := "ytphamleejifhoaa", sum := "b28c7c40c3ba0e1bc073a80e107f01979df06939d639b6a468b73e87dc661941", func := "lockkeeper/lockkeeperlaw14.DirtyDue", spec := "dirtyDue", unfollowed := true, recurses := true, apart := false, narrowed := true }
def DirtyDueUptoSaid : Prop := dirtyDueUptoRow.holds Try.pinned (OpenSpec.upto dirtyDueSpec)

/-- 'lockkeeperlaw14.DirtyFirst', WHERE WHAT IT READS IS OF BULK AT MOST 1048576: true; the input reads as it did. -/
def dirtyFirstUptoRow : OpenClaim := { program := "ytphamleejifhoaa", sum := "b28c7c40c3ba0e1bc073a80e107f01979df06939d639b6a468b73e87dc661941", func := "lockkeeper/lockkeeperlaw14.DirtyFirst", spec := "dirtyFirst", unfollowed := true, recurses := true, apart := false, narrowed := true }
def DirtyFirstUptoSaid : Prop := dirtyFirstUptoRow.holds Try.pinned (OpenSpec.upto dirtyFirstSpec)

/-- 'lockkeeperlaw14.DirtyBack', WHERE WHAT IT READS IS OF BULK AT MOST 1048576: true; the input reads as it did. -/
def dirtyBackUptoRow : OpenClaim := { program := "ytphamleejifhoaa", sum := "b28c7c40c3ba0e1bc073a80e107f01979df06939d639b6a468b73e87dc661941", func := "lockkeeper/lockkeeperlaw14.DirtyBack", spec := "dirtyBack", unfollowed := true, recurses := true, apart := false, narrowed := true }
def DirtyBackUptoSaid : Prop := dirtyBackUptoRow.holds Try.pinned (OpenSpec.upto dirtyBackSpec)

/-- 'lockkeeperlaw14.DirtyAll', WHERE WHAT IT READS IS OF BULK AT MOST 1048576: true; the input reads as it did. -/
def dirtyAllUptoRow : OpenClaim := { program := "ytphamleejifhoaa", sum := "b28c7c40c3ba0e1bc073a80e107f01979df06939d639b6a468b73e87dc661941", func := "lockkeeper/lockkeeperlaw14.DirtyAll", spec := "dirtyAll", unfollowed := true, recurses := true, apart := false, narrowed := true }
def DirtyAllUptoSaid : Prop := dirtyAllUptoRow.holds Try.pinned (OpenSpec.upto dirtyAllSpec)

/-- 'lockkeeperlaw14.DirtyOld', WHERE WHAT IT READS IS OF BULK AT MOST 1048576: true; the input reads as it did. -/
def dirtyOldUptoRow : OpenClaim := { program := "ytphamleejifhoaa", sum := "b28c7c40c3ba0e1bc073a80e107f01979df06939d639b6a468b73e87dc661941", func := "lockkeeper/lockkeeperlaw14.DirtyOld", spec := "dirtyOld", unfollowed := true, recurses := true, apart := false, narrowed := true }
def DirtyOldUptoSaid : Prop := dirtyOldUptoRow.holds Try.pinned (OpenSpec.upto dirtyOldSpec)

end Rows
end Go.Proofs.Ytphamleejifhoaa
