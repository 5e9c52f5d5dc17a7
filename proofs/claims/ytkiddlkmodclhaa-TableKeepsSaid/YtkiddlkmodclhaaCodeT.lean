/- THE PROGRAM's functions, as the abstract machine's code (printed by wip/tools/code.py out of the translation). No condition. -/
import Derived.Test.YtkiddlkmodclhaaAm22
import Derived.Test.YtkiddlkmodclhaaProg
import Derived.KernelRfl
namespace Go.Proofs.Ytkiddlkmodclhaa
set_option maxRecDepth 100000
/- lockkeeper/lockkeeperlaw07.TablePages -/
def ac3 : ACode := (.seq (.reg [⟨(some 1), 1, (.box 24 1 (.t 0)), none, []⟩,
    ⟨(some 2), 2, (.mv (.k (.c (.s (.pv (.bool false)))))), none, []⟩])
  (.seq (.reg [⟨(some 12), 12, (.load true 1 (.t 1)), none, []⟩,
    ⟨(some 13), 13, (.call 13 [(.t 12)]), none, [0]⟩,
    ⟨(some 11), 11, (.mv (.t 13)), none, [1]⟩,
    ⟨(some 14), 14, (.ext 0 (.t 11)), none, [2]⟩,
    ⟨(some 15), 15, (.ext 1 (.t 11)), none, [2]⟩,
    ⟨(some 3), 3, (.mk 27 1 [[.zc]]), none, []⟩,
    ⟨none, 81, (.store 1 (.t 3) (.t 14)), none, [5, 3, 1, 0, 1, 2, 3, 5]⟩,
    ⟨(some 4), 4, (.mv (.t 15)), none, [4, 6, 0, 1, 2, 3, 4, 5, 6]⟩])
  (.seq (.seq (.reg [⟨(some 16), 16, (.mv (.t 4)), none, []⟩,
    ⟨(some 17), 17, (.not (.t 16)), none, [0]⟩])
  (.cond (.t 17) (.seq (.reg [⟨(some 18), 18, (.call 14 []), none, []⟩,
    ⟨(some 2), 2, (.mv (.t 18)), none, [0, 0, 0]⟩])
  .ret) .skip))
  (.seq (.reg [⟨(some 19), 19, (.load true 1 (.t 1)), none, []⟩,
    ⟨(some 20), 20, (.call 15 [(.t 19)]), none, [0]⟩,
    ⟨(some 5), 5, (.mv (.t 20)), none, [1, 1, 0, 1]⟩])
  (.seq (.seq (.reg [⟨(some 21), 21, (.load true 1 (.t 3)), none, []⟩,
    ⟨(some 22), 22, (.call 16 [(.t 21)]), none, [0]⟩,
    ⟨(some 23), 23, (.not (.t 22)), none, [1]⟩])
  (.cond (.t 23) (.seq (.reg [⟨(some 24), 24, (.mv (.t 5)), none, []⟩,
    ⟨(some 25), 25, (.len (.t 24)), none, [0]⟩,
    ⟨(some 26), 26, (.bin false .eql (.t 25) (.k (.c (.s (.pv (.int .i64 0)))))), none, [1]⟩,
    ⟨(some 27), 27, (.mv (.t 26)), none, [2]⟩,
    ⟨(some 28), 28, (.call 14 []), (some (27, true)), [3, 3]⟩,
    ⟨(some 29), 29, (.pick (.t 27) (.t 28) (.k (.c (.s (.pv (.bool false)))))), none, [3, 4]⟩,
    ⟨(some 2), 2, (.mv (.t 29)), none, [5, 4, 0, 1, 2, 3, 4, 5]⟩])
  .ret) .skip))
  (.seq (.reg [⟨(some 6), 6, (.mv (.k (.c (.s (.pv (.int .i64 0)))))), none, []⟩])
  (.seq (.seq (.reg [⟨(some 30), 30, (.fld 0 (.t 3)), none, []⟩,
    ⟨(some 31), 31, (.load false 1 (.t 30)), none, [0]⟩,
    ⟨(some 32), 32, (.len (.t 31)), none, [1]⟩,
    ⟨(some 33), 33, (.mv (.k (.c (.s (.pv (.int .i64 0)))))), none, []⟩])
  (.block 0 (.loop (.seq (.reg [⟨(some 34), 34, (.bin false .lss (.t 33) (.t 32)), none, []⟩])
  (.seq (.cond (.t 34) .skip (.exit 0))
  (.seq (.block 1 (.seq (.reg [⟨(some 35), 35, (.idx 2 (.t 31) (.t 33)), none, []⟩,
    ⟨(some 36), 36, (.load true 2 (.t 35)), none, [0]⟩,
    ⟨(some 8), 8, (.mk 35 2 [[(.s (.pv (.int .i64 0))), (.s (.pv (.int .i64 0)))]]), none, []⟩,
    ⟨none, 78, (.store 2 (.t 8) (.t 36)), none, [2, 1, 0, 1, 2]⟩])
  (.seq (.reg [⟨(some 37), 37, (.fld 0 (.t 8)), none, []⟩,
    ⟨(some 38), 38, (.load false 1 (.t 37)), none, [0]⟩,
    ⟨(some 39), 39, (.bin false .neq (.t 38) (.k (.c (.s (.pv (.int .i64 0)))))), none, [1]⟩])
  (.cond (.t 39) (.reg [⟨(some 40), 40, (.mv (.t 6)), none, []⟩,
    ⟨(some 41), 41, (.bin false .add (.t 40) (.k (.c (.s (.pv (.int .i64 1)))))), none, [0]⟩,
    ⟨(some 6), 6, (.mv (.t 41)), none, [1, 0, 1]⟩]) .skip))))
  (.reg [⟨(some 42), 42, (.bin false .add (.t 33) (.k (.c (.s (.pv (.int .i64 1)))))), none, []⟩,
    ⟨(some 33), 33, (.mv (.t 42)), none, [0]⟩])))))))
  (.seq (.seq (.reg [⟨(some 43), 43, (.mv (.t 5)), none, []⟩,
    ⟨(some 44), 44, (.len (.t 43)), none, [0]⟩,
    ⟨(some 45), 45, (.mv (.k (.c (.s (.pv (.int .i64 0)))))), none, []⟩])
  (.block 2 (.loop (.seq (.reg [⟨(some 46), 46, (.bin false .lss (.t 45) (.t 44)), none, []⟩])
  (.seq (.cond (.t 46) .skip (.exit 2))
  (.seq (.block 3 (.seq (.reg [⟨(some 47), 47, (.mv (.t 45)), none, []⟩,
    ⟨(some 48), 48, (.idx 1 (.t 43) (.t 45)), none, []⟩,
    ⟨(some 49), 49, (.load false 1 (.t 48)), none, [1]⟩,
    ⟨(some 9), 9, (.mv (.t 47)), none, [0, 0, 1, 2]⟩,
    ⟨(some 10), 10, (.mv (.t 49)), none, [2, 3, 0, 1, 2, 3]⟩])
  (.seq (.reg [⟨(some 50), 50, (.load true 1 (.t 3)), none, []⟩,
    ⟨(some 51), 51, (.mv (.t 10)), none, []⟩,
    ⟨(some 52), 52, (.call 17 [(.t 50), (.t 51)]), none, [0, 1]⟩,
    ⟨(some 53), 53, (.bin false .lss (.t 52) (.k (.c (.s (.pv (.int .i64 0)))))), none, [2]⟩,
    ⟨(some 54), 54, (.mv (.t 53)), none, [3, 2]⟩,
    ⟨(some 55), 55, (.mv (.t 9)), (some (54, false)), [4]⟩,
    ⟨(some 56), 56, (.bin false .gtr (.t 55) (.k (.c (.s (.pv (.int .i64 0)))))), (some (54, false)), [5, 4]⟩,
    ⟨(some 57), 57, (.mv (.t 56)), (some (54, false)), [6, 4, 4]⟩,
    ⟨(some 58), 58, (.mv (.t 5)), (some (57, true)), [7]⟩,
    ⟨(some 59), 59, (.mv (.t 9)), (some (57, true)), [7]⟩,
    ⟨(some 60), 60, (.bin false .sub (.t 59) (.k (.c (.s (.pv (.int .i64 1)))))), (some (57, true)), [9, 7]⟩,
    ⟨(some 61), 61, (.idx 1 (.t 58) (.t 60)), (some (57, true)), [8, 10, 7]⟩,
    ⟨(some 62), 62, (.load false 1 (.t 61)), (some (57, true)), [11, 7]⟩,
    ⟨(some 63), 63, (.mv (.t 10)), (some (57, true)), [7]⟩,
    ⟨(some 64), 64, (.bin false .geq (.t 62) (.t 63)), (some (57, true)), [12, 13, 7]⟩,
    ⟨(some 65), 65, (.pick (.t 57) (.t 64) (.k (.c (.s (.pv (.bool false)))))), (some (54, false)), [7, 14, 4]⟩,
    ⟨(some 66), 66, (.pick (.t 54) (.k (.c (.s (.pv (.bool true))))) (.t 65)), none, [4, 15]⟩])
  (.cond (.t 66) (.seq (.reg [⟨(some 2), 2, (.mv (.k (.c (.s (.pv (.bool false)))))), none, []⟩])
  .ret) .skip))))
  (.reg [⟨(some 67), 67, (.bin false .add (.t 45) (.k (.c (.s (.pv (.int .i64 1)))))), none, []⟩,
    ⟨(some 45), 45, (.mv (.t 67)), none, [0]⟩])))))))
  (.seq (.reg [⟨(some 68), 68, (.mv (.t 5)), none, []⟩,
    ⟨(some 69), 69, (.len (.t 68)), none, [0]⟩,
    ⟨(some 70), 70, (.mv (.t 6)), none, []⟩,
    ⟨(some 71), 71, (.bin false .eql (.t 69) (.t 70)), none, [1, 2]⟩,
    ⟨(some 72), 72, (.mv (.t 71)), none, [3]⟩,
    ⟨(some 73), 73, (.call 14 []), (some (72, true)), [4, 4]⟩,
    ⟨(some 74), 74, (.pick (.t 72) (.t 73) (.k (.c (.s (.pv (.bool false)))))), none, [4, 5]⟩,
    ⟨(some 2), 2, (.mv (.t 74)), none, [6, 5, 0, 1, 2, 3, 4, 5, 6]⟩])
  .ret)))))))))
theorem fn3 : FnIs Try.prog 3 ac3 [(.t 2)] 75 := ⟨Try.f3, Try.func3, by kernel_rfl, by kernel_rfl, by kernel_rfl⟩
/- lockkeeper/lockkeeperlaw07.TableKeeps -/
def ac4 : ACode := (.seq (.reg [⟨(some 2), 2, (.mv (.k (.c (.s (.pv (.bool false)))))), none, []⟩])
  (.seq (.reg [⟨(some 16), 16, (.call 18 []), none, []⟩,
    ⟨(some 3), 3, (.mk 24 1 [[.zc]]), none, []⟩,
    ⟨none, 128, (.store 1 (.t 3) (.t 16)), none, [1, 0, 0, 0, 1]⟩])
  (.seq (.reg [⟨(some 4), 4, (.mk 40 1 [[(.s (.pv (.int .i64 0)))], [(.s (.pv (.int .i64 0)))], [(.s (.pv (.int .i64 0)))], [(.s (.pv (.int .i64 0)))], [(.s (.pv (.int .i64 0)))], [(.s (.pv (.int .i64 0)))], [(.s (.pv (.int .i64 0)))], [(.s (.pv (.int .i64 0)))], [(.s (.pv (.int .i64 0)))], [(.s (.pv (.int .i64 0)))], [(.s (.pv (.int .i64 0)))], [(.s (.pv (.int .i64 0)))], [(.s (.pv (.int .i64 0)))], [(.s (.pv (.int .i64 0)))], [(.s (.pv (.int .i64 0)))], [(.s (.pv (.int .i64 0)))], [(.s (.pv (.int .i64 0)))], [(.s (.pv (.int .i64 0)))], [(.s (.pv (.int .i64 0)))], [(.s (.pv (.int .i64 0)))], [(.s (.pv (.int .i64 0)))], [(.s (.pv (.int .i64 0)))], [(.s (.pv (.int .i64 0)))], [(.s (.pv (.int .i64 0)))], [(.s (.pv (.int .i64 0)))], [(.s (.pv (.int .i64 0)))], [(.s (.pv (.int .i64 0)))], [(.s (.pv (.int .i64 0)))], [(.s (.pv (.int .i64 0)))], [(.s (.pv (.int .i64 0)))], [(.s (.pv (.int .i64 0)))], [(.s (.pv (.int .i64 0)))], [(.s (.pv (.int .i64 0)))], [(.s (.pv (.int .i64 0)))], [(.s (.pv (.int .i64 0)))], [(.s (.pv (.int .i64 0)))], [(.s (.pv (.int .i64 0)))], [(.s (.pv (.int .i64 0)))], [(.s (.pv (.int .i64 0)))], [(.s (.pv (.int .i64 0)))], [(.s (.pv (.int .i64 0)))], [(.s (.pv (.int .i64 0)))], [(.s (.pv (.int .i64 0)))], [(.s (.pv (.int .i64 0)))], [(.s (.pv (.int .i64 0)))], [(.s (.pv (.int .i64 0)))], [(.s (.pv (.int .i64 0)))], [(.s (.pv (.int .i64 0)))], [(.s (.pv (.int .i64 0)))], [(.s (.pv (.int .i64 0)))], [(.s (.pv (.int .i64 0)))], [(.s (.pv (.int .i64 0)))], [(.s (.pv (.int .i64 0)))], [(.s (.pv (.int .i64 0)))], [(.s (.pv (.int .i64 0)))], [(.s (.pv (.int .i64 0)))], [(.s (.pv (.int .i64 0)))], [(.s (.pv (.int .i64 0)))], [(.s (.pv (.int .i64 0)))], [(.s (.pv (.int .i64 0)))], [(.s (.pv (.int .i64 0)))], [(.s (.pv (.int .i64 0)))], [(.s (.pv (.int .i64 0)))], [(.s (.pv (.int .i64 0)))], [(.s (.pv (.int .i64 0)))]]), none, []⟩])
  (.seq (.reg [⟨(some 5), 5, (.mv (.k (.c (.s (.pv (.int .i64 0)))))), none, []⟩])
  (.seq (.seq (.reg [⟨(some 6), 6, (.mv (.k (.c (.s (.pv (.int .i64 0)))))), none, []⟩])
  (.block 0 (.loop (.seq (.seq (.reg [⟨(some 17), 17, (.mv (.t 6)), none, []⟩,
    ⟨(some 18), 18, (.mv (.t 0)), none, []⟩,
    ⟨(some 19), 19, (.len (.t 18)), none, [1]⟩,
    ⟨(some 20), 20, (.bin false .lss (.t 17) (.t 19)), none, [0, 2]⟩,
    ⟨(some 21), 21, (.mv (.t 20)), none, [3]⟩,
    ⟨(some 22), 22, (.mv (.t 6)), (some (21, true)), [4]⟩,
    ⟨(some 23), 23, (.bin false .lss (.t 22) (.k (.c (.s (.pv (.int .i64 100)))))), (some (21, true)), [5, 4]⟩,
    ⟨(some 24), 24, (.pick (.t 21) (.t 23) (.k (.c (.s (.pv (.bool false)))))), none, [4, 6]⟩])
  (.cond (.t 24) .skip (.exit 0)))
  (.seq (.block 1 (.seq (.reg [⟨(some 27), 27, (.mv (.t 0)), none, []⟩,
    ⟨(some 28), 28, (.mv (.t 6)), none, []⟩,
    ⟨(some 29), 29, (.idx 2 (.t 27) (.t 28)), none, [0, 1]⟩,
    ⟨(some 30), 30, (.aidx 2 1 (.t 29) (.k (.c (.s (.pv (.int .i64 0)))))), none, [2]⟩,
    ⟨(some 31), 31, (.load false 1 (.t 30)), none, [3]⟩,
    ⟨(some 32), 32, (.bin false .rem (.t 31) (.k (.c (.s (.pv (.int .u8 64)))))), none, [4]⟩,
    ⟨(some 33), 33, (.conv .i64 (.t 32)), none, [5]⟩,
    ⟨(some 34), 34, (.bin false .add (.k (.c (.s (.pv (.int .i64 1))))) (.t 33)), none, [6]⟩,
    ⟨(some 7), 7, (.mv (.t 34)), none, [7, 0, 1, 2, 3, 4, 5, 6, 7]⟩])
  (.seq (.seq (.reg [⟨(some 35), 35, (.mv (.t 0)), none, []⟩,
    ⟨(some 36), 36, (.mv (.t 6)), none, []⟩,
    ⟨(some 37), 37, (.idx 2 (.t 35) (.t 36)), none, [0, 1]⟩,
    ⟨(some 38), 38, (.aidx 2 1 (.t 37) (.k (.c (.s (.pv (.int .i64 1)))))), none, [2]⟩,
    ⟨(some 39), 39, (.load false 1 (.t 38)), none, [3]⟩,
    ⟨(some 40), 40, (.bin false .rem (.t 39) (.k (.c (.s (.pv (.int .u8 3)))))), none, [4]⟩,
    ⟨(some 41), 41, (.bin false .gtr (.t 40) (.k (.c (.s (.pv (.int .u8 0)))))), none, [5]⟩])
  (.cond (.t 41) (.seq (.reg [⟨(some 43), 43, (.load true 1 (.t 3)), none, []⟩,
    ⟨(some 44), 44, (.mv (.t 7)), none, []⟩,
    ⟨(some 45), 45, (.mv (.t 6)), none, []⟩,
    ⟨(some 46), 46, (.bin false .add (.t 45) (.k (.c (.s (.pv (.int .i64 1)))))), none, [2]⟩,
    ⟨(some 47), 47, (.call 19 [(.t 43), (.t 44), (.t 46)]), none, [0, 1, 3]⟩,
    ⟨(some 42), 42, (.mv (.t 47)), none, [4]⟩,
    ⟨(some 48), 48, (.ext 0 (.t 42)), none, [5]⟩,
    ⟨(some 49), 49, (.ext 1 (.t 42)), none, [5]⟩,
    ⟨(some 8), 8, (.mk 24 1 [[.zc]]), none, []⟩,
    ⟨none, 135, (.store 1 (.t 8) (.t 48)), none, [8, 6, 4, 0, 1, 2, 3, 4, 5, 6, 8]⟩,
    ⟨(some 9), 9, (.mv (.t 49)), none, [7, 9, 0, 1, 2, 3, 4, 5, 6, 7, 8, 9]⟩])
  (.seq (.reg [⟨(some 50), 50, (.mv (.t 7)), none, []⟩,
    ⟨(some 51), 51, (.aidx 65 1 (.t 4) (.t 50)), none, [0]⟩,
    ⟨(some 52), 52, (.load false 1 (.t 51)), none, [1]⟩,
    ⟨(some 53), 53, (.bin false .eql (.t 52) (.k (.c (.s (.pv (.int .i64 0)))))), none, [2]⟩,
    ⟨(some 54), 54, (.mv (.t 53)), none, [3]⟩,
    ⟨(some 55), 55, (.mv (.t 5)), (some (54, true)), [4]⟩,
    ⟨(some 56), 56, (.bin false .lss (.t 55) (.k (.c (.s (.pv (.int .i64 16)))))), (some (54, true)), [5, 4]⟩,
    ⟨(some 57), 57, (.pick (.t 54) (.t 56) (.k (.c (.s (.pv (.bool false)))))), none, [4, 6]⟩,
    ⟨(some 10), 10, (.mv (.t 57)), none, [7, 4, 0, 1, 2, 3, 4, 5, 6, 7]⟩])
  (.seq (.seq (.reg [⟨(some 58), 58, (.mv (.t 9)), none, []⟩,
    ⟨(some 59), 59, (.bin false .eql (.t 58) (.k (.c (.s (.pv (.int .i64 0)))))), none, [0]⟩,
    ⟨(some 60), 60, (.mv (.t 10)), none, []⟩,
    ⟨(some 61), 61, (.bin true .neq (.t 59) (.t 60)), none, [1, 2]⟩])
  (.cond (.t 61) (.seq (.reg [⟨(some 2), 2, (.mv (.k (.c (.s (.pv (.bool false)))))), none, []⟩])
  .ret) .skip))
  (.seq (.seq (.reg [⟨(some 62), 62, (.mv (.t 10)), none, []⟩])
  (.cond (.t 62) (.seq (.reg [⟨(some 63), 63, (.mv (.t 7)), none, []⟩,
    ⟨(some 64), 64, (.mv (.t 6)), none, []⟩,
    ⟨(some 65), 65, (.bin false .add (.t 64) (.k (.c (.s (.pv (.int .i64 1)))))), none, [1]⟩,
    ⟨(some 66), 66, (.aidx 65 1 (.t 4) (.t 63)), none, [0, 0, 1, 2]⟩,
    ⟨none, 130, (.store 1 (.t 66) (.t 65)), none, [3, 2, 0, 1, 2]⟩])
  (.reg [⟨(some 67), 67, (.mv (.t 5)), none, []⟩,
    ⟨(some 68), 68, (.bin false .add (.t 67) (.k (.c (.s (.pv (.int .i64 1)))))), none, [0]⟩,
    ⟨(some 5), 5, (.mv (.t 68)), none, [1, 0, 1]⟩])) .skip))
  (.reg [⟨(some 69), 69, (.load true 1 (.t 8)), none, []⟩,
    ⟨none, 127, (.store 1 (.t 3) (.t 69)), none, [0, 0]⟩]))))) (.seq (.reg [⟨(some 71), 71, (.load true 1 (.t 3)), none, []⟩,
    ⟨(some 72), 72, (.mv (.t 7)), none, []⟩,
    ⟨(some 73), 73, (.call 20 [(.t 71), (.t 72)]), none, [0, 1]⟩,
    ⟨(some 70), 70, (.mv (.t 73)), none, [2]⟩,
    ⟨(some 74), 74, (.ext 0 (.t 70)), none, [3]⟩,
    ⟨(some 75), 75, (.ext 1 (.t 70)), none, [3]⟩,
    ⟨(some 11), 11, (.mk 24 1 [[.zc]]), none, []⟩,
    ⟨none, 133, (.store 1 (.t 11) (.t 74)), none, [6, 4, 2, 0, 1, 2, 3, 4, 6]⟩,
    ⟨(some 12), 12, (.mv (.t 75)), none, [5, 7, 0, 1, 2, 3, 4, 5, 6, 7]⟩])
  (.seq (.seq (.reg [⟨(some 76), 76, (.mv (.t 12)), none, []⟩,
    ⟨(some 77), 77, (.bin false .eql (.t 76) (.k (.c (.s (.pv (.int .i64 0)))))), none, [0]⟩,
    ⟨(some 78), 78, (.mv (.t 7)), none, []⟩,
    ⟨(some 79), 79, (.aidx 65 1 (.t 4) (.t 78)), none, [2]⟩,
    ⟨(some 80), 80, (.load false 1 (.t 79)), none, [3]⟩,
    ⟨(some 81), 81, (.bin false .neq (.t 80) (.k (.c (.s (.pv (.int .i64 0)))))), none, [4]⟩,
    ⟨(some 82), 82, (.bin true .neq (.t 77) (.t 81)), none, [1, 5]⟩])
  (.cond (.t 82) (.seq (.reg [⟨(some 2), 2, (.mv (.k (.c (.s (.pv (.bool false)))))), none, []⟩])
  .ret) .skip))
  (.seq (.seq (.reg [⟨(some 83), 83, (.mv (.t 7)), none, []⟩,
    ⟨(some 84), 84, (.aidx 65 1 (.t 4) (.t 83)), none, [0]⟩,
    ⟨(some 85), 85, (.load false 1 (.t 84)), none, [1]⟩,
    ⟨(some 86), 86, (.bin false .neq (.t 85) (.k (.c (.s (.pv (.int .i64 0)))))), none, [2]⟩])
  (.cond (.t 86) (.seq (.reg [⟨(some 87), 87, (.mv (.t 7)), none, []⟩,
    ⟨(some 88), 88, (.aidx 65 1 (.t 4) (.t 87)), none, [0, 0]⟩,
    ⟨none, 128, (.store 1 (.t 88) (.k (.c (.s (.pv (.int .i64 0)))))), none, [1, 0]⟩])
  (.reg [⟨(some 89), 89, (.mv (.t 5)), none, []⟩,
    ⟨(some 90), 90, (.bin false .sub (.t 89) (.k (.c (.s (.pv (.int .i64 1)))))), none, [0]⟩,
    ⟨(some 5), 5, (.mv (.t 90)), none, [1, 0, 1]⟩])) .skip))
  (.reg [⟨(some 91), 91, (.load true 1 (.t 11)), none, []⟩,
    ⟨none, 127, (.store 1 (.t 3) (.t 91)), none, [0, 0]⟩]))))))
  (.seq (.seq (.reg [⟨(some 92), 92, (.load true 1 (.t 3)), none, []⟩,
    ⟨(some 93), 93, (.call 21 [(.t 92)]), none, [0]⟩,
    ⟨(some 94), 94, (.not (.t 93)), none, [1]⟩])
  (.cond (.t 94) (.seq (.reg [⟨(some 2), 2, (.mv (.k (.c (.s (.pv (.bool false)))))), none, []⟩])
  .ret) .skip))
  (.seq (.reg [⟨(some 13), 13, (.mv (.k (.c (.s (.pv (.int .i64 1)))))), none, []⟩])
  (.block 2 (.loop (.seq (.seq (.reg [⟨(some 95), 95, (.mv (.t 13)), none, []⟩,
    ⟨(some 96), 96, (.bin false .lss (.t 95) (.k (.c (.s (.pv (.int .i64 65)))))), none, [0]⟩])
  (.cond (.t 96) .skip (.exit 2)))
  (.seq (.block 3 (.seq (.reg [⟨(some 100), 100, (.load true 1 (.t 3)), none, []⟩,
    ⟨(some 101), 101, (.mv (.t 13)), none, []⟩,
    ⟨(some 102), 102, (.call 22 [(.t 100), (.t 101)]), none, [0, 1]⟩,
    ⟨(some 99), 99, (.mv (.t 102)), none, [2]⟩,
    ⟨(some 103), 103, (.ext 0 (.t 99)), none, [3]⟩,
    ⟨(some 104), 104, (.ext 1 (.t 99)), none, [3]⟩,
    ⟨(some 14), 14, (.mv (.t 103)), none, [4, 2, 0, 1, 2, 3, 4]⟩,
    ⟨(some 15), 15, (.mv (.t 104)), none, [5, 6, 0, 1, 2, 3, 4, 5, 6]⟩])
  (.seq (.reg [⟨(some 105), 105, (.mv (.t 15)), none, []⟩,
    ⟨(some 106), 106, (.mv (.t 13)), none, []⟩,
    ⟨(some 107), 107, (.aidx 65 1 (.t 4) (.t 106)), none, [1]⟩,
    ⟨(some 108), 108, (.load false 1 (.t 107)), none, [2]⟩,
    ⟨(some 109), 109, (.bin false .neq (.t 108) (.k (.c (.s (.pv (.int .i64 0)))))), none, [3]⟩,
    ⟨(some 110), 110, (.bin true .neq (.t 105) (.t 109)), none, [0, 4]⟩,
    ⟨(some 111), 111, (.mv (.t 110)), none, [5]⟩,
    ⟨(some 112), 112, (.mv (.t 14)), (some (111, false)), [6]⟩,
    ⟨(some 113), 113, (.mv (.t 13)), (some (111, false)), [6]⟩,
    ⟨(some 114), 114, (.aidx 65 1 (.t 4) (.t 113)), (some (111, false)), [8, 6]⟩,
    ⟨(some 115), 115, (.load false 1 (.t 114)), (some (111, false)), [9, 6]⟩,
    ⟨(some 116), 116, (.bin false .neq (.t 112) (.t 115)), (some (111, false)), [7, 10, 6]⟩,
    ⟨(some 117), 117, (.pick (.t 111) (.k (.c (.s (.pv (.bool true))))) (.t 116)), none, [6, 11]⟩])
  (.cond (.t 117) (.seq (.reg [⟨(some 2), 2, (.mv (.k (.c (.s (.pv (.bool false)))))), none, []⟩])
  .ret) .skip))))
  (.reg [⟨(some 97), 97, (.mv (.t 13)), none, []⟩,
    ⟨(some 98), 98, (.bin false .add (.t 97) (.k (.c (.s (.pv (.int .i64 1)))))), none, [0]⟩,
    ⟨(some 13), 13, (.mv (.t 98)), none, [1, 0, 1]⟩]))))))))))
  (.reg [⟨(some 25), 25, (.mv (.t 6)), none, []⟩,
    ⟨(some 26), 26, (.bin false .add (.t 25) (.k (.c (.s (.pv (.int .i64 1)))))), none, [0]⟩,
    ⟨(some 6), 6, (.mv (.t 26)), none, [1, 0, 1]⟩]))))))
  (.seq (.reg [⟨(some 118), 118, (.load true 1 (.t 3)), none, []⟩,
    ⟨(some 119), 119, (.call 15 [(.t 118)]), none, [0]⟩,
    ⟨(some 120), 120, (.len (.t 119)), none, [1]⟩,
    ⟨(some 121), 121, (.mv (.t 5)), none, []⟩,
    ⟨(some 122), 122, (.bin false .eql (.t 120) (.t 121)), none, [2, 3]⟩,
    ⟨(some 123), 123, (.mv (.t 122)), none, [4, 1]⟩,
    ⟨(some 124), 124, (.call 14 []), (some (123, true)), [5, 5]⟩,
    ⟨(some 125), 125, (.pick (.t 123) (.t 124) (.k (.c (.s (.pv (.bool false)))))), none, [5, 6]⟩,
    ⟨(some 2), 2, (.mv (.t 125)), none, [7, 6, 0, 1, 2, 3, 4, 5, 6, 7]⟩])
  .ret))))))
theorem fn4 : FnIs Try.prog 4 ac4 [(.t 2)] 126 := ⟨Try.f4, Try.func4, by kernel_rfl, by kernel_rfl, by kernel_rfl⟩
/- lockkeeper/lockkeeperlaw07.TableBack -/
def ac5 : ACode := (.seq (.reg [⟨(some 3), 3, (.box 24 1 (.t 0)), none, []⟩,
    ⟨(some 6), 6, (.mv (.k (.c (.s (.pv (.bool false)))))), none, []⟩])
  (.seq (.reg [⟨(some 20), 20, (.load true 1 (.t 3)), none, []⟩,
    ⟨(some 21), 21, (.call 13 [(.t 20)]), none, [0]⟩,
    ⟨(some 19), 19, (.mv (.t 21)), none, [1]⟩,
    ⟨(some 22), 22, (.ext 0 (.t 19)), none, [2]⟩,
    ⟨(some 23), 23, (.ext 1 (.t 19)), none, [2]⟩,
    ⟨(some 7), 7, (.mk 27 1 [[.zc]]), none, []⟩,
    ⟨none, 104, (.store 1 (.t 7) (.t 22)), none, [5, 3, 1, 0, 1, 2, 3, 5]⟩,
    ⟨(some 8), 8, (.mv (.t 23)), none, [4, 6, 0, 1, 2, 3, 4, 5, 6]⟩])
  (.seq (.seq (.reg [⟨(some 24), 24, (.mv (.t 8)), none, []⟩,
    ⟨(some 25), 25, (.not (.t 24)), none, [0]⟩])
  (.cond (.t 25) (.seq (.reg [⟨(some 26), 26, (.call 14 []), none, []⟩,
    ⟨(some 6), 6, (.mv (.t 26)), none, [0, 0, 0]⟩])
  .ret) .skip))
  (.seq (.reg [⟨(some 28), 28, (.load true 1 (.t 3)), none, []⟩,
    ⟨(some 29), 29, (.mv (.t 1)), none, []⟩,
    ⟨(some 30), 30, (.mv (.t 2)), none, []⟩,
    ⟨(some 31), 31, (.call 19 [(.t 28), (.t 29), (.t 30)]), none, [0, 1, 2]⟩,
    ⟨(some 27), 27, (.mv (.t 31)), none, [3]⟩,
    ⟨(some 32), 32, (.ext 0 (.t 27)), none, [4]⟩,
    ⟨(some 33), 33, (.ext 1 (.t 27)), none, [4]⟩,
    ⟨(some 9), 9, (.mk 24 1 [[.zc]]), none, []⟩,
    ⟨none, 106, (.store 1 (.t 9) (.t 32)), none, [7, 5, 3, 0, 1, 2, 3, 4, 5, 7]⟩,
    ⟨(some 10), 10, (.mv (.t 33)), none, [6, 8, 0, 1, 2, 3, 4, 5, 6, 7, 8]⟩])
  (.seq (.seq (.reg [⟨(some 34), 34, (.mv (.t 10)), none, []⟩,
    ⟨(some 35), 35, (.bin false .neq (.t 34) (.k (.c (.s (.pv (.int .i64 0)))))), none, [0]⟩])
  (.cond (.t 35) (.seq (.reg [⟨(some 37), 37, (.load true 1 (.t 9)), none, []⟩,
    ⟨(some 38), 38, (.call 13 [(.t 37)]), none, [0]⟩,
    ⟨(some 36), 36, (.mv (.t 38)), none, [1]⟩,
    ⟨(some 39), 39, (.ext 0 (.t 36)), none, [2]⟩,
    ⟨(some 40), 40, (.ext 1 (.t 36)), none, [2]⟩,
    ⟨(some 11), 11, (.mk 27 1 [[.zc]]), none, []⟩,
    ⟨none, 104, (.store 1 (.t 11) (.t 39)), none, [5, 3, 1, 0, 1, 2, 3, 5]⟩,
    ⟨(some 12), 12, (.mv (.t 40)), none, [4, 6, 0, 1, 2, 3, 4, 5, 6]⟩])
  (.seq (.reg [⟨(some 41), 41, (.mv (.t 12)), none, []⟩,
    ⟨(some 42), 42, (.mv (.t 41)), none, [0]⟩,
    ⟨(some 43), 43, (.load true 1 (.t 7)), (some (42, true)), [1]⟩,
    ⟨(some 44), 44, (.load true 1 (.t 11)), (some (42, true)), [1]⟩,
    ⟨(some 45), 45, (.call 23 [(.t 43), (.t 44)]), (some (42, true)), [2, 3, 1, 1]⟩,
    ⟨(some 46), 46, (.pick (.t 42) (.t 45) (.k (.c (.s (.pv (.bool false)))))), none, [1, 4]⟩,
    ⟨(some 47), 47, (.mv (.t 46)), none, [5, 4]⟩,
    ⟨(some 48), 48, (.call 14 []), (some (47, true)), [6, 6]⟩,
    ⟨(some 49), 49, (.pick (.t 47) (.t 48) (.k (.c (.s (.pv (.bool false)))))), none, [6, 7]⟩,
    ⟨(some 6), 6, (.mv (.t 49)), none, [8, 7, 0, 1, 2, 3, 4, 5, 6, 7, 8]⟩])
  .ret)) .skip))
  (.seq (.reg [⟨(some 51), 51, (.load true 1 (.t 9)), none, []⟩,
    ⟨(some 52), 52, (.mv (.t 1)), none, []⟩,
    ⟨(some 53), 53, (.call 22 [(.t 51), (.t 52)]), none, [0, 1]⟩,
    ⟨(some 50), 50, (.mv (.t 53)), none, [2]⟩,
    ⟨(some 54), 54, (.ext 0 (.t 50)), none, [3]⟩,
    ⟨(some 55), 55, (.ext 1 (.t 50)), none, [3]⟩,
    ⟨(some 13), 13, (.mv (.t 54)), none, [4, 2, 0, 1, 2, 3, 4]⟩,
    ⟨(some 14), 14, (.mv (.t 55)), none, [5, 6, 0, 1, 2, 3, 4, 5, 6]⟩])
  (.seq (.reg [⟨(some 57), 57, (.load true 1 (.t 9)), none, []⟩,
    ⟨(some 58), 58, (.mv (.t 1)), none, []⟩,
    ⟨(some 59), 59, (.call 20 [(.t 57), (.t 58)]), none, [0, 1]⟩,
    ⟨(some 56), 56, (.mv (.t 59)), none, [2]⟩,
    ⟨(some 60), 60, (.ext 0 (.t 56)), none, [3]⟩,
    ⟨(some 61), 61, (.ext 1 (.t 56)), none, [3]⟩,
    ⟨(some 15), 15, (.mk 24 1 [[.zc]]), none, []⟩,
    ⟨none, 105, (.store 1 (.t 15) (.t 60)), none, [6, 4, 2, 0, 1, 2, 3, 4, 6]⟩,
    ⟨(some 16), 16, (.mv (.t 61)), none, [5, 7, 0, 1, 2, 3, 4, 5, 6, 7]⟩])
  (.seq (.reg [⟨(some 63), 63, (.load true 1 (.t 15)), none, []⟩,
    ⟨(some 64), 64, (.call 13 [(.t 63)]), none, [0]⟩,
    ⟨(some 62), 62, (.mv (.t 64)), none, [1]⟩,
    ⟨(some 65), 65, (.ext 0 (.t 62)), none, [2]⟩,
    ⟨(some 66), 66, (.ext 1 (.t 62)), none, [2]⟩,
    ⟨(some 17), 17, (.mk 27 1 [[.zc]]), none, []⟩,
    ⟨none, 104, (.store 1 (.t 17) (.t 65)), none, [5, 3, 1, 0, 1, 2, 3, 5]⟩,
    ⟨(some 18), 18, (.mv (.t 66)), none, [4, 6, 0, 1, 2, 3, 4, 5, 6]⟩])
  (.seq (.draw [⟨(some 67), 67, (.mv (.t 16)), none, []⟩,
    ⟨(some 68), 68, (.bin false .eql (.t 67) (.k (.c (.s (.pv (.int .i64 0)))))), none, [0]⟩,
    ⟨(some 69), 69, (.mv (.t 68)), none, [1]⟩,
    ⟨(some 70), 70, (.mv (.t 18)), (some (69, true)), [2]⟩,
    ⟨(some 71), 71, (.pick (.t 69) (.t 70) (.k (.c (.s (.pv (.bool false)))))), none, [2, 3]⟩,
    ⟨(some 72), 72, (.mv (.t 71)), none, [4, 2]⟩,
    ⟨(some 73), 73, (.load true 1 (.t 7)), (some (72, true)), [5]⟩,
    ⟨(some 74), 74, (.load true 1 (.t 17)), (some (72, true)), [5]⟩,
    ⟨(some 75), 75, (.call 23 [(.t 73), (.t 74)]), (some (72, true)), [6, 7, 5, 5]⟩,
    ⟨(some 76), 76, (.pick (.t 72) (.t 75) (.k (.c (.s (.pv (.bool false)))))), none, [5, 8]⟩,
    ⟨(some 77), 77, (.mv (.t 76)), none, [9, 8]⟩,
    ⟨(some 78), 78, (.mv (.t 13)), (some (77, true)), [10]⟩,
    ⟨(some 79), 79, (.mv (.t 2)), (some (77, true)), [10]⟩,
    ⟨(some 80), 80, (.bin false .eql (.t 78) (.t 79)), (some (77, true)), [11, 12, 10]⟩,
    ⟨(some 81), 81, (.pick (.t 77) (.t 80) (.k (.c (.s (.pv (.bool false)))))), none, [10, 13]⟩,
    ⟨(some 82), 82, (.mv (.t 81)), none, [14, 10]⟩,
    ⟨(some 83), 83, (.mv (.t 14)), (some (82, true)), [15]⟩,
    ⟨(some 84), 84, (.pick (.t 82) (.t 83) (.k (.c (.s (.pv (.bool false)))))), none, [15, 16]⟩,
    ⟨(some 85), 85, (.mv (.t 84)), none, [17, 15]⟩,
    ⟨(some 86), 86, (.load true 1 (.t 9)), (some (85, true)), [18]⟩,
    ⟨(some 87), 87, (.call 15 [(.t 86)]), (some (85, true)), [19, 18, 18]⟩,
    ⟨(some 88), 88, (.len (.t 87)), (some (85, true)), [20, 18]⟩,
    ⟨(some 89), 89, (.load true 1 (.t 15)), (some (85, true)), [18]⟩,
    ⟨(some 90), 90, (.call 15 [(.t 89)]), (some (85, true)), [22, 20, 18]⟩,
    ⟨(some 91), 91, (.len (.t 90)), (some (85, true)), [23, 18]⟩,
    ⟨(some 92), 92, (.bin false .add (.t 91) (.k (.c (.s (.pv (.int .i64 1)))))), (some (85, true)), [24, 18]⟩,
    ⟨(some 93), 93, (.bin false .eql (.t 88) (.t 92)), (some (85, true)), [21, 25, 18]⟩,
    ⟨(some 94), 94, (.pick (.t 85) (.t 93) (.k (.c (.s (.pv (.bool false)))))), none, [18, 26]⟩,
    ⟨(some 95), 95, (.mv (.t 94)), none, [27, 23]⟩,
    ⟨(some 96), 96, (.call 14 []), (some (95, true)), [28, 28]⟩,
    ⟨(some 97), 97, (.pick (.t 95) (.t 96) (.k (.c (.s (.pv (.bool false)))))), none, [28, 29]⟩,
    ⟨(some 6), 6, (.mv (.t 97)), none, [30, 29, 0, 1, 2, 3, 4, 5, 6, 7, 8, 9, 10, 11, 12, 13, 14, 15, 16, 17, 18, 19, 20, 21, 22, 23, 24, 25, 26, 27, 28, 29, 30]⟩])
  .ret)))))))))
theorem fn5 : FnIs Try.prog 5 ac5 [(.t 6)] 98 := ⟨Try.f5, Try.func5, by kernel_rfl, by kernel_rfl, by kernel_rfl⟩
/- lockkeeper/lockkeeperlaw07.TableHomes -/
def ac6 : ACode := (.seq (.reg [⟨(some 4), 4, (.mv (.k (.c (.s (.pv (.bool false)))))), none, []⟩])
  (.seq (.reg [⟨(some 16), 16, (.call 18 []), none, []⟩,
    ⟨(some 5), 5, (.mk 24 1 [[.zc]]), none, []⟩,
    ⟨none, 90, (.store 1 (.t 5) (.t 16)), none, [1, 0, 0, 0, 1]⟩])
  (.seq (.reg [⟨(some 17), 17, (.mv (.t 0)), none, []⟩,
    ⟨(some 18), 18, (.bin false .rem (.t 17) (.k (.c (.s (.pv (.int .u8 16)))))), none, [0]⟩,
    ⟨(some 19), 19, (.conv .i64 (.t 18)), none, [1]⟩,
    ⟨(some 6), 6, (.mv (.t 19)), none, [2, 0, 1, 2]⟩])
  (.seq (.seq (.reg [⟨(some 20), 20, (.mv (.k (.c (.s (.pv (.int .i64 0)))))), none, []⟩])
  (.block 0 (.loop (.seq (.reg [⟨(some 21), 21, (.bin false .lss (.t 20) (.k (.c (.s (.pv (.int .i64 16)))))), none, []⟩])
  (.seq (.cond (.t 21) .skip (.exit 0))
  (.seq (.block 1 (.seq (.reg [⟨(some 22), 22, (.mv (.t 20)), none, []⟩,
    ⟨(some 7), 7, (.mv (.t 22)), none, [0, 0]⟩])
  (.seq (.reg [⟨(some 24), 24, (.load true 1 (.t 5)), none, []⟩,
    ⟨(some 25), 25, (.mv (.t 7)), none, []⟩,
    ⟨(some 26), 26, (.bin false .add (.t 25) (.k (.c (.s (.pv (.int .i64 1)))))), none, [1]⟩,
    ⟨(some 27), 27, (.bin false .mul (.k (.c (.s (.pv (.int .i64 16))))) (.t 26)), none, [2]⟩,
    ⟨(some 28), 28, (.mv (.t 6)), none, []⟩,
    ⟨(some 29), 29, (.bin false .add (.t 27) (.t 28)), none, [3, 4]⟩,
    ⟨(some 30), 30, (.mv (.t 7)), none, []⟩,
    ⟨(some 31), 31, (.call 19 [(.t 24), (.t 29), (.t 30)]), none, [0, 5, 6]⟩,
    ⟨(some 23), 23, (.mv (.t 31)), none, [7]⟩,
    ⟨(some 32), 32, (.ext 0 (.t 23)), none, [8]⟩,
    ⟨(some 33), 33, (.ext 1 (.t 23)), none, [8]⟩,
    ⟨(some 8), 8, (.mk 24 1 [[.zc]]), none, []⟩,
    ⟨none, 100, (.store 1 (.t 8) (.t 32)), none, [11, 9, 7, 0, 1, 2, 3, 4, 5, 6, 7, 8, 9, 11]⟩,
    ⟨(some 9), 9, (.mv (.t 33)), none, [10, 12, 0, 1, 2, 3, 4, 5, 6, 7, 8, 9, 10, 11, 12]⟩])
  (.seq (.seq (.reg [⟨(some 34), 34, (.mv (.t 9)), none, []⟩,
    ⟨(some 35), 35, (.bin false .neq (.t 34) (.k (.c (.s (.pv (.int .i64 0)))))), none, [0]⟩])
  (.cond (.t 35) (.seq (.reg [⟨(some 4), 4, (.mv (.k (.c (.s (.pv (.bool false)))))), none, []⟩])
  .ret) .skip))
  (.reg [⟨(some 36), 36, (.load true 1 (.t 8)), none, []⟩,
    ⟨none, 89, (.store 1 (.t 5) (.t 36)), none, [0, 0]⟩])))))
  (.reg [⟨(some 37), 37, (.bin false .add (.t 20) (.k (.c (.s (.pv (.int .i64 1)))))), none, []⟩,
    ⟨(some 20), 20, (.mv (.t 37)), none, [0]⟩])))))))
  (.seq (.reg [⟨(some 39), 39, (.load true 1 (.t 5)), none, []⟩,
    ⟨(some 40), 40, (.mv (.t 6)), none, []⟩,
    ⟨(some 41), 41, (.bin false .add (.k (.c (.s (.pv (.int .i64 640))))) (.t 40)), none, [1]⟩,
    ⟨(some 42), 42, (.call 19 [(.t 39), (.t 41), (.k (.c (.s (.pv (.int .i64 1)))))]), none, [0, 2]⟩,
    ⟨(some 38), 38, (.mv (.t 42)), none, [3]⟩,
    ⟨(some 43), 43, (.ext 0 (.t 38)), none, [4]⟩,
    ⟨(some 44), 44, (.ext 1 (.t 38)), none, [4]⟩,
    ⟨(some 10), 10, (.mk 24 1 [[.zc]]), none, []⟩,
    ⟨none, 96, (.store 1 (.t 10) (.t 43)), none, [7, 5, 3, 0, 1, 2, 3, 4, 5, 7]⟩,
    ⟨(some 11), 11, (.mv (.t 44)), none, [6, 8, 0, 1, 2, 3, 4, 5, 6, 7, 8]⟩])
  (.seq (.reg [⟨(some 12), 12, (.mv (.k (.c (.s (.pv (.int .i64 0)))))), none, []⟩])
  (.seq (.seq (.reg [⟨(some 45), 45, (.mv (.k (.c (.s (.pv (.int .i64 0)))))), none, []⟩])
  (.block 2 (.loop (.seq (.reg [⟨(some 46), 46, (.bin false .lss (.t 45) (.k (.c (.s (.pv (.int .i64 16)))))), none, []⟩])
  (.seq (.cond (.t 46) .skip (.exit 2))
  (.seq (.block 3 (.seq (.reg [⟨(some 47), 47, (.mv (.t 45)), none, []⟩,
    ⟨(some 13), 13, (.mv (.t 47)), none, [0, 0]⟩])
  (.seq (.reg [⟨(some 49), 49, (.load true 1 (.t 5)), none, []⟩,
    ⟨(some 50), 50, (.mv (.t 12)), none, []⟩,
    ⟨(some 51), 51, (.bin false .add (.t 50) (.k (.c (.s (.pv (.int .i64 1)))))), none, [1]⟩,
    ⟨(some 52), 52, (.bin false .mul (.k (.c (.s (.pv (.int .i64 16))))) (.t 51)), none, [2]⟩,
    ⟨(some 53), 53, (.mv (.t 6)), none, []⟩,
    ⟨(some 54), 54, (.bin false .add (.t 52) (.t 53)), none, [3, 4]⟩,
    ⟨(some 55), 55, (.call 20 [(.t 49), (.t 54)]), none, [0, 5]⟩,
    ⟨(some 48), 48, (.mv (.t 55)), none, [6]⟩,
    ⟨(some 56), 56, (.ext 0 (.t 48)), none, [7]⟩,
    ⟨(some 57), 57, (.ext 1 (.t 48)), none, [7]⟩,
    ⟨(some 14), 14, (.mk 24 1 [[.zc]]), none, []⟩,
    ⟨none, 99, (.store 1 (.t 14) (.t 56)), none, [10, 8, 6, 0, 1, 2, 3, 4, 5, 6, 7, 8, 10]⟩,
    ⟨(some 15), 15, (.mv (.t 57)), none, [9, 11, 0, 1, 2, 3, 4, 5, 6, 7, 8, 9, 10, 11]⟩])
  (.seq (.seq (.reg [⟨(some 58), 58, (.mv (.t 15)), none, []⟩,
    ⟨(some 59), 59, (.bin false .neq (.t 58) (.k (.c (.s (.pv (.int .i64 0)))))), none, [0]⟩,
    ⟨(some 60), 60, (.mv (.t 59)), none, [1]⟩,
    ⟨(some 61), 61, (.load true 1 (.t 14)), (some (60, false)), [2]⟩,
    ⟨(some 62), 62, (.call 21 [(.t 61)]), (some (60, false)), [3, 2, 2]⟩,
    ⟨(some 63), 63, (.not (.t 62)), (some (60, false)), [4, 2]⟩,
    ⟨(some 64), 64, (.pick (.t 60) (.k (.c (.s (.pv (.bool true))))) (.t 63)), none, [2, 5]⟩,
    ⟨(some 65), 65, (.mv (.t 64)), none, [6, 4]⟩,
    ⟨(some 66), 66, (.load true 1 (.t 14)), (some (65, false)), [7]⟩,
    ⟨(some 67), 67, (.call 15 [(.t 66)]), (some (65, false)), [8, 7, 7]⟩,
    ⟨(some 68), 68, (.len (.t 67)), (some (65, false)), [9, 7]⟩,
    ⟨(some 69), 69, (.mv (.t 13)), (some (65, false)), [7]⟩,
    ⟨(some 70), 70, (.bin false .sub (.k (.c (.s (.pv (.int .i64 15))))) (.t 69)), (some (65, false)), [11, 7]⟩,
    ⟨(some 71), 71, (.bin false .neq (.t 68) (.t 70)), (some (65, false)), [10, 12, 7]⟩,
    ⟨(some 72), 72, (.pick (.t 65) (.k (.c (.s (.pv (.bool true))))) (.t 71)), none, [7, 13]⟩])
  (.cond (.t 72) (.seq (.reg [⟨(some 4), 4, (.mv (.k (.c (.s (.pv (.bool false)))))), none, []⟩])
  .ret) .skip))
  (.seq (.reg [⟨(some 73), 73, (.load true 1 (.t 14)), none, []⟩,
    ⟨none, 89, (.store 1 (.t 5) (.t 73)), none, [0, 0]⟩])
  (.reg [⟨(some 74), 74, (.mv (.t 12)), none, []⟩,
    ⟨(some 75), 75, (.bin false .add (.t 74) (.k (.c (.s (.pv (.int .i64 1)))))), none, [0]⟩,
    ⟨(some 76), 76, (.mv (.t 1)), none, []⟩,
    ⟨(some 77), 77, (.bin false .rem (.t 76) (.k (.c (.s (.pv (.int .u8 8)))))), none, [2]⟩,
    ⟨(some 78), 78, (.conv .i64 (.t 77)), none, [3]⟩,
    ⟨(some 79), 79, (.bin false .mul (.k (.c (.s (.pv (.int .i64 2))))) (.t 78)), none, [4]⟩,
    ⟨(some 80), 80, (.bin false .add (.t 75) (.t 79)), none, [1, 5]⟩,
    ⟨(some 81), 81, (.bin false .rem (.t 80) (.k (.c (.s (.pv (.int .i64 16)))))), none, [6]⟩,
    ⟨(some 12), 12, (.mv (.t 81)), none, [7, 0, 1, 2, 3, 4, 5, 6, 7]⟩]))))))
  (.reg [⟨(some 82), 82, (.bin false .add (.t 45) (.k (.c (.s (.pv (.int .i64 1)))))), none, []⟩,
    ⟨(some 45), 45, (.mv (.t 82)), none, [0]⟩])))))))
  (.seq (.reg [⟨(some 83), 83, (.mv (.t 11)), none, []⟩,
    ⟨(some 84), 84, (.bin false .eql (.t 83) (.k (.c (.s (.pv (.int .i64 7)))))), none, [0]⟩,
    ⟨(some 85), 85, (.mv (.t 84)), none, [1]⟩,
    ⟨(some 86), 86, (.call 14 []), (some (85, true)), [2, 2]⟩,
    ⟨(some 87), 87, (.pick (.t 85) (.t 86) (.k (.c (.s (.pv (.bool false)))))), none, [2, 3]⟩,
    ⟨(some 4), 4, (.mv (.t 87)), none, [4, 3, 0, 1, 2, 3, 4]⟩])
  .ret))))))))
theorem fn6 : FnIs Try.prog 6 ac6 [(.t 4)] 88 := ⟨Try.f6, Try.func6, by kernel_rfl, by kernel_rfl, by kernel_rfl⟩
/- lockkeeper/lockkeeperlaw07.ref -/
def ac13 : ACode := (.seq (.reg [⟨(some 1), 1, (.box 24 1 (.t 0)), none, []⟩,
    ⟨(some 2), 2, (.mk 27 1 [[.zc]]), none, []⟩,
    ⟨(some 3), 3, (.mv (.k (.c (.s (.pv (.bool false)))))), none, []⟩])
  (.seq (.reg [⟨(some 4), 4, (.mk 27 1 [[.zc]]), none, []⟩])
  (.seq (.seq (.reg [⟨(some 7), 7, (.fld 0 (.t 1)), none, []⟩,
    ⟨(some 8), 8, (.load false 1 (.t 7)), none, [0]⟩,
    ⟨(some 9), 9, (.len (.t 8)), none, [1]⟩,
    ⟨(some 10), 10, (.bin false .gtr (.t 9) (.k (.c (.s (.pv (.int .i64 40)))))), none, [2]⟩])
  (.cond (.t 10) (.seq (.reg [⟨(some 11), 11, (.load true 1 (.t 4)), none, []⟩,
    ⟨none, 28, (.store 1 (.t 2) (.t 11)), none, [0, 0]⟩,
    ⟨(some 3), 3, (.mv (.k (.c (.s (.pv (.bool false)))))), none, [1, 0, 1]⟩])
  .ret) .skip))
  (.seq (.seq (.reg [⟨(some 12), 12, (.fld 0 (.t 1)), none, []⟩,
    ⟨(some 13), 13, (.load false 1 (.t 12)), none, [0]⟩,
    ⟨(some 14), 14, (.len (.t 13)), none, [1]⟩,
    ⟨(some 15), 15, (.mv (.k (.c (.s (.pv (.int .i64 0)))))), none, []⟩])
  (.block 0 (.loop (.seq (.reg [⟨(some 16), 16, (.bin false .lss (.t 15) (.t 14)), none, []⟩])
  (.seq (.cond (.t 16) .skip (.exit 0))
  (.seq (.block 1 (.seq (.reg [⟨(some 17), 17, (.idx 2 (.t 13) (.t 15)), none, []⟩,
    ⟨(some 18), 18, (.load true 2 (.t 17)), none, [0]⟩,
    ⟨(some 6), 6, (.mk 80 2 [[(.s (.pv (.int .i64 0))), (.s (.pv (.int .i64 0)))]]), none, []⟩,
    ⟨none, 30, (.store 2 (.t 6) (.t 18)), none, [2, 1, 0, 1, 2]⟩])
  (.reg [⟨(some 19), 19, (.fld 0 (.t 4)), none, []⟩,
    ⟨(some 20), 20, (.load false 1 (.t 19)), none, [0]⟩,
    ⟨(some 21), 21, (.load true 2 (.t 6)), none, []⟩,
    ⟨(some 22), 22, (.bslice 35 2 [(.s (.pv (.int .i64 0))), (.s (.pv (.int .i64 0)))] 1 [(0, 2, (.t 21))]), none, [2]⟩,
    ⟨(some 23), 23, (.app 35 2 16 (.t 20) (.t 22)), none, [1, 3]⟩,
    ⟨(some 24), 24, (.fld 0 (.t 4)), none, [0, 1, 2, 3, 4]⟩,
    ⟨none, 33, (.store 1 (.t 24) (.t 23)), none, [5, 4, 4, 0, 1, 2, 3, 4]⟩])))
  (.reg [⟨(some 25), 25, (.bin false .add (.t 15) (.k (.c (.s (.pv (.int .i64 1)))))), none, []⟩,
    ⟨(some 15), 15, (.mv (.t 25)), none, [0]⟩])))))))
  (.seq (.reg [⟨(some 26), 26, (.load true 1 (.t 4)), none, []⟩,
    ⟨none, 28, (.store 1 (.t 2) (.t 26)), none, [0, 0]⟩,
    ⟨(some 3), 3, (.mv (.k (.c (.s (.pv (.bool true)))))), none, [1, 0, 1]⟩])
  .ret)))))
theorem fn13 : FnIs Try.prog 13 ac13 [(.cell 2 true 1), (.t 3)] 27 := ⟨Try.f13, Try.func13, by kernel_rfl, by kernel_rfl, by kernel_rfl⟩
/- lockkeeper/lockkeeperlaw07.awake -/
def ac14 : ACode := (.seq (.reg [⟨(some 0), 0, (.mv (.k (.c (.s (.pv (.bool false)))))), none, []⟩])
  (.seq (.reg [⟨(some 9), 9, (.call 18 []), none, []⟩,
    ⟨(some 10), 10, (.call 19 [(.t 9), (.k (.c (.s (.pv (.int .i64 1))))), (.k (.c (.s (.pv (.int .i64 5)))))]), none, [0, 0]⟩,
    ⟨(some 8), 8, (.mv (.t 10)), none, [1]⟩,
    ⟨(some 11), 11, (.ext 0 (.t 8)), none, [2]⟩,
    ⟨(some 12), 12, (.ext 1 (.t 8)), none, [2]⟩,
    ⟨(some 1), 1, (.mk 24 1 [[.zc]]), none, []⟩,
    ⟨none, 75, (.store 1 (.t 1) (.t 11)), none, [5, 3, 1, 0, 1, 2, 3, 5]⟩,
    ⟨(some 2), 2, (.mv (.t 12)), none, [4, 6, 0, 1, 2, 3, 4, 5, 6]⟩])
  (.seq (.reg [⟨(some 14), 14, (.load true 1 (.t 1)), none, []⟩,
    ⟨(some 15), 15, (.call 19 [(.t 14), (.k (.c (.s (.pv (.int .i64 17))))), (.k (.c (.s (.pv (.int .i64 6)))))]), none, [0]⟩,
    ⟨(some 13), 13, (.mv (.t 15)), none, [1]⟩,
    ⟨(some 16), 16, (.ext 0 (.t 13)), none, [2]⟩,
    ⟨(some 17), 17, (.ext 1 (.t 13)), none, [2]⟩,
    ⟨none, 74, (.store 1 (.t 1) (.t 16)), none, [3, 1, 0, 1, 2, 3]⟩,
    ⟨(some 3), 3, (.mv (.t 17)), none, [4, 5, 0, 1, 2, 3, 4, 5]⟩])
  (.seq (.reg [⟨(some 19), 19, (.load true 1 (.t 1)), none, []⟩,
    ⟨(some 20), 20, (.call 20 [(.t 19), (.k (.c (.s (.pv (.int .i64 1)))))]), none, [0]⟩,
    ⟨(some 18), 18, (.mv (.t 20)), none, [1]⟩,
    ⟨(some 21), 21, (.ext 0 (.t 18)), none, [2]⟩,
    ⟨(some 22), 22, (.ext 1 (.t 18)), none, [2]⟩,
    ⟨(some 4), 4, (.mk 24 1 [[.zc]]), none, []⟩,
    ⟨none, 75, (.store 1 (.t 4) (.t 21)), none, [5, 3, 1, 0, 1, 2, 3, 5]⟩,
    ⟨(some 5), 5, (.mv (.t 22)), none, [4, 6, 0, 1, 2, 3, 4, 5, 6]⟩])
  (.seq (.reg [⟨(some 24), 24, (.load true 1 (.t 4)), none, []⟩,
    ⟨(some 25), 25, (.call 22 [(.t 24), (.k (.c (.s (.pv (.int .i64 17)))))]), none, [0]⟩,
    ⟨(some 23), 23, (.mv (.t 25)), none, [1]⟩,
    ⟨(some 26), 26, (.ext 0 (.t 23)), none, [2]⟩,
    ⟨(some 27), 27, (.ext 1 (.t 23)), none, [2]⟩,
    ⟨(some 6), 6, (.mv (.t 26)), none, [3, 1, 0, 1, 2, 3]⟩,
    ⟨(some 7), 7, (.mv (.t 27)), none, [4, 5, 0, 1, 2, 3, 4, 5]⟩])
  (.seq (.reg [⟨(some 28), 28, (.mv (.t 2)), none, []⟩,
    ⟨(some 29), 29, (.bin false .eql (.t 28) (.k (.c (.s (.pv (.int .i64 0)))))), none, [0]⟩,
    ⟨(some 30), 30, (.mv (.t 29)), none, [1]⟩,
    ⟨(some 31), 31, (.mv (.t 3)), (some (30, true)), [2]⟩,
    ⟨(some 32), 32, (.bin false .eql (.t 31) (.k (.c (.s (.pv (.int .i64 0)))))), (some (30, true)), [3, 2]⟩,
    ⟨(some 33), 33, (.pick (.t 30) (.t 32) (.k (.c (.s (.pv (.bool false)))))), none, [2, 4]⟩,
    ⟨(some 34), 34, (.mv (.t 33)), none, [5, 2]⟩,
    ⟨(some 35), 35, (.mv (.t 5)), (some (34, true)), [6]⟩,
    ⟨(some 36), 36, (.bin false .eql (.t 35) (.k (.c (.s (.pv (.int .i64 0)))))), (some (34, true)), [7, 6]⟩,
    ⟨(some 37), 37, (.pick (.t 34) (.t 36) (.k (.c (.s (.pv (.bool false)))))), none, [6, 8]⟩,
    ⟨(some 38), 38, (.mv (.t 37)), none, [9, 6]⟩,
    ⟨(some 39), 39, (.fld 0 (.t 1)), (some (38, true)), [10]⟩,
    ⟨(some 40), 40, (.load false 1 (.t 39)), (some (38, true)), [11, 10]⟩,
    ⟨(some 41), 41, (.len (.t 40)), (some (38, true)), [12, 10]⟩,
    ⟨(some 42), 42, (.bin false .eql (.t 41) (.k (.c (.s (.pv (.int .i64 16)))))), (some (38, true)), [13, 10]⟩,
    ⟨(some 43), 43, (.pick (.t 38) (.t 42) (.k (.c (.s (.pv (.bool false)))))), none, [10, 14]⟩,
    ⟨(some 44), 44, (.mv (.t 43)), none, [15, 10]⟩,
    ⟨(some 45), 45, (.fld 0 (.t 1)), (some (44, true)), [16]⟩,
    ⟨(some 46), 46, (.load false 1 (.t 45)), (some (44, true)), [17, 16]⟩,
    ⟨(some 47), 47, (.idx 2 (.t 46) (.k (.c (.s (.pv (.int .i64 2)))))), (some (44, true)), [18, 16]⟩,
    ⟨(some 48), 48, (.fld 0 (.t 47)), (some (44, true)), [19, 16]⟩,
    ⟨(some 49), 49, (.load false 1 (.t 48)), (some (44, true)), [20, 16]⟩,
    ⟨(some 50), 50, (.bin false .eql (.t 49) (.k (.c (.s (.pv (.int .i64 17)))))), (some (44, true)), [21, 16]⟩,
    ⟨(some 51), 51, (.pick (.t 44) (.t 50) (.k (.c (.s (.pv (.bool false)))))), none, [16, 22]⟩,
    ⟨(some 52), 52, (.mv (.t 51)), none, [23, 16]⟩,
    ⟨(some 53), 53, (.fld 0 (.t 4)), (some (52, true)), [24]⟩,
    ⟨(some 54), 54, (.load false 1 (.t 53)), (some (52, true)), [25, 24]⟩,
    ⟨(some 55), 55, (.idx 2 (.t 54) (.k (.c (.s (.pv (.int .i64 1)))))), (some (52, true)), [26, 24]⟩,
    ⟨(some 56), 56, (.fld 0 (.t 55)), (some (52, true)), [27, 24]⟩,
    ⟨(some 57), 57, (.load false 1 (.t 56)), (some (52, true)), [28, 24]⟩,
    ⟨(some 58), 58, (.bin false .eql (.t 57) (.k (.c (.s (.pv (.int .i64 17)))))), (some (52, true)), [29, 24]⟩,
    ⟨(some 59), 59, (.pick (.t 52) (.t 58) (.k (.c (.s (.pv (.bool false)))))), none, [24, 30]⟩,
    ⟨(some 60), 60, (.mv (.t 59)), none, [31, 24]⟩,
    ⟨(some 61), 61, (.mv (.t 6)), (some (60, true)), [32]⟩,
    ⟨(some 62), 62, (.bin false .eql (.t 61) (.k (.c (.s (.pv (.int .i64 6)))))), (some (60, true)), [33, 32]⟩,
    ⟨(some 63), 63, (.pick (.t 60) (.t 62) (.k (.c (.s (.pv (.bool false)))))), none, [32, 34]⟩,
    ⟨(some 64), 64, (.mv (.t 63)), none, [35, 32]⟩,
    ⟨(some 65), 65, (.mv (.t 7)), (some (64, true)), [36]⟩,
    ⟨(some 66), 66, (.pick (.t 64) (.t 65) (.k (.c (.s (.pv (.bool false)))))), none, [36, 37]⟩,
    ⟨(some 67), 67, (.mv (.t 66)), none, [38, 36]⟩,
    ⟨(some 68), 68, (.pick (.t 67) (.k (.c (.s (.pv (.bool true))))) (.k (.c (.s (.pv (.bool false)))))), none, [39]⟩,
    ⟨(some 0), 0, (.mv (.t 68)), none, [40, 39, 0, 1, 2, 3, 4, 5, 6, 7, 8, 9, 10, 11, 12, 13, 14, 15, 16, 17, 18, 19, 20, 21, 22, 23, 24, 25, 26, 27, 28, 29, 30, 31, 32, 33, 34, 35, 36, 37, 38, 39, 40]⟩])
  .ret))))))
theorem fn14 : FnIs Try.prog 14 ac14 [(.t 0)] 69 := ⟨Try.f14, Try.func14, by kernel_rfl, by kernel_rfl, by kernel_rfl⟩
/- lockkeeper/table.Pages -/
def ac15 : ACode := (.seq (.reg [⟨(some 1), 1, (.box 24 1 (.t 0)), none, []⟩,
    ⟨(some 2), 2, (.mv (.k (.c .zc))), none, []⟩])
  (.seq (.seq (.reg [⟨(some 6), 6, (.load true 1 (.t 1)), none, []⟩,
    ⟨(some 7), 7, (.call 21 [(.t 6)]), none, [0]⟩,
    ⟨(some 8), 8, (.not (.t 7)), none, [1]⟩])
  (.cond (.t 8) (.seq (.reg [⟨(some 2), 2, (.mv (.k (.c .zc))), none, []⟩])
  .ret) .skip))
  (.seq (.reg [⟨(some 3), 3, (.mv (.k (.c .zc))), none, []⟩])
  (.seq (.seq (.reg [⟨(some 9), 9, (.fld 0 (.t 1)), none, []⟩,
    ⟨(some 10), 10, (.load false 1 (.t 9)), none, [0]⟩,
    ⟨(some 11), 11, (.len (.t 10)), none, [1]⟩,
    ⟨(some 12), 12, (.mv (.k (.c (.s (.pv (.int .i64 0)))))), none, []⟩])
  (.block 0 (.loop (.seq (.reg [⟨(some 13), 13, (.bin false .lss (.t 12) (.t 11)), none, []⟩])
  (.seq (.cond (.t 13) .skip (.exit 0))
  (.seq (.block 1 (.seq (.reg [⟨(some 14), 14, (.idx 2 (.t 10) (.t 12)), none, []⟩,
    ⟨(some 15), 15, (.load true 2 (.t 14)), none, [0]⟩,
    ⟨(some 5), 5, (.mk 80 2 [[(.s (.pv (.int .i64 0))), (.s (.pv (.int .i64 0)))]]), none, []⟩,
    ⟨none, 31, (.store 2 (.t 5) (.t 15)), none, [2, 1, 0, 1, 2]⟩])
  (.seq (.reg [⟨(some 16), 16, (.load true 2 (.t 5)), none, []⟩,
    ⟨(some 17), 17, (.call 36 [(.t 16)]), none, [0]⟩,
    ⟨(some 18), 18, (.not (.t 17)), none, [1]⟩])
  (.cond (.t 18) (.reg [⟨(some 19), 19, (.mv (.t 3)), none, []⟩,
    ⟨(some 20), 20, (.fld 0 (.t 5)), none, []⟩,
    ⟨(some 21), 21, (.load false 1 (.t 20)), none, [1]⟩,
    ⟨(some 22), 22, (.bslice 3 1 [(.s (.pv (.int .i64 0)))] 1 [(0, 1, (.t 21))]), none, [2]⟩,
    ⟨(some 23), 23, (.app 3 1 8 (.t 19) (.t 22)), none, [0, 3]⟩,
    ⟨(some 3), 3, (.mv (.t 23)), none, [4, 4, 0, 1, 2, 3, 4]⟩]) .skip))))
  (.reg [⟨(some 24), 24, (.bin false .add (.t 12) (.k (.c (.s (.pv (.int .i64 1)))))), none, []⟩,
    ⟨(some 12), 12, (.mv (.t 24)), none, [0]⟩])))))))
  (.seq (.reg [⟨(some 25), 25, (.mv (.t 3)), none, []⟩,
    ⟨(some 26), 26, (.call 37 [(.t 25)]), none, [0]⟩])
  (.seq (.reg [⟨(some 27), 27, (.mv (.t 3)), none, []⟩,
    ⟨(some 2), 2, (.mv (.t 27)), none, [0, 0]⟩])
  .ret))))))
theorem fn15 : FnIs Try.prog 15 ac15 [(.t 2)] 28 := ⟨Try.f15, Try.func15, by kernel_rfl, by kernel_rfl, by kernel_rfl⟩
/- lockkeeper/lockkeeperref07.Right -/
def ac16 : ACode := (.seq (.reg [⟨(some 1), 1, (.box 27 1 (.t 0)), none, []⟩,
    ⟨(some 2), 2, (.mv (.k (.c (.s (.pv (.bool false)))))), none, []⟩])
  (.seq (.seq (.reg [⟨(some 7), 7, (.fld 0 (.t 1)), none, []⟩,
    ⟨(some 8), 8, (.load false 1 (.t 7)), none, [0]⟩,
    ⟨(some 9), 9, (.len (.t 8)), none, [1]⟩,
    ⟨(some 10), 10, (.bin false .neq (.t 9) (.k (.c (.s (.pv (.int .i64 16)))))), none, [2]⟩])
  (.cond (.t 10) (.seq (.reg [⟨(some 2), 2, (.mv (.k (.c (.s (.pv (.bool false)))))), none, []⟩])
  .ret) .skip))
  (.seq (.seq (.reg [⟨(some 3), 3, (.mv (.k (.c (.s (.pv (.int .i64 0)))))), none, []⟩])
  (.block 0 (.loop (.seq (.seq (.reg [⟨(some 11), 11, (.mv (.t 3)), none, []⟩,
    ⟨(some 12), 12, (.bin false .lss (.t 11) (.k (.c (.s (.pv (.int .i64 16)))))), none, [0]⟩])
  (.cond (.t 12) .skip (.exit 0)))
  (.seq (.block 1 (.seq (.reg [⟨(some 15), 15, (.fld 0 (.t 1)), none, []⟩,
    ⟨(some 16), 16, (.load false 1 (.t 15)), none, [0]⟩,
    ⟨(some 17), 17, (.mv (.t 3)), none, []⟩,
    ⟨(some 18), 18, (.idx 2 (.t 16) (.t 17)), none, [1, 2]⟩,
    ⟨(some 19), 19, (.load true 2 (.t 18)), none, [3]⟩,
    ⟨(some 4), 4, (.mk 35 2 [[(.s (.pv (.int .i64 0))), (.s (.pv (.int .i64 0)))]]), none, []⟩,
    ⟨none, 78, (.store 2 (.t 4) (.t 19)), none, [5, 4, 0, 1, 2, 3, 4, 5]⟩])
  (.seq (.seq (.reg [⟨(some 20), 20, (.fld 0 (.t 4)), none, []⟩,
    ⟨(some 21), 21, (.load false 1 (.t 20)), none, [0]⟩,
    ⟨(some 22), 22, (.bin false .eql (.t 21) (.k (.c (.s (.pv (.int .i64 0)))))), none, [1]⟩,
    ⟨(some 23), 23, (.mv (.t 22)), none, [2]⟩,
    ⟨(some 24), 24, (.fld 1 (.t 4)), (some (23, true)), [3]⟩,
    ⟨(some 25), 25, (.load false 1 (.t 24)), (some (23, true)), [4, 3]⟩,
    ⟨(some 26), 26, (.bin false .eql (.t 25) (.k (.c (.s (.pv (.int .i64 0)))))), (some (23, true)), [5, 3]⟩,
    ⟨(some 27), 27, (.pick (.t 23) (.t 26) (.k (.c (.s (.pv (.bool false)))))), none, [3, 6]⟩])
  (.cond (.t 27) (.exit 1) .skip))
  (.seq (.seq (.reg [⟨(some 28), 28, (.fld 0 (.t 4)), none, []⟩,
    ⟨(some 29), 29, (.load false 1 (.t 28)), none, [0]⟩,
    ⟨(some 30), 30, (.bin false .lss (.t 29) (.k (.c (.s (.pv (.int .i64 1)))))), none, [1]⟩,
    ⟨(some 31), 31, (.mv (.t 30)), none, [2]⟩,
    ⟨(some 32), 32, (.fld 0 (.t 4)), (some (31, false)), [3]⟩,
    ⟨(some 33), 33, (.load false 1 (.t 32)), (some (31, false)), [4, 3]⟩,
    ⟨(some 34), 34, (.bin false .gtr (.t 33) (.k (.c (.s (.pv (.int .i64 2147483647)))))), (some (31, false)), [5, 3]⟩,
    ⟨(some 35), 35, (.pick (.t 31) (.k (.c (.s (.pv (.bool true))))) (.t 34)), none, [3, 6]⟩,
    ⟨(some 36), 36, (.mv (.t 35)), none, [7, 3]⟩,
    ⟨(some 37), 37, (.fld 1 (.t 4)), (some (36, false)), [8]⟩,
    ⟨(some 38), 38, (.load false 1 (.t 37)), (some (36, false)), [9, 8]⟩,
    ⟨(some 39), 39, (.bin false .lss (.t 38) (.k (.c (.s (.pv (.int .i64 0)))))), (some (36, false)), [10, 8]⟩,
    ⟨(some 40), 40, (.pick (.t 36) (.k (.c (.s (.pv (.bool true))))) (.t 39)), none, [8, 11]⟩,
    ⟨(some 41), 41, (.mv (.t 40)), none, [12, 8]⟩,
    ⟨(some 42), 42, (.fld 1 (.t 4)), (some (41, false)), [13]⟩,
    ⟨(some 43), 43, (.load false 1 (.t 42)), (some (41, false)), [14, 13]⟩,
    ⟨(some 44), 44, (.bin false .gtr (.t 43) (.k (.c (.s (.pv (.int .i64 2147483647)))))), (some (41, false)), [15, 13]⟩,
    ⟨(some 45), 45, (.pick (.t 41) (.k (.c (.s (.pv (.bool true))))) (.t 44)), none, [13, 16]⟩,
    ⟨(some 46), 46, (.mv (.t 45)), none, [17, 13]⟩,
    ⟨(some 47), 47, (.load true 1 (.t 1)), (some (46, false)), [18]⟩,
    ⟨(some 48), 48, (.fld 0 (.t 4)), (some (46, false)), [18]⟩,
    ⟨(some 49), 49, (.load false 1 (.t 48)), (some (46, false)), [20, 18]⟩,
    ⟨(some 50), 50, (.call 38 [(.t 47), (.t 49)]), (some (46, false)), [19, 21, 18, 18]⟩,
    ⟨(some 51), 51, (.bin false .neq (.t 50) (.k (.c (.s (.pv (.int .i64 1)))))), (some (46, false)), [22, 18]⟩,
    ⟨(some 52), 52, (.pick (.t 46) (.k (.c (.s (.pv (.bool true))))) (.t 51)), none, [18, 23]⟩])
  (.cond (.t 52) (.seq (.reg [⟨(some 2), 2, (.mv (.k (.c (.s (.pv (.bool false)))))), none, []⟩])
  .ret) .skip))
  (.seq (.reg [⟨(some 5), 5, (.mv (.k (.c (.s (.pv (.int .i64 0)))))), none, []⟩])
  (.block 2 (.loop (.seq (.seq (.reg [⟨(some 53), 53, (.mv (.t 5)), none, []⟩,
    ⟨(some 54), 54, (.bin false .lss (.t 53) (.k (.c (.s (.pv (.int .i64 16)))))), none, [0]⟩])
  (.cond (.t 54) .skip (.exit 2)))
  (.seq (.block 3 (.seq (.reg [⟨(some 57), 57, (.fld 0 (.t 4)), none, []⟩,
    ⟨(some 58), 58, (.load false 1 (.t 57)), none, [0]⟩,
    ⟨(some 59), 59, (.mv (.t 5)), none, []⟩,
    ⟨(some 60), 60, (.bin false .add (.t 58) (.t 59)), none, [1, 2]⟩,
    ⟨(some 61), 61, (.bin false .rem (.t 60) (.k (.c (.s (.pv (.int .i64 16)))))), none, [3]⟩,
    ⟨(some 6), 6, (.mv (.t 61)), none, [4, 0, 1, 2, 3, 4]⟩])
  (.seq (.seq (.reg [⟨(some 62), 62, (.mv (.t 6)), none, []⟩,
    ⟨(some 63), 63, (.mv (.t 3)), none, []⟩,
    ⟨(some 64), 64, (.bin false .eql (.t 62) (.t 63)), none, [0, 1]⟩])
  (.cond (.t 64) (.exit 2) .skip))
  (.seq (.reg [⟨(some 65), 65, (.fld 0 (.t 1)), none, []⟩,
    ⟨(some 66), 66, (.load false 1 (.t 65)), none, [0]⟩,
    ⟨(some 67), 67, (.mv (.t 6)), none, []⟩,
    ⟨(some 68), 68, (.idx 2 (.t 66) (.t 67)), none, [1, 2]⟩,
    ⟨(some 69), 69, (.fld 0 (.t 68)), none, [3]⟩,
    ⟨(some 70), 70, (.load false 1 (.t 69)), none, [4]⟩,
    ⟨(some 71), 71, (.bin false .eql (.t 70) (.k (.c (.s (.pv (.int .i64 0)))))), none, [5]⟩])
  (.cond (.t 71) (.seq (.reg [⟨(some 2), 2, (.mv (.k (.c (.s (.pv (.bool false)))))), none, []⟩])
  .ret) .skip)))))
  (.reg [⟨(some 55), 55, (.mv (.t 5)), none, []⟩,
    ⟨(some 56), 56, (.bin false .add (.t 55) (.k (.c (.s (.pv (.int .i64 1)))))), none, [0]⟩,
    ⟨(some 5), 5, (.mv (.t 56)), none, [1, 0, 1]⟩]))))))))))
  (.reg [⟨(some 13), 13, (.mv (.t 3)), none, []⟩,
    ⟨(some 14), 14, (.bin false .add (.t 13) (.k (.c (.s (.pv (.int .i64 1)))))), none, [0]⟩,
    ⟨(some 3), 3, (.mv (.t 14)), none, [1, 0, 1]⟩]))))))
  (.seq (.reg [⟨(some 2), 2, (.mv (.k (.c (.s (.pv (.bool true)))))), none, []⟩])
  .ret))))
theorem fn16 : FnIs Try.prog 16 ac16 [(.t 2)] 72 := ⟨Try.f16, Try.func16, by kernel_rfl, by kernel_rfl, by kernel_rfl⟩
/- lockkeeper/lockkeeperref07.Find -/
def ac17 : ACode := (.seq (.reg [⟨(some 2), 2, (.box 27 1 (.t 0)), none, []⟩,
    ⟨(some 4), 4, (.mv (.k (.c (.s (.pv (.int .i64 0)))))), none, []⟩])
  (.seq (.seq (.reg [⟨(some 6), 6, (.mv (.t 1)), none, []⟩,
    ⟨(some 7), 7, (.bin false .eql (.t 6) (.k (.c (.s (.pv (.int .i64 0)))))), none, [0]⟩])
  (.cond (.t 7) (.seq (.reg [⟨(some 4), 4, (.mv (.k (.c (.s (.pv (.int .i64 (-1))))))), none, []⟩])
  .ret) .skip))
  (.seq (.seq (.reg [⟨(some 5), 5, (.mv (.k (.c (.s (.pv (.int .i64 0)))))), none, []⟩])
  (.block 0 (.loop (.seq (.seq (.reg [⟨(some 8), 8, (.mv (.t 5)), none, []⟩,
    ⟨(some 9), 9, (.fld 0 (.t 2)), none, []⟩,
    ⟨(some 10), 10, (.load false 1 (.t 9)), none, [1]⟩,
    ⟨(some 11), 11, (.len (.t 10)), none, [2]⟩,
    ⟨(some 12), 12, (.bin false .lss (.t 8) (.t 11)), none, [0, 3]⟩])
  (.cond (.t 12) .skip (.exit 0)))
  (.seq (.block 1 (.seq (.reg [⟨(some 15), 15, (.fld 0 (.t 2)), none, []⟩,
    ⟨(some 16), 16, (.load false 1 (.t 15)), none, [0]⟩,
    ⟨(some 17), 17, (.mv (.t 5)), none, []⟩,
    ⟨(some 18), 18, (.idx 2 (.t 16) (.t 17)), none, [1, 2]⟩,
    ⟨(some 19), 19, (.fld 0 (.t 18)), none, [3]⟩,
    ⟨(some 20), 20, (.load false 1 (.t 19)), none, [4]⟩,
    ⟨(some 21), 21, (.mv (.t 1)), none, []⟩,
    ⟨(some 22), 22, (.bin false .eql (.t 20) (.t 21)), none, [5, 6]⟩])
  (.cond (.t 22) (.seq (.reg [⟨(some 23), 23, (.mv (.t 5)), none, []⟩,
    ⟨(some 4), 4, (.mv (.t 23)), none, [0, 0]⟩])
  .ret) .skip)))
  (.reg [⟨(some 13), 13, (.mv (.t 5)), none, []⟩,
    ⟨(some 14), 14, (.bin false .add (.t 13) (.k (.c (.s (.pv (.int .i64 1)))))), none, [0]⟩,
    ⟨(some 5), 5, (.mv (.t 14)), none, [1, 0, 1]⟩]))))))
  (.seq (.reg [⟨(some 4), 4, (.mv (.k (.c (.s (.pv (.int .i64 (-1))))))), none, []⟩])
  .ret))))
theorem fn17 : FnIs Try.prog 17 ac17 [(.t 4)] 24 := ⟨Try.f17, Try.func17, by kernel_rfl, by kernel_rfl, by kernel_rfl⟩
/- lockkeeper/table.New -/
def ac18 : ACode := (.seq (.reg [⟨(some 0), 0, (.mk 24 1 [[.zc]]), none, []⟩])
  (.seq (.reg [⟨(some 1), 1, (.mkSlice 80 2 16 [(.pv (.int .i64 0)), (.pv (.int .i64 0))] (.k (.c (.s (.pv (.int .i64 16))))) (.k (.c (.s (.pv (.int .i64 16)))))), none, []⟩,
    ⟨(some 2), 2, (.build [.zc] [(0, 1, (.t 1))]), none, [0]⟩,
    ⟨none, 5, (.store 1 (.t 0) (.t 2)), none, [1, 0, 1]⟩])
  .ret))
theorem fn18 : FnIs Try.prog 18 ac18 [(.cell 0 true 1)] 3 := ⟨Try.f18, Try.func18, by kernel_rfl, by kernel_rfl, by kernel_rfl⟩
/- lockkeeper/table.Put -/
def ac19 : ACode := (.seq (.reg [⟨(some 3), 3, (.box 24 1 (.t 0)), none, []⟩,
    ⟨(some 6), 6, (.mk 24 1 [[.zc]]), none, []⟩,
    ⟨(some 7), 7, (.mv (.k (.c (.s (.pv (.int .i64 0)))))), none, []⟩])
  (.seq (.seq (.reg [⟨(some 12), 12, (.load true 1 (.t 3)), none, []⟩,
    ⟨(some 13), 13, (.call 21 [(.t 12)]), none, [0]⟩,
    ⟨(some 14), 14, (.not (.t 13)), none, [1]⟩,
    ⟨(some 15), 15, (.mv (.t 14)), none, [2, 1]⟩,
    ⟨(some 16), 16, (.mv (.t 1)), (some (15, false)), [3]⟩,
    ⟨(some 17), 17, (.call 39 [(.t 16)]), (some (15, false)), [4, 3, 3]⟩,
    ⟨(some 18), 18, (.not (.t 17)), (some (15, false)), [5, 3]⟩,
    ⟨(some 19), 19, (.pick (.t 15) (.k (.c (.s (.pv (.bool true))))) (.t 18)), none, [3, 6]⟩,
    ⟨(some 20), 20, (.mv (.t 19)), none, [7, 5]⟩,
    ⟨(some 21), 21, (.mv (.t 2)), (some (20, false)), [8]⟩,
    ⟨(some 22), 22, (.call 40 [(.t 21)]), (some (20, false)), [9, 8, 8]⟩,
    ⟨(some 23), 23, (.not (.t 22)), (some (20, false)), [10, 8]⟩,
    ⟨(some 24), 24, (.pick (.t 20) (.k (.c (.s (.pv (.bool true))))) (.t 23)), none, [8, 11]⟩])
  (.cond (.t 24) (.seq (.reg [⟨(some 25), 25, (.load true 1 (.t 3)), none, []⟩,
    ⟨none, 52, (.store 1 (.t 6) (.t 25)), none, [0, 0]⟩,
    ⟨(some 7), 7, (.mv (.k (.c (.s (.pv (.int .i64 1)))))), none, [1, 0, 1]⟩])
  .ret) .skip))
  (.seq (.seq (.reg [⟨(some 27), 27, (.load true 1 (.t 3)), none, []⟩,
    ⟨(some 28), 28, (.mv (.t 1)), none, []⟩,
    ⟨(some 29), 29, (.call 41 [(.t 27), (.t 28)]), none, [0, 1]⟩,
    ⟨(some 26), 26, (.mv (.t 29)), none, [2]⟩,
    ⟨(some 30), 30, (.ext 0 (.t 26)), none, [3]⟩,
    ⟨(some 31), 31, (.ext 1 (.t 26)), none, [3]⟩,
    ⟨(some 8), 8, (.mv (.t 30)), none, [4, 2, 0, 1, 2, 3, 4]⟩,
    ⟨(some 9), 9, (.mv (.t 31)), none, [5, 6, 0, 1, 2, 3, 4, 5, 6]⟩])
  (.seq (.reg [⟨(some 32), 32, (.mv (.t 9)), none, []⟩])
  (.cond (.t 32) (.seq (.reg [⟨(some 33), 33, (.load true 1 (.t 3)), none, []⟩,
    ⟨none, 52, (.store 1 (.t 6) (.t 33)), none, [0, 0]⟩,
    ⟨(some 7), 7, (.mv (.k (.c (.s (.pv (.int .i64 4)))))), none, [1, 0, 1]⟩])
  .ret) .skip)))
  (.seq (.reg [⟨(some 34), 34, (.load true 1 (.t 3)), none, []⟩,
    ⟨(some 35), 35, (.mv (.t 1)), none, []⟩,
    ⟨(some 36), 36, (.call 42 [(.t 34), (.t 35)]), none, [0, 1]⟩,
    ⟨(some 10), 10, (.mv (.t 36)), none, [2, 2, 0, 1, 2]⟩])
  (.seq (.seq (.reg [⟨(some 37), 37, (.mv (.t 10)), none, []⟩,
    ⟨(some 38), 38, (.bin false .lss (.t 37) (.k (.c (.s (.pv (.int .i64 0)))))), none, [0]⟩])
  (.cond (.t 38) (.seq (.reg [⟨(some 39), 39, (.load true 1 (.t 3)), none, []⟩,
    ⟨none, 52, (.store 1 (.t 6) (.t 39)), none, [0, 0]⟩,
    ⟨(some 7), 7, (.mv (.k (.c (.s (.pv (.int .i64 7)))))), none, [1, 0, 1]⟩])
  .ret) .skip))
  (.seq (.reg [⟨(some 40), 40, (.fld 0 (.t 3)), none, []⟩,
    ⟨(some 41), 41, (.load false 1 (.t 40)), none, [0]⟩,
    ⟨(some 42), 42, (.call 43 [(.t 41)]), none, [1]⟩,
    ⟨(some 11), 11, (.mv (.t 42)), none, [2, 2, 0, 1, 2]⟩])
  (.seq (.reg [⟨(some 43), 43, (.mv (.t 11)), none, []⟩,
    ⟨(some 44), 44, (.mv (.t 10)), none, []⟩,
    ⟨(some 45), 45, (.mv (.t 1)), none, []⟩,
    ⟨(some 46), 46, (.mv (.t 2)), none, []⟩,
    ⟨(some 47), 47, (.build [(.s (.pv (.int .i64 0))), (.s (.pv (.int .i64 0)))] [(0, 1, (.t 45)), (1, 1, (.t 46))]), none, [2, 3]⟩,
    ⟨(some 48), 48, (.idx 2 (.t 43) (.t 44)), none, [0, 1, 0, 1, 2, 3, 4]⟩,
    ⟨none, 57, (.store 2 (.t 48) (.t 47)), none, [5, 4, 0, 1, 2, 3, 4]⟩])
  (.seq (.reg [⟨(some 49), 49, (.mv (.t 11)), none, []⟩,
    ⟨(some 50), 50, (.build [.zc] [(0, 1, (.t 49))]), none, [0]⟩,
    ⟨none, 53, (.store 1 (.t 6) (.t 50)), none, [1, 0, 1]⟩,
    ⟨(some 7), 7, (.mv (.k (.c (.s (.pv (.int .i64 0)))))), none, [2, 0, 1, 2]⟩])
  .ret))))))))
theorem fn19 : FnIs Try.prog 19 ac19 [(.cell 6 true 1), (.t 7)] 51 := ⟨Try.f19, Try.func19, by kernel_rfl, by kernel_rfl, by kernel_rfl⟩
/- lockkeeper/table.Del -/
def ac20 : ACode := (.seq (.reg [⟨(some 2), 2, (.box 24 1 (.t 0)), none, []⟩,
    ⟨(some 4), 4, (.mk 24 1 [[.zc]]), none, []⟩,
    ⟨(some 5), 5, (.mv (.k (.c (.s (.pv (.int .i64 0)))))), none, []⟩])
  (.seq (.seq (.reg [⟨(some 13), 13, (.load true 1 (.t 2)), none, []⟩,
    ⟨(some 14), 14, (.call 21 [(.t 13)]), none, [0]⟩,
    ⟨(some 15), 15, (.not (.t 14)), none, [1]⟩])
  (.cond (.t 15) (.seq (.reg [⟨(some 16), 16, (.load true 1 (.t 2)), none, []⟩,
    ⟨none, 69, (.store 1 (.t 4) (.t 16)), none, [0, 0]⟩,
    ⟨(some 5), 5, (.mv (.k (.c (.s (.pv (.int .i64 1)))))), none, [1, 0, 1]⟩])
  .ret) .skip))
  (.seq (.reg [⟨(some 18), 18, (.load true 1 (.t 2)), none, []⟩,
    ⟨(some 19), 19, (.mv (.t 1)), none, []⟩,
    ⟨(some 20), 20, (.call 41 [(.t 18), (.t 19)]), none, [0, 1]⟩,
    ⟨(some 17), 17, (.mv (.t 20)), none, [2]⟩,
    ⟨(some 21), 21, (.ext 0 (.t 17)), none, [3]⟩,
    ⟨(some 22), 22, (.ext 1 (.t 17)), none, [3]⟩,
    ⟨(some 6), 6, (.mv (.t 21)), none, [4, 2, 0, 1, 2, 3, 4]⟩,
    ⟨(some 7), 7, (.mv (.t 22)), none, [5, 6, 0, 1, 2, 3, 4, 5, 6]⟩])
  (.seq (.seq (.reg [⟨(some 23), 23, (.mv (.t 7)), none, []⟩,
    ⟨(some 24), 24, (.not (.t 23)), none, [0]⟩])
  (.cond (.t 24) (.seq (.reg [⟨(some 25), 25, (.load true 1 (.t 2)), none, []⟩,
    ⟨none, 69, (.store 1 (.t 4) (.t 25)), none, [0, 0]⟩,
    ⟨(some 5), 5, (.mv (.k (.c (.s (.pv (.int .i64 3)))))), none, [1, 0, 1]⟩])
  .ret) .skip))
  (.seq (.reg [⟨(some 26), 26, (.fld 0 (.t 2)), none, []⟩,
    ⟨(some 27), 27, (.load false 1 (.t 26)), none, [0]⟩,
    ⟨(some 28), 28, (.call 43 [(.t 27)]), none, [1]⟩,
    ⟨(some 8), 8, (.mv (.t 28)), none, [2, 2, 0, 1, 2]⟩])
  (.seq (.reg [⟨(some 29), 29, (.mv (.t 8)), none, []⟩,
    ⟨(some 30), 30, (.mv (.t 6)), none, []⟩,
    ⟨(some 31), 31, (.build [(.s (.pv (.int .i64 0))), (.s (.pv (.int .i64 0)))] []), none, []⟩,
    ⟨(some 32), 32, (.idx 2 (.t 29) (.t 30)), none, [0, 1, 0, 1, 2]⟩,
    ⟨none, 72, (.store 2 (.t 32) (.t 31)), none, [3, 2, 0, 1, 2]⟩])
  (.seq (.reg [⟨(some 33), 33, (.mv (.t 6)), none, []⟩,
    ⟨(some 9), 9, (.mv (.t 33)), none, [0, 0]⟩])
  (.seq (.seq (.reg [⟨(some 10), 10, (.mv (.k (.c (.s (.pv (.int .i64 1)))))), none, []⟩])
  (.block 0 (.loop (.seq (.seq (.reg [⟨(some 34), 34, (.mv (.t 10)), none, []⟩,
    ⟨(some 35), 35, (.bin false .lss (.t 34) (.k (.c (.s (.pv (.int .i64 16)))))), none, [0]⟩])
  (.cond (.t 35) .skip (.exit 0)))
  (.seq (.block 1 (.seq (.reg [⟨(some 38), 38, (.mv (.t 9)), none, []⟩,
    ⟨(some 39), 39, (.mv (.t 10)), none, []⟩,
    ⟨(some 40), 40, (.bin false .add (.t 38) (.t 39)), none, [0, 1]⟩,
    ⟨(some 41), 41, (.bin false .rem (.t 40) (.k (.c (.s (.pv (.int .i64 16)))))), none, [2]⟩,
    ⟨(some 11), 11, (.mv (.t 41)), none, [3, 0, 1, 2, 3]⟩])
  (.seq (.reg [⟨(some 42), 42, (.mv (.t 8)), none, []⟩,
    ⟨(some 43), 43, (.mv (.t 11)), none, []⟩,
    ⟨(some 44), 44, (.idx 2 (.t 42) (.t 43)), none, [0, 1]⟩,
    ⟨(some 45), 45, (.load true 2 (.t 44)), none, [2]⟩,
    ⟨(some 12), 12, (.mk 80 2 [[(.s (.pv (.int .i64 0))), (.s (.pv (.int .i64 0)))]]), none, []⟩,
    ⟨none, 73, (.store 2 (.t 12) (.t 45)), none, [4, 3, 0, 1, 2, 3, 4]⟩])
  (.seq (.seq (.reg [⟨(some 46), 46, (.load true 2 (.t 12)), none, []⟩,
    ⟨(some 47), 47, (.call 36 [(.t 46)]), none, [0]⟩])
  (.cond (.t 47) (.exit 0) .skip))
  (.seq (.draw [⟨(some 48), 48, (.fld 0 (.t 12)), none, []⟩,
    ⟨(some 49), 49, (.load false 1 (.t 48)), none, [0]⟩,
    ⟨(some 50), 50, (.mv (.t 6)), none, []⟩,
    ⟨(some 51), 51, (.call 44 [(.t 49), (.t 50)]), none, [1, 2]⟩,
    ⟨(some 52), 52, (.fld 0 (.t 12)), none, []⟩,
    ⟨(some 53), 53, (.load false 1 (.t 52)), none, [4]⟩,
    ⟨(some 54), 54, (.mv (.t 11)), none, []⟩,
    ⟨(some 55), 55, (.call 44 [(.t 53), (.t 54)]), none, [5, 6, 3]⟩,
    ⟨(some 56), 56, (.bin false .lss (.t 51) (.t 55)), none, [3, 7]⟩])
  (.cond (.t 56) (.seq (.reg [⟨(some 57), 57, (.mv (.t 8)), none, []⟩,
    ⟨(some 58), 58, (.mv (.t 6)), none, []⟩,
    ⟨(some 59), 59, (.mv (.t 8)), none, []⟩,
    ⟨(some 60), 60, (.mv (.t 11)), none, []⟩,
    ⟨(some 61), 61, (.load true 2 (.t 12)), none, []⟩,
    ⟨(some 62), 62, (.build [(.s (.pv (.int .i64 0))), (.s (.pv (.int .i64 0)))] []), none, []⟩,
    ⟨(some 63), 63, (.idx 2 (.t 57) (.t 58)), none, [0, 1, 0, 1, 4]⟩,
    ⟨none, 75, (.store 2 (.t 63) (.t 61)), none, [6, 4, 0, 1, 4]⟩,
    ⟨(some 64), 64, (.idx 2 (.t 59) (.t 60)), none, [2, 3, 0, 1, 2, 3, 4, 5, 6, 7]⟩,
    ⟨none, 77, (.store 2 (.t 64) (.t 62)), none, [8, 5, 7, 0, 1, 2, 3, 4, 5, 6, 7]⟩])
  (.reg [⟨(some 65), 65, (.mv (.t 11)), none, []⟩,
    ⟨(some 6), 6, (.mv (.t 65)), none, [0, 0]⟩])) .skip))))))
  (.reg [⟨(some 36), 36, (.mv (.t 10)), none, []⟩,
    ⟨(some 37), 37, (.bin false .add (.t 36) (.k (.c (.s (.pv (.int .i64 1)))))), none, [0]⟩,
    ⟨(some 10), 10, (.mv (.t 37)), none, [1, 0, 1]⟩]))))))
  (.seq (.reg [⟨(some 66), 66, (.mv (.t 8)), none, []⟩,
    ⟨(some 67), 67, (.build [.zc] [(0, 1, (.t 66))]), none, [0]⟩,
    ⟨none, 70, (.store 1 (.t 4) (.t 67)), none, [1, 0, 1]⟩,
    ⟨(some 5), 5, (.mv (.k (.c (.s (.pv (.int .i64 0)))))), none, [2, 0, 1, 2]⟩])
  .ret)))))))))
theorem fn20 : FnIs Try.prog 20 ac20 [(.cell 4 true 1), (.t 5)] 68 := ⟨Try.f20, Try.func20, by kernel_rfl, by kernel_rfl, by kernel_rfl⟩
/- lockkeeper/table.Right -/
def ac21 : ACode := (.seq (.reg [⟨(some 1), 1, (.box 24 1 (.t 0)), none, []⟩,
    ⟨(some 2), 2, (.mv (.k (.c (.s (.pv (.bool false)))))), none, []⟩])
  (.seq (.seq (.reg [⟨(some 5), 5, (.fld 0 (.t 1)), none, []⟩,
    ⟨(some 6), 6, (.load false 1 (.t 5)), none, [0]⟩,
    ⟨(some 7), 7, (.len (.t 6)), none, [1]⟩,
    ⟨(some 8), 8, (.bin false .neq (.t 7) (.k (.c (.s (.pv (.int .i64 16)))))), none, [2]⟩])
  (.cond (.t 8) (.seq (.reg [⟨(some 2), 2, (.mv (.k (.c (.s (.pv (.bool false)))))), none, []⟩])
  .ret) .skip))
  (.seq (.seq (.reg [⟨(some 9), 9, (.fld 0 (.t 1)), none, []⟩,
    ⟨(some 10), 10, (.load false 1 (.t 9)), none, [0]⟩,
    ⟨(some 11), 11, (.len (.t 10)), none, [1]⟩,
    ⟨(some 12), 12, (.mv (.k (.c (.s (.pv (.int .i64 0)))))), none, []⟩])
  (.block 0 (.loop (.seq (.reg [⟨(some 13), 13, (.bin false .lss (.t 12) (.t 11)), none, []⟩])
  (.seq (.cond (.t 13) .skip (.exit 0))
  (.seq (.block 1 (.seq (.reg [⟨(some 14), 14, (.mv (.t 12)), none, []⟩,
    ⟨(some 15), 15, (.idx 2 (.t 10) (.t 12)), none, []⟩,
    ⟨(some 16), 16, (.load true 2 (.t 15)), none, [1]⟩,
    ⟨(some 4), 4, (.mk 80 2 [[(.s (.pv (.int .i64 0))), (.s (.pv (.int .i64 0)))]]), none, []⟩,
    ⟨(some 3), 3, (.mv (.t 14)), none, [0, 0, 1, 2, 3]⟩,
    ⟨none, 43, (.store 2 (.t 4) (.t 16)), none, [3, 2, 4, 0, 1, 2, 3, 4]⟩])
  (.seq (.seq (.reg [⟨(some 17), 17, (.load true 2 (.t 4)), none, []⟩,
    ⟨(some 18), 18, (.call 36 [(.t 17)]), none, [0]⟩])
  (.cond (.t 18) (.exit 1) .skip))
  (.seq (.reg [⟨(some 19), 19, (.fld 0 (.t 4)), none, []⟩,
    ⟨(some 20), 20, (.load false 1 (.t 19)), none, [0]⟩,
    ⟨(some 21), 21, (.call 39 [(.t 20)]), none, [1]⟩,
    ⟨(some 22), 22, (.not (.t 21)), none, [2]⟩,
    ⟨(some 23), 23, (.mv (.t 22)), none, [3, 2]⟩,
    ⟨(some 24), 24, (.fld 1 (.t 4)), (some (23, false)), [4]⟩,
    ⟨(some 25), 25, (.load false 1 (.t 24)), (some (23, false)), [5, 4]⟩,
    ⟨(some 26), 26, (.call 40 [(.t 25)]), (some (23, false)), [6, 4, 4]⟩,
    ⟨(some 27), 27, (.not (.t 26)), (some (23, false)), [7, 4]⟩,
    ⟨(some 28), 28, (.pick (.t 23) (.k (.c (.s (.pv (.bool true))))) (.t 27)), none, [4, 8]⟩,
    ⟨(some 29), 29, (.mv (.t 28)), none, [9, 7]⟩,
    ⟨(some 30), 30, (.load true 1 (.t 1)), (some (29, false)), [10]⟩,
    ⟨(some 31), 31, (.fld 0 (.t 4)), (some (29, false)), [10]⟩,
    ⟨(some 32), 32, (.load false 1 (.t 31)), (some (29, false)), [12, 10]⟩,
    ⟨(some 33), 33, (.call 42 [(.t 30), (.t 32)]), (some (29, false)), [11, 13, 10, 10]⟩,
    ⟨(some 34), 34, (.mv (.t 3)), (some (29, false)), [10]⟩,
    ⟨(some 35), 35, (.bin false .neq (.t 33) (.t 34)), (some (29, false)), [14, 15, 10]⟩,
    ⟨(some 36), 36, (.pick (.t 29) (.k (.c (.s (.pv (.bool true))))) (.t 35)), none, [10, 16]⟩])
  (.cond (.t 36) (.seq (.reg [⟨(some 2), 2, (.mv (.k (.c (.s (.pv (.bool false)))))), none, []⟩])
  .ret) .skip)))))
  (.reg [⟨(some 37), 37, (.bin false .add (.t 12) (.k (.c (.s (.pv (.int .i64 1)))))), none, []⟩,
    ⟨(some 12), 12, (.mv (.t 37)), none, [0]⟩])))))))
  (.seq (.reg [⟨(some 2), 2, (.mv (.k (.c (.s (.pv (.bool true)))))), none, []⟩])
  .ret))))
theorem fn21 : FnIs Try.prog 21 ac21 [(.t 2)] 38 := ⟨Try.f21, Try.func21, by kernel_rfl, by kernel_rfl, by kernel_rfl⟩
/- lockkeeper/table.Find -/
def ac22 : ACode := (.seq (.reg [⟨(some 2), 2, (.box 24 1 (.t 0)), none, []⟩,
    ⟨(some 4), 4, (.mv (.k (.c (.s (.pv (.int .i64 0)))))), none, []⟩,
    ⟨(some 5), 5, (.mv (.k (.c (.s (.pv (.bool false)))))), none, [1]⟩])
  (.seq (.seq (.reg [⟨(some 8), 8, (.load true 1 (.t 2)), none, []⟩,
    ⟨(some 9), 9, (.call 21 [(.t 8)]), none, [0]⟩,
    ⟨(some 10), 10, (.not (.t 9)), none, [1]⟩])
  (.cond (.t 10) (.seq (.reg [⟨(some 4), 4, (.mv (.k (.c (.s (.pv (.int .i64 0)))))), none, []⟩,
    ⟨(some 5), 5, (.mv (.k (.c (.s (.pv (.bool false)))))), none, [0, 0]⟩])
  .ret) .skip))
  (.seq (.reg [⟨(some 12), 12, (.load true 1 (.t 2)), none, []⟩,
    ⟨(some 13), 13, (.mv (.t 1)), none, []⟩,
    ⟨(some 14), 14, (.call 41 [(.t 12), (.t 13)]), none, [0, 1]⟩,
    ⟨(some 11), 11, (.mv (.t 14)), none, [2]⟩,
    ⟨(some 15), 15, (.ext 0 (.t 11)), none, [3]⟩,
    ⟨(some 16), 16, (.ext 1 (.t 11)), none, [3]⟩,
    ⟨(some 6), 6, (.mv (.t 15)), none, [4, 2, 0, 1, 2, 3, 4]⟩,
    ⟨(some 7), 7, (.mv (.t 16)), none, [5, 6, 0, 1, 2, 3, 4, 5, 6]⟩])
  (.seq (.seq (.reg [⟨(some 17), 17, (.mv (.t 7)), none, []⟩,
    ⟨(some 18), 18, (.not (.t 17)), none, [0]⟩])
  (.cond (.t 18) (.seq (.reg [⟨(some 4), 4, (.mv (.k (.c (.s (.pv (.int .i64 0)))))), none, []⟩,
    ⟨(some 5), 5, (.mv (.k (.c (.s (.pv (.bool false)))))), none, [0, 0]⟩])
  .ret) .skip))
  (.seq (.reg [⟨(some 19), 19, (.fld 0 (.t 2)), none, []⟩,
    ⟨(some 20), 20, (.load false 1 (.t 19)), none, [0]⟩,
    ⟨(some 21), 21, (.mv (.t 6)), none, []⟩,
    ⟨(some 22), 22, (.idx 2 (.t 20) (.t 21)), none, [1, 2]⟩,
    ⟨(some 23), 23, (.fld 1 (.t 22)), none, [3]⟩,
    ⟨(some 24), 24, (.load false 1 (.t 23)), none, [4]⟩,
    ⟨(some 4), 4, (.mv (.t 24)), none, [5, 0, 1, 2, 3, 4, 5]⟩,
    ⟨(some 5), 5, (.mv (.k (.c (.s (.pv (.bool true)))))), none, [6, 0, 1, 2, 3, 4, 5, 6]⟩])
  .ret)))))
theorem fn22 : FnIs Try.prog 22 ac22 [(.t 4), (.t 5)] 25 := ⟨Try.f22, Try.func22, by kernel_rfl, by kernel_rfl, by kernel_rfl⟩
/- lockkeeper/lockkeeperref07.Same -/
def ac23 : ACode := (.seq (.reg [⟨(some 2), 2, (.box 27 1 (.t 0)), none, []⟩,
    ⟨(some 3), 3, (.box 27 1 (.t 1)), none, []⟩,
    ⟨(some 4), 4, (.mv (.k (.c (.s (.pv (.bool false)))))), none, []⟩])
  (.seq (.seq (.reg [⟨(some 6), 6, (.fld 0 (.t 2)), none, []⟩,
    ⟨(some 7), 7, (.load false 1 (.t 6)), none, [0]⟩,
    ⟨(some 8), 8, (.len (.t 7)), none, [1]⟩,
    ⟨(some 9), 9, (.fld 0 (.t 3)), none, []⟩,
    ⟨(some 10), 10, (.load false 1 (.t 9)), none, [3]⟩,
    ⟨(some 11), 11, (.len (.t 10)), none, [4]⟩,
    ⟨(some 12), 12, (.bin false .neq (.t 8) (.t 11)), none, [2, 5]⟩])
  (.cond (.t 12) (.seq (.reg [⟨(some 4), 4, (.mv (.k (.c (.s (.pv (.bool false)))))), none, []⟩])
  .ret) .skip))
  (.seq (.seq (.reg [⟨(some 5), 5, (.mv (.k (.c (.s (.pv (.int .i64 0)))))), none, []⟩])
  (.block 0 (.loop (.seq (.seq (.reg [⟨(some 13), 13, (.mv (.t 5)), none, []⟩,
    ⟨(some 14), 14, (.fld 0 (.t 2)), none, []⟩,
    ⟨(some 15), 15, (.load false 1 (.t 14)), none, [1]⟩,
    ⟨(some 16), 16, (.len (.t 15)), none, [2]⟩,
    ⟨(some 17), 17, (.bin false .lss (.t 13) (.t 16)), none, [0, 3]⟩])
  (.cond (.t 17) .skip (.exit 0)))
  (.seq (.block 1 (.seq (.draw [⟨(some 20), 20, (.fld 0 (.t 2)), none, []⟩,
    ⟨(some 21), 21, (.load false 1 (.t 20)), none, [0]⟩,
    ⟨(some 22), 22, (.mv (.t 5)), none, []⟩,
    ⟨(some 23), 23, (.idx 2 (.t 21) (.t 22)), none, [1, 2]⟩,
    ⟨(some 24), 24, (.load true 2 (.t 23)), none, [3]⟩,
    ⟨(some 25), 25, (.fld 0 (.t 3)), none, []⟩,
    ⟨(some 26), 26, (.load false 1 (.t 25)), none, [5]⟩,
    ⟨(some 27), 27, (.mv (.t 5)), none, []⟩,
    ⟨(some 28), 28, (.idx 2 (.t 26) (.t 27)), none, [6, 7]⟩,
    ⟨(some 29), 29, (.load true 2 (.t 28)), none, [8]⟩,
    ⟨(some 30), 30, (.eqs true 35 (.t 24) (.t 29)), none, [4, 9]⟩])
  (.cond (.t 30) (.seq (.reg [⟨(some 4), 4, (.mv (.k (.c (.s (.pv (.bool false)))))), none, []⟩])
  .ret) .skip)))
  (.reg [⟨(some 18), 18, (.mv (.t 5)), none, []⟩,
    ⟨(some 19), 19, (.bin false .add (.t 18) (.k (.c (.s (.pv (.int .i64 1)))))), none, [0]⟩,
    ⟨(some 5), 5, (.mv (.t 19)), none, [1, 0, 1]⟩]))))))
  (.seq (.reg [⟨(some 4), 4, (.mv (.k (.c (.s (.pv (.bool true)))))), none, []⟩])
  .ret))))
theorem fn23 : FnIs Try.prog 23 ac23 [(.t 4)] 31 := ⟨Try.f23, Try.func23, by kernel_rfl, by kernel_rfl, by kernel_rfl⟩
/- lockkeeper/table.free -/
def ac36 : ACode := (.seq (.reg [⟨(some 1), 1, (.box 80 2 (.t 0)), none, []⟩,
    ⟨(some 2), 2, (.mv (.k (.c (.s (.pv (.bool false)))))), none, []⟩])
  (.seq (.reg [⟨(some 3), 3, (.load true 2 (.t 1)), none, []⟩,
    ⟨(some 4), 4, (.build [(.s (.pv (.int .i64 0))), (.s (.pv (.int .i64 0)))] []), none, []⟩,
    ⟨(some 5), 5, (.eqs false 80 (.t 3) (.t 4)), none, [0, 1]⟩,
    ⟨(some 2), 2, (.mv (.t 5)), none, [2, 0, 1, 2]⟩])
  .ret))
theorem fn36 : FnIs Try.prog 36 ac36 [(.t 2)] 6 := ⟨Try.f36, Try.func36, by kernel_rfl, by kernel_rfl, by kernel_rfl⟩
/- lockkeeper/lockkeeperref07.there -/
def ac38 : ACode := (.seq (.reg [⟨(some 2), 2, (.box 27 1 (.t 0)), none, []⟩,
    ⟨(some 4), 4, (.mv (.k (.c (.s (.pv (.int .i64 0)))))), none, []⟩])
  (.seq (.reg [⟨(some 5), 5, (.mv (.k (.c (.s (.pv (.int .i64 0)))))), none, []⟩])
  (.seq (.seq (.reg [⟨(some 6), 6, (.mv (.k (.c (.s (.pv (.int .i64 0)))))), none, []⟩])
  (.block 0 (.loop (.seq (.seq (.reg [⟨(some 7), 7, (.mv (.t 6)), none, []⟩,
    ⟨(some 8), 8, (.fld 0 (.t 2)), none, []⟩,
    ⟨(some 9), 9, (.load false 1 (.t 8)), none, [1]⟩,
    ⟨(some 10), 10, (.len (.t 9)), none, [2]⟩,
    ⟨(some 11), 11, (.bin false .lss (.t 7) (.t 10)), none, [0, 3]⟩])
  (.cond (.t 11) .skip (.exit 0)))
  (.seq (.block 1 (.seq (.reg [⟨(some 14), 14, (.fld 0 (.t 2)), none, []⟩,
    ⟨(some 15), 15, (.load false 1 (.t 14)), none, [0]⟩,
    ⟨(some 16), 16, (.mv (.t 6)), none, []⟩,
    ⟨(some 17), 17, (.idx 2 (.t 15) (.t 16)), none, [1, 2]⟩,
    ⟨(some 18), 18, (.fld 0 (.t 17)), none, [3]⟩,
    ⟨(some 19), 19, (.load false 1 (.t 18)), none, [4]⟩,
    ⟨(some 20), 20, (.mv (.t 1)), none, []⟩,
    ⟨(some 21), 21, (.bin false .eql (.t 19) (.t 20)), none, [5, 6]⟩])
  (.cond (.t 21) (.reg [⟨(some 22), 22, (.mv (.t 5)), none, []⟩,
    ⟨(some 23), 23, (.bin false .add (.t 22) (.k (.c (.s (.pv (.int .i64 1)))))), none, [0]⟩,
    ⟨(some 5), 5, (.mv (.t 23)), none, [1, 0, 1]⟩]) .skip)))
  (.reg [⟨(some 12), 12, (.mv (.t 6)), none, []⟩,
    ⟨(some 13), 13, (.bin false .add (.t 12) (.k (.c (.s (.pv (.int .i64 1)))))), none, [0]⟩,
    ⟨(some 6), 6, (.mv (.t 13)), none, [1, 0, 1]⟩]))))))
  (.seq (.reg [⟨(some 24), 24, (.mv (.t 5)), none, []⟩,
    ⟨(some 4), 4, (.mv (.t 24)), none, [0, 0]⟩])
  .ret))))
theorem fn38 : FnIs Try.prog 38 ac38 [(.t 4)] 25 := ⟨Try.f38, Try.func38, by kernel_rfl, by kernel_rfl, by kernel_rfl⟩
/- lockkeeper/table.isPage -/
def ac39 : ACode := (.seq (.reg [⟨(some 2), 2, (.mv (.k (.c (.s (.pv (.bool false)))))), none, []⟩])
  (.seq (.reg [⟨(some 3), 3, (.mv (.t 0)), none, []⟩,
    ⟨(some 4), 4, (.bin false .geq (.t 3) (.k (.c (.s (.pv (.int .i64 1)))))), none, [0]⟩,
    ⟨(some 5), 5, (.mv (.t 4)), none, [1]⟩,
    ⟨(some 6), 6, (.mv (.t 0)), (some (5, true)), [2]⟩,
    ⟨(some 7), 7, (.bin false .leq (.t 6) (.k (.c (.s (.pv (.int .i64 2147483647)))))), (some (5, true)), [3, 2]⟩,
    ⟨(some 8), 8, (.pick (.t 5) (.t 7) (.k (.c (.s (.pv (.bool false)))))), none, [2, 4]⟩,
    ⟨(some 2), 2, (.mv (.t 8)), none, [5, 2, 0, 1, 2, 3, 4, 5]⟩])
  .ret))
theorem fn39 : FnIs Try.prog 39 ac39 [(.t 2)] 9 := ⟨Try.f39, Try.func39, by kernel_rfl, by kernel_rfl, by kernel_rfl⟩
/- lockkeeper/table.isFrame -/
def ac40 : ACode := (.seq (.reg [⟨(some 2), 2, (.mv (.k (.c (.s (.pv (.bool false)))))), none, []⟩])
  (.seq (.reg [⟨(some 3), 3, (.mv (.t 0)), none, []⟩,
    ⟨(some 4), 4, (.bin false .geq (.t 3) (.k (.c (.s (.pv (.int .i64 0)))))), none, [0]⟩,
    ⟨(some 5), 5, (.mv (.t 4)), none, [1]⟩,
    ⟨(some 6), 6, (.mv (.t 0)), (some (5, true)), [2]⟩,
    ⟨(some 7), 7, (.bin false .leq (.t 6) (.k (.c (.s (.pv (.int .i64 2147483647)))))), (some (5, true)), [3, 2]⟩,
    ⟨(some 8), 8, (.pick (.t 5) (.t 7) (.k (.c (.s (.pv (.bool false)))))), none, [2, 4]⟩,
    ⟨(some 2), 2, (.mv (.t 8)), none, [5, 2, 0, 1, 2, 3, 4, 5]⟩])
  .ret))
theorem fn40 : FnIs Try.prog 40 ac40 [(.t 2)] 9 := ⟨Try.f40, Try.func40, by kernel_rfl, by kernel_rfl, by kernel_rfl⟩
/- lockkeeper/table.slot -/
def ac41 : ACode := (.seq (.reg [⟨(some 2), 2, (.box 24 1 (.t 0)), none, []⟩,
    ⟨(some 4), 4, (.mv (.k (.c (.s (.pv (.int .i64 0)))))), none, []⟩,
    ⟨(some 5), 5, (.mv (.k (.c (.s (.pv (.bool false)))))), none, [1]⟩])
  (.seq (.seq (.reg [⟨(some 7), 7, (.mv (.t 1)), none, []⟩,
    ⟨(some 8), 8, (.call 39 [(.t 7)]), none, [0]⟩,
    ⟨(some 9), 9, (.not (.t 8)), none, [1]⟩])
  (.cond (.t 9) (.seq (.reg [⟨(some 4), 4, (.mv (.k (.c (.s (.pv (.int .i64 0)))))), none, []⟩,
    ⟨(some 5), 5, (.mv (.k (.c (.s (.pv (.bool false)))))), none, [0, 0]⟩])
  .ret) .skip))
  (.seq (.reg [⟨(some 10), 10, (.load true 1 (.t 2)), none, []⟩,
    ⟨(some 11), 11, (.mv (.t 1)), none, []⟩,
    ⟨(some 12), 12, (.call 42 [(.t 10), (.t 11)]), none, [0, 1]⟩,
    ⟨(some 6), 6, (.mv (.t 12)), none, [2, 2, 0, 1, 2]⟩])
  (.seq (.draw [⟨(some 13), 13, (.mv (.t 6)), none, []⟩,
    ⟨(some 14), 14, (.mv (.t 6)), none, []⟩,
    ⟨(some 15), 15, (.bin false .geq (.t 14) (.k (.c (.s (.pv (.int .i64 0)))))), none, [1]⟩,
    ⟨(some 16), 16, (.mv (.t 15)), none, [2]⟩,
    ⟨(some 17), 17, (.fld 0 (.t 2)), (some (16, true)), [3]⟩,
    ⟨(some 18), 18, (.load false 1 (.t 17)), (some (16, true)), [4, 3]⟩,
    ⟨(some 19), 19, (.mv (.t 6)), (some (16, true)), [3]⟩,
    ⟨(some 20), 20, (.idx 2 (.t 18) (.t 19)), (some (16, true)), [5, 6, 3]⟩,
    ⟨(some 21), 21, (.fld 0 (.t 20)), (some (16, true)), [7, 3]⟩,
    ⟨(some 22), 22, (.load false 1 (.t 21)), (some (16, true)), [8, 3]⟩,
    ⟨(some 23), 23, (.mv (.t 1)), (some (16, true)), [3]⟩,
    ⟨(some 24), 24, (.bin false .eql (.t 22) (.t 23)), (some (16, true)), [9, 10, 3]⟩,
    ⟨(some 25), 25, (.pick (.t 16) (.t 24) (.k (.c (.s (.pv (.bool false)))))), none, [3, 11]⟩,
    ⟨(some 4), 4, (.mv (.t 13)), none, [0, 3, 0]⟩,
    ⟨(some 5), 5, (.mv (.t 25)), none, [12, 13, 0, 1, 2, 3, 4, 5, 6, 7, 8, 9, 10, 11, 12, 13]⟩])
  .ret))))
theorem fn41 : FnIs Try.prog 41 ac41 [(.t 4), (.t 5)] 26 := ⟨Try.f41, Try.func41, by kernel_rfl, by kernel_rfl, by kernel_rfl⟩
/- lockkeeper/table.seek -/
def ac42 : ACode := (.seq (.reg [⟨(some 2), 2, (.box 24 1 (.t 0)), none, []⟩,
    ⟨(some 4), 4, (.mv (.k (.c (.s (.pv (.int .i64 0)))))), none, []⟩])
  (.seq (.seq (.reg [⟨(some 8), 8, (.mv (.k (.c (.s (.pv (.int .i64 0)))))), none, []⟩])
  (.block 0 (.loop (.seq (.reg [⟨(some 9), 9, (.bin false .lss (.t 8) (.k (.c (.s (.pv (.int .i64 16)))))), none, []⟩])
  (.seq (.cond (.t 9) .skip (.exit 0))
  (.seq (.block 1 (.seq (.reg [⟨(some 10), 10, (.mv (.t 8)), none, []⟩,
    ⟨(some 5), 5, (.mv (.t 10)), none, [0, 0]⟩])
  (.seq (.reg [⟨(some 11), 11, (.mv (.t 1)), none, []⟩,
    ⟨(some 12), 12, (.mv (.t 5)), none, []⟩,
    ⟨(some 13), 13, (.bin false .add (.t 11) (.t 12)), none, [0, 1]⟩,
    ⟨(some 14), 14, (.bin false .rem (.t 13) (.k (.c (.s (.pv (.int .i64 16)))))), none, [2]⟩,
    ⟨(some 6), 6, (.mv (.t 14)), none, [3, 0, 1, 2, 3]⟩])
  (.seq (.reg [⟨(some 15), 15, (.fld 0 (.t 2)), none, []⟩,
    ⟨(some 16), 16, (.load false 1 (.t 15)), none, [0]⟩,
    ⟨(some 17), 17, (.mv (.t 6)), none, []⟩,
    ⟨(some 18), 18, (.idx 2 (.t 16) (.t 17)), none, [1, 2]⟩,
    ⟨(some 19), 19, (.load true 2 (.t 18)), none, [3]⟩,
    ⟨(some 7), 7, (.mk 80 2 [[(.s (.pv (.int .i64 0))), (.s (.pv (.int .i64 0)))]]), none, []⟩,
    ⟨none, 36, (.store 2 (.t 7) (.t 19)), none, [5, 4, 0, 1, 2, 3, 4, 5]⟩])
  (.seq (.reg [⟨(some 20), 20, (.fld 0 (.t 7)), none, []⟩,
    ⟨(some 21), 21, (.load false 1 (.t 20)), none, [0]⟩,
    ⟨(some 22), 22, (.mv (.t 1)), none, []⟩,
    ⟨(some 23), 23, (.bin false .eql (.t 21) (.t 22)), none, [1, 2]⟩,
    ⟨(some 24), 24, (.mv (.t 23)), none, [3]⟩,
    ⟨(some 25), 25, (.load true 2 (.t 7)), (some (24, false)), [4]⟩,
    ⟨(some 26), 26, (.call 36 [(.t 25)]), (some (24, false)), [5, 4, 4]⟩,
    ⟨(some 27), 27, (.pick (.t 24) (.k (.c (.s (.pv (.bool true))))) (.t 26)), none, [4, 6]⟩])
  (.cond (.t 27) (.seq (.reg [⟨(some 28), 28, (.mv (.t 6)), none, []⟩,
    ⟨(some 4), 4, (.mv (.t 28)), none, [0, 0]⟩])
  .ret) .skip))))))
  (.reg [⟨(some 29), 29, (.bin false .add (.t 8) (.k (.c (.s (.pv (.int .i64 1)))))), none, []⟩,
    ⟨(some 8), 8, (.mv (.t 29)), none, [0]⟩])))))))
  (.seq (.reg [⟨(some 4), 4, (.mv (.k (.c (.s (.pv (.int .i64 (-1))))))), none, []⟩])
  .ret)))
theorem fn42 : FnIs Try.prog 42 ac42 [(.t 4)] 30 := ⟨Try.f42, Try.func42, by kernel_rfl, by kernel_rfl, by kernel_rfl⟩
/- slices.Clone[[]lockkeeper/table.Slot,lockkeeper/table.Slot] -/
def ac43 : ACode := (.seq (.reg [⟨(some 2), 2, (.mv (.k (.c .zc))), none, []⟩])
  (.seq (.seq (.reg [⟨(some 3), 3, (.mv (.t 0)), none, []⟩,
    ⟨(some 4), 4, (.isnil (.t 3)), none, [0]⟩])
  (.cond (.t 4) (.seq (.reg [⟨(some 2), 2, (.mv (.k (.c .zc))), none, []⟩])
  .ret) .skip))
  (.seq (.reg [⟨(some 5), 5, (.bslice 80 2 [(.s (.pv (.int .i64 0))), (.s (.pv (.int .i64 0)))] 0 []), none, []⟩,
    ⟨(some 6), 6, (.mv (.t 0)), none, []⟩,
    ⟨(some 7), 7, (.app 80 2 16 (.t 5) (.t 6)), none, [0, 1]⟩,
    ⟨(some 2), 2, (.mv (.t 7)), none, [2, 2, 0, 1, 2]⟩])
  .ret)))
theorem fn43 : FnIs Try.prog 43 ac43 [(.t 2)] 8 := ⟨Try.f43, Try.func43, by kernel_rfl, by kernel_rfl, by kernel_rfl⟩
/- lockkeeper/table.ahead -/
def ac44 : ACode := (.seq (.reg [⟨(some 4), 4, (.mv (.k (.c (.s (.pv (.int .i64 0)))))), none, []⟩])
  (.seq (.reg [⟨(some 5), 5, (.mv (.t 1)), none, []⟩,
    ⟨(some 6), 6, (.mv (.t 0)), none, []⟩,
    ⟨(some 7), 7, (.bin false .rem (.t 6) (.k (.c (.s (.pv (.int .i64 16)))))), none, [1]⟩,
    ⟨(some 8), 8, (.bin false .sub (.t 5) (.t 7)), none, [0, 2]⟩,
    ⟨(some 9), 9, (.bin false .add (.t 8) (.k (.c (.s (.pv (.int .i64 16)))))), none, [3]⟩,
    ⟨(some 10), 10, (.bin false .rem (.t 9) (.k (.c (.s (.pv (.int .i64 16)))))), none, [4]⟩,
    ⟨(some 4), 4, (.mv (.t 10)), none, [5, 0, 1, 2, 3, 4, 5]⟩])
  .ret))
theorem fn44 : FnIs Try.prog 44 ac44 [(.t 4)] 11 := ⟨Try.f44, Try.func44, by kernel_rfl, by kernel_rfl, by kernel_rfl⟩

end Go.Proofs.Ytkiddlkmodclhaa
