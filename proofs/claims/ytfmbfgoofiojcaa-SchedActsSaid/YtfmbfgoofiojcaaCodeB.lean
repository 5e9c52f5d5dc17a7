/- THE PROGRAM's functions, as the abstract machine's code (printed by wip/tools/code.py out of the translation). No condition. -/
import Derived.Test.YtfmbfgoofiojcaaAm22
import Derived.Test.YtfmbfgoofiojcaaProg
import Derived.KernelRfl
namespace Go.Proofs.Ytfmbfgoofiojcaa
set_option maxRecDepth 100000
/- lockkeeper/lanes.New -/
def ac17 : ACode := (.seq (.reg [⟨(some 2), 2, (.mk 25 3 [[.zc, (.s (.pv (.int .i64 0))), (.s (.pv (.bool false)))]]), none, []⟩,
    ⟨(some 3), 3, (.mv (.k (.c (.s (.pv (.int .i64 0)))))), none, []⟩])
  (.seq (.reg [⟨(some 7), 7, (.mkSlice 56 3 40 [(.pv (.int .i64 0)), (.pv (.int .i64 0)), (.sl 1 [])] (.k (.c (.s (.pv (.int .i64 0))))) (.k (.c (.s (.pv (.int .i64 6)))))), none, []⟩,
    ⟨(some 4), 4, (.mv (.t 7)), none, [0, 0]⟩])
  (.seq (.seq (.reg [⟨(some 8), 8, (.mv (.t 0)), none, []⟩,
    ⟨(some 9), 9, (.len (.t 8)), none, [0]⟩,
    ⟨(some 10), 10, (.mv (.k (.c (.s (.pv (.int .i64 0)))))), none, []⟩])
  (.block 0 (.loop (.seq (.reg [⟨(some 11), 11, (.bin false .lss (.t 10) (.t 9)), none, []⟩])
  (.seq (.cond (.t 11) .skip (.exit 0))
  (.seq (.block 1 (.seq (.reg [⟨(some 12), 12, (.idx 1 (.t 8) (.t 10)), none, []⟩,
    ⟨(some 13), 13, (.load false 1 (.t 12)), none, [0]⟩,
    ⟨(some 6), 6, (.mv (.t 13)), none, [1, 0, 1]⟩])
  (.seq (.seq (.reg [⟨(some 14), 14, (.mv (.t 4)), none, []⟩,
    ⟨(some 15), 15, (.len (.t 14)), none, [0]⟩,
    ⟨(some 16), 16, (.bin false .eql (.t 15) (.k (.c (.s (.pv (.int .i64 6)))))), none, [1]⟩,
    ⟨(some 17), 17, (.mv (.t 16)), none, [2]⟩,
    ⟨(some 18), 18, (.mv (.t 6)), (some (17, false)), [3]⟩,
    ⟨(some 19), 19, (.call 40 [(.t 18)]), (some (17, false)), [4, 3, 3]⟩,
    ⟨(some 20), 20, (.not (.t 19)), (some (17, false)), [5, 3]⟩,
    ⟨(some 21), 21, (.pick (.t 17) (.k (.c (.s (.pv (.bool true))))) (.t 20)), none, [3, 6]⟩])
  (.cond (.t 21) (.seq (.reg [⟨(some 22), 22, (.build [.zc, (.s (.pv (.int .i64 0))), (.s (.pv (.bool false)))] []), none, []⟩,
    ⟨none, 36, (.store 3 (.t 2) (.t 22)), none, [0, 0]⟩,
    ⟨(some 3), 3, (.mv (.k (.c (.s (.pv (.int .i64 1)))))), none, [1, 0, 1]⟩])
  .ret) .skip))
  (.reg [⟨(some 23), 23, (.mv (.t 4)), none, []⟩,
    ⟨(some 24), 24, (.mv (.t 6)), none, []⟩,
    ⟨(some 25), 25, (.build [(.s (.pv (.int .i64 0))), (.s (.pv (.int .i64 0))), .zc] [(0, 1, (.t 24))]), none, [1]⟩,
    ⟨(some 26), 26, (.bslice 56 3 [(.s (.pv (.int .i64 0))), (.s (.pv (.int .i64 0))), .zc] 1 [(0, 3, (.t 25))]), none, [2]⟩,
    ⟨(some 27), 27, (.app 56 3 40 (.t 23) (.t 26)), none, [0, 3]⟩,
    ⟨(some 4), 4, (.mv (.t 27)), none, [4, 4, 0, 1, 2, 3, 4]⟩]))))
  (.reg [⟨(some 28), 28, (.bin false .add (.t 10) (.k (.c (.s (.pv (.int .i64 1)))))), none, []⟩,
    ⟨(some 10), 10, (.mv (.t 28)), none, [0]⟩])))))))
  (.seq (.seq (.reg [⟨(some 29), 29, (.mv (.t 4)), none, []⟩,
    ⟨(some 30), 30, (.len (.t 29)), none, [0]⟩,
    ⟨(some 31), 31, (.bin false .eql (.t 30) (.k (.c (.s (.pv (.int .i64 0)))))), none, [1]⟩])
  (.cond (.t 31) (.seq (.reg [⟨(some 32), 32, (.build [.zc, (.s (.pv (.int .i64 0))), (.s (.pv (.bool false)))] []), none, []⟩,
    ⟨none, 36, (.store 3 (.t 2) (.t 32)), none, [0, 0]⟩,
    ⟨(some 3), 3, (.mv (.k (.c (.s (.pv (.int .i64 1)))))), none, [1, 0, 1]⟩])
  .ret) .skip))
  (.seq (.reg [⟨(some 33), 33, (.mv (.t 4)), none, []⟩,
    ⟨(some 34), 34, (.build [.zc, (.s (.pv (.int .i64 0))), (.s (.pv (.bool false)))] [(0, 1, (.t 33))]), none, [0]⟩,
    ⟨none, 37, (.store 3 (.t 2) (.t 34)), none, [1, 0, 1]⟩,
    ⟨(some 3), 3, (.mv (.k (.c (.s (.pv (.int .i64 0)))))), none, [2, 0, 1, 2]⟩])
  .ret)))))
theorem fn17 : FnIs Try.prog 17 ac17 [(.cell 2 true 3), (.t 3)] 35 := ⟨Try.f17, Try.func17, by kernel_rfl, by kernel_rfl, by kernel_rfl⟩
/- lockkeeper/lockkeeperref05.Right -/
def ac18 : ACode := (.seq (.reg [⟨(some 1), 1, (.box 28 3 (.t 0)), none, []⟩,
    ⟨(some 2), 2, (.mv (.k (.c (.s (.pv (.bool false)))))), none, []⟩])
  (.seq (.seq (.reg [⟨(some 7), 7, (.fld 0 (.t 1)), none, []⟩,
    ⟨(some 8), 8, (.load false 1 (.t 7)), none, [0]⟩,
    ⟨(some 9), 9, (.len (.t 8)), none, [1]⟩,
    ⟨(some 10), 10, (.bin false .lss (.t 9) (.k (.c (.s (.pv (.int .i64 1)))))), none, [2]⟩,
    ⟨(some 11), 11, (.mv (.t 10)), none, [3]⟩,
    ⟨(some 12), 12, (.fld 0 (.t 1)), (some (11, false)), [4]⟩,
    ⟨(some 13), 13, (.load false 1 (.t 12)), (some (11, false)), [5, 4]⟩,
    ⟨(some 14), 14, (.len (.t 13)), (some (11, false)), [6, 4]⟩,
    ⟨(some 15), 15, (.bin false .gtr (.t 14) (.k (.c (.s (.pv (.int .i64 6)))))), (some (11, false)), [7, 4]⟩,
    ⟨(some 16), 16, (.pick (.t 11) (.k (.c (.s (.pv (.bool true))))) (.t 15)), none, [4, 8]⟩,
    ⟨(some 17), 17, (.mv (.t 16)), none, [9, 4]⟩,
    ⟨(some 18), 18, (.fld 1 (.t 1)), (some (17, false)), [10]⟩,
    ⟨(some 19), 19, (.load false 1 (.t 18)), (some (17, false)), [11, 10]⟩,
    ⟨(some 20), 20, (.bin false .lss (.t 19) (.k (.c (.s (.pv (.int .i64 0)))))), (some (17, false)), [12, 10]⟩,
    ⟨(some 21), 21, (.pick (.t 17) (.k (.c (.s (.pv (.bool true))))) (.t 20)), none, [10, 13]⟩,
    ⟨(some 22), 22, (.mv (.t 21)), none, [14, 10]⟩,
    ⟨(some 23), 23, (.fld 1 (.t 1)), (some (22, false)), [15]⟩,
    ⟨(some 24), 24, (.load false 1 (.t 23)), (some (22, false)), [16, 15]⟩,
    ⟨(some 25), 25, (.fld 0 (.t 1)), (some (22, false)), [15]⟩,
    ⟨(some 26), 26, (.load false 1 (.t 25)), (some (22, false)), [18, 15]⟩,
    ⟨(some 27), 27, (.len (.t 26)), (some (22, false)), [19, 15]⟩,
    ⟨(some 28), 28, (.bin false .geq (.t 24) (.t 27)), (some (22, false)), [17, 20, 15]⟩,
    ⟨(some 29), 29, (.pick (.t 22) (.k (.c (.s (.pv (.bool true))))) (.t 28)), none, [15, 21]⟩])
  (.cond (.t 29) (.seq (.reg [⟨(some 2), 2, (.mv (.k (.c (.s (.pv (.bool false)))))), none, []⟩])
  .ret) .skip))
  (.seq (.seq (.reg [⟨(some 3), 3, (.mv (.k (.c (.s (.pv (.int .i64 0)))))), none, []⟩])
  (.block 0 (.loop (.seq (.seq (.reg [⟨(some 30), 30, (.mv (.t 3)), none, []⟩,
    ⟨(some 31), 31, (.fld 0 (.t 1)), none, []⟩,
    ⟨(some 32), 32, (.load false 1 (.t 31)), none, [1]⟩,
    ⟨(some 33), 33, (.len (.t 32)), none, [2]⟩,
    ⟨(some 34), 34, (.bin false .lss (.t 30) (.t 33)), none, [0, 3]⟩])
  (.cond (.t 34) .skip (.exit 0)))
  (.seq (.block 1 (.seq (.reg [⟨(some 37), 37, (.fld 0 (.t 1)), none, []⟩,
    ⟨(some 38), 38, (.load false 1 (.t 37)), none, [0]⟩,
    ⟨(some 39), 39, (.mv (.t 3)), none, []⟩,
    ⟨(some 40), 40, (.idx 3 (.t 38) (.t 39)), none, [1, 2]⟩,
    ⟨(some 41), 41, (.load true 3 (.t 40)), none, [3]⟩,
    ⟨(some 4), 4, (.mk 36 3 [[(.s (.pv (.int .i64 0))), (.s (.pv (.int .i64 0))), .zc]]), none, []⟩,
    ⟨none, 102, (.store 3 (.t 4) (.t 41)), none, [5, 4, 0, 1, 2, 3, 4, 5]⟩])
  (.seq (.reg [⟨(some 5), 5, (.mv (.k (.c (.s (.pv (.int .i64 7)))))), none, []⟩])
  (.seq (.seq (.reg [⟨(some 42), 42, (.fld 2 (.t 1)), none, []⟩,
    ⟨(some 43), 43, (.load false 1 (.t 42)), none, [0]⟩,
    ⟨(some 44), 44, (.mv (.t 43)), none, [1]⟩,
    ⟨(some 45), 45, (.fld 1 (.t 1)), (some (44, true)), [2]⟩,
    ⟨(some 46), 46, (.load false 1 (.t 45)), (some (44, true)), [3, 2]⟩,
    ⟨(some 47), 47, (.mv (.t 3)), (some (44, true)), [2]⟩,
    ⟨(some 48), 48, (.bin false .eql (.t 46) (.t 47)), (some (44, true)), [4, 5, 2]⟩,
    ⟨(some 49), 49, (.pick (.t 44) (.t 48) (.k (.c (.s (.pv (.bool false)))))), none, [2, 6]⟩])
  (.cond (.t 49) (.reg [⟨(some 5), 5, (.mv (.k (.c (.s (.pv (.int .i64 39)))))), none, []⟩]) .skip))
  (.seq (.seq (.reg [⟨(some 50), 50, (.fld 0 (.t 4)), none, []⟩,
    ⟨(some 51), 51, (.load false 1 (.t 50)), none, [0]⟩,
    ⟨(some 52), 52, (.bin false .lss (.t 51) (.k (.c (.s (.pv (.int .i64 1)))))), none, [1]⟩,
    ⟨(some 53), 53, (.mv (.t 52)), none, [2]⟩,
    ⟨(some 54), 54, (.fld 0 (.t 4)), (some (53, false)), [3]⟩,
    ⟨(some 55), 55, (.load false 1 (.t 54)), (some (53, false)), [4, 3]⟩,
    ⟨(some 56), 56, (.bin false .gtr (.t 55) (.k (.c (.s (.pv (.int .i64 8)))))), (some (53, false)), [5, 3]⟩,
    ⟨(some 57), 57, (.pick (.t 53) (.k (.c (.s (.pv (.bool true))))) (.t 56)), none, [3, 6]⟩,
    ⟨(some 58), 58, (.mv (.t 57)), none, [7, 3]⟩,
    ⟨(some 59), 59, (.fld 1 (.t 4)), (some (58, false)), [8]⟩,
    ⟨(some 60), 60, (.load false 1 (.t 59)), (some (58, false)), [9, 8]⟩,
    ⟨(some 61), 61, (.bin false .lss (.t 60) (.k (.c (.s (.pv (.int .i64 0)))))), (some (58, false)), [10, 8]⟩,
    ⟨(some 62), 62, (.pick (.t 58) (.k (.c (.s (.pv (.bool true))))) (.t 61)), none, [8, 11]⟩,
    ⟨(some 63), 63, (.mv (.t 62)), none, [12, 8]⟩,
    ⟨(some 64), 64, (.fld 1 (.t 4)), (some (63, false)), [13]⟩,
    ⟨(some 65), 65, (.load false 1 (.t 64)), (some (63, false)), [14, 13]⟩,
    ⟨(some 66), 66, (.mv (.t 5)), (some (63, false)), [13]⟩,
    ⟨(some 67), 67, (.bin false .gtr (.t 65) (.t 66)), (some (63, false)), [15, 16, 13]⟩,
    ⟨(some 68), 68, (.pick (.t 63) (.k (.c (.s (.pv (.bool true))))) (.t 67)), none, [13, 17]⟩,
    ⟨(some 69), 69, (.mv (.t 68)), none, [18, 13]⟩,
    ⟨(some 70), 70, (.fld 2 (.t 4)), (some (69, false)), [19]⟩,
    ⟨(some 71), 71, (.load false 1 (.t 70)), (some (69, false)), [20, 19]⟩,
    ⟨(some 72), 72, (.len (.t 71)), (some (69, false)), [21, 19]⟩,
    ⟨(some 73), 73, (.bin false .gtr (.t 72) (.k (.c (.s (.pv (.int .i64 200)))))), (some (69, false)), [22, 19]⟩,
    ⟨(some 74), 74, (.pick (.t 69) (.k (.c (.s (.pv (.bool true))))) (.t 73)), none, [19, 23]⟩])
  (.cond (.t 74) (.seq (.reg [⟨(some 2), 2, (.mv (.k (.c (.s (.pv (.bool false)))))), none, []⟩])
  .ret) .skip))
  (.seq (.reg [⟨(some 6), 6, (.mv (.k (.c (.s (.pv (.int .i64 0)))))), none, []⟩])
  (.block 2 (.loop (.seq (.seq (.reg [⟨(some 75), 75, (.mv (.t 6)), none, []⟩,
    ⟨(some 76), 76, (.fld 2 (.t 4)), none, []⟩,
    ⟨(some 77), 77, (.load false 1 (.t 76)), none, [1]⟩,
    ⟨(some 78), 78, (.len (.t 77)), none, [2]⟩,
    ⟨(some 79), 79, (.bin false .lss (.t 75) (.t 78)), none, [0, 3]⟩])
  (.cond (.t 79) .skip (.exit 2)))
  (.seq (.block 3 (.seq (.reg [⟨(some 82), 82, (.fld 2 (.t 4)), none, []⟩,
    ⟨(some 83), 83, (.load false 1 (.t 82)), none, [0]⟩,
    ⟨(some 84), 84, (.mv (.t 6)), none, []⟩,
    ⟨(some 85), 85, (.idx 1 (.t 83) (.t 84)), none, [1, 2]⟩,
    ⟨(some 86), 86, (.load false 1 (.t 85)), none, [3]⟩,
    ⟨(some 87), 87, (.bin false .lss (.t 86) (.k (.c (.s (.pv (.int .i64 1)))))), none, [4]⟩,
    ⟨(some 88), 88, (.mv (.t 87)), none, [5]⟩,
    ⟨(some 89), 89, (.fld 2 (.t 4)), (some (88, false)), [6]⟩,
    ⟨(some 90), 90, (.load false 1 (.t 89)), (some (88, false)), [7, 6]⟩,
    ⟨(some 91), 91, (.mv (.t 6)), (some (88, false)), [6]⟩,
    ⟨(some 92), 92, (.idx 1 (.t 90) (.t 91)), (some (88, false)), [8, 9, 6]⟩,
    ⟨(some 93), 93, (.load false 1 (.t 92)), (some (88, false)), [10, 6]⟩,
    ⟨(some 94), 94, (.bin false .gtr (.t 93) (.k (.c (.s (.pv (.int .i64 8)))))), (some (88, false)), [11, 6]⟩,
    ⟨(some 95), 95, (.pick (.t 88) (.k (.c (.s (.pv (.bool true))))) (.t 94)), none, [6, 12]⟩])
  (.cond (.t 95) (.seq (.reg [⟨(some 2), 2, (.mv (.k (.c (.s (.pv (.bool false)))))), none, []⟩])
  .ret) .skip)))
  (.reg [⟨(some 80), 80, (.mv (.t 6)), none, []⟩,
    ⟨(some 81), 81, (.bin false .add (.t 80) (.k (.c (.s (.pv (.int .i64 1)))))), none, [0]⟩,
    ⟨(some 6), 6, (.mv (.t 81)), none, [1, 0, 1]⟩])))))))))))
  (.reg [⟨(some 35), 35, (.mv (.t 3)), none, []⟩,
    ⟨(some 36), 36, (.bin false .add (.t 35) (.k (.c (.s (.pv (.int .i64 1)))))), none, [0]⟩,
    ⟨(some 3), 3, (.mv (.t 36)), none, [1, 0, 1]⟩]))))))
  (.seq (.reg [⟨(some 2), 2, (.mv (.k (.c (.s (.pv (.bool true)))))), none, []⟩])
  .ret))))
theorem fn18 : FnIs Try.prog 18 ac18 [(.t 2)] 96 := ⟨Try.f18, Try.func18, by kernel_rfl, by kernel_rfl, by kernel_rfl⟩
/- lockkeeper/lockkeeperref05.Same -/
def ac19 : ACode := (.seq (.reg [⟨(some 2), 2, (.box 28 3 (.t 0)), none, []⟩,
    ⟨(some 3), 3, (.box 28 3 (.t 1)), none, []⟩,
    ⟨(some 4), 4, (.mv (.k (.c (.s (.pv (.bool false)))))), none, []⟩])
  (.seq (.seq (.reg [⟨(some 9), 9, (.fld 0 (.t 2)), none, []⟩,
    ⟨(some 10), 10, (.load false 1 (.t 9)), none, [0]⟩,
    ⟨(some 11), 11, (.len (.t 10)), none, [1]⟩,
    ⟨(some 12), 12, (.fld 0 (.t 3)), none, []⟩,
    ⟨(some 13), 13, (.load false 1 (.t 12)), none, [3]⟩,
    ⟨(some 14), 14, (.len (.t 13)), none, [4]⟩,
    ⟨(some 15), 15, (.bin false .neq (.t 11) (.t 14)), none, [2, 5]⟩,
    ⟨(some 16), 16, (.mv (.t 15)), none, [6]⟩,
    ⟨(some 17), 17, (.fld 1 (.t 2)), (some (16, false)), [7]⟩,
    ⟨(some 18), 18, (.load false 1 (.t 17)), (some (16, false)), [8, 7]⟩,
    ⟨(some 19), 19, (.fld 1 (.t 3)), (some (16, false)), [7]⟩,
    ⟨(some 20), 20, (.load false 1 (.t 19)), (some (16, false)), [10, 7]⟩,
    ⟨(some 21), 21, (.bin false .neq (.t 18) (.t 20)), (some (16, false)), [9, 11, 7]⟩,
    ⟨(some 22), 22, (.pick (.t 16) (.k (.c (.s (.pv (.bool true))))) (.t 21)), none, [7, 12]⟩,
    ⟨(some 23), 23, (.mv (.t 22)), none, [13, 7]⟩,
    ⟨(some 24), 24, (.fld 2 (.t 2)), (some (23, false)), [14]⟩,
    ⟨(some 25), 25, (.load false 1 (.t 24)), (some (23, false)), [15, 14]⟩,
    ⟨(some 26), 26, (.fld 2 (.t 3)), (some (23, false)), [14]⟩,
    ⟨(some 27), 27, (.load false 1 (.t 26)), (some (23, false)), [17, 14]⟩,
    ⟨(some 28), 28, (.bin true .neq (.t 25) (.t 27)), (some (23, false)), [16, 18, 14]⟩,
    ⟨(some 29), 29, (.pick (.t 23) (.k (.c (.s (.pv (.bool true))))) (.t 28)), none, [14, 19]⟩])
  (.cond (.t 29) (.seq (.reg [⟨(some 4), 4, (.mv (.k (.c (.s (.pv (.bool false)))))), none, []⟩])
  .ret) .skip))
  (.seq (.seq (.reg [⟨(some 5), 5, (.mv (.k (.c (.s (.pv (.int .i64 0)))))), none, []⟩])
  (.block 0 (.loop (.seq (.seq (.reg [⟨(some 30), 30, (.mv (.t 5)), none, []⟩,
    ⟨(some 31), 31, (.fld 0 (.t 2)), none, []⟩,
    ⟨(some 32), 32, (.load false 1 (.t 31)), none, [1]⟩,
    ⟨(some 33), 33, (.len (.t 32)), none, [2]⟩,
    ⟨(some 34), 34, (.bin false .lss (.t 30) (.t 33)), none, [0, 3]⟩])
  (.cond (.t 34) .skip (.exit 0)))
  (.seq (.block 1 (.seq (.draw [⟨(some 37), 37, (.fld 0 (.t 2)), none, []⟩,
    ⟨(some 38), 38, (.load false 1 (.t 37)), none, [0]⟩,
    ⟨(some 39), 39, (.mv (.t 5)), none, []⟩,
    ⟨(some 40), 40, (.idx 3 (.t 38) (.t 39)), none, [1, 2]⟩,
    ⟨(some 41), 41, (.load true 3 (.t 40)), none, [3]⟩,
    ⟨(some 42), 42, (.fld 0 (.t 3)), none, []⟩,
    ⟨(some 43), 43, (.load false 1 (.t 42)), none, [5]⟩,
    ⟨(some 44), 44, (.mv (.t 5)), none, []⟩,
    ⟨(some 45), 45, (.idx 3 (.t 43) (.t 44)), none, [6, 7]⟩,
    ⟨(some 46), 46, (.load true 3 (.t 45)), none, [8]⟩,
    ⟨(some 6), 6, (.mk 36 3 [[(.s (.pv (.int .i64 0))), (.s (.pv (.int .i64 0))), .zc]]), none, []⟩,
    ⟨(some 7), 7, (.mk 36 3 [[(.s (.pv (.int .i64 0))), (.s (.pv (.int .i64 0))), .zc]]), none, []⟩,
    ⟨none, 98, (.store 3 (.t 6) (.t 41)), none, [10, 4, 0, 1, 2, 3, 4, 10, 11]⟩,
    ⟨none, 99, (.store 3 (.t 7) (.t 46)), none, [11, 9, 12, 0, 1, 2, 3, 4, 5, 6, 7, 8, 9, 10, 11, 12]⟩])
  (.seq (.seq (.reg [⟨(some 47), 47, (.fld 0 (.t 6)), none, []⟩,
    ⟨(some 48), 48, (.load false 1 (.t 47)), none, [0]⟩,
    ⟨(some 49), 49, (.fld 0 (.t 7)), none, []⟩,
    ⟨(some 50), 50, (.load false 1 (.t 49)), none, [2]⟩,
    ⟨(some 51), 51, (.bin false .neq (.t 48) (.t 50)), none, [1, 3]⟩,
    ⟨(some 52), 52, (.mv (.t 51)), none, [4]⟩,
    ⟨(some 53), 53, (.fld 1 (.t 6)), (some (52, false)), [5]⟩,
    ⟨(some 54), 54, (.load false 1 (.t 53)), (some (52, false)), [6, 5]⟩,
    ⟨(some 55), 55, (.fld 1 (.t 7)), (some (52, false)), [5]⟩,
    ⟨(some 56), 56, (.load false 1 (.t 55)), (some (52, false)), [8, 5]⟩,
    ⟨(some 57), 57, (.bin false .neq (.t 54) (.t 56)), (some (52, false)), [7, 9, 5]⟩,
    ⟨(some 58), 58, (.pick (.t 52) (.k (.c (.s (.pv (.bool true))))) (.t 57)), none, [5, 10]⟩,
    ⟨(some 59), 59, (.mv (.t 58)), none, [11, 5]⟩,
    ⟨(some 60), 60, (.fld 2 (.t 6)), (some (59, false)), [12]⟩,
    ⟨(some 61), 61, (.load false 1 (.t 60)), (some (59, false)), [13, 12]⟩,
    ⟨(some 62), 62, (.len (.t 61)), (some (59, false)), [14, 12]⟩,
    ⟨(some 63), 63, (.fld 2 (.t 7)), (some (59, false)), [12]⟩,
    ⟨(some 64), 64, (.load false 1 (.t 63)), (some (59, false)), [16, 12]⟩,
    ⟨(some 65), 65, (.len (.t 64)), (some (59, false)), [17, 12]⟩,
    ⟨(some 66), 66, (.bin false .neq (.t 62) (.t 65)), (some (59, false)), [15, 18, 12]⟩,
    ⟨(some 67), 67, (.pick (.t 59) (.k (.c (.s (.pv (.bool true))))) (.t 66)), none, [12, 19]⟩])
  (.cond (.t 67) (.seq (.reg [⟨(some 4), 4, (.mv (.k (.c (.s (.pv (.bool false)))))), none, []⟩])
  .ret) .skip))
  (.seq (.reg [⟨(some 8), 8, (.mv (.k (.c (.s (.pv (.int .i64 0)))))), none, []⟩])
  (.block 2 (.loop (.seq (.seq (.reg [⟨(some 68), 68, (.mv (.t 8)), none, []⟩,
    ⟨(some 69), 69, (.fld 2 (.t 6)), none, []⟩,
    ⟨(some 70), 70, (.load false 1 (.t 69)), none, [1]⟩,
    ⟨(some 71), 71, (.len (.t 70)), none, [2]⟩,
    ⟨(some 72), 72, (.bin false .lss (.t 68) (.t 71)), none, [0, 3]⟩])
  (.cond (.t 72) .skip (.exit 2)))
  (.seq (.block 3 (.seq (.draw [⟨(some 75), 75, (.fld 2 (.t 6)), none, []⟩,
    ⟨(some 76), 76, (.load false 1 (.t 75)), none, [0]⟩,
    ⟨(some 77), 77, (.mv (.t 8)), none, []⟩,
    ⟨(some 78), 78, (.idx 1 (.t 76) (.t 77)), none, [1, 2]⟩,
    ⟨(some 79), 79, (.load false 1 (.t 78)), none, [3]⟩,
    ⟨(some 80), 80, (.fld 2 (.t 7)), none, []⟩,
    ⟨(some 81), 81, (.load false 1 (.t 80)), none, [5]⟩,
    ⟨(some 82), 82, (.mv (.t 8)), none, []⟩,
    ⟨(some 83), 83, (.idx 1 (.t 81) (.t 82)), none, [6, 7]⟩,
    ⟨(some 84), 84, (.load false 1 (.t 83)), none, [8]⟩,
    ⟨(some 85), 85, (.bin false .neq (.t 79) (.t 84)), none, [4, 9]⟩])
  (.cond (.t 85) (.seq (.reg [⟨(some 4), 4, (.mv (.k (.c (.s (.pv (.bool false)))))), none, []⟩])
  .ret) .skip)))
  (.reg [⟨(some 73), 73, (.mv (.t 8)), none, []⟩,
    ⟨(some 74), 74, (.bin false .add (.t 73) (.k (.c (.s (.pv (.int .i64 1)))))), none, [0]⟩,
    ⟨(some 8), 8, (.mv (.t 74)), none, [1, 0, 1]⟩])))))))))
  (.reg [⟨(some 35), 35, (.mv (.t 5)), none, []⟩,
    ⟨(some 36), 36, (.bin false .add (.t 35) (.k (.c (.s (.pv (.int .i64 1)))))), none, [0]⟩,
    ⟨(some 5), 5, (.mv (.t 36)), none, [1, 0, 1]⟩]))))))
  (.seq (.reg [⟨(some 4), 4, (.mv (.k (.c (.s (.pv (.bool true)))))), none, []⟩])
  .ret))))
theorem fn19 : FnIs Try.prog 19 ac19 [(.t 4)] 86 := ⟨Try.f19, Try.func19, by kernel_rfl, by kernel_rfl, by kernel_rfl⟩
/- lockkeeper/lanes.Push -/
def ac20 : ACode := (.seq (.reg [⟨(some 3), 3, (.box 25 3 (.t 0)), none, []⟩,
    ⟨(some 6), 6, (.mk 25 3 [[.zc, (.s (.pv (.int .i64 0))), (.s (.pv (.bool false)))]]), none, []⟩,
    ⟨(some 7), 7, (.mv (.k (.c (.s (.pv (.int .i64 0)))))), none, []⟩])
  (.seq (.seq (.reg [⟨(some 9), 9, (.load true 3 (.t 3)), none, []⟩,
    ⟨(some 10), 10, (.call 21 [(.t 9)]), none, [0]⟩,
    ⟨(some 11), 11, (.not (.t 10)), none, [1]⟩,
    ⟨(some 12), 12, (.mv (.t 11)), none, [2, 1]⟩,
    ⟨(some 13), 13, (.mv (.t 1)), (some (12, false)), [3]⟩,
    ⟨(some 14), 14, (.bin false .lss (.t 13) (.k (.c (.s (.pv (.int .i64 0)))))), (some (12, false)), [4, 3]⟩,
    ⟨(some 15), 15, (.pick (.t 12) (.k (.c (.s (.pv (.bool true))))) (.t 14)), none, [3, 5]⟩,
    ⟨(some 16), 16, (.mv (.t 15)), none, [6, 3]⟩,
    ⟨(some 17), 17, (.mv (.t 1)), (some (16, false)), [7]⟩,
    ⟨(some 18), 18, (.fld 0 (.t 3)), (some (16, false)), [7]⟩,
    ⟨(some 19), 19, (.load false 1 (.t 18)), (some (16, false)), [9, 7]⟩,
    ⟨(some 20), 20, (.len (.t 19)), (some (16, false)), [10, 7]⟩,
    ⟨(some 21), 21, (.bin false .geq (.t 17) (.t 20)), (some (16, false)), [8, 11, 7]⟩,
    ⟨(some 22), 22, (.pick (.t 16) (.k (.c (.s (.pv (.bool true))))) (.t 21)), none, [7, 12]⟩,
    ⟨(some 23), 23, (.mv (.t 22)), none, [13, 7]⟩,
    ⟨(some 24), 24, (.mv (.t 2)), (some (23, false)), [14]⟩,
    ⟨(some 25), 25, (.call 41 [(.t 24)]), (some (23, false)), [15, 14, 14]⟩,
    ⟨(some 26), 26, (.not (.t 25)), (some (23, false)), [16, 14]⟩,
    ⟨(some 27), 27, (.pick (.t 23) (.k (.c (.s (.pv (.bool true))))) (.t 26)), none, [14, 17]⟩])
  (.cond (.t 27) (.seq (.reg [⟨(some 28), 28, (.load true 3 (.t 3)), none, []⟩,
    ⟨none, 55, (.store 3 (.t 6) (.t 28)), none, [0, 0]⟩,
    ⟨(some 7), 7, (.mv (.k (.c (.s (.pv (.int .i64 1)))))), none, [1, 0, 1]⟩])
  .ret) .skip))
  (.seq (.reg [⟨(some 29), 29, (.fld 0 (.t 3)), none, []⟩,
    ⟨(some 30), 30, (.load false 1 (.t 29)), none, [0]⟩,
    ⟨(some 31), 31, (.mv (.t 1)), none, []⟩,
    ⟨(some 32), 32, (.idx 3 (.t 30) (.t 31)), none, [1, 2]⟩,
    ⟨(some 33), 33, (.fld 2 (.t 32)), none, [3]⟩,
    ⟨(some 34), 34, (.load false 1 (.t 33)), none, [4]⟩,
    ⟨(some 8), 8, (.mv (.t 34)), none, [5, 0, 1, 2, 3, 4, 5]⟩])
  (.seq (.seq (.reg [⟨(some 35), 35, (.mv (.t 8)), none, []⟩,
    ⟨(some 36), 36, (.len (.t 35)), none, [0]⟩,
    ⟨(some 37), 37, (.bin false .eql (.t 36) (.k (.c (.s (.pv (.int .i64 200)))))), none, [1]⟩])
  (.cond (.t 37) (.seq (.reg [⟨(some 38), 38, (.load true 3 (.t 3)), none, []⟩,
    ⟨none, 55, (.store 3 (.t 6) (.t 38)), none, [0, 0]⟩,
    ⟨(some 7), 7, (.mv (.k (.c (.s (.pv (.int .i64 7)))))), none, [1, 0, 1]⟩])
  .ret) .skip))
  (.seq (.reg [⟨(some 39), 39, (.fld 0 (.t 3)), none, []⟩,
    ⟨(some 40), 40, (.load false 1 (.t 39)), none, [0]⟩,
    ⟨(some 41), 41, (.call 42 [(.t 40)]), none, [1]⟩,
    ⟨(some 42), 42, (.fld 0 (.t 3)), none, [0, 1, 2]⟩,
    ⟨none, 58, (.store 1 (.t 42) (.t 41)), none, [3, 2, 2, 0, 1, 2]⟩])
  (.seq (.draw [⟨(some 43), 43, (.fld 0 (.t 3)), none, []⟩,
    ⟨(some 44), 44, (.load false 1 (.t 43)), none, [0]⟩,
    ⟨(some 45), 45, (.mv (.t 1)), none, []⟩,
    ⟨(some 46), 46, (.mv (.t 8)), none, []⟩,
    ⟨(some 47), 47, (.call 43 [(.t 46)]), none, [3]⟩,
    ⟨(some 48), 48, (.mv (.t 2)), none, []⟩,
    ⟨(some 49), 49, (.bslice 3 1 [(.s (.pv (.int .i64 0)))] 1 [(0, 1, (.t 48))]), none, [5]⟩,
    ⟨(some 50), 50, (.app 3 1 8 (.t 47) (.t 49)), none, [4, 6, 4]⟩,
    ⟨(some 51), 51, (.idx 3 (.t 44) (.t 45)), none, [1, 2, 0, 1, 2, 3, 4, 5, 6, 7]⟩,
    ⟨(some 52), 52, (.fld 2 (.t 51)), none, [8, 0, 1, 2, 3, 4, 5, 6, 7]⟩,
    ⟨none, 64, (.store 1 (.t 52) (.t 50)), none, [9, 7, 7, 0, 1, 2, 3, 4, 5, 6, 7]⟩])
  (.seq (.reg [⟨(some 53), 53, (.load true 3 (.t 3)), none, []⟩,
    ⟨none, 55, (.store 3 (.t 6) (.t 53)), none, [0, 0]⟩,
    ⟨(some 7), 7, (.mv (.k (.c (.s (.pv (.int .i64 0)))))), none, [1, 0, 1]⟩])
  .ret)))))))
theorem fn20 : FnIs Try.prog 20 ac20 [(.cell 6 true 3), (.t 7)] 54 := ⟨Try.f20, Try.func20, by kernel_rfl, by kernel_rfl, by kernel_rfl⟩
/- lockkeeper/lanes.Right -/
def ac21 : ACode := (.seq (.reg [⟨(some 1), 1, (.box 25 3 (.t 0)), none, []⟩,
    ⟨(some 2), 2, (.mv (.k (.c (.s (.pv (.bool false)))))), none, []⟩])
  (.seq (.seq (.reg [⟨(some 9), 9, (.fld 0 (.t 1)), none, []⟩,
    ⟨(some 10), 10, (.load false 1 (.t 9)), none, [0]⟩,
    ⟨(some 11), 11, (.len (.t 10)), none, [1]⟩,
    ⟨(some 12), 12, (.bin false .gtr (.t 11) (.k (.c (.s (.pv (.int .i64 6)))))), none, [2]⟩,
    ⟨(some 13), 13, (.mv (.t 12)), none, [3]⟩,
    ⟨(some 14), 14, (.fld 1 (.t 1)), (some (13, false)), [4]⟩,
    ⟨(some 15), 15, (.load false 1 (.t 14)), (some (13, false)), [5, 4]⟩,
    ⟨(some 16), 16, (.bin false .lss (.t 15) (.k (.c (.s (.pv (.int .i64 0)))))), (some (13, false)), [6, 4]⟩,
    ⟨(some 17), 17, (.pick (.t 13) (.k (.c (.s (.pv (.bool true))))) (.t 16)), none, [4, 7]⟩,
    ⟨(some 18), 18, (.mv (.t 17)), none, [8, 4]⟩,
    ⟨(some 19), 19, (.fld 1 (.t 1)), (some (18, false)), [9]⟩,
    ⟨(some 20), 20, (.load false 1 (.t 19)), (some (18, false)), [10, 9]⟩,
    ⟨(some 21), 21, (.fld 0 (.t 1)), (some (18, false)), [9]⟩,
    ⟨(some 22), 22, (.load false 1 (.t 21)), (some (18, false)), [12, 9]⟩,
    ⟨(some 23), 23, (.len (.t 22)), (some (18, false)), [13, 9]⟩,
    ⟨(some 24), 24, (.bin false .geq (.t 20) (.t 23)), (some (18, false)), [11, 14, 9]⟩,
    ⟨(some 25), 25, (.pick (.t 18) (.k (.c (.s (.pv (.bool true))))) (.t 24)), none, [9, 15]⟩])
  (.cond (.t 25) (.seq (.reg [⟨(some 2), 2, (.mv (.k (.c (.s (.pv (.bool false)))))), none, []⟩])
  .ret) .skip))
  (.seq (.reg [⟨(some 3), 3, (.mv (.k (.c (.s (.pv (.int .i64 0)))))), none, []⟩])
  (.seq .skip
  (.seq (.seq (.reg [⟨(some 26), 26, (.fld 0 (.t 1)), none, []⟩,
    ⟨(some 27), 27, (.load false 1 (.t 26)), none, [0]⟩,
    ⟨(some 28), 28, (.len (.t 27)), none, [1]⟩,
    ⟨(some 29), 29, (.mv (.k (.c (.s (.pv (.int .i64 0)))))), none, []⟩])
  (.block 0 (.loop (.seq (.reg [⟨(some 30), 30, (.bin false .lss (.t 29) (.t 28)), none, []⟩])
  (.seq (.cond (.t 30) .skip (.exit 0))
  (.seq (.block 1 (.seq (.reg [⟨(some 31), 31, (.mv (.t 29)), none, []⟩,
    ⟨(some 32), 32, (.idx 3 (.t 27) (.t 29)), none, []⟩,
    ⟨(some 33), 33, (.load true 3 (.t 32)), none, [1]⟩,
    ⟨(some 5), 5, (.mk 56 3 [[(.s (.pv (.int .i64 0))), (.s (.pv (.int .i64 0))), .zc]]), none, []⟩,
    ⟨(some 4), 4, (.mv (.t 31)), none, [0, 0, 1, 2, 3]⟩,
    ⟨none, 87, (.store 3 (.t 5) (.t 33)), none, [3, 2, 4, 0, 1, 2, 3, 4]⟩])
  (.seq (.reg [⟨(some 6), 6, (.mv (.k (.c (.s (.pv (.int .i64 7)))))), none, []⟩])
  (.seq (.seq (.reg [⟨(some 34), 34, (.fld 2 (.t 1)), none, []⟩,
    ⟨(some 35), 35, (.load false 1 (.t 34)), none, [0]⟩,
    ⟨(some 36), 36, (.mv (.t 35)), none, [1]⟩,
    ⟨(some 37), 37, (.mv (.t 4)), (some (36, true)), [2]⟩,
    ⟨(some 38), 38, (.fld 1 (.t 1)), (some (36, true)), [2]⟩,
    ⟨(some 39), 39, (.load false 1 (.t 38)), (some (36, true)), [4, 2]⟩,
    ⟨(some 40), 40, (.bin false .eql (.t 37) (.t 39)), (some (36, true)), [3, 5, 2]⟩,
    ⟨(some 41), 41, (.pick (.t 36) (.t 40) (.k (.c (.s (.pv (.bool false)))))), none, [2, 6]⟩])
  (.cond (.t 41) (.reg [⟨(some 6), 6, (.mv (.k (.c (.s (.pv (.int .i64 39)))))), none, []⟩]) .skip))
  (.seq (.seq (.reg [⟨(some 42), 42, (.fld 0 (.t 5)), none, []⟩,
    ⟨(some 43), 43, (.load false 1 (.t 42)), none, [0]⟩,
    ⟨(some 44), 44, (.call 40 [(.t 43)]), none, [1]⟩,
    ⟨(some 45), 45, (.not (.t 44)), none, [2]⟩,
    ⟨(some 46), 46, (.mv (.t 45)), none, [3, 2]⟩,
    ⟨(some 47), 47, (.fld 1 (.t 5)), (some (46, false)), [4]⟩,
    ⟨(some 48), 48, (.load false 1 (.t 47)), (some (46, false)), [5, 4]⟩,
    ⟨(some 49), 49, (.bin false .lss (.t 48) (.k (.c (.s (.pv (.int .i64 0)))))), (some (46, false)), [6, 4]⟩,
    ⟨(some 50), 50, (.pick (.t 46) (.k (.c (.s (.pv (.bool true))))) (.t 49)), none, [4, 7]⟩,
    ⟨(some 51), 51, (.mv (.t 50)), none, [8, 4]⟩,
    ⟨(some 52), 52, (.fld 1 (.t 5)), (some (51, false)), [9]⟩,
    ⟨(some 53), 53, (.load false 1 (.t 52)), (some (51, false)), [10, 9]⟩,
    ⟨(some 54), 54, (.mv (.t 6)), (some (51, false)), [9]⟩,
    ⟨(some 55), 55, (.bin false .gtr (.t 53) (.t 54)), (some (51, false)), [11, 12, 9]⟩,
    ⟨(some 56), 56, (.pick (.t 51) (.k (.c (.s (.pv (.bool true))))) (.t 55)), none, [9, 13]⟩,
    ⟨(some 57), 57, (.mv (.t 56)), none, [14, 9]⟩,
    ⟨(some 58), 58, (.fld 2 (.t 5)), (some (57, false)), [15]⟩,
    ⟨(some 59), 59, (.load false 1 (.t 58)), (some (57, false)), [16, 15]⟩,
    ⟨(some 60), 60, (.len (.t 59)), (some (57, false)), [17, 15]⟩,
    ⟨(some 61), 61, (.bin false .gtr (.t 60) (.k (.c (.s (.pv (.int .i64 200)))))), (some (57, false)), [18, 15]⟩,
    ⟨(some 62), 62, (.pick (.t 57) (.k (.c (.s (.pv (.bool true))))) (.t 61)), none, [15, 19]⟩])
  (.cond (.t 62) (.exit 0) .skip))
  (.seq (.seq (.reg [⟨(some 63), 63, (.fld 2 (.t 5)), none, []⟩,
    ⟨(some 64), 64, (.load false 1 (.t 63)), none, [0]⟩,
    ⟨(some 65), 65, (.len (.t 64)), none, [1]⟩,
    ⟨(some 66), 66, (.mv (.k (.c (.s (.pv (.int .i64 0)))))), none, []⟩])
  (.block 2 (.loop (.seq (.reg [⟨(some 67), 67, (.bin false .lss (.t 66) (.t 65)), none, []⟩])
  (.seq (.cond (.t 67) .skip (.exit 2))
  (.seq (.block 3 (.seq (.reg [⟨(some 68), 68, (.idx 1 (.t 64) (.t 66)), none, []⟩,
    ⟨(some 69), 69, (.load false 1 (.t 68)), none, [0]⟩,
    ⟨(some 8), 8, (.mv (.t 69)), none, [1, 0, 1]⟩])
  (.seq (.reg [⟨(some 70), 70, (.mv (.t 8)), none, []⟩,
    ⟨(some 71), 71, (.call 41 [(.t 70)]), none, [0]⟩,
    ⟨(some 72), 72, (.not (.t 71)), none, [1]⟩])
  (.cond (.t 72) (.exit 0) .skip))))
  (.reg [⟨(some 73), 73, (.bin false .add (.t 66) (.k (.c (.s (.pv (.int .i64 1)))))), none, []⟩,
    ⟨(some 66), 66, (.mv (.t 73)), none, [0]⟩])))))))
  (.reg [⟨(some 74), 74, (.mv (.t 3)), none, []⟩,
    ⟨(some 75), 75, (.bin false .add (.t 74) (.k (.c (.s (.pv (.int .i64 1)))))), none, [0]⟩,
    ⟨(some 3), 3, (.mv (.t 75)), none, [1, 0, 1]⟩])))))))
  (.reg [⟨(some 76), 76, (.bin false .add (.t 29) (.k (.c (.s (.pv (.int .i64 1)))))), none, []⟩,
    ⟨(some 29), 29, (.mv (.t 76)), none, [0]⟩])))))))
  (.seq (.reg [⟨(some 77), 77, (.mv (.t 3)), none, []⟩,
    ⟨(some 78), 78, (.fld 0 (.t 1)), none, []⟩,
    ⟨(some 79), 79, (.load false 1 (.t 78)), none, [1]⟩,
    ⟨(some 80), 80, (.len (.t 79)), none, [2]⟩,
    ⟨(some 81), 81, (.bin false .eql (.t 77) (.t 80)), none, [0, 3]⟩,
    ⟨(some 2), 2, (.mv (.t 81)), none, [4, 0, 1, 2, 3, 4]⟩])
  .ret))))))
theorem fn21 : FnIs Try.prog 21 ac21 [(.t 2)] 82 := ⟨Try.f21, Try.func21, by kernel_rfl, by kernel_rfl, by kernel_rfl⟩
/- lockkeeper/lanes.Next -/
def ac23 : ACode := (.seq (.reg [⟨(some 1), 1, (.box 25 3 (.t 0)), none, []⟩,
    ⟨(some 2), 2, (.mk 25 3 [[.zc, (.s (.pv (.int .i64 0))), (.s (.pv (.bool false)))]]), none, []⟩,
    ⟨(some 3), 3, (.mv (.k (.c (.s (.pv (.int .i64 0)))))), none, []⟩,
    ⟨(some 4), 4, (.mv (.k (.c (.s (.pv (.int .i64 0)))))), none, [2]⟩,
    ⟨(some 5), 5, (.mv (.k (.c (.s (.pv (.bool false)))))), none, [3]⟩])
  (.seq (.seq (.reg [⟨(some 8), 8, (.load true 3 (.t 1)), none, []⟩,
    ⟨(some 9), 9, (.call 21 [(.t 8)]), none, [0]⟩,
    ⟨(some 10), 10, (.not (.t 9)), none, [1]⟩,
    ⟨(some 11), 11, (.mv (.t 10)), none, [2, 1]⟩,
    ⟨(some 12), 12, (.load true 3 (.t 1)), (some (11, false)), [3]⟩,
    ⟨(some 13), 13, (.call 44 [(.t 12)]), (some (11, false)), [4, 3, 3]⟩,
    ⟨(some 14), 14, (.not (.t 13)), (some (11, false)), [5, 3]⟩,
    ⟨(some 15), 15, (.pick (.t 11) (.k (.c (.s (.pv (.bool true))))) (.t 14)), none, [3, 6]⟩])
  (.cond (.t 15) (.seq (.reg [⟨(some 16), 16, (.load true 3 (.t 1)), none, []⟩,
    ⟨none, 80, (.store 3 (.t 2) (.t 16)), none, [0, 0]⟩,
    ⟨(some 3), 3, (.mv (.k (.c (.s (.pv (.int .i64 0)))))), none, [1, 0, 1]⟩,
    ⟨(some 4), 4, (.mv (.k (.c (.s (.pv (.int .i64 0)))))), none, [2, 0, 1, 2]⟩,
    ⟨(some 5), 5, (.mv (.k (.c (.s (.pv (.bool false)))))), none, [3, 0, 1, 2, 3]⟩])
  .ret) .skip))
  (.seq (.reg [⟨(some 17), 17, (.fld 0 (.t 1)), none, []⟩,
    ⟨(some 18), 18, (.load false 1 (.t 17)), none, [0]⟩,
    ⟨(some 19), 19, (.call 42 [(.t 18)]), none, [1]⟩,
    ⟨(some 20), 20, (.fld 0 (.t 1)), none, [0, 1, 2]⟩,
    ⟨none, 83, (.store 1 (.t 20) (.t 19)), none, [3, 2, 2, 0, 1, 2]⟩])
  (.seq (.reg [⟨(some 6), 6, (.mv (.k (.c (.s (.pv (.pointer none)))))), none, []⟩])
  (.seq .skip
  (.seq (.block 0 (.loop (.seq (.block 1 (.seq (.reg [⟨(some 30), 30, (.fld 0 (.t 1)), none, []⟩,
    ⟨(some 31), 31, (.load false 1 (.t 30)), none, [0]⟩,
    ⟨(some 32), 32, (.fld 1 (.t 1)), none, []⟩,
    ⟨(some 33), 33, (.load false 1 (.t 32)), none, [2]⟩,
    ⟨(some 34), 34, (.idx 3 (.t 31) (.t 33)), none, [1, 3]⟩,
    ⟨(some 6), 6, (.mv (.t 34)), none, [4, 0, 1, 2, 3, 4]⟩])
  (.seq (.block 2 (.seq (.reg [⟨(some 36), 36, (.mv (.t 6)), none, []⟩,
    ⟨(some 37), 37, (.nilc (.t 36)), none, [0]⟩,
    ⟨(some 38), 38, (.fld 2 (.t 37)), none, [1]⟩,
    ⟨(some 39), 39, (.load false 1 (.t 38)), none, [2]⟩,
    ⟨(some 40), 40, (.len (.t 39)), none, [3]⟩,
    ⟨(some 41), 41, (.bin false .eql (.t 40) (.k (.c (.s (.pv (.int .i64 0)))))), none, [4]⟩,
    ⟨(some 35), 35, (.mv (.t 41)), none, [5]⟩])
  (.cond (.t 35) (.seq (.reg [⟨(some 42), 42, (.mv (.t 6)), none, []⟩,
    ⟨(some 43), 43, (.nilc (.t 42)), none, [0, 0]⟩,
    ⟨(some 44), 44, (.fld 1 (.t 43)), none, [1, 0]⟩,
    ⟨none, 82, (.store 1 (.t 44) (.k (.c (.s (.pv (.int .i64 0)))))), none, [2, 0]⟩])
  (.exit 1)) (.seq (.reg [⟨(some 46), 46, (.fld 2 (.t 1)), none, []⟩,
    ⟨(some 47), 47, (.load false 1 (.t 46)), none, [0]⟩,
    ⟨(some 48), 48, (.not (.t 47)), none, [1]⟩,
    ⟨(some 45), 45, (.mv (.t 48)), none, [2]⟩])
  (.cond (.t 45) (.seq (.draw [⟨(some 49), 49, (.mv (.t 6)), none, []⟩,
    ⟨(some 50), 50, (.nilc (.t 49)), none, [0]⟩,
    ⟨(some 51), 51, (.fld 1 (.t 50)), none, [1]⟩,
    ⟨(some 52), 52, (.load false 1 (.t 51)), none, [2]⟩,
    ⟨(some 53), 53, (.mv (.t 6)), none, []⟩,
    ⟨(some 54), 54, (.nilc (.t 53)), none, [4]⟩,
    ⟨(some 55), 55, (.fld 0 (.t 54)), none, [5]⟩,
    ⟨(some 56), 56, (.load false 1 (.t 55)), none, [6]⟩,
    ⟨(some 57), 57, (.bin false .mul (.t 56) (.k (.c (.s (.pv (.int .i64 4)))))), none, [7]⟩,
    ⟨(some 58), 58, (.bin false .add (.t 52) (.t 57)), none, [3, 8]⟩,
    ⟨(some 59), 59, (.nilc (.t 49)), none, [0, 0, 1, 2, 3, 4, 5, 6, 7, 8, 9]⟩,
    ⟨(some 60), 60, (.fld 1 (.t 59)), none, [10, 0, 1, 2, 3, 4, 5, 6, 7, 8, 9]⟩,
    ⟨none, 91, (.store 1 (.t 60) (.t 58)), none, [11, 9, 0, 1, 2, 3, 4, 5, 6, 7, 8, 9]⟩])
  (.reg [⟨(some 61), 61, (.fld 2 (.t 1)), none, []⟩,
    ⟨none, 80, (.store 1 (.t 61) (.k (.c (.s (.pv (.bool true)))))), none, [0]⟩])) .skip)))))
  (.seq (.draw [⟨(some 62), 62, (.mv (.t 6)), none, []⟩,
    ⟨(some 63), 63, (.nilc (.t 62)), none, [0]⟩,
    ⟨(some 64), 64, (.fld 2 (.t 63)), none, [1]⟩,
    ⟨(some 65), 65, (.load false 1 (.t 64)), none, [2]⟩,
    ⟨(some 66), 66, (.idx 1 (.t 65) (.k (.c (.s (.pv (.int .i64 0)))))), none, [3]⟩,
    ⟨(some 67), 67, (.load false 1 (.t 66)), none, [4]⟩,
    ⟨(some 68), 68, (.mv (.t 6)), none, []⟩,
    ⟨(some 69), 69, (.nilc (.t 68)), none, [6]⟩,
    ⟨(some 70), 70, (.fld 1 (.t 69)), none, [7]⟩,
    ⟨(some 71), 71, (.load false 1 (.t 70)), none, [8]⟩,
    ⟨(some 72), 72, (.bin false .leq (.t 67) (.t 71)), none, [5, 9]⟩])
  (.cond (.t 72) (.exit 0) .skip)))))
  (.reg [⟨(some 21), 21, (.fld 1 (.t 1)), none, []⟩,
    ⟨(some 22), 22, (.load false 1 (.t 21)), none, [0]⟩,
    ⟨(some 23), 23, (.bin false .add (.t 22) (.k (.c (.s (.pv (.int .i64 1)))))), none, [1]⟩,
    ⟨(some 24), 24, (.fld 0 (.t 1)), none, []⟩,
    ⟨(some 25), 25, (.load false 1 (.t 24)), none, [3]⟩,
    ⟨(some 26), 26, (.len (.t 25)), none, [4]⟩,
    ⟨(some 27), 27, (.bin false .rem (.t 23) (.t 26)), none, [2, 5]⟩,
    ⟨(some 28), 28, (.fld 1 (.t 1)), none, [0, 1, 2, 3, 4, 5, 6]⟩,
    ⟨none, 87, (.store 1 (.t 28) (.t 27)), none, [7, 6, 0, 1, 2, 3, 4, 5, 6]⟩,
    ⟨(some 29), 29, (.fld 2 (.t 1)), none, [0, 1, 2, 3, 4, 5, 6, 7, 8]⟩,
    ⟨none, 89, (.store 1 (.t 29) (.k (.c (.s (.pv (.bool false)))))), none, [9, 8, 0, 1, 2, 3, 4, 5, 6, 7, 8]⟩]))))
  (.seq (.reg [⟨(some 73), 73, (.mv (.t 6)), none, []⟩,
    ⟨(some 74), 74, (.call 45 [(.t 73)]), none, [0]⟩,
    ⟨(some 7), 7, (.mv (.t 74)), none, [1, 1, 0, 1]⟩])
  (.seq (.draw [⟨(some 75), 75, (.load true 3 (.t 1)), none, []⟩,
    ⟨(some 76), 76, (.fld 1 (.t 1)), none, []⟩,
    ⟨(some 77), 77, (.load false 1 (.t 76)), none, [1]⟩,
    ⟨(some 78), 78, (.mv (.t 7)), none, []⟩,
    ⟨none, 83, (.store 3 (.t 2) (.t 75)), none, [0, 0]⟩,
    ⟨(some 3), 3, (.mv (.t 77)), none, [2, 4, 0, 1, 2, 4]⟩,
    ⟨(some 4), 4, (.mv (.t 78)), none, [3, 5, 0, 1, 2, 3, 4, 5]⟩,
    ⟨(some 5), 5, (.mv (.k (.c (.s (.pv (.bool true)))))), none, [6, 0, 1, 2, 3, 4, 5, 6]⟩])
  .ret))))))))
theorem fn23 : FnIs Try.prog 23 ac23 [(.cell 2 true 3), (.t 3), (.t 4), (.t 5)] 79 := ⟨Try.f23, Try.func23, by kernel_rfl, by kernel_rfl, by kernel_rfl⟩
/- lockkeeper/lockkeeperlaw04.New -/
def ac26 : ACode := (.seq (.reg [⟨(some 0), 0, (.mk 65 4 [[.zc, .zc, (.s (.pv (.int .i64 0))), .zc]]), none, []⟩])
  (.seq (.reg [⟨(some 4), 4, (.call 47 [(.k (.c (.s (.pv (.int .i64 35)))))]), none, []⟩,
    ⟨(some 3), 3, (.mv (.t 4)), none, [0]⟩,
    ⟨(some 5), 5, (.ext 0 (.t 3)), none, [1]⟩,
    ⟨(some 6), 6, (.ext 1 (.t 3)), none, [1]⟩,
    ⟨(some 1), 1, (.mk 62 2 [[.zc, .zc]]), none, []⟩,
    ⟨none, 14, (.store 2 (.t 1) (.t 5)), none, [4, 2, 0, 0, 1, 2, 4]⟩,
    ⟨(some 2), 2, (.mv (.t 6)), none, [3, 5, 0, 1, 2, 3, 4, 5]⟩])
  (.seq (.reg [⟨(some 7), 7, (.load true 2 (.t 1)), none, []⟩,
    ⟨(some 8), 8, (.build [.zc, .zc, (.s (.pv (.int .i64 0))), .zc] [(0, 2, (.t 7))]), none, [0]⟩,
    ⟨none, 11, (.store 4 (.t 0) (.t 8)), none, [1, 0, 1]⟩])
  .ret)))
theorem fn26 : FnIs Try.prog 26 ac26 [(.cell 0 true 4)] 9 := ⟨Try.f26, Try.func26, by kernel_rfl, by kernel_rfl, by kernel_rfl⟩
/- lockkeeper/lockkeeperref03.Same -/
def ac38 : ACode := (.seq (.reg [⟨(some 2), 2, (.box 62 2 (.t 0)), none, []⟩,
    ⟨(some 3), 3, (.box 62 2 (.t 1)), none, []⟩,
    ⟨(some 4), 4, (.mv (.k (.c (.s (.pv (.bool false)))))), none, []⟩])
  (.seq (.seq (.reg [⟨(some 7), 7, (.fld 0 (.t 2)), none, []⟩,
    ⟨(some 8), 8, (.load false 1 (.t 7)), none, [0]⟩,
    ⟨(some 9), 9, (.len (.t 8)), none, [1]⟩,
    ⟨(some 10), 10, (.fld 0 (.t 3)), none, []⟩,
    ⟨(some 11), 11, (.load false 1 (.t 10)), none, [3]⟩,
    ⟨(some 12), 12, (.len (.t 11)), none, [4]⟩,
    ⟨(some 13), 13, (.bin false .neq (.t 9) (.t 12)), none, [2, 5]⟩,
    ⟨(some 14), 14, (.mv (.t 13)), none, [6]⟩,
    ⟨(some 15), 15, (.fld 1 (.t 2)), (some (14, false)), [7]⟩,
    ⟨(some 16), 16, (.load false 1 (.t 15)), (some (14, false)), [8, 7]⟩,
    ⟨(some 17), 17, (.len (.t 16)), (some (14, false)), [9, 7]⟩,
    ⟨(some 18), 18, (.fld 1 (.t 3)), (some (14, false)), [7]⟩,
    ⟨(some 19), 19, (.load false 1 (.t 18)), (some (14, false)), [11, 7]⟩,
    ⟨(some 20), 20, (.len (.t 19)), (some (14, false)), [12, 7]⟩,
    ⟨(some 21), 21, (.bin false .neq (.t 17) (.t 20)), (some (14, false)), [10, 13, 7]⟩,
    ⟨(some 22), 22, (.pick (.t 14) (.k (.c (.s (.pv (.bool true))))) (.t 21)), none, [7, 14]⟩])
  (.cond (.t 22) (.seq (.reg [⟨(some 4), 4, (.mv (.k (.c (.s (.pv (.bool false)))))), none, []⟩])
  .ret) .skip))
  (.seq (.seq (.reg [⟨(some 5), 5, (.mv (.k (.c (.s (.pv (.int .i64 0)))))), none, []⟩])
  (.block 0 (.loop (.seq (.seq (.reg [⟨(some 23), 23, (.mv (.t 5)), none, []⟩,
    ⟨(some 24), 24, (.fld 0 (.t 2)), none, []⟩,
    ⟨(some 25), 25, (.load false 1 (.t 24)), none, [1]⟩,
    ⟨(some 26), 26, (.len (.t 25)), none, [2]⟩,
    ⟨(some 27), 27, (.bin false .lss (.t 23) (.t 26)), none, [0, 3]⟩])
  (.cond (.t 27) .skip (.exit 0)))
  (.seq (.block 1 (.seq (.draw [⟨(some 30), 30, (.fld 0 (.t 2)), none, []⟩,
    ⟨(some 31), 31, (.load false 1 (.t 30)), none, [0]⟩,
    ⟨(some 32), 32, (.mv (.t 5)), none, []⟩,
    ⟨(some 33), 33, (.idx 1 (.t 31) (.t 32)), none, [1, 2]⟩,
    ⟨(some 34), 34, (.load false 1 (.t 33)), none, [3]⟩,
    ⟨(some 35), 35, (.fld 0 (.t 3)), none, []⟩,
    ⟨(some 36), 36, (.load false 1 (.t 35)), none, [5]⟩,
    ⟨(some 37), 37, (.mv (.t 5)), none, []⟩,
    ⟨(some 38), 38, (.idx 1 (.t 36) (.t 37)), none, [6, 7]⟩,
    ⟨(some 39), 39, (.load false 1 (.t 38)), none, [8]⟩,
    ⟨(some 40), 40, (.bin false .neq (.t 34) (.t 39)), none, [4, 9]⟩])
  (.cond (.t 40) (.seq (.reg [⟨(some 4), 4, (.mv (.k (.c (.s (.pv (.bool false)))))), none, []⟩])
  .ret) .skip)))
  (.reg [⟨(some 28), 28, (.mv (.t 5)), none, []⟩,
    ⟨(some 29), 29, (.bin false .add (.t 28) (.k (.c (.s (.pv (.int .i64 1)))))), none, [0]⟩,
    ⟨(some 5), 5, (.mv (.t 29)), none, [1, 0, 1]⟩]))))))
  (.seq (.seq (.reg [⟨(some 6), 6, (.mv (.k (.c (.s (.pv (.int .i64 0)))))), none, []⟩])
  (.block 2 (.loop (.seq (.seq (.reg [⟨(some 41), 41, (.mv (.t 6)), none, []⟩,
    ⟨(some 42), 42, (.fld 1 (.t 2)), none, []⟩,
    ⟨(some 43), 43, (.load false 1 (.t 42)), none, [1]⟩,
    ⟨(some 44), 44, (.len (.t 43)), none, [2]⟩,
    ⟨(some 45), 45, (.bin false .lss (.t 41) (.t 44)), none, [0, 3]⟩])
  (.cond (.t 45) .skip (.exit 2)))
  (.seq (.block 3 (.seq (.draw [⟨(some 48), 48, (.fld 1 (.t 2)), none, []⟩,
    ⟨(some 49), 49, (.load false 1 (.t 48)), none, [0]⟩,
    ⟨(some 50), 50, (.mv (.t 6)), none, []⟩,
    ⟨(some 51), 51, (.idx 2 (.t 49) (.t 50)), none, [1, 2]⟩,
    ⟨(some 52), 52, (.load true 2 (.t 51)), none, [3]⟩,
    ⟨(some 53), 53, (.fld 1 (.t 3)), none, []⟩,
    ⟨(some 54), 54, (.load false 1 (.t 53)), none, [5]⟩,
    ⟨(some 55), 55, (.mv (.t 6)), none, []⟩,
    ⟨(some 56), 56, (.idx 2 (.t 54) (.t 55)), none, [6, 7]⟩,
    ⟨(some 57), 57, (.load true 2 (.t 56)), none, [8]⟩,
    ⟨(some 58), 58, (.eqs true 141 (.t 52) (.t 57)), none, [4, 9]⟩])
  (.cond (.t 58) (.seq (.reg [⟨(some 4), 4, (.mv (.k (.c (.s (.pv (.bool false)))))), none, []⟩])
  .ret) .skip)))
  (.reg [⟨(some 46), 46, (.mv (.t 6)), none, []⟩,
    ⟨(some 47), 47, (.bin false .add (.t 46) (.k (.c (.s (.pv (.int .i64 1)))))), none, [0]⟩,
    ⟨(some 6), 6, (.mv (.t 47)), none, [1, 0, 1]⟩]))))))
  (.seq (.reg [⟨(some 4), 4, (.mv (.k (.c (.s (.pv (.bool true)))))), none, []⟩])
  .ret)))))
theorem fn38 : FnIs Try.prog 38 ac38 [(.t 4)] 59 := ⟨Try.f38, Try.func38, by kernel_rfl, by kernel_rfl, by kernel_rfl⟩
/- lockkeeper/disk.Crash -/
def ac39 : ACode := (.seq (.reg [⟨(some 2), 2, (.box 62 2 (.t 0)), none, []⟩,
    ⟨(some 4), 4, (.mk 62 2 [[.zc, .zc]]), none, []⟩])
  (.seq (.seq (.reg [⟨(some 11), 11, (.load true 2 (.t 2)), none, []⟩,
    ⟨(some 12), 12, (.call 72 [(.t 11)]), none, [0]⟩,
    ⟨(some 13), 13, (.not (.t 12)), none, [1]⟩])
  (.cond (.t 13) (.seq (.reg [⟨(some 14), 14, (.load true 2 (.t 2)), none, []⟩,
    ⟨none, 58, (.store 2 (.t 4) (.t 14)), none, [0, 0]⟩])
  .ret) .skip))
  (.seq (.reg [⟨(some 15), 15, (.fld 1 (.t 2)), none, []⟩,
    ⟨(some 16), 16, (.load false 1 (.t 15)), none, [0]⟩,
    ⟨(some 17), 17, (.len (.t 16)), none, [1]⟩,
    ⟨(some 18), 18, (.mkSlice 4 1 1 [(.pv (.bool false))] (.t 17) (.t 17)), none, [2, 2]⟩,
    ⟨(some 5), 5, (.mv (.t 18)), none, [3, 0, 1, 2, 3]⟩])
  (.seq (.seq (.reg [⟨(some 19), 19, (.mv (.t 1)), none, []⟩,
    ⟨(some 20), 20, (.len (.t 19)), none, [0]⟩,
    ⟨(some 21), 21, (.mv (.k (.c (.s (.pv (.int .i64 0)))))), none, []⟩])
  (.block 0 (.loop (.seq (.reg [⟨(some 22), 22, (.bin false .lss (.t 21) (.t 20)), none, []⟩])
  (.seq (.cond (.t 22) .skip (.exit 0))
  (.seq (.block 1 (.seq (.reg [⟨(some 23), 23, (.idx 1 (.t 19) (.t 21)), none, []⟩,
    ⟨(some 24), 24, (.load false 1 (.t 23)), none, [0]⟩,
    ⟨(some 7), 7, (.mv (.t 24)), none, [1, 0, 1]⟩])
  (.seq (.reg [⟨(some 25), 25, (.mv (.t 7)), none, []⟩,
    ⟨(some 26), 26, (.bin false .geq (.t 25) (.k (.c (.s (.pv (.int .i64 0)))))), none, [0]⟩,
    ⟨(some 27), 27, (.mv (.t 26)), none, [1]⟩,
    ⟨(some 28), 28, (.mv (.t 7)), (some (27, true)), [2]⟩,
    ⟨(some 29), 29, (.mv (.t 5)), (some (27, true)), [2]⟩,
    ⟨(some 30), 30, (.len (.t 29)), (some (27, true)), [4, 2]⟩,
    ⟨(some 31), 31, (.bin false .lss (.t 28) (.t 30)), (some (27, true)), [3, 5, 2]⟩,
    ⟨(some 32), 32, (.pick (.t 27) (.t 31) (.k (.c (.s (.pv (.bool false)))))), none, [2, 6]⟩])
  (.cond (.t 32) (.reg [⟨(some 33), 33, (.mv (.t 5)), none, []⟩,
    ⟨(some 34), 34, (.mv (.t 7)), none, []⟩,
    ⟨(some 35), 35, (.idx 1 (.t 33) (.t 34)), none, [0, 1, 0, 1]⟩,
    ⟨none, 60, (.store 1 (.t 35) (.k (.c (.s (.pv (.bool true)))))), none, [2, 0, 1]⟩]) .skip))))
  (.reg [⟨(some 36), 36, (.bin false .add (.t 21) (.k (.c (.s (.pv (.int .i64 1)))))), none, []⟩,
    ⟨(some 21), 21, (.mv (.t 36)), none, [0]⟩])))))))
  (.seq (.reg [⟨(some 8), 8, (.mv (.k (.c .zc))), none, []⟩])
  (.seq (.seq (.reg [⟨(some 37), 37, (.fld 1 (.t 2)), none, []⟩,
    ⟨(some 38), 38, (.load false 1 (.t 37)), none, [0]⟩,
    ⟨(some 39), 39, (.len (.t 38)), none, [1]⟩,
    ⟨(some 40), 40, (.mv (.k (.c (.s (.pv (.int .i64 0)))))), none, []⟩])
  (.block 2 (.loop (.seq (.reg [⟨(some 41), 41, (.bin false .lss (.t 40) (.t 39)), none, []⟩])
  (.seq (.cond (.t 41) .skip (.exit 2))
  (.seq (.block 3 (.seq (.reg [⟨(some 42), 42, (.mv (.t 40)), none, []⟩,
    ⟨(some 43), 43, (.idx 2 (.t 38) (.t 40)), none, []⟩,
    ⟨(some 44), 44, (.load true 2 (.t 43)), none, [1]⟩,
    ⟨(some 10), 10, (.mk 141 2 [[(.s (.pv (.int .i64 0))), (.s (.pv (.string ⟨#[]⟩)))]]), none, []⟩,
    ⟨(some 9), 9, (.mv (.t 42)), none, [0, 0, 1, 2, 3]⟩,
    ⟨none, 62, (.store 2 (.t 10) (.t 44)), none, [3, 2, 4, 0, 1, 2, 3, 4]⟩])
  (.seq (.reg [⟨(some 45), 45, (.mv (.t 5)), none, []⟩,
    ⟨(some 46), 46, (.mv (.t 9)), none, []⟩,
    ⟨(some 47), 47, (.idx 1 (.t 45) (.t 46)), none, [0, 1]⟩,
    ⟨(some 48), 48, (.load false 1 (.t 47)), none, [2]⟩])
  (.cond (.t 48) (.reg [⟨(some 49), 49, (.mv (.t 8)), none, []⟩,
    ⟨(some 50), 50, (.load true 2 (.t 10)), none, []⟩,
    ⟨(some 51), 51, (.bslice 141 2 [(.s (.pv (.int .i64 0))), (.s (.pv (.string ⟨#[]⟩)))] 1 [(0, 2, (.t 50))]), none, [1]⟩,
    ⟨(some 52), 52, (.app 141 2 24 (.t 49) (.t 51)), none, [0, 2]⟩,
    ⟨(some 8), 8, (.mv (.t 52)), none, [3, 3, 0, 1, 2, 3]⟩]) .skip))))
  (.reg [⟨(some 53), 53, (.bin false .add (.t 40) (.k (.c (.s (.pv (.int .i64 1)))))), none, []⟩,
    ⟨(some 40), 40, (.mv (.t 53)), none, [0]⟩])))))))
  (.seq (.reg [⟨(some 54), 54, (.load true 2 (.t 2)), none, []⟩,
    ⟨(some 55), 55, (.mv (.t 8)), none, []⟩,
    ⟨(some 56), 56, (.call 73 [(.t 54), (.t 55)]), none, [0, 1]⟩,
    ⟨none, 60, (.store 2 (.t 4) (.t 56)), none, [2, 2, 0, 1, 2]⟩])
  .ret)))))))
theorem fn39 : FnIs Try.prog 39 ac39 [(.cell 4 true 2)] 57 := ⟨Try.f39, Try.func39, by kernel_rfl, by kernel_rfl, by kernel_rfl⟩
/- lockkeeper/lanes.isWeight -/
def ac40 : ACode := (.seq (.reg [⟨(some 2), 2, (.mv (.k (.c (.s (.pv (.bool false)))))), none, []⟩])
  (.seq (.reg [⟨(some 3), 3, (.mv (.t 0)), none, []⟩,
    ⟨(some 4), 4, (.bin false .geq (.t 3) (.k (.c (.s (.pv (.int .i64 1)))))), none, [0]⟩,
    ⟨(some 5), 5, (.mv (.t 4)), none, [1]⟩,
    ⟨(some 6), 6, (.mv (.t 0)), (some (5, true)), [2]⟩,
    ⟨(some 7), 7, (.bin false .leq (.t 6) (.k (.c (.s (.pv (.int .i64 8)))))), (some (5, true)), [3, 2]⟩,
    ⟨(some 8), 8, (.pick (.t 5) (.t 7) (.k (.c (.s (.pv (.bool false)))))), none, [2, 4]⟩,
    ⟨(some 2), 2, (.mv (.t 8)), none, [5, 2, 0, 1, 2, 3, 4, 5]⟩])
  .ret))
theorem fn40 : FnIs Try.prog 40 ac40 [(.t 2)] 9 := ⟨Try.f40, Try.func40, by kernel_rfl, by kernel_rfl, by kernel_rfl⟩
/- lockkeeper/lanes.isCost -/
def ac41 : ACode := (.seq (.reg [⟨(some 2), 2, (.mv (.k (.c (.s (.pv (.bool false)))))), none, []⟩])
  (.seq (.reg [⟨(some 3), 3, (.mv (.t 0)), none, []⟩,
    ⟨(some 4), 4, (.bin false .geq (.t 3) (.k (.c (.s (.pv (.int .i64 1)))))), none, [0]⟩,
    ⟨(some 5), 5, (.mv (.t 4)), none, [1]⟩,
    ⟨(some 6), 6, (.mv (.t 0)), (some (5, true)), [2]⟩,
    ⟨(some 7), 7, (.bin false .leq (.t 6) (.k (.c (.s (.pv (.int .i64 8)))))), (some (5, true)), [3, 2]⟩,
    ⟨(some 8), 8, (.pick (.t 5) (.t 7) (.k (.c (.s (.pv (.bool false)))))), none, [2, 4]⟩,
    ⟨(some 2), 2, (.mv (.t 8)), none, [5, 2, 0, 1, 2, 3, 4, 5]⟩])
  .ret))
theorem fn41 : FnIs Try.prog 41 ac41 [(.t 2)] 9 := ⟨Try.f41, Try.func41, by kernel_rfl, by kernel_rfl, by kernel_rfl⟩
/- slices.Clone[[]lockkeeper/lanes.Lane,lockkeeper/lanes.Lane] -/
def ac42 : ACode := (.seq (.reg [⟨(some 2), 2, (.mv (.k (.c .zc))), none, []⟩])
  (.seq (.seq (.reg [⟨(some 3), 3, (.mv (.t 0)), none, []⟩,
    ⟨(some 4), 4, (.isnil (.t 3)), none, [0]⟩])
  (.cond (.t 4) (.seq (.reg [⟨(some 2), 2, (.mv (.k (.c .zc))), none, []⟩])
  .ret) .skip))
  (.seq (.reg [⟨(some 5), 5, (.bslice 56 3 [(.s (.pv (.int .i64 0))), (.s (.pv (.int .i64 0))), .zc] 0 []), none, []⟩,
    ⟨(some 6), 6, (.mv (.t 0)), none, []⟩,
    ⟨(some 7), 7, (.app 56 3 40 (.t 5) (.t 6)), none, [0, 1]⟩,
    ⟨(some 2), 2, (.mv (.t 7)), none, [2, 2, 0, 1, 2]⟩])
  .ret)))
theorem fn42 : FnIs Try.prog 42 ac42 [(.t 2)] 8 := ⟨Try.f42, Try.func42, by kernel_rfl, by kernel_rfl, by kernel_rfl⟩
/- slices.Clone[[]int,int] -/
def ac43 : ACode := (.seq (.reg [⟨(some 2), 2, (.mv (.k (.c .zc))), none, []⟩])
  (.seq (.seq (.reg [⟨(some 3), 3, (.mv (.t 0)), none, []⟩,
    ⟨(some 4), 4, (.isnil (.t 3)), none, [0]⟩])
  (.cond (.t 4) (.seq (.reg [⟨(some 2), 2, (.mv (.k (.c .zc))), none, []⟩])
  .ret) .skip))
  (.seq (.reg [⟨(some 5), 5, (.bslice 3 1 [(.s (.pv (.int .i64 0)))] 0 []), none, []⟩,
    ⟨(some 6), 6, (.mv (.t 0)), none, []⟩,
    ⟨(some 7), 7, (.app 3 1 8 (.t 5) (.t 6)), none, [0, 1]⟩,
    ⟨(some 2), 2, (.mv (.t 7)), none, [2, 2, 0, 1, 2]⟩])
  .ret)))
theorem fn43 : FnIs Try.prog 43 ac43 [(.t 2)] 8 := ⟨Try.f43, Try.func43, by kernel_rfl, by kernel_rfl, by kernel_rfl⟩
/- lockkeeper/lanes.waits -/
def ac44 : ACode := (.seq (.reg [⟨(some 1), 1, (.box 25 3 (.t 0)), none, []⟩,
    ⟨(some 2), 2, (.mv (.k (.c (.s (.pv (.bool false)))))), none, []⟩])
  (.seq (.reg [⟨(some 3), 3, (.fld 0 (.t 1)), none, []⟩,
    ⟨(some 4), 4, (.load false 1 (.t 3)), none, [0]⟩,
    ⟨(some 5), 5, (.call 74 [(.t 4), (.k (.c (.s (.fn 75 []))))]), none, [1]⟩,
    ⟨(some 2), 2, (.mv (.t 5)), none, [2, 2, 0, 1, 2]⟩])
  .ret))
theorem fn44 : FnIs Try.prog 44 ac44 [(.t 2)] 6 := ⟨Try.f44, Try.func44, by kernel_rfl, by kernel_rfl, by kernel_rfl⟩
/- lockkeeper/lanes.take -/
def ac45 : ACode := (.seq (.reg [⟨(some 2), 2, (.mv (.k (.c (.s (.pv (.int .i64 0)))))), none, []⟩])
  (.seq (.reg [⟨(some 4), 4, (.mv (.t 0)), none, []⟩,
    ⟨(some 5), 5, (.nilc (.t 4)), none, [0]⟩,
    ⟨(some 6), 6, (.fld 2 (.t 5)), none, [1]⟩,
    ⟨(some 7), 7, (.load false 1 (.t 6)), none, [2]⟩,
    ⟨(some 8), 8, (.idx 1 (.t 7) (.k (.c (.s (.pv (.int .i64 0)))))), none, [3]⟩,
    ⟨(some 9), 9, (.load false 1 (.t 8)), none, [4]⟩,
    ⟨(some 3), 3, (.mv (.t 9)), none, [5, 0, 1, 2, 3, 4, 5]⟩])
  (.seq (.reg [⟨(some 10), 10, (.mv (.t 0)), none, []⟩,
    ⟨(some 11), 11, (.mv (.t 0)), none, []⟩,
    ⟨(some 12), 12, (.nilc (.t 11)), none, [1]⟩,
    ⟨(some 13), 13, (.fld 2 (.t 12)), none, [2]⟩,
    ⟨(some 14), 14, (.load false 1 (.t 13)), none, [3]⟩,
    ⟨(some 15), 15, (.sub 1 (.t 14) (some (.k (.c (.s (.pv (.int .i64 1)))))) none), none, [4]⟩,
    ⟨(some 16), 16, (.call 43 [(.t 15)]), none, [5]⟩,
    ⟨(some 17), 17, (.nilc (.t 10)), none, [0, 0, 1, 2, 3, 4, 5, 6]⟩,
    ⟨(some 18), 18, (.fld 2 (.t 17)), none, [7, 0, 1, 2, 3, 4, 5, 6]⟩,
    ⟨none, 46, (.store 1 (.t 18) (.t 16)), none, [8, 6, 6, 0, 1, 2, 3, 4, 5, 6]⟩])
  (.seq (.reg [⟨(some 19), 19, (.mv (.t 0)), none, []⟩,
    ⟨(some 20), 20, (.nilc (.t 19)), none, [0]⟩,
    ⟨(some 21), 21, (.fld 1 (.t 20)), none, [1]⟩,
    ⟨(some 22), 22, (.load false 1 (.t 21)), none, [2]⟩,
    ⟨(some 23), 23, (.mv (.t 3)), none, []⟩,
    ⟨(some 24), 24, (.bin false .sub (.t 22) (.t 23)), none, [3, 4]⟩,
    ⟨(some 25), 25, (.nilc (.t 19)), none, [0, 0, 1, 2, 3, 4, 5]⟩,
    ⟨(some 26), 26, (.fld 1 (.t 25)), none, [6, 0, 1, 2, 3, 4, 5]⟩,
    ⟨none, 45, (.store 1 (.t 26) (.t 24)), none, [7, 5, 0, 1, 2, 3, 4, 5]⟩])
  (.seq (.seq (.reg [⟨(some 27), 27, (.mv (.t 0)), none, []⟩,
    ⟨(some 28), 28, (.nilc (.t 27)), none, [0]⟩,
    ⟨(some 29), 29, (.fld 2 (.t 28)), none, [1]⟩,
    ⟨(some 30), 30, (.load false 1 (.t 29)), none, [2]⟩,
    ⟨(some 31), 31, (.len (.t 30)), none, [3]⟩,
    ⟨(some 32), 32, (.bin false .eql (.t 31) (.k (.c (.s (.pv (.int .i64 0)))))), none, [4]⟩])
  (.cond (.t 32) (.reg [⟨(some 33), 33, (.mv (.t 0)), none, []⟩,
    ⟨(some 34), 34, (.nilc (.t 33)), none, [0, 0]⟩,
    ⟨(some 35), 35, (.fld 1 (.t 34)), none, [1, 0]⟩,
    ⟨none, 40, (.store 1 (.t 35) (.k (.c (.s (.pv (.int .i64 0)))))), none, [2, 0]⟩]) .skip))
  (.seq (.reg [⟨(some 36), 36, (.mv (.t 3)), none, []⟩,
    ⟨(some 2), 2, (.mv (.t 36)), none, [0, 0]⟩])
  .ret))))))
theorem fn45 : FnIs Try.prog 45 ac45 [(.t 2)] 37 := ⟨Try.f45, Try.func45, by kernel_rfl, by kernel_rfl, by kernel_rfl⟩
/- lockkeeper/device.Right -/
def ac46 : ACode := (.seq (.reg [⟨(some 1), 1, (.box 65 4 (.t 0)), none, []⟩,
    ⟨(some 2), 2, (.mv (.k (.c (.s (.pv (.bool false)))))), none, []⟩])
  (.seq (.seq (.reg [⟨(some 6), 6, (.fld 0 (.t 1)), none, []⟩,
    ⟨(some 7), 7, (.load true 2 (.t 6)), none, [0]⟩,
    ⟨(some 8), 8, (.call 72 [(.t 7)]), none, [1]⟩,
    ⟨(some 9), 9, (.not (.t 8)), none, [2]⟩,
    ⟨(some 10), 10, (.mv (.t 9)), none, [3, 2]⟩,
    ⟨(some 11), 11, (.fld 0 (.t 1)), (some (10, false)), [4]⟩,
    ⟨(some 12), 12, (.fld 0 (.t 11)), (some (10, false)), [5, 4]⟩,
    ⟨(some 13), 13, (.load false 1 (.t 12)), (some (10, false)), [6, 4]⟩,
    ⟨(some 14), 14, (.len (.t 13)), (some (10, false)), [7, 4]⟩,
    ⟨(some 15), 15, (.bin false .lss (.t 14) (.k (.c (.s (.pv (.int .i64 35)))))), (some (10, false)), [8, 4]⟩,
    ⟨(some 16), 16, (.pick (.t 10) (.k (.c (.s (.pv (.bool true))))) (.t 15)), none, [4, 9]⟩])
  (.cond (.t 16) (.seq (.reg [⟨(some 2), 2, (.mv (.k (.c (.s (.pv (.bool false)))))), none, []⟩])
  .ret) .skip))
  (.seq (.seq (.reg [⟨(some 17), 17, (.fld 2 (.t 1)), none, []⟩,
    ⟨(some 18), 18, (.load false 1 (.t 17)), none, [0]⟩,
    ⟨(some 19), 19, (.bin false .lss (.t 18) (.k (.c (.s (.pv (.int .i64 0)))))), none, [1]⟩,
    ⟨(some 20), 20, (.mv (.t 19)), none, [2]⟩,
    ⟨(some 21), 21, (.fld 2 (.t 1)), (some (20, false)), [3]⟩,
    ⟨(some 22), 22, (.load false 1 (.t 21)), (some (20, false)), [4, 3]⟩,
    ⟨(some 23), 23, (.bin false .gtr (.t 22) (.k (.c (.s (.pv (.int .i64 2147483647)))))), (some (20, false)), [5, 3]⟩,
    ⟨(some 24), 24, (.pick (.t 20) (.k (.c (.s (.pv (.bool true))))) (.t 23)), none, [3, 6]⟩,
    ⟨(some 25), 25, (.mv (.t 24)), none, [7, 3]⟩,
    ⟨(some 26), 26, (.fld 3 (.t 1)), (some (25, false)), [8]⟩,
    ⟨(some 27), 27, (.load false 1 (.t 26)), (some (25, false)), [9, 8]⟩,
    ⟨(some 28), 28, (.len (.t 27)), (some (25, false)), [10, 8]⟩,
    ⟨(some 29), 29, (.bin false .gtr (.t 28) (.k (.c (.s (.pv (.int .i64 4)))))), (some (25, false)), [11, 8]⟩,
    ⟨(some 30), 30, (.pick (.t 25) (.k (.c (.s (.pv (.bool true))))) (.t 29)), none, [8, 12]⟩])
  (.cond (.t 30) (.seq (.reg [⟨(some 2), 2, (.mv (.k (.c (.s (.pv (.bool false)))))), none, []⟩])
  .ret) .skip))
  (.seq (.reg [⟨(some 3), 3, (.mv (.k (.c (.s (.pv (.int .i64 (-1))))))), none, []⟩])
  (.seq (.seq (.reg [⟨(some 31), 31, (.fld 3 (.t 1)), none, []⟩,
    ⟨(some 32), 32, (.load false 1 (.t 31)), none, [0]⟩,
    ⟨(some 33), 33, (.len (.t 32)), none, [1]⟩,
    ⟨(some 34), 34, (.mv (.k (.c (.s (.pv (.int .i64 0)))))), none, []⟩])
  (.block 0 (.loop (.seq (.reg [⟨(some 35), 35, (.bin false .lss (.t 34) (.t 33)), none, []⟩])
  (.seq (.cond (.t 35) .skip (.exit 0))
  (.seq (.block 1 (.seq (.reg [⟨(some 36), 36, (.idx 4 (.t 32) (.t 34)), none, []⟩,
    ⟨(some 37), 37, (.load true 4 (.t 36)), none, [0]⟩,
    ⟨(some 5), 5, (.mk 129 4 [[(.s (.pv (.int .i64 0))), (.s (.pv (.int .i64 0))), (.s (.pv (.int .i64 0))), (.s (.pv (.string ⟨#[]⟩)))]]), none, []⟩,
    ⟨none, 65, (.store 4 (.t 5) (.t 37)), none, [2, 1, 0, 1, 2]⟩])
  (.seq (.seq (.reg [⟨(some 38), 38, (.fld 0 (.t 5)), none, []⟩,
    ⟨(some 39), 39, (.load false 1 (.t 38)), none, [0]⟩,
    ⟨(some 40), 40, (.mv (.t 3)), none, []⟩,
    ⟨(some 41), 41, (.bin false .leq (.t 39) (.t 40)), none, [1, 2]⟩,
    ⟨(some 42), 42, (.mv (.t 41)), none, [3]⟩,
    ⟨(some 43), 43, (.fld 0 (.t 5)), (some (42, false)), [4]⟩,
    ⟨(some 44), 44, (.load false 1 (.t 43)), (some (42, false)), [5, 4]⟩,
    ⟨(some 45), 45, (.fld 2 (.t 1)), (some (42, false)), [4]⟩,
    ⟨(some 46), 46, (.load false 1 (.t 45)), (some (42, false)), [7, 4]⟩,
    ⟨(some 47), 47, (.bin false .geq (.t 44) (.t 46)), (some (42, false)), [6, 8, 4]⟩,
    ⟨(some 48), 48, (.pick (.t 42) (.k (.c (.s (.pv (.bool true))))) (.t 47)), none, [4, 9]⟩,
    ⟨(some 49), 49, (.mv (.t 48)), none, [10, 4]⟩,
    ⟨(some 50), 50, (.fld 1 (.t 5)), (some (49, false)), [11]⟩,
    ⟨(some 51), 51, (.load false 1 (.t 50)), (some (49, false)), [12, 11]⟩,
    ⟨(some 52), 52, (.fld 2 (.t 5)), (some (49, false)), [11]⟩,
    ⟨(some 53), 53, (.load false 1 (.t 52)), (some (49, false)), [14, 11]⟩,
    ⟨(some 54), 54, (.fld 3 (.t 5)), (some (49, false)), [11]⟩,
    ⟨(some 55), 55, (.load false 1 (.t 54)), (some (49, false)), [16, 11]⟩,
    ⟨(some 56), 56, (.call 76 [(.t 51), (.t 53), (.t 55)]), (some (49, false)), [13, 15, 17, 11, 11]⟩,
    ⟨(some 57), 57, (.not (.t 56)), (some (49, false)), [18, 11]⟩,
    ⟨(some 58), 58, (.pick (.t 49) (.k (.c (.s (.pv (.bool true))))) (.t 57)), none, [11, 19]⟩])
  (.cond (.t 58) (.seq (.reg [⟨(some 2), 2, (.mv (.k (.c (.s (.pv (.bool false)))))), none, []⟩])
  .ret) .skip))
  (.reg [⟨(some 59), 59, (.fld 0 (.t 5)), none, []⟩,
    ⟨(some 60), 60, (.load false 1 (.t 59)), none, [0]⟩,
    ⟨(some 3), 3, (.mv (.t 60)), none, [1, 0, 1]⟩]))))
  (.reg [⟨(some 61), 61, (.bin false .add (.t 34) (.k (.c (.s (.pv (.int .i64 1)))))), none, []⟩,
    ⟨(some 34), 34, (.mv (.t 61)), none, [0]⟩])))))))
  (.seq (.reg [⟨(some 2), 2, (.mv (.k (.c (.s (.pv (.bool true)))))), none, []⟩])
  .ret))))))
theorem fn46 : FnIs Try.prog 46 ac46 [(.t 2)] 62 := ⟨Try.f46, Try.func46, by kernel_rfl, by kernel_rfl, by kernel_rfl⟩
/- lockkeeper/disk.New -/
def ac47 : ACode := (.seq (.reg [⟨(some 2), 2, (.mk 62 2 [[.zc, .zc]]), none, []⟩,
    ⟨(some 3), 3, (.mv (.k (.c (.s (.pv (.int .i64 0)))))), none, []⟩])
  (.seq (.seq (.reg [⟨(some 5), 5, (.mv (.t 0)), none, []⟩,
    ⟨(some 6), 6, (.bin false .lss (.t 5) (.k (.c (.s (.pv (.int .i64 1)))))), none, [0]⟩,
    ⟨(some 7), 7, (.mv (.t 6)), none, [1]⟩,
    ⟨(some 8), 8, (.mv (.t 0)), (some (7, false)), [2]⟩,
    ⟨(some 9), 9, (.bin false .gtr (.t 8) (.k (.c (.s (.pv (.int .i64 64)))))), (some (7, false)), [3, 2]⟩,
    ⟨(some 10), 10, (.pick (.t 7) (.k (.c (.s (.pv (.bool true))))) (.t 9)), none, [2, 4]⟩])
  (.cond (.t 10) (.seq (.reg [⟨(some 11), 11, (.build [.zc, .zc] []), none, []⟩,
    ⟨none, 19, (.store 2 (.t 2) (.t 11)), none, [0, 0]⟩,
    ⟨(some 3), 3, (.mv (.k (.c (.s (.pv (.int .i64 1)))))), none, [1, 0, 1]⟩])
  .ret) .skip))
  (.seq (.reg [⟨(some 12), 12, (.call 77 [(.k (.c (.s (.pv (.string ⟨#[0]⟩))))), (.k (.c (.s (.pv (.int .i64 16)))))]), none, []⟩,
    ⟨(some 4), 4, (.mv (.t 12)), none, [0, 0, 0]⟩])
  (.seq (.reg [⟨(some 13), 13, (.mv (.t 4)), none, []⟩,
    ⟨(some 14), 14, (.bslice 9 1 [(.s (.pv (.string ⟨#[]⟩)))] 1 [(0, 1, (.t 13))]), none, [0]⟩,
    ⟨(some 15), 15, (.mv (.t 0)), none, []⟩,
    ⟨(some 16), 16, (.call 78 [(.t 14), (.t 15)]), none, [1, 2]⟩,
    ⟨(some 17), 17, (.build [.zc, .zc] [(0, 1, (.t 16))]), none, [3]⟩,
    ⟨none, 23, (.store 2 (.t 2) (.t 17)), none, [4, 3, 0, 1, 2, 3, 4]⟩,
    ⟨(some 3), 3, (.mv (.k (.c (.s (.pv (.int .i64 0)))))), none, [5, 0, 1, 2, 3, 4, 5]⟩])
  .ret))))
theorem fn47 : FnIs Try.prog 47 ac47 [(.cell 2 true 2), (.t 3)] 18 := ⟨Try.f47, Try.func47, by kernel_rfl, by kernel_rfl, by kernel_rfl⟩
/- lockkeeper/lockkeeperref04.May -/
def ac54 : ACode := (.seq (.reg [⟨(some 6), 6, (.mv (.k (.c (.s (.pv (.bool false)))))), none, []⟩])
  (.seq (.seq (.reg [⟨(some 7), 7, (.mv (.t 0)), none, []⟩,
    ⟨(some 8), 8, (.bin false .eql (.t 7) (.k (.c (.s (.pv (.int .i64 3)))))), none, [0]⟩])
  (.cond (.t 8) (.seq (.reg [⟨(some 9), 9, (.mv (.t 1)), none, []⟩,
    ⟨(some 10), 10, (.bin false .eql (.t 9) (.k (.c (.s (.pv (.int .i64 0)))))), none, [0]⟩,
    ⟨(some 11), 11, (.mv (.t 10)), none, [1]⟩,
    ⟨(some 12), 12, (.mv (.t 2)), (some (11, true)), [2]⟩,
    ⟨(some 13), 13, (.bin false .eql (.t 12) (.k (.c (.s (.pv (.string ⟨#[]⟩)))))), (some (11, true)), [3, 2]⟩,
    ⟨(some 14), 14, (.pick (.t 11) (.t 13) (.k (.c (.s (.pv (.bool false)))))), none, [2, 4]⟩,
    ⟨(some 6), 6, (.mv (.t 14)), none, [5, 2, 0, 1, 2, 3, 4, 5]⟩])
  .ret) .skip))
  (.seq (.seq (.reg [⟨(some 15), 15, (.mv (.t 0)), none, []⟩,
    ⟨(some 16), 16, (.bin false .neq (.t 15) (.k (.c (.s (.pv (.int .i64 1)))))), none, [0]⟩,
    ⟨(some 17), 17, (.mv (.t 16)), none, [1]⟩,
    ⟨(some 18), 18, (.mv (.t 0)), (some (17, true)), [2]⟩,
    ⟨(some 19), 19, (.bin false .neq (.t 18) (.k (.c (.s (.pv (.int .i64 2)))))), (some (17, true)), [3, 2]⟩,
    ⟨(some 20), 20, (.pick (.t 17) (.t 19) (.k (.c (.s (.pv (.bool false)))))), none, [2, 4]⟩,
    ⟨(some 21), 21, (.mv (.t 20)), none, [5, 2]⟩,
    ⟨(some 22), 22, (.mv (.t 1)), (some (21, false)), [6]⟩,
    ⟨(some 23), 23, (.bin false .lss (.t 22) (.k (.c (.s (.pv (.int .i64 1)))))), (some (21, false)), [7, 6]⟩,
    ⟨(some 24), 24, (.pick (.t 21) (.k (.c (.s (.pv (.bool true))))) (.t 23)), none, [6, 8]⟩,
    ⟨(some 25), 25, (.mv (.t 24)), none, [9, 6]⟩,
    ⟨(some 26), 26, (.mv (.t 1)), (some (25, false)), [10]⟩,
    ⟨(some 27), 27, (.bin false .gtr (.t 26) (.k (.c (.s (.pv (.int .i64 16)))))), (some (25, false)), [11, 10]⟩,
    ⟨(some 28), 28, (.pick (.t 25) (.k (.c (.s (.pv (.bool true))))) (.t 27)), none, [10, 12]⟩])
  (.cond (.t 28) (.seq (.reg [⟨(some 6), 6, (.mv (.k (.c (.s (.pv (.bool false)))))), none, []⟩])
  .ret) .skip))
  (.seq (.reg [⟨(some 29), 29, (.mv (.t 0)), none, []⟩,
    ⟨(some 30), 30, (.bin false .eql (.t 29) (.k (.c (.s (.pv (.int .i64 1)))))), none, [0]⟩,
    ⟨(some 31), 31, (.mv (.t 30)), none, [1]⟩,
    ⟨(some 32), 32, (.mv (.t 2)), (some (31, true)), [2]⟩,
    ⟨(some 33), 33, (.slen (.t 32)), (some (31, true)), [3, 2]⟩,
    ⟨(some 34), 34, (.bin false .eql (.t 33) (.k (.c (.s (.pv (.int .i64 0)))))), (some (31, true)), [4, 2]⟩,
    ⟨(some 35), 35, (.pick (.t 31) (.t 34) (.k (.c (.s (.pv (.bool false)))))), none, [2, 5]⟩,
    ⟨(some 36), 36, (.mv (.t 35)), none, [6, 2]⟩,
    ⟨(some 37), 37, (.mv (.t 0)), (some (36, false)), [7]⟩,
    ⟨(some 38), 38, (.bin false .eql (.t 37) (.k (.c (.s (.pv (.int .i64 2)))))), (some (36, false)), [8, 7]⟩,
    ⟨(some 39), 39, (.mv (.t 38)), (some (36, false)), [9, 7, 7]⟩,
    ⟨(some 40), 40, (.mv (.t 2)), (some (39, true)), [10]⟩,
    ⟨(some 41), 41, (.slen (.t 40)), (some (39, true)), [11, 10]⟩,
    ⟨(some 42), 42, (.bin false .eql (.t 41) (.k (.c (.s (.pv (.int .i64 32)))))), (some (39, true)), [12, 10]⟩,
    ⟨(some 43), 43, (.pick (.t 39) (.t 42) (.k (.c (.s (.pv (.bool false)))))), (some (36, false)), [10, 13, 7]⟩,
    ⟨(some 44), 44, (.pick (.t 36) (.k (.c (.s (.pv (.bool true))))) (.t 43)), none, [7, 14]⟩,
    ⟨(some 6), 6, (.mv (.t 44)), none, [15, 10, 0, 1, 2, 3, 4, 5, 6, 7, 8, 9, 10, 11, 12, 13, 14, 15]⟩])
  .ret))))
theorem fn54 : FnIs Try.prog 54 ac54 [(.t 6)] 45 := ⟨Try.f54, Try.func54, by kernel_rfl, by kernel_rfl, by kernel_rfl⟩
/- lockkeeper/lockkeeperref05.Waits -/
def ac58 : ACode := (.seq (.reg [⟨(some 1), 1, (.box 28 3 (.t 0)), none, []⟩,
    ⟨(some 2), 2, (.mv (.k (.c (.s (.pv (.bool false)))))), none, []⟩])
  (.seq (.seq (.reg [⟨(some 3), 3, (.mv (.k (.c (.s (.pv (.int .i64 0)))))), none, []⟩])
  (.block 0 (.loop (.seq (.seq (.reg [⟨(some 4), 4, (.mv (.t 3)), none, []⟩,
    ⟨(some 5), 5, (.fld 0 (.t 1)), none, []⟩,
    ⟨(some 6), 6, (.load false 1 (.t 5)), none, [1]⟩,
    ⟨(some 7), 7, (.len (.t 6)), none, [2]⟩,
    ⟨(some 8), 8, (.bin false .lss (.t 4) (.t 7)), none, [0, 3]⟩])
  (.cond (.t 8) .skip (.exit 0)))
  (.seq (.block 1 (.seq (.reg [⟨(some 11), 11, (.fld 0 (.t 1)), none, []⟩,
    ⟨(some 12), 12, (.load false 1 (.t 11)), none, [0]⟩,
    ⟨(some 13), 13, (.mv (.t 3)), none, []⟩,
    ⟨(some 14), 14, (.idx 3 (.t 12) (.t 13)), none, [1, 2]⟩,
    ⟨(some 15), 15, (.fld 2 (.t 14)), none, [3]⟩,
    ⟨(some 16), 16, (.load false 1 (.t 15)), none, [4]⟩,
    ⟨(some 17), 17, (.len (.t 16)), none, [5]⟩,
    ⟨(some 18), 18, (.bin false .gtr (.t 17) (.k (.c (.s (.pv (.int .i64 0)))))), none, [6]⟩])
  (.cond (.t 18) (.seq (.reg [⟨(some 2), 2, (.mv (.k (.c (.s (.pv (.bool true)))))), none, []⟩])
  .ret) .skip)))
  (.reg [⟨(some 9), 9, (.mv (.t 3)), none, []⟩,
    ⟨(some 10), 10, (.bin false .add (.t 9) (.k (.c (.s (.pv (.int .i64 1)))))), none, [0]⟩,
    ⟨(some 3), 3, (.mv (.t 10)), none, [1, 0, 1]⟩]))))))
  (.seq (.reg [⟨(some 2), 2, (.mv (.k (.c (.s (.pv (.bool false)))))), none, []⟩])
  .ret)))
theorem fn58 : FnIs Try.prog 58 ac58 [(.t 2)] 19 := ⟨Try.f58, Try.func58, by kernel_rfl, by kernel_rfl, by kernel_rfl⟩
/- lockkeeper/lockkeeperref05.Next -/
def ac59 : ACode := (.seq (.reg [⟨(some 1), 1, (.box 28 3 (.t 0)), none, []⟩,
    ⟨(some 2), 2, (.mk 28 3 [[.zc, (.s (.pv (.int .i64 0))), (.s (.pv (.bool false)))]]), none, []⟩,
    ⟨(some 3), 3, (.mv (.k (.c (.s (.pv (.int .i64 0)))))), none, []⟩,
    ⟨(some 4), 4, (.mv (.k (.c (.s (.pv (.int .i64 0)))))), none, [2]⟩])
  (.seq (.seq (.reg [⟨(some 5), 5, (.mv (.k (.c (.s (.pv (.int .i64 0)))))), none, []⟩])
  (.block 0 (.loop (.seq (.seq (.reg [⟨(some 8), 8, (.mv (.t 5)), none, []⟩,
    ⟨(some 9), 9, (.bin false .lss (.t 8) (.k (.c (.s (.pv (.int .i64 40)))))), none, [0]⟩])
  (.cond (.t 9) .skip (.exit 0)))
  (.seq (.block 1 (.seq (.reg [⟨(some 12), 12, (.fld 0 (.t 1)), none, []⟩,
    ⟨(some 13), 13, (.load false 1 (.t 12)), none, [0]⟩,
    ⟨(some 14), 14, (.fld 1 (.t 1)), none, []⟩,
    ⟨(some 15), 15, (.load false 1 (.t 14)), none, [2]⟩,
    ⟨(some 16), 16, (.idx 3 (.t 13) (.t 15)), none, [1, 3]⟩,
    ⟨(some 17), 17, (.load true 3 (.t 16)), none, [4]⟩,
    ⟨(some 6), 6, (.mk 36 3 [[(.s (.pv (.int .i64 0))), (.s (.pv (.int .i64 0))), .zc]]), none, []⟩,
    ⟨none, 85, (.store 3 (.t 6) (.t 17)), none, [6, 5, 0, 1, 2, 3, 4, 5, 6]⟩])
  (.seq (.seq (.reg [⟨(some 18), 18, (.fld 2 (.t 6)), none, []⟩,
    ⟨(some 19), 19, (.load false 1 (.t 18)), none, [0]⟩,
    ⟨(some 20), 20, (.len (.t 19)), none, [1]⟩,
    ⟨(some 21), 21, (.bin false .eql (.t 20) (.k (.c (.s (.pv (.int .i64 0)))))), none, [2]⟩])
  (.cond (.t 21) (.seq (.reg [⟨(some 22), 22, (.fld 1 (.t 6)), none, []⟩,
    ⟨none, 79, (.store 1 (.t 22) (.k (.c (.s (.pv (.int .i64 0)))))), none, [0]⟩])
  (.seq (.reg [⟨(some 23), 23, (.load true 3 (.t 1)), none, []⟩,
    ⟨(some 24), 24, (.fld 1 (.t 1)), none, []⟩,
    ⟨(some 25), 25, (.load false 1 (.t 24)), none, [1]⟩,
    ⟨(some 26), 26, (.load true 3 (.t 6)), none, []⟩,
    ⟨(some 27), 27, (.call 82 [(.t 23), (.t 25), (.t 26)]), none, [0, 2, 3]⟩,
    ⟨(some 28), 28, (.call 81 [(.t 27)]), none, [4, 4]⟩,
    ⟨none, 84, (.store 3 (.t 1) (.t 28)), none, [5, 5, 0, 1, 2, 3, 4, 5]⟩])
  (.exit 1))) .skip))
  (.seq (.seq (.reg [⟨(some 29), 29, (.fld 2 (.t 1)), none, []⟩,
    ⟨(some 30), 30, (.load false 1 (.t 29)), none, [0]⟩,
    ⟨(some 31), 31, (.not (.t 30)), none, [1]⟩])
  (.cond (.t 31) (.seq (.reg [⟨(some 32), 32, (.fld 1 (.t 6)), none, []⟩,
    ⟨(some 33), 33, (.load false 1 (.t 32)), none, [0]⟩,
    ⟨(some 34), 34, (.fld 0 (.t 6)), none, []⟩,
    ⟨(some 35), 35, (.load false 1 (.t 34)), none, [2]⟩,
    ⟨(some 36), 36, (.bin false .mul (.k (.c (.s (.pv (.int .i64 4))))) (.t 35)), none, [3]⟩,
    ⟨(some 37), 37, (.bin false .add (.t 33) (.t 36)), none, [1, 4]⟩,
    ⟨(some 38), 38, (.fld 1 (.t 6)), none, [0, 1, 2, 3, 4, 5]⟩,
    ⟨none, 85, (.store 1 (.t 38) (.t 37)), none, [6, 5, 0, 1, 2, 3, 4, 5]⟩])
  (.seq (.reg [⟨(some 39), 39, (.load true 3 (.t 1)), none, []⟩,
    ⟨(some 40), 40, (.fld 1 (.t 1)), none, []⟩,
    ⟨(some 41), 41, (.load false 1 (.t 40)), none, [1]⟩,
    ⟨(some 42), 42, (.load true 3 (.t 6)), none, []⟩,
    ⟨(some 43), 43, (.call 82 [(.t 39), (.t 41), (.t 42)]), none, [0, 2, 3]⟩,
    ⟨none, 83, (.store 3 (.t 1) (.t 43)), none, [4, 4, 0, 1, 2, 3, 4]⟩])
  (.reg [⟨(some 44), 44, (.fld 2 (.t 1)), none, []⟩,
    ⟨none, 79, (.store 1 (.t 44) (.k (.c (.s (.pv (.bool true)))))), none, [0]⟩]))) .skip))
  (.seq (.reg [⟨(some 45), 45, (.fld 2 (.t 6)), none, []⟩,
    ⟨(some 46), 46, (.load false 1 (.t 45)), none, [0]⟩,
    ⟨(some 47), 47, (.idx 1 (.t 46) (.k (.c (.s (.pv (.int .i64 0)))))), none, [1]⟩,
    ⟨(some 48), 48, (.load false 1 (.t 47)), none, [2]⟩,
    ⟨(some 7), 7, (.mv (.t 48)), none, [3, 0, 1, 2, 3]⟩])
  (.seq (.seq (.reg [⟨(some 49), 49, (.mv (.t 7)), none, []⟩,
    ⟨(some 50), 50, (.fld 1 (.t 6)), none, []⟩,
    ⟨(some 51), 51, (.load false 1 (.t 50)), none, [1]⟩,
    ⟨(some 52), 52, (.bin false .gtr (.t 49) (.t 51)), none, [0, 2]⟩])
  (.cond (.t 52) (.seq (.reg [⟨(some 53), 53, (.load true 3 (.t 1)), none, []⟩,
    ⟨(some 54), 54, (.call 81 [(.t 53)]), none, [0]⟩,
    ⟨none, 80, (.store 3 (.t 1) (.t 54)), none, [1, 1, 0, 1]⟩])
  (.exit 1)) .skip))
  (.seq (.reg [⟨(some 55), 55, (.fld 2 (.t 6)), none, []⟩,
    ⟨(some 56), 56, (.load false 1 (.t 55)), none, [0]⟩,
    ⟨(some 57), 57, (.sub 1 (.t 56) (some (.k (.c (.s (.pv (.int .i64 1)))))) none), none, [1]⟩,
    ⟨(some 58), 58, (.fld 2 (.t 6)), none, [0, 1, 2]⟩,
    ⟨none, 82, (.store 1 (.t 58) (.t 57)), none, [3, 2, 0, 1, 2]⟩])
  (.seq (.reg [⟨(some 59), 59, (.fld 1 (.t 6)), none, []⟩,
    ⟨(some 60), 60, (.load false 1 (.t 59)), none, [0]⟩,
    ⟨(some 61), 61, (.mv (.t 7)), none, []⟩,
    ⟨(some 62), 62, (.bin false .sub (.t 60) (.t 61)), none, [1, 2]⟩,
    ⟨(some 63), 63, (.fld 1 (.t 6)), none, [0, 1, 2, 3]⟩,
    ⟨none, 83, (.store 1 (.t 63) (.t 62)), none, [4, 3, 0, 1, 2, 3]⟩])
  (.seq (.seq (.reg [⟨(some 64), 64, (.fld 2 (.t 6)), none, []⟩,
    ⟨(some 65), 65, (.load false 1 (.t 64)), none, [0]⟩,
    ⟨(some 66), 66, (.len (.t 65)), none, [1]⟩,
    ⟨(some 67), 67, (.bin false .eql (.t 66) (.k (.c (.s (.pv (.int .i64 0)))))), none, [2]⟩])
  (.cond (.t 67) (.reg [⟨(some 68), 68, (.fld 1 (.t 6)), none, []⟩,
    ⟨none, 79, (.store 1 (.t 68) (.k (.c (.s (.pv (.int .i64 0)))))), none, [0]⟩]) .skip))
  (.seq (.draw [⟨(some 69), 69, (.load true 3 (.t 1)), none, []⟩,
    ⟨(some 70), 70, (.fld 1 (.t 1)), none, []⟩,
    ⟨(some 71), 71, (.load false 1 (.t 70)), none, [1]⟩,
    ⟨(some 72), 72, (.load true 3 (.t 6)), none, []⟩,
    ⟨(some 73), 73, (.call 82 [(.t 69), (.t 71), (.t 72)]), none, [0, 2, 3]⟩,
    ⟨(some 74), 74, (.fld 1 (.t 1)), none, []⟩,
    ⟨(some 75), 75, (.load false 1 (.t 74)), none, [5]⟩,
    ⟨(some 76), 76, (.mv (.t 7)), none, []⟩,
    ⟨none, 86, (.store 3 (.t 2) (.t 73)), none, [4, 4, 0, 1, 2, 3, 4]⟩,
    ⟨(some 3), 3, (.mv (.t 75)), none, [6, 8, 0, 1, 2, 3, 4, 5, 6, 8]⟩,
    ⟨(some 4), 4, (.mv (.t 76)), none, [7, 9, 0, 1, 2, 3, 4, 5, 6, 7, 8, 9]⟩])
  .ret))))))))))
  (.reg [⟨(some 10), 10, (.mv (.t 5)), none, []⟩,
    ⟨(some 11), 11, (.bin false .add (.t 10) (.k (.c (.s (.pv (.int .i64 1)))))), none, [0]⟩,
    ⟨(some 5), 5, (.mv (.t 11)), none, [1, 0, 1]⟩]))))))
  (.seq (.reg [⟨(some 77), 77, (.load true 3 (.t 1)), none, []⟩,
    ⟨none, 79, (.store 3 (.t 2) (.t 77)), none, [0, 0]⟩,
    ⟨(some 3), 3, (.mv (.k (.c (.s (.pv (.int .i64 (-1))))))), none, [1, 0, 1]⟩,
    ⟨(some 4), 4, (.mv (.k (.c (.s (.pv (.int .i64 0)))))), none, [2, 0, 1, 2]⟩])
  .ret)))
theorem fn59 : FnIs Try.prog 59 ac59 [(.cell 2 true 3), (.t 3), (.t 4)] 78 := ⟨Try.f59, Try.func59, by kernel_rfl, by kernel_rfl, by kernel_rfl⟩
/- lockkeeper/device.Finish -/
def ac62 : ACode := (.seq (.reg [⟨(some 3), 3, (.box 65 4 (.t 0)), none, []⟩,
    ⟨(some 6), 6, (.mk 65 4 [[.zc, .zc, (.s (.pv (.int .i64 0))), .zc]]), none, []⟩,
    ⟨(some 7), 7, (.mk 129 4 [[(.s (.pv (.int .i64 0))), (.s (.pv (.int .i64 0))), (.s (.pv (.int .i64 0))), (.s (.pv (.string ⟨#[]⟩)))]]), none, []⟩,
    ⟨(some 8), 8, (.mv (.k (.c (.s (.pv (.int .i64 0)))))), none, []⟩])
  (.seq (.seq (.reg [⟨(some 11), 11, (.load true 4 (.t 3)), none, []⟩,
    ⟨(some 12), 12, (.call 46 [(.t 11)]), none, [0]⟩,
    ⟨(some 13), 13, (.not (.t 12)), none, [1]⟩,
    ⟨(some 14), 14, (.mv (.t 13)), none, [2, 1]⟩,
    ⟨(some 15), 15, (.mv (.t 1)), (some (14, false)), [3]⟩,
    ⟨(some 16), 16, (.bin false .lss (.t 15) (.k (.c (.s (.pv (.int .i64 0)))))), (some (14, false)), [4, 3]⟩,
    ⟨(some 17), 17, (.pick (.t 14) (.k (.c (.s (.pv (.bool true))))) (.t 16)), none, [3, 5]⟩,
    ⟨(some 18), 18, (.mv (.t 17)), none, [6, 3]⟩,
    ⟨(some 19), 19, (.mv (.t 1)), (some (18, false)), [7]⟩,
    ⟨(some 20), 20, (.fld 3 (.t 3)), (some (18, false)), [7]⟩,
    ⟨(some 21), 21, (.load false 1 (.t 20)), (some (18, false)), [9, 7]⟩,
    ⟨(some 22), 22, (.len (.t 21)), (some (18, false)), [10, 7]⟩,
    ⟨(some 23), 23, (.bin false .geq (.t 19) (.t 22)), (some (18, false)), [8, 11, 7]⟩,
    ⟨(some 24), 24, (.pick (.t 18) (.k (.c (.s (.pv (.bool true))))) (.t 23)), none, [7, 12]⟩])
  (.cond (.t 24) (.seq (.reg [⟨(some 25), 25, (.load true 4 (.t 3)), none, []⟩,
    ⟨(some 26), 26, (.build [(.s (.pv (.int .i64 0))), (.s (.pv (.int .i64 0))), (.s (.pv (.int .i64 0))), (.s (.pv (.string ⟨#[]⟩)))] []), none, []⟩,
    ⟨none, 77, (.store 4 (.t 6) (.t 25)), none, [0, 0]⟩,
    ⟨none, 78, (.store 4 (.t 7) (.t 26)), none, [1, 2, 0, 1, 2]⟩,
    ⟨(some 8), 8, (.mv (.k (.c (.s (.pv (.int .i64 1)))))), none, [3, 0, 1, 2, 3]⟩])
  .ret) .skip))
  (.seq (.reg [⟨(some 27), 27, (.fld 3 (.t 3)), none, []⟩,
    ⟨(some 28), 28, (.load false 1 (.t 27)), none, [0]⟩,
    ⟨(some 29), 29, (.mv (.t 1)), none, []⟩,
    ⟨(some 30), 30, (.idx 4 (.t 28) (.t 29)), none, [1, 2]⟩,
    ⟨(some 31), 31, (.load true 4 (.t 30)), none, [3]⟩,
    ⟨(some 9), 9, (.mk 129 4 [[(.s (.pv (.int .i64 0))), (.s (.pv (.int .i64 0))), (.s (.pv (.int .i64 0))), (.s (.pv (.string ⟨#[]⟩)))]]), none, []⟩,
    ⟨none, 81, (.store 4 (.t 9) (.t 31)), none, [5, 4, 0, 1, 2, 3, 4, 5]⟩])
  (.seq (.reg [⟨(some 32), 32, (.fld 3 (.t 3)), none, []⟩,
    ⟨(some 33), 33, (.load false 1 (.t 32)), none, [0]⟩,
    ⟨(some 34), 34, (.call 85 [(.t 33)]), none, [1]⟩,
    ⟨(some 35), 35, (.mv (.t 1)), none, []⟩,
    ⟨(some 36), 36, (.mv (.t 1)), none, []⟩,
    ⟨(some 37), 37, (.bin false .add (.t 36) (.k (.c (.s (.pv (.int .i64 1)))))), none, [4]⟩,
    ⟨(some 38), 38, (.call 84 [(.t 34), (.t 35), (.t 37)]), none, [2, 3, 5, 2]⟩,
    ⟨(some 39), 39, (.fld 3 (.t 3)), none, [0, 1, 2, 3, 4, 5, 6]⟩,
    ⟨none, 83, (.store 1 (.t 39) (.t 38)), none, [7, 6, 6, 0, 1, 2, 3, 4, 5, 6]⟩])
  (.seq (.seq (.reg [⟨(some 40), 40, (.mv (.t 2)), none, []⟩])
  (.cond (.t 40) (.seq (.draw [⟨(some 41), 41, (.load true 4 (.t 3)), none, []⟩,
    ⟨(some 42), 42, (.load true 4 (.t 9)), none, []⟩,
    ⟨none, 77, (.store 4 (.t 6) (.t 41)), none, [0, 0]⟩,
    ⟨none, 78, (.store 4 (.t 7) (.t 42)), none, [1, 2, 0, 1, 2]⟩,
    ⟨(some 8), 8, (.mv (.k (.c (.s (.pv (.int .i64 8)))))), none, [3, 0, 1, 2, 3]⟩])
  .ret) .skip))
  (.seq (.reg [⟨(some 10), 10, (.mv (.k (.c (.s (.pv (.int .i64 0)))))), none, []⟩])
  (.seq (.seq (.reg [⟨(some 43), 43, (.fld 1 (.t 9)), none, []⟩,
    ⟨(some 44), 44, (.load false 1 (.t 43)), none, [0]⟩])
  (.block 0 (.seq (.reg [⟨(some 46), 46, (.bin false .eql (.t 44) (.k (.c (.s (.pv (.int .i64 1)))))), none, []⟩,
    ⟨(some 45), 45, (.mv (.t 46)), none, [0]⟩])
  (.cond (.t 45) (.reg [⟨(some 47), 47, (.fld 0 (.t 3)), none, []⟩,
    ⟨(some 48), 48, (.load true 2 (.t 47)), none, [0]⟩,
    ⟨(some 49), 49, (.fld 2 (.t 9)), none, []⟩,
    ⟨(some 50), 50, (.load false 1 (.t 49)), none, [2]⟩,
    ⟨(some 51), 51, (.call 86 [(.t 48), (.t 50)]), none, [1, 3]⟩,
    ⟨(some 52), 52, (.fld 3 (.t 9)), none, [0, 1, 2, 3, 4]⟩,
    ⟨none, 81, (.store 1 (.t 52) (.t 51)), none, [5, 4, 4, 0, 1, 2, 3, 4]⟩]) (.seq (.reg [⟨(some 54), 54, (.bin false .eql (.t 44) (.k (.c (.s (.pv (.int .i64 2)))))), none, []⟩,
    ⟨(some 53), 53, (.mv (.t 54)), none, [0]⟩])
  (.cond (.t 53) (.reg [⟨(some 56), 56, (.fld 0 (.t 3)), none, []⟩,
    ⟨(some 57), 57, (.load true 2 (.t 56)), none, [0]⟩,
    ⟨(some 58), 58, (.fld 2 (.t 9)), none, []⟩,
    ⟨(some 59), 59, (.load false 1 (.t 58)), none, [2]⟩,
    ⟨(some 60), 60, (.fld 3 (.t 9)), none, []⟩,
    ⟨(some 61), 61, (.load false 1 (.t 60)), none, [4]⟩,
    ⟨(some 62), 62, (.call 87 [(.t 57), (.t 59), (.t 61)]), none, [1, 3, 5]⟩,
    ⟨(some 55), 55, (.mv (.t 62)), none, [6]⟩,
    ⟨(some 63), 63, (.ext 0 (.t 55)), none, [7]⟩,
    ⟨(some 64), 64, (.ext 1 (.t 55)), none, [7]⟩,
    ⟨(some 65), 65, (.fld 0 (.t 3)), none, [0, 1, 2, 3, 4, 5, 6, 7, 8]⟩,
    ⟨none, 86, (.store 2 (.t 65) (.t 63)), none, [10, 8, 6, 0, 1, 2, 3, 4, 5, 6, 7, 8]⟩,
    ⟨(some 10), 10, (.mv (.t 64)), none, [9, 11, 0, 1, 2, 3, 4, 5, 6, 7, 8, 9, 10, 11]⟩]) (.seq (.reg [⟨(some 67), 67, (.bin false .eql (.t 44) (.k (.c (.s (.pv (.int .i64 3)))))), none, []⟩,
    ⟨(some 66), 66, (.mv (.t 67)), none, [0]⟩])
  (.cond (.t 66) (.reg [⟨(some 68), 68, (.fld 0 (.t 3)), none, []⟩,
    ⟨(some 69), 69, (.load true 2 (.t 68)), none, [0]⟩,
    ⟨(some 70), 70, (.call 88 [(.t 69)]), none, [1]⟩,
    ⟨(some 71), 71, (.fld 0 (.t 3)), none, [0, 1, 2]⟩,
    ⟨none, 79, (.store 2 (.t 71) (.t 70)), none, [3, 2, 2, 0, 1, 2]⟩]) .skip))))))))
  (.seq (.draw [⟨(some 72), 72, (.load true 4 (.t 3)), none, []⟩,
    ⟨(some 73), 73, (.load true 4 (.t 9)), none, []⟩,
    ⟨(some 74), 74, (.mv (.t 10)), none, []⟩,
    ⟨none, 78, (.store 4 (.t 6) (.t 72)), none, [0, 0]⟩,
    ⟨none, 79, (.store 4 (.t 7) (.t 73)), none, [1, 3, 0, 1, 3]⟩,
    ⟨(some 8), 8, (.mv (.t 74)), none, [2, 4, 0, 1, 2, 3, 4]⟩])
  .ret))))))))
theorem fn62 : FnIs Try.prog 62 ac62 [(.cell 6 true 4), (.cell 7 true 4), (.t 8)] 75 := ⟨Try.f62, Try.func62, by kernel_rfl, by kernel_rfl, by kernel_rfl⟩
/- lockkeeper/lockkeeperref04.Finish -/
def ac64 : ACode := (.seq (.reg [⟨(some 3), 3, (.box 75 4 (.t 0)), none, []⟩,
    ⟨(some 6), 6, (.mk 75 4 [[.zc, .zc, (.s (.pv (.int .i64 0))), .zc]]), none, []⟩,
    ⟨(some 7), 7, (.mk 133 4 [[(.s (.pv (.int .i64 0))), (.s (.pv (.int .i64 0))), (.s (.pv (.int .i64 0))), (.s (.pv (.string ⟨#[]⟩)))]]), none, []⟩,
    ⟨(some 8), 8, (.mv (.k (.c (.s (.pv (.int .i64 0)))))), none, []⟩])
  (.seq (.seq (.reg [⟨(some 15), 15, (.load true 4 (.t 3)), none, []⟩,
    ⟨(some 16), 16, (.call 80 [(.t 15)]), none, [0]⟩,
    ⟨(some 17), 17, (.not (.t 16)), none, [1]⟩,
    ⟨(some 18), 18, (.mv (.t 17)), none, [2, 1]⟩,
    ⟨(some 19), 19, (.mv (.t 1)), (some (18, false)), [3]⟩,
    ⟨(some 20), 20, (.bin false .lss (.t 19) (.k (.c (.s (.pv (.int .i64 0)))))), (some (18, false)), [4, 3]⟩,
    ⟨(some 21), 21, (.pick (.t 18) (.k (.c (.s (.pv (.bool true))))) (.t 20)), none, [3, 5]⟩,
    ⟨(some 22), 22, (.mv (.t 21)), none, [6, 3]⟩,
    ⟨(some 23), 23, (.mv (.t 1)), (some (22, false)), [7]⟩,
    ⟨(some 24), 24, (.fld 3 (.t 3)), (some (22, false)), [7]⟩,
    ⟨(some 25), 25, (.load false 1 (.t 24)), (some (22, false)), [9, 7]⟩,
    ⟨(some 26), 26, (.len (.t 25)), (some (22, false)), [10, 7]⟩,
    ⟨(some 27), 27, (.bin false .geq (.t 23) (.t 26)), (some (22, false)), [8, 11, 7]⟩,
    ⟨(some 28), 28, (.pick (.t 22) (.k (.c (.s (.pv (.bool true))))) (.t 27)), none, [7, 12]⟩])
  (.cond (.t 28) (.seq (.reg [⟨(some 29), 29, (.load true 4 (.t 3)), none, []⟩,
    ⟨(some 30), 30, (.build [(.s (.pv (.int .i64 0))), (.s (.pv (.int .i64 0))), (.s (.pv (.int .i64 0))), (.s (.pv (.string ⟨#[]⟩)))] []), none, []⟩,
    ⟨none, 134, (.store 4 (.t 6) (.t 29)), none, [0, 0]⟩,
    ⟨none, 135, (.store 4 (.t 7) (.t 30)), none, [1, 2, 0, 1, 2]⟩,
    ⟨(some 8), 8, (.mv (.k (.c (.s (.pv (.int .i64 1)))))), none, [3, 0, 1, 2, 3]⟩])
  .ret) .skip))
  (.seq (.reg [⟨(some 31), 31, (.fld 0 (.t 3)), none, []⟩,
    ⟨(some 32), 32, (.load true 2 (.t 31)), none, [0]⟩,
    ⟨(some 33), 33, (.fld 2 (.t 3)), none, []⟩,
    ⟨(some 34), 34, (.load false 1 (.t 33)), none, [2]⟩,
    ⟨(some 35), 35, (.build [.zc, .zc, (.s (.pv (.int .i64 0))), .zc] [(0, 2, (.t 32)), (2, 1, (.t 34))]), none, [1, 3]⟩,
    ⟨(some 9), 9, (.mk 75 4 [[.zc, .zc, (.s (.pv (.int .i64 0))), .zc]]), none, []⟩,
    ⟨none, 138, (.store 4 (.t 9) (.t 35)), none, [5, 4, 0, 1, 2, 3, 4, 5]⟩])
  (.seq (.seq (.reg [⟨(some 10), 10, (.mv (.k (.c (.s (.pv (.int .i64 0)))))), none, []⟩])
  (.block 0 (.loop (.seq (.seq (.reg [⟨(some 36), 36, (.mv (.t 10)), none, []⟩,
    ⟨(some 37), 37, (.fld 3 (.t 3)), none, []⟩,
    ⟨(some 38), 38, (.load false 1 (.t 37)), none, [1]⟩,
    ⟨(some 39), 39, (.len (.t 38)), none, [2]⟩,
    ⟨(some 40), 40, (.bin false .lss (.t 36) (.t 39)), none, [0, 3]⟩])
  (.cond (.t 40) .skip (.exit 0)))
  (.seq (.block 1 (.seq (.reg [⟨(some 43), 43, (.mv (.t 10)), none, []⟩,
    ⟨(some 44), 44, (.mv (.t 1)), none, []⟩,
    ⟨(some 45), 45, (.bin false .neq (.t 43) (.t 44)), none, [0, 1]⟩])
  (.cond (.t 45) (.draw [⟨(some 46), 46, (.fld 3 (.t 9)), none, []⟩,
    ⟨(some 47), 47, (.load false 1 (.t 46)), none, [0]⟩,
    ⟨(some 48), 48, (.fld 3 (.t 3)), none, []⟩,
    ⟨(some 49), 49, (.load false 1 (.t 48)), none, [2]⟩,
    ⟨(some 50), 50, (.mv (.t 10)), none, []⟩,
    ⟨(some 51), 51, (.idx 4 (.t 49) (.t 50)), none, [3, 4]⟩,
    ⟨(some 52), 52, (.load true 4 (.t 51)), none, [5]⟩,
    ⟨(some 53), 53, (.bslice 133 4 [(.s (.pv (.int .i64 0))), (.s (.pv (.int .i64 0))), (.s (.pv (.int .i64 0))), (.s (.pv (.string ⟨#[]⟩)))] 1 [(0, 4, (.t 52))]), none, [6]⟩,
    ⟨(some 54), 54, (.app 133 4 40 (.t 47) (.t 53)), none, [1, 7]⟩,
    ⟨(some 55), 55, (.fld 3 (.t 9)), none, [0, 1, 2, 3, 4, 5, 6, 7, 8]⟩,
    ⟨none, 142, (.store 1 (.t 55) (.t 54)), none, [9, 8, 8, 0, 1, 2, 3, 4, 5, 6, 7, 8]⟩]) .skip)))
  (.reg [⟨(some 41), 41, (.mv (.t 10)), none, []⟩,
    ⟨(some 42), 42, (.bin false .add (.t 41) (.k (.c (.s (.pv (.int .i64 1)))))), none, [0]⟩,
    ⟨(some 10), 10, (.mv (.t 42)), none, [1, 0, 1]⟩]))))))
  (.seq (.reg [⟨(some 56), 56, (.fld 3 (.t 3)), none, []⟩,
    ⟨(some 57), 57, (.load false 1 (.t 56)), none, [0]⟩,
    ⟨(some 58), 58, (.mv (.t 1)), none, []⟩,
    ⟨(some 59), 59, (.idx 4 (.t 57) (.t 58)), none, [1, 2]⟩,
    ⟨(some 60), 60, (.load true 4 (.t 59)), none, [3]⟩,
    ⟨(some 11), 11, (.mk 133 4 [[(.s (.pv (.int .i64 0))), (.s (.pv (.int .i64 0))), (.s (.pv (.int .i64 0))), (.s (.pv (.string ⟨#[]⟩)))]]), none, []⟩,
    ⟨none, 138, (.store 4 (.t 11) (.t 60)), none, [5, 4, 0, 1, 2, 3, 4, 5]⟩])
  (.seq (.seq (.reg [⟨(some 61), 61, (.mv (.t 2)), none, []⟩])
  (.cond (.t 61) (.seq (.draw [⟨(some 62), 62, (.load true 4 (.t 9)), none, []⟩,
    ⟨(some 63), 63, (.load true 4 (.t 11)), none, []⟩,
    ⟨none, 134, (.store 4 (.t 6) (.t 62)), none, [0, 0]⟩,
    ⟨none, 135, (.store 4 (.t 7) (.t 63)), none, [1, 2, 0, 1, 2]⟩,
    ⟨(some 8), 8, (.mv (.k (.c (.s (.pv (.int .i64 8)))))), none, [3, 0, 1, 2, 3]⟩])
  .ret) .skip))
  (.seq (.reg [⟨(some 64), 64, (.fld 2 (.t 11)), none, []⟩,
    ⟨(some 65), 65, (.load false 1 (.t 64)), none, [0]⟩,
    ⟨(some 66), 66, (.bin false .mul (.k (.c (.s (.pv (.int .i64 2))))) (.t 65)), none, [1]⟩,
    ⟨(some 67), 67, (.bin false .add (.t 66) (.k (.c (.s (.pv (.int .i64 1)))))), none, [2]⟩,
    ⟨(some 12), 12, (.mv (.t 67)), none, [3, 0, 1, 2, 3]⟩])
  (.seq (.seq (.reg [⟨(some 68), 68, (.fld 1 (.t 11)), none, []⟩,
    ⟨(some 69), 69, (.load false 1 (.t 68)), none, [0]⟩])
  (.block 2 (.seq (.reg [⟨(some 75), 75, (.bin false .eql (.t 69) (.k (.c (.s (.pv (.int .i64 1)))))), none, []⟩,
    ⟨(some 74), 74, (.mv (.t 75)), none, [0]⟩])
  (.cond (.t 74) (.draw [⟨(some 76), 76, (.fld 0 (.t 3)), none, []⟩,
    ⟨(some 77), 77, (.load true 2 (.t 76)), none, [0]⟩,
    ⟨(some 78), 78, (.mv (.t 12)), none, []⟩,
    ⟨(some 79), 79, (.call 89 [(.t 77), (.t 78)]), none, [1, 2]⟩,
    ⟨(some 80), 80, (.fld 0 (.t 3)), none, []⟩,
    ⟨(some 81), 81, (.load true 2 (.t 80)), none, [4]⟩,
    ⟨(some 82), 82, (.mv (.t 12)), none, []⟩,
    ⟨(some 83), 83, (.bin false .add (.t 82) (.k (.c (.s (.pv (.int .i64 1)))))), none, [6]⟩,
    ⟨(some 84), 84, (.call 89 [(.t 81), (.t 83)]), none, [5, 7, 3]⟩,
    ⟨(some 85), 85, (.bin false .add (.t 79) (.t 84)), none, [3, 8]⟩,
    ⟨(some 86), 86, (.fld 3 (.t 11)), none, [0, 1, 2, 3, 4, 5, 6, 7, 8, 9]⟩,
    ⟨none, 143, (.store 1 (.t 86) (.t 85)), none, [10, 9, 8, 0, 1, 2, 3, 4, 5, 6, 7, 8, 9]⟩]) (.seq (.reg [⟨(some 88), 88, (.bin false .eql (.t 69) (.k (.c (.s (.pv (.int .i64 2)))))), none, []⟩,
    ⟨(some 87), 87, (.mv (.t 88)), none, [0]⟩])
  (.cond (.t 87) (.seq (.reg [⟨(some 13), 13, (.mv (.k (.c .zc))), none, []⟩])
  (.seq (.reg [⟨(some 89), 89, (.mv (.t 13)), none, []⟩,
    ⟨(some 90), 90, (.fld 0 (.t 3)), none, []⟩,
    ⟨(some 91), 91, (.fld 1 (.t 90)), none, [1]⟩,
    ⟨(some 92), 92, (.load false 1 (.t 91)), none, [2]⟩,
    ⟨(some 93), 93, (.app 141 2 24 (.t 89) (.t 92)), none, [0, 3]⟩,
    ⟨(some 13), 13, (.mv (.t 93)), none, [4, 4, 0, 1, 2, 3, 4]⟩])
  (.seq (.seq (.reg [⟨(some 94), 94, (.mv (.t 13)), none, []⟩,
    ⟨(some 95), 95, (.len (.t 94)), none, [0]⟩,
    ⟨(some 96), 96, (.bin false .lss (.t 95) (.k (.c (.s (.pv (.int .i64 200)))))), none, [1]⟩])
  (.cond (.t 96) (.reg [⟨(some 97), 97, (.mv (.t 13)), none, []⟩,
    ⟨(some 98), 98, (.mv (.t 12)), none, []⟩,
    ⟨(some 99), 99, (.fld 3 (.t 11)), none, []⟩,
    ⟨(some 100), 100, (.load false 1 (.t 99)), none, [2]⟩,
    ⟨(some 101), 101, (.ssub (.t 100) none (some (.k (.c (.s (.pv (.int .i64 16))))))), none, [3]⟩,
    ⟨(some 102), 102, (.build [(.s (.pv (.int .i64 0))), (.s (.pv (.string ⟨#[]⟩)))] [(0, 1, (.t 98)), (1, 1, (.t 101))]), none, [1, 4]⟩,
    ⟨(some 103), 103, (.bslice 141 2 [(.s (.pv (.int .i64 0))), (.s (.pv (.string ⟨#[]⟩)))] 1 [(0, 2, (.t 102))]), none, [5]⟩,
    ⟨(some 104), 104, (.app 141 2 24 (.t 97) (.t 103)), none, [0, 6]⟩,
    ⟨(some 13), 13, (.mv (.t 104)), none, [7, 7, 0, 1, 2, 3, 4, 5, 6, 7]⟩]) (.seq (.draw [⟨(some 105), 105, (.load true 4 (.t 9)), none, []⟩,
    ⟨(some 106), 106, (.load true 4 (.t 11)), none, []⟩,
    ⟨none, 134, (.store 4 (.t 6) (.t 105)), none, [0, 0]⟩,
    ⟨none, 135, (.store 4 (.t 7) (.t 106)), none, [1, 2, 0, 1, 2]⟩,
    ⟨(some 8), 8, (.mv (.k (.c (.s (.pv (.int .i64 7)))))), none, [3, 0, 1, 2, 3]⟩])
  .ret)))
  (.seq (.reg [⟨(some 107), 107, (.mv (.t 13)), none, []⟩,
    ⟨(some 108), 108, (.len (.t 107)), none, [0]⟩,
    ⟨(some 109), 109, (.bin false .eql (.t 108) (.k (.c (.s (.pv (.int .i64 200)))))), none, [1]⟩,
    ⟨(some 14), 14, (.mv (.t 109)), none, [2, 0, 1, 2]⟩])
  (.seq (.seq (.reg [⟨(some 110), 110, (.mv (.t 14)), none, []⟩,
    ⟨(some 111), 111, (.not (.t 110)), none, [0]⟩])
  (.cond (.t 111) (.reg [⟨(some 112), 112, (.mv (.t 13)), none, []⟩,
    ⟨(some 113), 113, (.mv (.t 12)), none, []⟩,
    ⟨(some 114), 114, (.bin false .add (.t 113) (.k (.c (.s (.pv (.int .i64 1)))))), none, [1]⟩,
    ⟨(some 115), 115, (.fld 3 (.t 11)), none, []⟩,
    ⟨(some 116), 116, (.load false 1 (.t 115)), none, [3]⟩,
    ⟨(some 117), 117, (.ssub (.t 116) (some (.k (.c (.s (.pv (.int .i64 16)))))) none), none, [4]⟩,
    ⟨(some 118), 118, (.build [(.s (.pv (.int .i64 0))), (.s (.pv (.string ⟨#[]⟩)))] [(0, 1, (.t 114)), (1, 1, (.t 117))]), none, [2, 5]⟩,
    ⟨(some 119), 119, (.bslice 141 2 [(.s (.pv (.int .i64 0))), (.s (.pv (.string ⟨#[]⟩)))] 1 [(0, 2, (.t 118))]), none, [6]⟩,
    ⟨(some 120), 120, (.app 141 2 24 (.t 112) (.t 119)), none, [0, 7]⟩,
    ⟨(some 13), 13, (.mv (.t 120)), none, [8, 8, 0, 1, 2, 3, 4, 5, 6, 7, 8]⟩]) .skip))
  (.seq (.reg [⟨(some 121), 121, (.fld 0 (.t 3)), none, []⟩,
    ⟨(some 122), 122, (.fld 0 (.t 121)), none, [0]⟩,
    ⟨(some 123), 123, (.load false 1 (.t 122)), none, [1]⟩,
    ⟨(some 124), 124, (.mv (.t 13)), none, []⟩,
    ⟨(some 125), 125, (.build [.zc, .zc] [(0, 1, (.t 123)), (1, 1, (.t 124))]), none, [2, 3]⟩,
    ⟨(some 126), 126, (.fld 0 (.t 9)), none, [0, 1, 2, 3, 4]⟩,
    ⟨none, 138, (.store 2 (.t 126) (.t 125)), none, [5, 4, 0, 1, 2, 3, 4]⟩])
  (.seq (.reg [⟨(some 127), 127, (.mv (.t 14)), none, []⟩])
  (.cond (.t 127) (.seq (.draw [⟨(some 128), 128, (.load true 4 (.t 9)), none, []⟩,
    ⟨(some 129), 129, (.load true 4 (.t 11)), none, []⟩,
    ⟨none, 134, (.store 4 (.t 6) (.t 128)), none, [0, 0]⟩,
    ⟨none, 135, (.store 4 (.t 7) (.t 129)), none, [1, 2, 0, 1, 2]⟩,
    ⟨(some 8), 8, (.mv (.k (.c (.s (.pv (.int .i64 7)))))), none, [3, 0, 1, 2, 3]⟩])
  .ret) .skip)))))))) (.reg [⟨(some 70), 70, (.fld 0 (.t 3)), none, []⟩,
    ⟨(some 71), 71, (.load true 2 (.t 70)), none, [0]⟩,
    ⟨(some 72), 72, (.call 90 [(.t 71)]), none, [1]⟩,
    ⟨(some 73), 73, (.fld 0 (.t 9)), none, [0, 1, 2]⟩,
    ⟨none, 136, (.store 2 (.t 73) (.t 72)), none, [3, 2, 2, 0, 1, 2]⟩])))))))
  (.seq (.draw [⟨(some 130), 130, (.load true 4 (.t 9)), none, []⟩,
    ⟨(some 131), 131, (.load true 4 (.t 11)), none, []⟩,
    ⟨none, 134, (.store 4 (.t 6) (.t 130)), none, [0, 0]⟩,
    ⟨none, 135, (.store 4 (.t 7) (.t 131)), none, [1, 2, 0, 1, 2]⟩,
    ⟨(some 8), 8, (.mv (.k (.c (.s (.pv (.int .i64 0)))))), none, [3, 0, 1, 2, 3]⟩])
  .ret)))))))))
theorem fn64 : FnIs Try.prog 64 ac64 [(.cell 6 true 4), (.cell 7 true 4), (.t 8)] 132 := ⟨Try.f64, Try.func64, by kernel_rfl, by kernel_rfl, by kernel_rfl⟩
/- lockkeeper/device.Crash -/
def ac65 : ACode := (.seq (.reg [⟨(some 2), 2, (.box 65 4 (.t 0)), none, []⟩,
    ⟨(some 4), 4, (.mk 65 4 [[.zc, .zc, (.s (.pv (.int .i64 0))), .zc]]), none, []⟩])
  (.seq (.seq (.reg [⟨(some 5), 5, (.load true 4 (.t 2)), none, []⟩,
    ⟨(some 6), 6, (.call 46 [(.t 5)]), none, [0]⟩,
    ⟨(some 7), 7, (.not (.t 6)), none, [1]⟩])
  (.cond (.t 7) (.seq (.reg [⟨(some 8), 8, (.load true 4 (.t 2)), none, []⟩,
    ⟨none, 17, (.store 4 (.t 4) (.t 8)), none, [0, 0]⟩])
  .ret) .skip))
  (.seq (.draw [⟨(some 9), 9, (.fld 0 (.t 2)), none, []⟩,
    ⟨(some 10), 10, (.load true 2 (.t 9)), none, [0]⟩,
    ⟨(some 11), 11, (.mv (.t 1)), none, []⟩,
    ⟨(some 12), 12, (.call 39 [(.t 10), (.t 11)]), none, [1, 2]⟩,
    ⟨(some 13), 13, (.fld 2 (.t 2)), none, []⟩,
    ⟨(some 14), 14, (.load false 1 (.t 13)), none, [4]⟩,
    ⟨(some 15), 15, (.build [.zc, .zc, (.s (.pv (.int .i64 0))), .zc] [(0, 2, (.t 12)), (2, 1, (.t 14))]), none, [3, 5]⟩,
    ⟨none, 23, (.store 4 (.t 4) (.t 15)), none, [6, 3, 0, 1, 2, 3, 4, 5, 6]⟩])
  .ret)))
theorem fn65 : FnIs Try.prog 65 ac65 [(.cell 4 true 4)] 16 := ⟨Try.f65, Try.func65, by kernel_rfl, by kernel_rfl, by kernel_rfl⟩
/- lockkeeper/lockkeeperref03.Crash -/
def ac66 : ACode := (.seq (.reg [⟨(some 2), 2, (.box 62 2 (.t 0)), none, []⟩,
    ⟨(some 4), 4, (.mk 62 2 [[.zc, .zc]]), none, []⟩])
  (.seq (.reg [⟨(some 5), 5, (.mk 62 2 [[.zc, .zc]]), none, []⟩])
  (.seq (.seq (.reg [⟨(some 6), 6, (.mv (.k (.c (.s (.pv (.int .i64 0)))))), none, []⟩])
  (.block 0 (.loop (.seq (.seq (.reg [⟨(some 9), 9, (.mv (.t 6)), none, []⟩,
    ⟨(some 10), 10, (.fld 0 (.t 2)), none, []⟩,
    ⟨(some 11), 11, (.load false 1 (.t 10)), none, [1]⟩,
    ⟨(some 12), 12, (.len (.t 11)), none, [2]⟩,
    ⟨(some 13), 13, (.bin false .lss (.t 9) (.t 12)), none, [0, 3]⟩])
  (.cond (.t 13) .skip (.exit 0)))
  (.seq (.block 1 (.seq (.reg [⟨(some 16), 16, (.fld 0 (.t 2)), none, []⟩,
    ⟨(some 17), 17, (.load false 1 (.t 16)), none, [0]⟩,
    ⟨(some 18), 18, (.mv (.t 6)), none, []⟩,
    ⟨(some 19), 19, (.idx 1 (.t 17) (.t 18)), none, [1, 2]⟩,
    ⟨(some 20), 20, (.load false 1 (.t 19)), none, [3]⟩,
    ⟨(some 7), 7, (.mv (.t 20)), none, [4, 0, 1, 2, 3, 4]⟩])
  (.seq (.seq (.reg [⟨(some 8), 8, (.mv (.k (.c (.s (.pv (.int .i64 0)))))), none, []⟩])
  (.block 2 (.loop (.seq (.seq (.reg [⟨(some 21), 21, (.mv (.t 8)), none, []⟩,
    ⟨(some 22), 22, (.fld 1 (.t 2)), none, []⟩,
    ⟨(some 23), 23, (.load false 1 (.t 22)), none, [1]⟩,
    ⟨(some 24), 24, (.len (.t 23)), none, [2]⟩,
    ⟨(some 25), 25, (.bin false .lss (.t 21) (.t 24)), none, [0, 3]⟩])
  (.cond (.t 25) .skip (.exit 2)))
  (.seq (.block 3 (.seq (.reg [⟨(some 28), 28, (.fld 1 (.t 2)), none, []⟩,
    ⟨(some 29), 29, (.load false 1 (.t 28)), none, [0]⟩,
    ⟨(some 30), 30, (.mv (.t 8)), none, []⟩,
    ⟨(some 31), 31, (.idx 2 (.t 29) (.t 30)), none, [1, 2]⟩,
    ⟨(some 32), 32, (.fld 0 (.t 31)), none, [3]⟩,
    ⟨(some 33), 33, (.load false 1 (.t 32)), none, [4]⟩,
    ⟨(some 34), 34, (.mv (.t 6)), none, []⟩,
    ⟨(some 35), 35, (.bin false .eql (.t 33) (.t 34)), none, [5, 6]⟩,
    ⟨(some 36), 36, (.mv (.t 35)), none, [7]⟩,
    ⟨(some 37), 37, (.mv (.t 1)), (some (36, true)), [8]⟩,
    ⟨(some 38), 38, (.mv (.t 8)), (some (36, true)), [8]⟩,
    ⟨(some 39), 39, (.call 91 [(.t 37), (.t 38)]), (some (36, true)), [9, 10, 8, 8]⟩,
    ⟨(some 40), 40, (.pick (.t 36) (.t 39) (.k (.c (.s (.pv (.bool false)))))), none, [8, 11]⟩])
  (.cond (.t 40) (.reg [⟨(some 41), 41, (.fld 1 (.t 2)), none, []⟩,
    ⟨(some 42), 42, (.load false 1 (.t 41)), none, [0]⟩,
    ⟨(some 43), 43, (.mv (.t 8)), none, []⟩,
    ⟨(some 44), 44, (.idx 2 (.t 42) (.t 43)), none, [1, 2]⟩,
    ⟨(some 45), 45, (.fld 1 (.t 44)), none, [3]⟩,
    ⟨(some 46), 46, (.load false 1 (.t 45)), none, [4]⟩,
    ⟨(some 7), 7, (.mv (.t 46)), none, [5, 0, 1, 2, 3, 4, 5]⟩]) .skip)))
  (.reg [⟨(some 26), 26, (.mv (.t 8)), none, []⟩,
    ⟨(some 27), 27, (.bin false .add (.t 26) (.k (.c (.s (.pv (.int .i64 1)))))), none, [0]⟩,
    ⟨(some 8), 8, (.mv (.t 27)), none, [1, 0, 1]⟩]))))))
  (.reg [⟨(some 47), 47, (.fld 0 (.t 5)), none, []⟩,
    ⟨(some 48), 48, (.load false 1 (.t 47)), none, [0]⟩,
    ⟨(some 49), 49, (.mv (.t 7)), none, []⟩,
    ⟨(some 50), 50, (.bslice 9 1 [(.s (.pv (.string ⟨#[]⟩)))] 1 [(0, 1, (.t 49))]), none, [2]⟩,
    ⟨(some 51), 51, (.app 9 1 16 (.t 48) (.t 50)), none, [1, 3]⟩,
    ⟨(some 52), 52, (.fld 0 (.t 5)), none, [0, 1, 2, 3, 4]⟩,
    ⟨none, 60, (.store 1 (.t 52) (.t 51)), none, [5, 4, 4, 0, 1, 2, 3, 4]⟩]))))
  (.reg [⟨(some 14), 14, (.mv (.t 6)), none, []⟩,
    ⟨(some 15), 15, (.bin false .add (.t 14) (.k (.c (.s (.pv (.int .i64 1)))))), none, [0]⟩,
    ⟨(some 6), 6, (.mv (.t 15)), none, [1, 0, 1]⟩]))))))
  (.seq (.reg [⟨(some 53), 53, (.load true 2 (.t 5)), none, []⟩,
    ⟨none, 55, (.store 2 (.t 4) (.t 53)), none, [0, 0]⟩])
  .ret))))
theorem fn66 : FnIs Try.prog 66 ac66 [(.cell 4 true 2)] 54 := ⟨Try.f66, Try.func66, by kernel_rfl, by kernel_rfl, by kernel_rfl⟩
/- lockkeeper/lockkeeperref03.Small -/
def ac67 : ACode := (.seq (.reg [⟨(some 1), 1, (.box 62 2 (.t 0)), none, []⟩,
    ⟨(some 2), 2, (.mv (.k (.c (.s (.pv (.bool false)))))), none, []⟩])
  (.seq (.seq (.reg [⟨(some 5), 5, (.fld 0 (.t 1)), none, []⟩,
    ⟨(some 6), 6, (.load false 1 (.t 5)), none, [0]⟩,
    ⟨(some 7), 7, (.len (.t 6)), none, [1]⟩,
    ⟨(some 8), 8, (.bin false .gtr (.t 7) (.k (.c (.s (.pv (.int .i64 80)))))), none, [2]⟩,
    ⟨(some 9), 9, (.mv (.t 8)), none, [3]⟩,
    ⟨(some 10), 10, (.fld 1 (.t 1)), (some (9, false)), [4]⟩,
    ⟨(some 11), 11, (.load false 1 (.t 10)), (some (9, false)), [5, 4]⟩,
    ⟨(some 12), 12, (.len (.t 11)), (some (9, false)), [6, 4]⟩,
    ⟨(some 13), 13, (.bin false .gtr (.t 12) (.k (.c (.s (.pv (.int .i64 220)))))), (some (9, false)), [7, 4]⟩,
    ⟨(some 14), 14, (.pick (.t 9) (.k (.c (.s (.pv (.bool true))))) (.t 13)), none, [4, 8]⟩])
  (.cond (.t 14) (.seq (.reg [⟨(some 2), 2, (.mv (.k (.c (.s (.pv (.bool false)))))), none, []⟩])
  .ret) .skip))
  (.seq (.seq (.reg [⟨(some 3), 3, (.mv (.k (.c (.s (.pv (.int .i64 0)))))), none, []⟩])
  (.block 0 (.loop (.seq (.seq (.reg [⟨(some 15), 15, (.mv (.t 3)), none, []⟩,
    ⟨(some 16), 16, (.fld 0 (.t 1)), none, []⟩,
    ⟨(some 17), 17, (.load false 1 (.t 16)), none, [1]⟩,
    ⟨(some 18), 18, (.len (.t 17)), none, [2]⟩,
    ⟨(some 19), 19, (.bin false .lss (.t 15) (.t 18)), none, [0, 3]⟩])
  (.cond (.t 19) .skip (.exit 0)))
  (.seq (.block 1 (.seq (.reg [⟨(some 22), 22, (.fld 0 (.t 1)), none, []⟩,
    ⟨(some 23), 23, (.load false 1 (.t 22)), none, [0]⟩,
    ⟨(some 24), 24, (.mv (.t 3)), none, []⟩,
    ⟨(some 25), 25, (.idx 1 (.t 23) (.t 24)), none, [1, 2]⟩,
    ⟨(some 26), 26, (.load false 1 (.t 25)), none, [3]⟩,
    ⟨(some 27), 27, (.slen (.t 26)), none, [4]⟩,
    ⟨(some 28), 28, (.bin false .gtr (.t 27) (.k (.c (.s (.pv (.int .i64 40)))))), none, [5]⟩])
  (.cond (.t 28) (.seq (.reg [⟨(some 2), 2, (.mv (.k (.c (.s (.pv (.bool false)))))), none, []⟩])
  .ret) .skip)))
  (.reg [⟨(some 20), 20, (.mv (.t 3)), none, []⟩,
    ⟨(some 21), 21, (.bin false .add (.t 20) (.k (.c (.s (.pv (.int .i64 1)))))), none, [0]⟩,
    ⟨(some 3), 3, (.mv (.t 21)), none, [1, 0, 1]⟩]))))))
  (.seq (.seq (.reg [⟨(some 4), 4, (.mv (.k (.c (.s (.pv (.int .i64 0)))))), none, []⟩])
  (.block 2 (.loop (.seq (.seq (.reg [⟨(some 29), 29, (.mv (.t 4)), none, []⟩,
    ⟨(some 30), 30, (.fld 1 (.t 1)), none, []⟩,
    ⟨(some 31), 31, (.load false 1 (.t 30)), none, [1]⟩,
    ⟨(some 32), 32, (.len (.t 31)), none, [2]⟩,
    ⟨(some 33), 33, (.bin false .lss (.t 29) (.t 32)), none, [0, 3]⟩])
  (.cond (.t 33) .skip (.exit 2)))
  (.seq (.block 3 (.seq (.reg [⟨(some 36), 36, (.fld 1 (.t 1)), none, []⟩,
    ⟨(some 37), 37, (.load false 1 (.t 36)), none, [0]⟩,
    ⟨(some 38), 38, (.mv (.t 4)), none, []⟩,
    ⟨(some 39), 39, (.idx 2 (.t 37) (.t 38)), none, [1, 2]⟩,
    ⟨(some 40), 40, (.fld 1 (.t 39)), none, [3]⟩,
    ⟨(some 41), 41, (.load false 1 (.t 40)), none, [4]⟩,
    ⟨(some 42), 42, (.slen (.t 41)), none, [5]⟩,
    ⟨(some 43), 43, (.bin false .gtr (.t 42) (.k (.c (.s (.pv (.int .i64 40)))))), none, [6]⟩])
  (.cond (.t 43) (.seq (.reg [⟨(some 2), 2, (.mv (.k (.c (.s (.pv (.bool false)))))), none, []⟩])
  .ret) .skip)))
  (.reg [⟨(some 34), 34, (.mv (.t 4)), none, []⟩,
    ⟨(some 35), 35, (.bin false .add (.t 34) (.k (.c (.s (.pv (.int .i64 1)))))), none, [0]⟩,
    ⟨(some 4), 4, (.mv (.t 35)), none, [1, 0, 1]⟩]))))))
  (.seq (.reg [⟨(some 2), 2, (.mv (.k (.c (.s (.pv (.bool true)))))), none, []⟩])
  .ret)))))
theorem fn67 : FnIs Try.prog 67 ac67 [(.t 2)] 44 := ⟨Try.f67, Try.func67, by kernel_rfl, by kernel_rfl, by kernel_rfl⟩
/- lockkeeper/lockkeeperref04.Same -/
def ac68 : ACode := (.seq (.reg [⟨(some 2), 2, (.box 75 4 (.t 0)), none, []⟩,
    ⟨(some 3), 3, (.box 75 4 (.t 1)), none, []⟩,
    ⟨(some 4), 4, (.mv (.k (.c (.s (.pv (.bool false)))))), none, []⟩])
  (.seq (.seq (.reg [⟨(some 6), 6, (.fld 0 (.t 2)), none, []⟩,
    ⟨(some 7), 7, (.load true 2 (.t 6)), none, [0]⟩,
    ⟨(some 8), 8, (.fld 0 (.t 3)), none, []⟩,
    ⟨(some 9), 9, (.load true 2 (.t 8)), none, [2]⟩,
    ⟨(some 10), 10, (.call 38 [(.t 7), (.t 9)]), none, [1, 3]⟩,
    ⟨(some 11), 11, (.not (.t 10)), none, [4]⟩,
    ⟨(some 12), 12, (.mv (.t 11)), none, [5, 4]⟩,
    ⟨(some 13), 13, (.fld 2 (.t 2)), (some (12, false)), [6]⟩,
    ⟨(some 14), 14, (.load false 1 (.t 13)), (some (12, false)), [7, 6]⟩,
    ⟨(some 15), 15, (.fld 2 (.t 3)), (some (12, false)), [6]⟩,
    ⟨(some 16), 16, (.load false 1 (.t 15)), (some (12, false)), [9, 6]⟩,
    ⟨(some 17), 17, (.bin false .neq (.t 14) (.t 16)), (some (12, false)), [8, 10, 6]⟩,
    ⟨(some 18), 18, (.pick (.t 12) (.k (.c (.s (.pv (.bool true))))) (.t 17)), none, [6, 11]⟩,
    ⟨(some 19), 19, (.mv (.t 18)), none, [12, 6]⟩,
    ⟨(some 20), 20, (.fld 3 (.t 2)), (some (19, false)), [13]⟩,
    ⟨(some 21), 21, (.load false 1 (.t 20)), (some (19, false)), [14, 13]⟩,
    ⟨(some 22), 22, (.len (.t 21)), (some (19, false)), [15, 13]⟩,
    ⟨(some 23), 23, (.fld 3 (.t 3)), (some (19, false)), [13]⟩,
    ⟨(some 24), 24, (.load false 1 (.t 23)), (some (19, false)), [17, 13]⟩,
    ⟨(some 25), 25, (.len (.t 24)), (some (19, false)), [18, 13]⟩,
    ⟨(some 26), 26, (.bin false .neq (.t 22) (.t 25)), (some (19, false)), [16, 19, 13]⟩,
    ⟨(some 27), 27, (.pick (.t 19) (.k (.c (.s (.pv (.bool true))))) (.t 26)), none, [13, 20]⟩])
  (.cond (.t 27) (.seq (.reg [⟨(some 4), 4, (.mv (.k (.c (.s (.pv (.bool false)))))), none, []⟩])
  .ret) .skip))
  (.seq (.seq (.reg [⟨(some 5), 5, (.mv (.k (.c (.s (.pv (.int .i64 0)))))), none, []⟩])
  (.block 0 (.loop (.seq (.seq (.reg [⟨(some 28), 28, (.mv (.t 5)), none, []⟩,
    ⟨(some 29), 29, (.fld 3 (.t 2)), none, []⟩,
    ⟨(some 30), 30, (.load false 1 (.t 29)), none, [1]⟩,
    ⟨(some 31), 31, (.len (.t 30)), none, [2]⟩,
    ⟨(some 32), 32, (.bin false .lss (.t 28) (.t 31)), none, [0, 3]⟩])
  (.cond (.t 32) .skip (.exit 0)))
  (.seq (.block 1 (.seq (.draw [⟨(some 35), 35, (.fld 3 (.t 2)), none, []⟩,
    ⟨(some 36), 36, (.load false 1 (.t 35)), none, [0]⟩,
    ⟨(some 37), 37, (.mv (.t 5)), none, []⟩,
    ⟨(some 38), 38, (.idx 4 (.t 36) (.t 37)), none, [1, 2]⟩,
    ⟨(some 39), 39, (.load true 4 (.t 38)), none, [3]⟩,
    ⟨(some 40), 40, (.fld 3 (.t 3)), none, []⟩,
    ⟨(some 41), 41, (.load false 1 (.t 40)), none, [5]⟩,
    ⟨(some 42), 42, (.mv (.t 5)), none, []⟩,
    ⟨(some 43), 43, (.idx 4 (.t 41) (.t 42)), none, [6, 7]⟩,
    ⟨(some 44), 44, (.load true 4 (.t 43)), none, [8]⟩,
    ⟨(some 45), 45, (.eqs true 133 (.t 39) (.t 44)), none, [4, 9]⟩])
  (.cond (.t 45) (.seq (.reg [⟨(some 4), 4, (.mv (.k (.c (.s (.pv (.bool false)))))), none, []⟩])
  .ret) .skip)))
  (.reg [⟨(some 33), 33, (.mv (.t 5)), none, []⟩,
    ⟨(some 34), 34, (.bin false .add (.t 33) (.k (.c (.s (.pv (.int .i64 1)))))), none, [0]⟩,
    ⟨(some 5), 5, (.mv (.t 34)), none, [1, 0, 1]⟩]))))))
  (.seq (.reg [⟨(some 4), 4, (.mv (.k (.c (.s (.pv (.bool true)))))), none, []⟩])
  .ret))))
theorem fn68 : FnIs Try.prog 68 ac68 [(.t 4)] 46 := ⟨Try.f68, Try.func68, by kernel_rfl, by kernel_rfl, by kernel_rfl⟩
/- lockkeeper/disk.Right -/
def ac72 : ACode := (.seq (.reg [⟨(some 1), 1, (.box 62 2 (.t 0)), none, []⟩,
    ⟨(some 2), 2, (.mv (.k (.c (.s (.pv (.bool false)))))), none, []⟩])
  (.seq (.seq (.reg [⟨(some 7), 7, (.fld 0 (.t 1)), none, []⟩,
    ⟨(some 8), 8, (.load false 1 (.t 7)), none, [0]⟩,
    ⟨(some 9), 9, (.len (.t 8)), none, [1]⟩,
    ⟨(some 10), 10, (.bin false .lss (.t 9) (.k (.c (.s (.pv (.int .i64 1)))))), none, [2]⟩,
    ⟨(some 11), 11, (.mv (.t 10)), none, [3]⟩,
    ⟨(some 12), 12, (.fld 0 (.t 1)), (some (11, false)), [4]⟩,
    ⟨(some 13), 13, (.load false 1 (.t 12)), (some (11, false)), [5, 4]⟩,
    ⟨(some 14), 14, (.len (.t 13)), (some (11, false)), [6, 4]⟩,
    ⟨(some 15), 15, (.bin false .gtr (.t 14) (.k (.c (.s (.pv (.int .i64 64)))))), (some (11, false)), [7, 4]⟩,
    ⟨(some 16), 16, (.pick (.t 11) (.k (.c (.s (.pv (.bool true))))) (.t 15)), none, [4, 8]⟩,
    ⟨(some 17), 17, (.mv (.t 16)), none, [9, 4]⟩,
    ⟨(some 18), 18, (.fld 1 (.t 1)), (some (17, false)), [10]⟩,
    ⟨(some 19), 19, (.load false 1 (.t 18)), (some (17, false)), [11, 10]⟩,
    ⟨(some 20), 20, (.len (.t 19)), (some (17, false)), [12, 10]⟩,
    ⟨(some 21), 21, (.bin false .gtr (.t 20) (.k (.c (.s (.pv (.int .i64 200)))))), (some (17, false)), [13, 10]⟩,
    ⟨(some 22), 22, (.pick (.t 17) (.k (.c (.s (.pv (.bool true))))) (.t 21)), none, [10, 14]⟩])
  (.cond (.t 22) (.seq (.reg [⟨(some 2), 2, (.mv (.k (.c (.s (.pv (.bool false)))))), none, []⟩])
  .ret) .skip))
  (.seq (.seq (.reg [⟨(some 23), 23, (.fld 0 (.t 1)), none, []⟩,
    ⟨(some 24), 24, (.load false 1 (.t 23)), none, [0]⟩,
    ⟨(some 25), 25, (.len (.t 24)), none, [1]⟩,
    ⟨(some 26), 26, (.mv (.k (.c (.s (.pv (.int .i64 0)))))), none, []⟩])
  (.block 0 (.loop (.seq (.reg [⟨(some 27), 27, (.bin false .lss (.t 26) (.t 25)), none, []⟩])
  (.seq (.cond (.t 27) .skip (.exit 0))
  (.seq (.block 1 (.seq (.reg [⟨(some 28), 28, (.idx 1 (.t 24) (.t 26)), none, []⟩,
    ⟨(some 29), 29, (.load false 1 (.t 28)), none, [0]⟩,
    ⟨(some 4), 4, (.mv (.t 29)), none, [1, 0, 1]⟩])
  (.seq (.reg [⟨(some 30), 30, (.mv (.t 4)), none, []⟩,
    ⟨(some 31), 31, (.slen (.t 30)), none, [0]⟩,
    ⟨(some 32), 32, (.bin false .neq (.t 31) (.k (.c (.s (.pv (.int .i64 16)))))), none, [1]⟩])
  (.cond (.t 32) (.seq (.reg [⟨(some 2), 2, (.mv (.k (.c (.s (.pv (.bool false)))))), none, []⟩])
  .ret) .skip))))
  (.reg [⟨(some 33), 33, (.bin false .add (.t 26) (.k (.c (.s (.pv (.int .i64 1)))))), none, []⟩,
    ⟨(some 26), 26, (.mv (.t 33)), none, [0]⟩])))))))
  (.seq (.seq (.reg [⟨(some 34), 34, (.fld 1 (.t 1)), none, []⟩,
    ⟨(some 35), 35, (.load false 1 (.t 34)), none, [0]⟩,
    ⟨(some 36), 36, (.len (.t 35)), none, [1]⟩,
    ⟨(some 37), 37, (.mv (.k (.c (.s (.pv (.int .i64 0)))))), none, []⟩])
  (.block 2 (.loop (.seq (.reg [⟨(some 38), 38, (.bin false .lss (.t 37) (.t 36)), none, []⟩])
  (.seq (.cond (.t 38) .skip (.exit 2))
  (.seq (.block 3 (.seq (.reg [⟨(some 39), 39, (.idx 2 (.t 35) (.t 37)), none, []⟩,
    ⟨(some 40), 40, (.load true 2 (.t 39)), none, [0]⟩,
    ⟨(some 6), 6, (.mk 141 2 [[(.s (.pv (.int .i64 0))), (.s (.pv (.string ⟨#[]⟩)))]]), none, []⟩,
    ⟨none, 49, (.store 2 (.t 6) (.t 40)), none, [2, 1, 0, 1, 2]⟩])
  (.seq (.reg [⟨(some 41), 41, (.load true 2 (.t 1)), none, []⟩,
    ⟨(some 42), 42, (.load true 2 (.t 6)), none, []⟩,
    ⟨(some 43), 43, (.call 92 [(.t 41), (.t 42)]), none, [0, 1]⟩,
    ⟨(some 44), 44, (.not (.t 43)), none, [2]⟩])
  (.cond (.t 44) (.seq (.reg [⟨(some 2), 2, (.mv (.k (.c (.s (.pv (.bool false)))))), none, []⟩])
  .ret) .skip))))
  (.reg [⟨(some 45), 45, (.bin false .add (.t 37) (.k (.c (.s (.pv (.int .i64 1)))))), none, []⟩,
    ⟨(some 37), 37, (.mv (.t 45)), none, [0]⟩])))))))
  (.seq (.reg [⟨(some 2), 2, (.mv (.k (.c (.s (.pv (.bool true)))))), none, []⟩])
  .ret)))))
theorem fn72 : FnIs Try.prog 72 ac72 [(.t 2)] 46 := ⟨Try.f72, Try.func72, by kernel_rfl, by kernel_rfl, by kernel_rfl⟩
/- lockkeeper/disk.done -/
def ac73 : ACode := (.seq (.reg [⟨(some 2), 2, (.box 62 2 (.t 0)), none, []⟩,
    ⟨(some 4), 4, (.mk 62 2 [[.zc, .zc]]), none, []⟩])
  (.seq (.reg [⟨(some 8), 8, (.fld 0 (.t 2)), none, []⟩,
    ⟨(some 9), 9, (.load false 1 (.t 8)), none, [0]⟩,
    ⟨(some 10), 10, (.call 93 [(.t 9)]), none, [1]⟩,
    ⟨(some 5), 5, (.mv (.t 10)), none, [2, 2, 0, 1, 2]⟩])
  (.seq (.seq (.reg [⟨(some 11), 11, (.mv (.t 1)), none, []⟩,
    ⟨(some 12), 12, (.len (.t 11)), none, [0]⟩,
    ⟨(some 13), 13, (.mv (.k (.c (.s (.pv (.int .i64 0)))))), none, []⟩])
  (.block 0 (.loop (.seq (.reg [⟨(some 14), 14, (.bin false .lss (.t 13) (.t 12)), none, []⟩])
  (.seq (.cond (.t 14) .skip (.exit 0))
  (.seq (.block 1 (.seq (.reg [⟨(some 15), 15, (.idx 2 (.t 11) (.t 13)), none, []⟩,
    ⟨(some 16), 16, (.load true 2 (.t 15)), none, [0]⟩,
    ⟨(some 7), 7, (.mk 141 2 [[(.s (.pv (.int .i64 0))), (.s (.pv (.string ⟨#[]⟩)))]]), none, []⟩,
    ⟨none, 29, (.store 2 (.t 7) (.t 16)), none, [2, 1, 0, 1, 2]⟩])
  (.reg [⟨(some 17), 17, (.mv (.t 5)), none, []⟩,
    ⟨(some 18), 18, (.fld 0 (.t 7)), none, []⟩,
    ⟨(some 19), 19, (.load false 1 (.t 18)), none, [1]⟩,
    ⟨(some 20), 20, (.fld 1 (.t 7)), none, []⟩,
    ⟨(some 21), 21, (.load false 1 (.t 20)), none, [3]⟩,
    ⟨(some 22), 22, (.idx 1 (.t 17) (.t 19)), none, [0, 2, 0, 1, 2, 3, 4]⟩,
    ⟨none, 32, (.store 1 (.t 22) (.t 21)), none, [5, 4, 0, 1, 2, 3, 4]⟩])))
  (.reg [⟨(some 23), 23, (.bin false .add (.t 13) (.k (.c (.s (.pv (.int .i64 1)))))), none, []⟩,
    ⟨(some 13), 13, (.mv (.t 23)), none, [0]⟩])))))))
  (.seq (.reg [⟨(some 24), 24, (.mv (.t 5)), none, []⟩,
    ⟨(some 25), 25, (.build [.zc, .zc] [(0, 1, (.t 24))]), none, [0]⟩,
    ⟨none, 28, (.store 2 (.t 4) (.t 25)), none, [1, 0, 1]⟩])
  .ret))))
theorem fn73 : FnIs Try.prog 73 ac73 [(.cell 4 true 2)] 26 := ⟨Try.f73, Try.func73, by kernel_rfl, by kernel_rfl, by kernel_rfl⟩
/- slices.ContainsFunc[[]lockkeeper/lanes.Lane,lockkeeper/lanes.Lane] -/
def ac74 : ACode := (.seq (.reg [⟨(some 4), 4, (.mv (.k (.c (.s (.pv (.bool false)))))), none, []⟩])
  (.seq (.reg [⟨(some 5), 5, (.mv (.t 0)), none, []⟩,
    ⟨(some 6), 6, (.mv (.t 1)), none, []⟩,
    ⟨(some 7), 7, (.call 94 [(.t 5), (.t 6)]), none, [0, 1]⟩,
    ⟨(some 8), 8, (.bin false .geq (.t 7) (.k (.c (.s (.pv (.int .i64 0)))))), none, [2]⟩,
    ⟨(some 4), 4, (.mv (.t 8)), none, [3, 2, 0, 1, 2, 3]⟩])
  .ret))
theorem fn74 : FnIs Try.prog 74 ac74 [(.t 4)] 9 := ⟨Try.f74, Try.func74, by kernel_rfl, by kernel_rfl, by kernel_rfl⟩
/- lockkeeper/lanes.waits$1 -/
def ac75 : ACode := (.seq (.reg [⟨(some 1), 1, (.box 56 3 (.t 0)), none, []⟩,
    ⟨(some 2), 2, (.mv (.k (.c (.s (.pv (.bool false)))))), none, []⟩])
  (.seq (.reg [⟨(some 3), 3, (.fld 2 (.t 1)), none, []⟩,
    ⟨(some 4), 4, (.load false 1 (.t 3)), none, [0]⟩,
    ⟨(some 5), 5, (.len (.t 4)), none, [1]⟩,
    ⟨(some 6), 6, (.bin false .gtr (.t 5) (.k (.c (.s (.pv (.int .i64 0)))))), none, [2]⟩,
    ⟨(some 2), 2, (.mv (.t 6)), none, [3, 0, 1, 2, 3]⟩])
  .ret))
theorem fn75 : FnIs Try.prog 75 ac75 [(.t 2)] 7 := ⟨Try.f75, Try.func75, by kernel_rfl, by kernel_rfl, by kernel_rfl⟩
/- lockkeeper/device.is -/
def ac76 : ACode := (.seq (.reg [⟨(some 6), 6, (.mv (.k (.c (.s (.pv (.bool false)))))), none, []⟩])
  (.seq (.reg [⟨(some 8), 8, (.mv (.t 1)), none, []⟩,
    ⟨(some 9), 9, (.bin false .geq (.t 8) (.k (.c (.s (.pv (.int .i64 1)))))), none, [0]⟩,
    ⟨(some 10), 10, (.mv (.t 9)), none, [1]⟩,
    ⟨(some 11), 11, (.mv (.t 1)), (some (10, true)), [2]⟩,
    ⟨(some 12), 12, (.bin false .leq (.t 11) (.k (.c (.s (.pv (.int .i64 16)))))), (some (10, true)), [3, 2]⟩,
    ⟨(some 13), 13, (.pick (.t 10) (.t 12) (.k (.c (.s (.pv (.bool false)))))), none, [2, 4]⟩,
    ⟨(some 7), 7, (.mv (.t 13)), none, [5, 2, 0, 1, 2, 3, 4, 5]⟩])
  (.seq (.seq (.reg [⟨(some 14), 14, (.mv (.t 0)), none, []⟩])
  (.block 0 (.seq (.reg [⟨(some 16), 16, (.bin false .eql (.t 14) (.k (.c (.s (.pv (.int .i64 1)))))), none, []⟩,
    ⟨(some 15), 15, (.mv (.t 16)), none, [0]⟩])
  (.cond (.t 15) (.seq (.reg [⟨(some 17), 17, (.mv (.t 7)), none, []⟩,
    ⟨(some 18), 18, (.mv (.t 17)), none, [0]⟩,
    ⟨(some 19), 19, (.mv (.t 2)), (some (18, true)), [1]⟩,
    ⟨(some 20), 20, (.bin false .eql (.t 19) (.k (.c (.s (.pv (.string ⟨#[]⟩)))))), (some (18, true)), [2, 1]⟩,
    ⟨(some 21), 21, (.pick (.t 18) (.t 20) (.k (.c (.s (.pv (.bool false)))))), none, [1, 3]⟩,
    ⟨(some 6), 6, (.mv (.t 21)), none, [4, 1, 0, 1, 2, 3, 4]⟩])
  .ret) (.seq (.reg [⟨(some 23), 23, (.bin false .eql (.t 14) (.k (.c (.s (.pv (.int .i64 2)))))), none, []⟩,
    ⟨(some 22), 22, (.mv (.t 23)), none, [0]⟩])
  (.cond (.t 22) (.seq (.reg [⟨(some 24), 24, (.mv (.t 7)), none, []⟩,
    ⟨(some 25), 25, (.mv (.t 24)), none, [0]⟩,
    ⟨(some 26), 26, (.mv (.t 2)), (some (25, true)), [1]⟩,
    ⟨(some 27), 27, (.slen (.t 26)), (some (25, true)), [2, 1]⟩,
    ⟨(some 28), 28, (.bin false .eql (.t 27) (.k (.c (.s (.pv (.int .i64 32)))))), (some (25, true)), [3, 1]⟩,
    ⟨(some 29), 29, (.pick (.t 25) (.t 28) (.k (.c (.s (.pv (.bool false)))))), none, [1, 4]⟩,
    ⟨(some 6), 6, (.mv (.t 29)), none, [5, 1, 0, 1, 2, 3, 4, 5]⟩])
  .ret) (.seq (.reg [⟨(some 31), 31, (.bin false .eql (.t 14) (.k (.c (.s (.pv (.int .i64 3)))))), none, []⟩,
    ⟨(some 30), 30, (.mv (.t 31)), none, [0]⟩])
  (.cond (.t 30) (.seq (.reg [⟨(some 32), 32, (.mv (.t 1)), none, []⟩,
    ⟨(some 33), 33, (.bin false .eql (.t 32) (.k (.c (.s (.pv (.int .i64 0)))))), none, [0]⟩,
    ⟨(some 34), 34, (.mv (.t 33)), none, [1]⟩,
    ⟨(some 35), 35, (.mv (.t 2)), (some (34, true)), [2]⟩,
    ⟨(some 36), 36, (.bin false .eql (.t 35) (.k (.c (.s (.pv (.string ⟨#[]⟩)))))), (some (34, true)), [3, 2]⟩,
    ⟨(some 37), 37, (.pick (.t 34) (.t 36) (.k (.c (.s (.pv (.bool false)))))), none, [2, 4]⟩,
    ⟨(some 6), 6, (.mv (.t 37)), none, [5, 2, 0, 1, 2, 3, 4, 5]⟩])
  .ret) .skip))))))))
  (.seq (.reg [⟨(some 6), 6, (.mv (.k (.c (.s (.pv (.bool false)))))), none, []⟩])
  .ret))))
theorem fn76 : FnIs Try.prog 76 ac76 [(.t 6)] 38 := ⟨Try.f76, Try.func76, by kernel_rfl, by kernel_rfl, by kernel_rfl⟩
/- lockkeeper/device.Submit -/
def ac79 : ACode := (.seq (.reg [⟨(some 4), 4, (.box 65 4 (.t 0)), none, []⟩,
    ⟨(some 8), 8, (.mk 65 4 [[.zc, .zc, (.s (.pv (.int .i64 0))), .zc]]), none, []⟩,
    ⟨(some 9), 9, (.mv (.k (.c (.s (.pv (.int .i64 0)))))), none, []⟩,
    ⟨(some 10), 10, (.mv (.k (.c (.s (.pv (.int .i64 0)))))), none, [2]⟩])
  (.seq (.seq (.reg [⟨(some 12), 12, (.load true 4 (.t 4)), none, []⟩,
    ⟨(some 13), 13, (.call 46 [(.t 12)]), none, [0]⟩,
    ⟨(some 14), 14, (.not (.t 13)), none, [1]⟩,
    ⟨(some 15), 15, (.mv (.t 14)), none, [2, 1]⟩,
    ⟨(some 16), 16, (.fld 2 (.t 4)), (some (15, false)), [3]⟩,
    ⟨(some 17), 17, (.load false 1 (.t 16)), (some (15, false)), [4, 3]⟩,
    ⟨(some 18), 18, (.bin false .eql (.t 17) (.k (.c (.s (.pv (.int .i64 2147483647)))))), (some (15, false)), [5, 3]⟩,
    ⟨(some 19), 19, (.pick (.t 15) (.k (.c (.s (.pv (.bool true))))) (.t 18)), none, [3, 6]⟩,
    ⟨(some 20), 20, (.mv (.t 19)), none, [7, 3]⟩,
    ⟨(some 21), 21, (.mv (.t 1)), (some (20, false)), [8]⟩,
    ⟨(some 22), 22, (.mv (.t 2)), (some (20, false)), [8]⟩,
    ⟨(some 23), 23, (.mv (.t 3)), (some (20, false)), [8]⟩,
    ⟨(some 24), 24, (.call 76 [(.t 21), (.t 22), (.t 23)]), (some (20, false)), [9, 10, 11, 8, 8]⟩,
    ⟨(some 25), 25, (.not (.t 24)), (some (20, false)), [12, 8]⟩,
    ⟨(some 26), 26, (.pick (.t 20) (.k (.c (.s (.pv (.bool true))))) (.t 25)), none, [8, 13]⟩])
  (.cond (.t 26) (.seq (.reg [⟨(some 27), 27, (.load true 4 (.t 4)), none, []⟩,
    ⟨none, 54, (.store 4 (.t 8) (.t 27)), none, [0, 0]⟩,
    ⟨(some 9), 9, (.mv (.k (.c (.s (.pv (.int .i64 0)))))), none, [1, 0, 1]⟩,
    ⟨(some 10), 10, (.mv (.k (.c (.s (.pv (.int .i64 1)))))), none, [2, 0, 1, 2]⟩])
  .ret) .skip))
  (.seq (.seq (.reg [⟨(some 28), 28, (.fld 3 (.t 4)), none, []⟩,
    ⟨(some 29), 29, (.load false 1 (.t 28)), none, [0]⟩,
    ⟨(some 30), 30, (.len (.t 29)), none, [1]⟩,
    ⟨(some 31), 31, (.bin false .eql (.t 30) (.k (.c (.s (.pv (.int .i64 4)))))), none, [2]⟩])
  (.cond (.t 31) (.seq (.reg [⟨(some 32), 32, (.load true 4 (.t 4)), none, []⟩,
    ⟨none, 54, (.store 4 (.t 8) (.t 32)), none, [0, 0]⟩,
    ⟨(some 9), 9, (.mv (.k (.c (.s (.pv (.int .i64 0)))))), none, [1, 0, 1]⟩,
    ⟨(some 10), 10, (.mv (.k (.c (.s (.pv (.int .i64 6)))))), none, [2, 0, 1, 2]⟩])
  .ret) .skip))
  (.seq (.reg [⟨(some 33), 33, (.fld 2 (.t 4)), none, []⟩,
    ⟨(some 34), 34, (.load false 1 (.t 33)), none, [0]⟩,
    ⟨(some 35), 35, (.mv (.t 1)), none, []⟩,
    ⟨(some 36), 36, (.mv (.t 2)), none, []⟩,
    ⟨(some 37), 37, (.mv (.t 3)), none, []⟩,
    ⟨(some 38), 38, (.build [(.s (.pv (.int .i64 0))), (.s (.pv (.int .i64 0))), (.s (.pv (.int .i64 0))), (.s (.pv (.string ⟨#[]⟩)))] [(0, 1, (.t 34)), (1, 1, (.t 35)), (2, 1, (.t 36)), (3, 1, (.t 37))]), none, [1, 2, 3, 4]⟩,
    ⟨(some 11), 11, (.mk 129 4 [[(.s (.pv (.int .i64 0))), (.s (.pv (.int .i64 0))), (.s (.pv (.int .i64 0))), (.s (.pv (.string ⟨#[]⟩)))]]), none, []⟩,
    ⟨none, 60, (.store 4 (.t 11) (.t 38)), none, [6, 5, 0, 1, 2, 3, 4, 5, 6]⟩])
  (.seq (.draw [⟨(some 39), 39, (.fld 0 (.t 4)), none, []⟩,
    ⟨(some 40), 40, (.load true 2 (.t 39)), none, [0]⟩,
    ⟨(some 41), 41, (.fld 2 (.t 4)), none, []⟩,
    ⟨(some 42), 42, (.load false 1 (.t 41)), none, [2]⟩,
    ⟨(some 43), 43, (.bin false .add (.t 42) (.k (.c (.s (.pv (.int .i64 1)))))), none, [3]⟩,
    ⟨(some 44), 44, (.fld 3 (.t 4)), none, []⟩,
    ⟨(some 45), 45, (.load false 1 (.t 44)), none, [5]⟩,
    ⟨(some 46), 46, (.call 85 [(.t 45)]), none, [6]⟩,
    ⟨(some 47), 47, (.load true 4 (.t 11)), none, []⟩,
    ⟨(some 48), 48, (.bslice 129 4 [(.s (.pv (.int .i64 0))), (.s (.pv (.int .i64 0))), (.s (.pv (.int .i64 0))), (.s (.pv (.string ⟨#[]⟩)))] 1 [(0, 4, (.t 47))]), none, [8]⟩,
    ⟨(some 49), 49, (.app 129 4 40 (.t 46) (.t 48)), none, [7, 9, 7]⟩,
    ⟨(some 50), 50, (.build [.zc, .zc, (.s (.pv (.int .i64 0))), .zc] [(0, 2, (.t 40)), (2, 1, (.t 43)), (3, 1, (.t 49))]), none, [1, 4, 10]⟩,
    ⟨(some 51), 51, (.fld 0 (.t 11)), none, []⟩,
    ⟨(some 52), 52, (.load false 1 (.t 51)), none, [12]⟩,
    ⟨none, 67, (.store 4 (.t 8) (.t 50)), none, [11, 10, 0, 1, 2, 3, 4, 5, 6, 7, 8, 9, 10, 11]⟩,
    ⟨(some 9), 9, (.mv (.t 52)), none, [13, 14, 0, 1, 2, 3, 4, 5, 6, 7, 8, 9, 10, 11, 12, 13, 14]⟩,
    ⟨(some 10), 10, (.mv (.k (.c (.s (.pv (.int .i64 0)))))), none, [15, 0, 1, 2, 3, 4, 5, 6, 7, 8, 9, 10, 11, 12, 13, 14, 15]⟩])
  .ret)))))
theorem fn79 : FnIs Try.prog 79 ac79 [(.cell 8 true 4), (.t 9), (.t 10)] 53 := ⟨Try.f79, Try.func79, by kernel_rfl, by kernel_rfl, by kernel_rfl⟩
/- lockkeeper/lockkeeperref04.Right -/
def ac80 : ACode := (.seq (.reg [⟨(some 1), 1, (.box 75 4 (.t 0)), none, []⟩,
    ⟨(some 2), 2, (.mv (.k (.c (.s (.pv (.bool false)))))), none, []⟩])
  (.seq (.seq (.reg [⟨(some 5), 5, (.fld 0 (.t 1)), none, []⟩,
    ⟨(some 6), 6, (.load true 2 (.t 5)), none, [0]⟩,
    ⟨(some 7), 7, (.call 101 [(.t 6)]), none, [1]⟩,
    ⟨(some 8), 8, (.not (.t 7)), none, [2]⟩,
    ⟨(some 9), 9, (.mv (.t 8)), none, [3, 2]⟩,
    ⟨(some 10), 10, (.fld 0 (.t 1)), (some (9, false)), [4]⟩,
    ⟨(some 11), 11, (.fld 0 (.t 10)), (some (9, false)), [5, 4]⟩,
    ⟨(some 12), 12, (.load false 1 (.t 11)), (some (9, false)), [6, 4]⟩,
    ⟨(some 13), 13, (.len (.t 12)), (some (9, false)), [7, 4]⟩,
    ⟨(some 14), 14, (.bin false .lss (.t 13) (.k (.c (.s (.pv (.int .i64 35)))))), (some (9, false)), [8, 4]⟩,
    ⟨(some 15), 15, (.pick (.t 9) (.k (.c (.s (.pv (.bool true))))) (.t 14)), none, [4, 9]⟩,
    ⟨(some 16), 16, (.mv (.t 15)), none, [10, 4]⟩,
    ⟨(some 17), 17, (.fld 2 (.t 1)), (some (16, false)), [11]⟩,
    ⟨(some 18), 18, (.load false 1 (.t 17)), (some (16, false)), [12, 11]⟩,
    ⟨(some 19), 19, (.bin false .lss (.t 18) (.k (.c (.s (.pv (.int .i64 0)))))), (some (16, false)), [13, 11]⟩,
    ⟨(some 20), 20, (.pick (.t 16) (.k (.c (.s (.pv (.bool true))))) (.t 19)), none, [11, 14]⟩,
    ⟨(some 21), 21, (.mv (.t 20)), none, [15, 11]⟩,
    ⟨(some 22), 22, (.fld 2 (.t 1)), (some (21, false)), [16]⟩,
    ⟨(some 23), 23, (.load false 1 (.t 22)), (some (21, false)), [17, 16]⟩,
    ⟨(some 24), 24, (.bin false .gtr (.t 23) (.k (.c (.s (.pv (.int .i64 2147483647)))))), (some (21, false)), [18, 16]⟩,
    ⟨(some 25), 25, (.pick (.t 21) (.k (.c (.s (.pv (.bool true))))) (.t 24)), none, [16, 19]⟩,
    ⟨(some 26), 26, (.mv (.t 25)), none, [20, 16]⟩,
    ⟨(some 27), 27, (.fld 3 (.t 1)), (some (26, false)), [21]⟩,
    ⟨(some 28), 28, (.load false 1 (.t 27)), (some (26, false)), [22, 21]⟩,
    ⟨(some 29), 29, (.len (.t 28)), (some (26, false)), [23, 21]⟩,
    ⟨(some 30), 30, (.bin false .gtr (.t 29) (.k (.c (.s (.pv (.int .i64 4)))))), (some (26, false)), [24, 21]⟩,
    ⟨(some 31), 31, (.pick (.t 26) (.k (.c (.s (.pv (.bool true))))) (.t 30)), none, [21, 25]⟩])
  (.cond (.t 31) (.seq (.reg [⟨(some 2), 2, (.mv (.k (.c (.s (.pv (.bool false)))))), none, []⟩])
  .ret) .skip))
  (.seq (.seq (.reg [⟨(some 3), 3, (.mv (.k (.c (.s (.pv (.int .i64 0)))))), none, []⟩])
  (.block 0 (.loop (.seq (.seq (.reg [⟨(some 32), 32, (.mv (.t 3)), none, []⟩,
    ⟨(some 33), 33, (.fld 3 (.t 1)), none, []⟩,
    ⟨(some 34), 34, (.load false 1 (.t 33)), none, [1]⟩,
    ⟨(some 35), 35, (.len (.t 34)), none, [2]⟩,
    ⟨(some 36), 36, (.bin false .lss (.t 32) (.t 35)), none, [0, 3]⟩])
  (.cond (.t 36) .skip (.exit 0)))
  (.seq (.block 1 (.seq (.reg [⟨(some 39), 39, (.fld 3 (.t 1)), none, []⟩,
    ⟨(some 40), 40, (.load false 1 (.t 39)), none, [0]⟩,
    ⟨(some 41), 41, (.mv (.t 3)), none, []⟩,
    ⟨(some 42), 42, (.idx 4 (.t 40) (.t 41)), none, [1, 2]⟩,
    ⟨(some 43), 43, (.load true 4 (.t 42)), none, [3]⟩,
    ⟨(some 4), 4, (.mk 133 4 [[(.s (.pv (.int .i64 0))), (.s (.pv (.int .i64 0))), (.s (.pv (.int .i64 0))), (.s (.pv (.string ⟨#[]⟩)))]]), none, []⟩,
    ⟨none, 86, (.store 4 (.t 4) (.t 43)), none, [5, 4, 0, 1, 2, 3, 4, 5]⟩])
  (.seq (.draw [⟨(some 44), 44, (.fld 0 (.t 4)), none, []⟩,
    ⟨(some 45), 45, (.load false 1 (.t 44)), none, [0]⟩,
    ⟨(some 46), 46, (.bin false .lss (.t 45) (.k (.c (.s (.pv (.int .i64 0)))))), none, [1]⟩,
    ⟨(some 47), 47, (.mv (.t 46)), none, [2]⟩,
    ⟨(some 48), 48, (.fld 0 (.t 4)), (some (47, false)), [3]⟩,
    ⟨(some 49), 49, (.load false 1 (.t 48)), (some (47, false)), [4, 3]⟩,
    ⟨(some 50), 50, (.fld 2 (.t 1)), (some (47, false)), [3]⟩,
    ⟨(some 51), 51, (.load false 1 (.t 50)), (some (47, false)), [6, 3]⟩,
    ⟨(some 52), 52, (.bin false .geq (.t 49) (.t 51)), (some (47, false)), [5, 7, 3]⟩,
    ⟨(some 53), 53, (.pick (.t 47) (.k (.c (.s (.pv (.bool true))))) (.t 52)), none, [3, 8]⟩,
    ⟨(some 54), 54, (.mv (.t 53)), none, [9, 3]⟩,
    ⟨(some 55), 55, (.mv (.t 3)), (some (54, false)), [10]⟩,
    ⟨(some 56), 56, (.bin false .gtr (.t 55) (.k (.c (.s (.pv (.int .i64 0)))))), (some (54, false)), [11, 10]⟩,
    ⟨(some 57), 57, (.mv (.t 56)), (some (54, false)), [12, 10, 10]⟩,
    ⟨(some 58), 58, (.fld 0 (.t 4)), (some (57, true)), [13]⟩,
    ⟨(some 59), 59, (.load false 1 (.t 58)), (some (57, true)), [14, 13]⟩,
    ⟨(some 60), 60, (.fld 3 (.t 1)), (some (57, true)), [13]⟩,
    ⟨(some 61), 61, (.load false 1 (.t 60)), (some (57, true)), [16, 13]⟩,
    ⟨(some 62), 62, (.mv (.t 3)), (some (57, true)), [13]⟩,
    ⟨(some 63), 63, (.bin false .sub (.t 62) (.k (.c (.s (.pv (.int .i64 1)))))), (some (57, true)), [18, 13]⟩,
    ⟨(some 64), 64, (.idx 4 (.t 61) (.t 63)), (some (57, true)), [17, 19, 13]⟩,
    ⟨(some 65), 65, (.fld 0 (.t 64)), (some (57, true)), [20, 13]⟩,
    ⟨(some 66), 66, (.load false 1 (.t 65)), (some (57, true)), [21, 13]⟩,
    ⟨(some 67), 67, (.bin false .leq (.t 59) (.t 66)), (some (57, true)), [15, 22, 13]⟩,
    ⟨(some 68), 68, (.pick (.t 57) (.t 67) (.k (.c (.s (.pv (.bool false)))))), (some (54, false)), [13, 23, 10]⟩,
    ⟨(some 69), 69, (.pick (.t 54) (.k (.c (.s (.pv (.bool true))))) (.t 68)), none, [10, 24]⟩,
    ⟨(some 70), 70, (.mv (.t 69)), none, [25, 13]⟩,
    ⟨(some 71), 71, (.fld 1 (.t 4)), (some (70, false)), [26]⟩,
    ⟨(some 72), 72, (.load false 1 (.t 71)), (some (70, false)), [27, 26]⟩,
    ⟨(some 73), 73, (.fld 2 (.t 4)), (some (70, false)), [26]⟩,
    ⟨(some 74), 74, (.load false 1 (.t 73)), (some (70, false)), [29, 26]⟩,
    ⟨(some 75), 75, (.fld 3 (.t 4)), (some (70, false)), [26]⟩,
    ⟨(some 76), 76, (.load false 1 (.t 75)), (some (70, false)), [31, 26]⟩,
    ⟨(some 77), 77, (.call 54 [(.t 72), (.t 74), (.t 76)]), (some (70, false)), [28, 30, 32, 26, 26]⟩,
    ⟨(some 78), 78, (.not (.t 77)), (some (70, false)), [33, 26]⟩,
    ⟨(some 79), 79, (.pick (.t 70) (.k (.c (.s (.pv (.bool true))))) (.t 78)), none, [26, 34]⟩])
  (.cond (.t 79) (.seq (.reg [⟨(some 2), 2, (.mv (.k (.c (.s (.pv (.bool false)))))), none, []⟩])
  .ret) .skip))))
  (.reg [⟨(some 37), 37, (.mv (.t 3)), none, []⟩,
    ⟨(some 38), 38, (.bin false .add (.t 37) (.k (.c (.s (.pv (.int .i64 1)))))), none, [0]⟩,
    ⟨(some 3), 3, (.mv (.t 38)), none, [1, 0, 1]⟩]))))))
  (.seq (.reg [⟨(some 2), 2, (.mv (.k (.c (.s (.pv (.bool true)))))), none, []⟩])
  .ret))))
theorem fn80 : FnIs Try.prog 80 ac80 [(.t 2)] 80 := ⟨Try.f80, Try.func80, by kernel_rfl, by kernel_rfl, by kernel_rfl⟩
/- lockkeeper/lockkeeperref05.over -/
def ac81 : ACode := (.seq (.reg [⟨(some 1), 1, (.box 28 3 (.t 0)), none, []⟩,
    ⟨(some 2), 2, (.mk 28 3 [[.zc, (.s (.pv (.int .i64 0))), (.s (.pv (.bool false)))]]), none, []⟩])
  (.seq (.reg [⟨(some 3), 3, (.fld 2 (.t 1)), none, []⟩,
    ⟨none, 17, (.store 1 (.t 3) (.k (.c (.s (.pv (.bool false)))))), none, [0]⟩])
  (.seq (.reg [⟨(some 4), 4, (.fld 1 (.t 1)), none, []⟩,
    ⟨(some 5), 5, (.load false 1 (.t 4)), none, [0]⟩,
    ⟨(some 6), 6, (.bin false .add (.t 5) (.k (.c (.s (.pv (.int .i64 1)))))), none, [1]⟩,
    ⟨(some 7), 7, (.fld 1 (.t 1)), none, [0, 1, 2]⟩,
    ⟨none, 20, (.store 1 (.t 7) (.t 6)), none, [3, 2, 0, 1, 2]⟩])
  (.seq (.seq (.reg [⟨(some 8), 8, (.fld 1 (.t 1)), none, []⟩,
    ⟨(some 9), 9, (.load false 1 (.t 8)), none, [0]⟩,
    ⟨(some 10), 10, (.fld 0 (.t 1)), none, []⟩,
    ⟨(some 11), 11, (.load false 1 (.t 10)), none, [2]⟩,
    ⟨(some 12), 12, (.len (.t 11)), none, [3]⟩,
    ⟨(some 13), 13, (.bin false .eql (.t 9) (.t 12)), none, [1, 4]⟩])
  (.cond (.t 13) (.reg [⟨(some 14), 14, (.fld 1 (.t 1)), none, []⟩,
    ⟨none, 17, (.store 1 (.t 14) (.k (.c (.s (.pv (.int .i64 0)))))), none, [0]⟩]) .skip))
  (.seq (.reg [⟨(some 15), 15, (.load true 3 (.t 1)), none, []⟩,
    ⟨none, 17, (.store 3 (.t 2) (.t 15)), none, [0, 0]⟩])
  .ret)))))
theorem fn81 : FnIs Try.prog 81 ac81 [(.cell 2 true 3)] 16 := ⟨Try.f81, Try.func81, by kernel_rfl, by kernel_rfl, by kernel_rfl⟩
/- lockkeeper/lockkeeperref05.with -/
def ac82 : ACode := (.seq (.reg [⟨(some 3), 3, (.box 28 3 (.t 0)), none, []⟩,
    ⟨(some 5), 5, (.box 36 3 (.t 2)), none, []⟩,
    ⟨(some 6), 6, (.mk 28 3 [[.zc, (.s (.pv (.int .i64 0))), (.s (.pv (.bool false)))]]), none, []⟩])
  (.seq (.reg [⟨(some 9), 9, (.fld 1 (.t 3)), none, []⟩,
    ⟨(some 10), 10, (.load false 1 (.t 9)), none, [0]⟩,
    ⟨(some 11), 11, (.fld 2 (.t 3)), none, []⟩,
    ⟨(some 12), 12, (.load false 1 (.t 11)), none, [2]⟩,
    ⟨(some 13), 13, (.build [.zc, (.s (.pv (.int .i64 0))), (.s (.pv (.bool false)))] [(1, 1, (.t 10)), (2, 1, (.t 12))]), none, [1, 3]⟩,
    ⟨(some 7), 7, (.mk 28 3 [[.zc, (.s (.pv (.int .i64 0))), (.s (.pv (.bool false)))]]), none, []⟩,
    ⟨none, 47, (.store 3 (.t 7) (.t 13)), none, [5, 4, 0, 1, 2, 3, 4, 5]⟩])
  (.seq (.seq (.reg [⟨(some 8), 8, (.mv (.k (.c (.s (.pv (.int .i64 0)))))), none, []⟩])
  (.block 0 (.loop (.seq (.seq (.reg [⟨(some 14), 14, (.mv (.t 8)), none, []⟩,
    ⟨(some 15), 15, (.fld 0 (.t 3)), none, []⟩,
    ⟨(some 16), 16, (.load false 1 (.t 15)), none, [1]⟩,
    ⟨(some 17), 17, (.len (.t 16)), none, [2]⟩,
    ⟨(some 18), 18, (.bin false .lss (.t 14) (.t 17)), none, [0, 3]⟩])
  (.cond (.t 18) .skip (.exit 0)))
  (.seq (.block 1 (.seq (.reg [⟨(some 21), 21, (.mv (.t 8)), none, []⟩,
    ⟨(some 22), 22, (.mv (.t 1)), none, []⟩,
    ⟨(some 23), 23, (.bin false .eql (.t 21) (.t 22)), none, [0, 1]⟩])
  (.cond (.t 23) (.reg [⟨(some 24), 24, (.fld 0 (.t 7)), none, []⟩,
    ⟨(some 25), 25, (.load false 1 (.t 24)), none, [0]⟩,
    ⟨(some 26), 26, (.load true 3 (.t 5)), none, []⟩,
    ⟨(some 27), 27, (.bslice 36 3 [(.s (.pv (.int .i64 0))), (.s (.pv (.int .i64 0))), .zc] 1 [(0, 3, (.t 26))]), none, [2]⟩,
    ⟨(some 28), 28, (.app 36 3 40 (.t 25) (.t 27)), none, [1, 3]⟩,
    ⟨(some 29), 29, (.fld 0 (.t 7)), none, [0, 1, 2, 3, 4]⟩,
    ⟨none, 47, (.store 1 (.t 29) (.t 28)), none, [5, 4, 4, 0, 1, 2, 3, 4]⟩]) (.draw [⟨(some 30), 30, (.fld 0 (.t 7)), none, []⟩,
    ⟨(some 31), 31, (.load false 1 (.t 30)), none, [0]⟩,
    ⟨(some 32), 32, (.fld 0 (.t 3)), none, []⟩,
    ⟨(some 33), 33, (.load false 1 (.t 32)), none, [2]⟩,
    ⟨(some 34), 34, (.mv (.t 8)), none, []⟩,
    ⟨(some 35), 35, (.idx 3 (.t 33) (.t 34)), none, [3, 4]⟩,
    ⟨(some 36), 36, (.load true 3 (.t 35)), none, [5]⟩,
    ⟨(some 37), 37, (.bslice 36 3 [(.s (.pv (.int .i64 0))), (.s (.pv (.int .i64 0))), .zc] 1 [(0, 3, (.t 36))]), none, [6]⟩,
    ⟨(some 38), 38, (.app 36 3 40 (.t 31) (.t 37)), none, [1, 7]⟩,
    ⟨(some 39), 39, (.fld 0 (.t 7)), none, [0, 1, 2, 3, 4, 5, 6, 7, 8]⟩,
    ⟨none, 51, (.store 1 (.t 39) (.t 38)), none, [9, 8, 8, 0, 1, 2, 3, 4, 5, 6, 7, 8]⟩]))))
  (.reg [⟨(some 19), 19, (.mv (.t 8)), none, []⟩,
    ⟨(some 20), 20, (.bin false .add (.t 19) (.k (.c (.s (.pv (.int .i64 1)))))), none, [0]⟩,
    ⟨(some 8), 8, (.mv (.t 20)), none, [1, 0, 1]⟩]))))))
  (.seq (.reg [⟨(some 40), 40, (.load true 3 (.t 7)), none, []⟩,
    ⟨none, 42, (.store 3 (.t 6) (.t 40)), none, [0, 0]⟩])
  .ret))))
theorem fn82 : FnIs Try.prog 82 ac82 [(.cell 6 true 3)] 41 := ⟨Try.f82, Try.func82, by kernel_rfl, by kernel_rfl, by kernel_rfl⟩
/- lockkeeper/lockkeeperref04.Submit -/
def ac83 : ACode := (.seq (.reg [⟨(some 4), 4, (.box 75 4 (.t 0)), none, []⟩,
    ⟨(some 8), 8, (.mk 75 4 [[.zc, .zc, (.s (.pv (.int .i64 0))), .zc]]), none, []⟩,
    ⟨(some 9), 9, (.mv (.k (.c (.s (.pv (.int .i64 0)))))), none, []⟩,
    ⟨(some 10), 10, (.mv (.k (.c (.s (.pv (.int .i64 0)))))), none, [2]⟩])
  (.seq (.seq (.reg [⟨(some 12), 12, (.load true 4 (.t 4)), none, []⟩,
    ⟨(some 13), 13, (.call 80 [(.t 12)]), none, [0]⟩,
    ⟨(some 14), 14, (.not (.t 13)), none, [1]⟩,
    ⟨(some 15), 15, (.mv (.t 14)), none, [2, 1]⟩,
    ⟨(some 16), 16, (.fld 2 (.t 4)), (some (15, false)), [3]⟩,
    ⟨(some 17), 17, (.load false 1 (.t 16)), (some (15, false)), [4, 3]⟩,
    ⟨(some 18), 18, (.bin false .eql (.t 17) (.k (.c (.s (.pv (.int .i64 2147483647)))))), (some (15, false)), [5, 3]⟩,
    ⟨(some 19), 19, (.pick (.t 15) (.k (.c (.s (.pv (.bool true))))) (.t 18)), none, [3, 6]⟩,
    ⟨(some 20), 20, (.mv (.t 19)), none, [7, 3]⟩,
    ⟨(some 21), 21, (.mv (.t 1)), (some (20, false)), [8]⟩,
    ⟨(some 22), 22, (.mv (.t 2)), (some (20, false)), [8]⟩,
    ⟨(some 23), 23, (.mv (.t 3)), (some (20, false)), [8]⟩,
    ⟨(some 24), 24, (.call 54 [(.t 21), (.t 22), (.t 23)]), (some (20, false)), [9, 10, 11, 8, 8]⟩,
    ⟨(some 25), 25, (.not (.t 24)), (some (20, false)), [12, 8]⟩,
    ⟨(some 26), 26, (.pick (.t 20) (.k (.c (.s (.pv (.bool true))))) (.t 25)), none, [8, 13]⟩])
  (.cond (.t 26) (.seq (.reg [⟨(some 27), 27, (.load true 4 (.t 4)), none, []⟩,
    ⟨none, 60, (.store 4 (.t 8) (.t 27)), none, [0, 0]⟩,
    ⟨(some 9), 9, (.mv (.k (.c (.s (.pv (.int .i64 0)))))), none, [1, 0, 1]⟩,
    ⟨(some 10), 10, (.mv (.k (.c (.s (.pv (.int .i64 1)))))), none, [2, 0, 1, 2]⟩])
  .ret) .skip))
  (.seq (.seq (.reg [⟨(some 28), 28, (.fld 3 (.t 4)), none, []⟩,
    ⟨(some 29), 29, (.load false 1 (.t 28)), none, [0]⟩,
    ⟨(some 30), 30, (.len (.t 29)), none, [1]⟩,
    ⟨(some 31), 31, (.bin false .eql (.t 30) (.k (.c (.s (.pv (.int .i64 4)))))), none, [2]⟩])
  (.cond (.t 31) (.seq (.reg [⟨(some 32), 32, (.load true 4 (.t 4)), none, []⟩,
    ⟨none, 60, (.store 4 (.t 8) (.t 32)), none, [0, 0]⟩,
    ⟨(some 9), 9, (.mv (.k (.c (.s (.pv (.int .i64 0)))))), none, [1, 0, 1]⟩,
    ⟨(some 10), 10, (.mv (.k (.c (.s (.pv (.int .i64 6)))))), none, [2, 0, 1, 2]⟩])
  .ret) .skip))
  (.seq (.reg [⟨(some 33), 33, (.fld 0 (.t 4)), none, []⟩,
    ⟨(some 34), 34, (.load true 2 (.t 33)), none, [0]⟩,
    ⟨(some 35), 35, (.fld 2 (.t 4)), none, []⟩,
    ⟨(some 36), 36, (.load false 1 (.t 35)), none, [2]⟩,
    ⟨(some 37), 37, (.bin false .add (.t 36) (.k (.c (.s (.pv (.int .i64 1)))))), none, [3]⟩,
    ⟨(some 38), 38, (.build [.zc, .zc, (.s (.pv (.int .i64 0))), .zc] [(0, 2, (.t 34)), (2, 1, (.t 37))]), none, [1, 4]⟩,
    ⟨(some 11), 11, (.mk 75 4 [[.zc, .zc, (.s (.pv (.int .i64 0))), .zc]]), none, []⟩,
    ⟨none, 66, (.store 4 (.t 11) (.t 38)), none, [6, 5, 0, 1, 2, 3, 4, 5, 6]⟩])
  (.seq (.reg [⟨(some 39), 39, (.fld 3 (.t 11)), none, []⟩,
    ⟨(some 40), 40, (.load false 1 (.t 39)), none, [0]⟩,
    ⟨(some 41), 41, (.fld 3 (.t 4)), none, []⟩,
    ⟨(some 42), 42, (.load false 1 (.t 41)), none, [2]⟩,
    ⟨(some 43), 43, (.app 133 4 40 (.t 40) (.t 42)), none, [1, 3]⟩,
    ⟨(some 44), 44, (.fld 3 (.t 11)), none, [0, 1, 2, 3, 4]⟩,
    ⟨none, 65, (.store 1 (.t 44) (.t 43)), none, [5, 4, 4, 0, 1, 2, 3, 4]⟩])
  (.seq (.reg [⟨(some 45), 45, (.fld 3 (.t 11)), none, []⟩,
    ⟨(some 46), 46, (.load false 1 (.t 45)), none, [0]⟩,
    ⟨(some 47), 47, (.fld 2 (.t 4)), none, []⟩,
    ⟨(some 48), 48, (.load false 1 (.t 47)), none, [2]⟩,
    ⟨(some 49), 49, (.mv (.t 1)), none, []⟩,
    ⟨(some 50), 50, (.mv (.t 2)), none, []⟩,
    ⟨(some 51), 51, (.mv (.t 3)), none, []⟩,
    ⟨(some 52), 52, (.build [(.s (.pv (.int .i64 0))), (.s (.pv (.int .i64 0))), (.s (.pv (.int .i64 0))), (.s (.pv (.string ⟨#[]⟩)))] [(0, 1, (.t 48)), (1, 1, (.t 49)), (2, 1, (.t 50)), (3, 1, (.t 51))]), none, [3, 4, 5, 6]⟩,
    ⟨(some 53), 53, (.bslice 133 4 [(.s (.pv (.int .i64 0))), (.s (.pv (.int .i64 0))), (.s (.pv (.int .i64 0))), (.s (.pv (.string ⟨#[]⟩)))] 1 [(0, 4, (.t 52))]), none, [7]⟩,
    ⟨(some 54), 54, (.app 133 4 40 (.t 46) (.t 53)), none, [1, 8]⟩,
    ⟨(some 55), 55, (.fld 3 (.t 11)), none, [0, 1, 2, 3, 4, 5, 6, 7, 8, 9]⟩,
    ⟨none, 70, (.store 1 (.t 55) (.t 54)), none, [10, 9, 9, 0, 1, 2, 3, 4, 5, 6, 7, 8, 9]⟩])
  (.seq (.draw [⟨(some 56), 56, (.load true 4 (.t 11)), none, []⟩,
    ⟨(some 57), 57, (.fld 2 (.t 4)), none, []⟩,
    ⟨(some 58), 58, (.load false 1 (.t 57)), none, [1]⟩,
    ⟨none, 62, (.store 4 (.t 8) (.t 56)), none, [0, 0]⟩,
    ⟨(some 9), 9, (.mv (.t 58)), none, [2, 3, 0, 1, 2, 3]⟩,
    ⟨(some 10), 10, (.mv (.k (.c (.s (.pv (.int .i64 0)))))), none, [4, 0, 1, 2, 3, 4]⟩])
  .ret)))))))
theorem fn83 : FnIs Try.prog 83 ac83 [(.cell 8 true 4), (.t 9), (.t 10)] 59 := ⟨Try.f83, Try.func83, by kernel_rfl, by kernel_rfl, by kernel_rfl⟩
/- slices.Clone[[]lockkeeper/device.Request,lockkeeper/device.Request] -/
def ac85 : ACode := (.seq (.reg [⟨(some 2), 2, (.mv (.k (.c .zc))), none, []⟩])
  (.seq (.seq (.reg [⟨(some 3), 3, (.mv (.t 0)), none, []⟩,
    ⟨(some 4), 4, (.isnil (.t 3)), none, [0]⟩])
  (.cond (.t 4) (.seq (.reg [⟨(some 2), 2, (.mv (.k (.c .zc))), none, []⟩])
  .ret) .skip))
  (.seq (.reg [⟨(some 5), 5, (.bslice 129 4 [(.s (.pv (.int .i64 0))), (.s (.pv (.int .i64 0))), (.s (.pv (.int .i64 0))), (.s (.pv (.string ⟨#[]⟩)))] 0 []), none, []⟩,
    ⟨(some 6), 6, (.mv (.t 0)), none, []⟩,
    ⟨(some 7), 7, (.app 129 4 40 (.t 5) (.t 6)), none, [0, 1]⟩,
    ⟨(some 2), 2, (.mv (.t 7)), none, [2, 2, 0, 1, 2]⟩])
  .ret)))
theorem fn85 : FnIs Try.prog 85 ac85 [(.t 2)] 8 := ⟨Try.f85, Try.func85, by kernel_rfl, by kernel_rfl, by kernel_rfl⟩
/- lockkeeper/device.read -/
def ac86 : ACode := (.seq (.reg [⟨(some 2), 2, (.box 62 2 (.t 0)), none, []⟩,
    ⟨(some 4), 4, (.mv (.k (.c (.s (.pv (.string ⟨#[]⟩)))))), none, []⟩])
  (.seq (.draw [⟨(some 10), 10, (.load true 2 (.t 2)), none, []⟩,
    ⟨(some 11), 11, (.mv (.t 1)), none, []⟩,
    ⟨(some 12), 12, (.call 103 [(.t 11)]), none, [1]⟩,
    ⟨(some 13), 13, (.call 102 [(.t 10), (.t 12)]), none, [0, 2, 2]⟩,
    ⟨(some 9), 9, (.mv (.t 13)), none, [3]⟩,
    ⟨(some 14), 14, (.ext 0 (.t 9)), none, [4]⟩,
    ⟨(some 15), 15, (.ext 1 (.t 9)), none, [4]⟩,
    ⟨(some 5), 5, (.mv (.t 14)), none, [5, 3, 0, 1, 2, 3, 4, 5]⟩,
    ⟨(some 6), 6, (.mv (.t 15)), none, [6, 7, 0, 1, 2, 3, 4, 5, 6, 7]⟩])
  (.seq (.draw [⟨(some 17), 17, (.load true 2 (.t 2)), none, []⟩,
    ⟨(some 18), 18, (.mv (.t 1)), none, []⟩,
    ⟨(some 19), 19, (.call 103 [(.t 18)]), none, [1]⟩,
    ⟨(some 20), 20, (.bin false .add (.t 19) (.k (.c (.s (.pv (.int .i64 1)))))), none, [2]⟩,
    ⟨(some 21), 21, (.call 102 [(.t 17), (.t 20)]), none, [0, 3, 2]⟩,
    ⟨(some 16), 16, (.mv (.t 21)), none, [4]⟩,
    ⟨(some 22), 22, (.ext 0 (.t 16)), none, [5]⟩,
    ⟨(some 23), 23, (.ext 1 (.t 16)), none, [5]⟩,
    ⟨(some 7), 7, (.mv (.t 22)), none, [6, 4, 0, 1, 2, 3, 4, 5, 6]⟩,
    ⟨(some 8), 8, (.mv (.t 23)), none, [7, 8, 0, 1, 2, 3, 4, 5, 6, 7, 8]⟩])
  (.seq (.reg [⟨(some 24), 24, (.mv (.t 5)), none, []⟩,
    ⟨(some 25), 25, (.mv (.t 7)), none, []⟩,
    ⟨(some 26), 26, (.bin false .add (.t 24) (.t 25)), none, [0, 1]⟩,
    ⟨(some 4), 4, (.mv (.t 26)), none, [2, 0, 1, 2]⟩])
  .ret))))
theorem fn86 : FnIs Try.prog 86 ac86 [(.t 4)] 27 := ⟨Try.f86, Try.func86, by kernel_rfl, by kernel_rfl, by kernel_rfl⟩
/- lockkeeper/device.write -/
def ac87 : ACode := (.seq (.reg [⟨(some 3), 3, (.box 62 2 (.t 0)), none, []⟩,
    ⟨(some 6), 6, (.mk 62 2 [[.zc, .zc]]), none, []⟩,
    ⟨(some 7), 7, (.mv (.k (.c (.s (.pv (.int .i64 0)))))), none, []⟩])
  (.seq (.draw [⟨(some 10), 10, (.load true 2 (.t 3)), none, []⟩,
    ⟨(some 11), 11, (.mv (.t 1)), none, []⟩,
    ⟨(some 12), 12, (.call 103 [(.t 11)]), none, [1]⟩,
    ⟨(some 13), 13, (.mv (.t 2)), none, []⟩,
    ⟨(some 14), 14, (.ssub (.t 13) none (some (.k (.c (.s (.pv (.int .i64 16))))))), none, [3]⟩,
    ⟨(some 15), 15, (.build [(.s (.pv (.int .i64 0))), (.s (.pv (.string ⟨#[]⟩)))] [(0, 1, (.t 12)), (1, 1, (.t 14))]), none, [2, 4]⟩,
    ⟨(some 16), 16, (.call 104 [(.t 10), (.t 15)]), none, [0, 5, 2]⟩,
    ⟨(some 9), 9, (.mv (.t 16)), none, [6]⟩,
    ⟨(some 17), 17, (.ext 0 (.t 9)), none, [7]⟩,
    ⟨(some 18), 18, (.ext 1 (.t 9)), none, [7]⟩,
    ⟨none, 43, (.store 2 (.t 3) (.t 17)), none, [8, 6, 0, 1, 2, 3, 4, 5, 6, 7, 8]⟩,
    ⟨(some 8), 8, (.mv (.t 18)), none, [9, 10, 0, 1, 2, 3, 4, 5, 6, 7, 8, 9, 10]⟩])
  (.seq (.seq (.reg [⟨(some 19), 19, (.mv (.t 8)), none, []⟩,
    ⟨(some 20), 20, (.bin false .neq (.t 19) (.k (.c (.s (.pv (.int .i64 0)))))), none, [0]⟩])
  (.cond (.t 20) (.seq (.reg [⟨(some 21), 21, (.load true 2 (.t 3)), none, []⟩,
    ⟨(some 22), 22, (.mv (.t 8)), none, []⟩,
    ⟨none, 35, (.store 2 (.t 6) (.t 21)), none, [0, 0]⟩,
    ⟨(some 7), 7, (.mv (.t 22)), none, [1, 2, 0, 1, 2]⟩])
  .ret) .skip))
  (.seq (.draw [⟨(some 23), 23, (.load true 2 (.t 3)), none, []⟩,
    ⟨(some 24), 24, (.mv (.t 1)), none, []⟩,
    ⟨(some 25), 25, (.call 103 [(.t 24)]), none, [1]⟩,
    ⟨(some 26), 26, (.bin false .add (.t 25) (.k (.c (.s (.pv (.int .i64 1)))))), none, [2]⟩,
    ⟨(some 27), 27, (.mv (.t 2)), none, []⟩,
    ⟨(some 28), 28, (.ssub (.t 27) (some (.k (.c (.s (.pv (.int .i64 16)))))) none), none, [4]⟩,
    ⟨(some 29), 29, (.build [(.s (.pv (.int .i64 0))), (.s (.pv (.string ⟨#[]⟩)))] [(0, 1, (.t 26)), (1, 1, (.t 28))]), none, [3, 5]⟩,
    ⟨(some 30), 30, (.call 104 [(.t 23), (.t 29)]), none, [0, 6, 2]⟩,
    ⟨(some 31), 31, (.ext 0 (.t 30)), none, [7]⟩,
    ⟨(some 32), 32, (.ext 1 (.t 30)), none, [7]⟩,
    ⟨none, 43, (.store 2 (.t 6) (.t 31)), none, [8, 7, 0, 1, 2, 3, 4, 5, 6, 7, 8, 9]⟩,
    ⟨(some 7), 7, (.mv (.t 32)), none, [9, 10, 0, 1, 2, 3, 4, 5, 6, 7, 8, 9, 10]⟩])
  .ret))))
theorem fn87 : FnIs Try.prog 87 ac87 [(.cell 6 true 2), (.t 7)] 33 := ⟨Try.f87, Try.func87, by kernel_rfl, by kernel_rfl, by kernel_rfl⟩
/- lockkeeper/disk.Sync -/
def ac88 : ACode := (.seq (.reg [⟨(some 1), 1, (.box 62 2 (.t 0)), none, []⟩,
    ⟨(some 2), 2, (.mk 62 2 [[.zc, .zc]]), none, []⟩])
  (.seq (.seq (.reg [⟨(some 3), 3, (.load true 2 (.t 1)), none, []⟩,
    ⟨(some 4), 4, (.call 72 [(.t 3)]), none, [0]⟩,
    ⟨(some 5), 5, (.not (.t 4)), none, [1]⟩])
  (.cond (.t 5) (.seq (.reg [⟨(some 6), 6, (.load true 2 (.t 1)), none, []⟩,
    ⟨none, 12, (.store 2 (.t 2) (.t 6)), none, [0, 0]⟩])
  .ret) .skip))
  (.seq (.reg [⟨(some 7), 7, (.load true 2 (.t 1)), none, []⟩,
    ⟨(some 8), 8, (.fld 1 (.t 1)), none, []⟩,
    ⟨(some 9), 9, (.load false 1 (.t 8)), none, [1]⟩,
    ⟨(some 10), 10, (.call 73 [(.t 7), (.t 9)]), none, [0, 2]⟩,
    ⟨none, 15, (.store 2 (.t 2) (.t 10)), none, [3, 3, 0, 1, 2, 3]⟩])
  .ret)))
theorem fn88 : FnIs Try.prog 88 ac88 [(.cell 2 true 2)] 11 := ⟨Try.f88, Try.func88, by kernel_rfl, by kernel_rfl, by kernel_rfl⟩
/- lockkeeper/lockkeeperref03.Read -/
def ac89 : ACode := (.seq (.reg [⟨(some 2), 2, (.box 62 2 (.t 0)), none, []⟩,
    ⟨(some 4), 4, (.mv (.k (.c (.s (.pv (.string ⟨#[]⟩)))))), none, []⟩])
  (.seq (.seq (.reg [⟨(some 6), 6, (.fld 1 (.t 2)), none, []⟩,
    ⟨(some 7), 7, (.load false 1 (.t 6)), none, [0]⟩,
    ⟨(some 8), 8, (.len (.t 7)), none, [1]⟩,
    ⟨(some 9), 9, (.bin false .sub (.t 8) (.k (.c (.s (.pv (.int .i64 1)))))), none, [2]⟩,
    ⟨(some 5), 5, (.mv (.t 9)), none, [3, 0, 1, 2, 3]⟩])
  (.block 0 (.loop (.seq (.seq (.reg [⟨(some 10), 10, (.mv (.t 5)), none, []⟩,
    ⟨(some 11), 11, (.bin false .geq (.t 10) (.k (.c (.s (.pv (.int .i64 0)))))), none, [0]⟩])
  (.cond (.t 11) .skip (.exit 0)))
  (.seq (.block 1 (.seq (.reg [⟨(some 14), 14, (.fld 1 (.t 2)), none, []⟩,
    ⟨(some 15), 15, (.load false 1 (.t 14)), none, [0]⟩,
    ⟨(some 16), 16, (.mv (.t 5)), none, []⟩,
    ⟨(some 17), 17, (.idx 2 (.t 15) (.t 16)), none, [1, 2]⟩,
    ⟨(some 18), 18, (.fld 0 (.t 17)), none, [3]⟩,
    ⟨(some 19), 19, (.load false 1 (.t 18)), none, [4]⟩,
    ⟨(some 20), 20, (.mv (.t 1)), none, []⟩,
    ⟨(some 21), 21, (.bin false .eql (.t 19) (.t 20)), none, [5, 6]⟩])
  (.cond (.t 21) (.seq (.reg [⟨(some 22), 22, (.fld 1 (.t 2)), none, []⟩,
    ⟨(some 23), 23, (.load false 1 (.t 22)), none, [0]⟩,
    ⟨(some 24), 24, (.mv (.t 5)), none, []⟩,
    ⟨(some 25), 25, (.idx 2 (.t 23) (.t 24)), none, [1, 2]⟩,
    ⟨(some 26), 26, (.fld 1 (.t 25)), none, [3]⟩,
    ⟨(some 27), 27, (.load false 1 (.t 26)), none, [4]⟩,
    ⟨(some 4), 4, (.mv (.t 27)), none, [5, 0, 1, 2, 3, 4, 5]⟩])
  .ret) .skip)))
  (.reg [⟨(some 12), 12, (.mv (.t 5)), none, []⟩,
    ⟨(some 13), 13, (.bin false .sub (.t 12) (.k (.c (.s (.pv (.int .i64 1)))))), none, [0]⟩,
    ⟨(some 5), 5, (.mv (.t 13)), none, [1, 0, 1]⟩]))))))
  (.seq (.reg [⟨(some 28), 28, (.fld 0 (.t 2)), none, []⟩,
    ⟨(some 29), 29, (.load false 1 (.t 28)), none, [0]⟩,
    ⟨(some 30), 30, (.mv (.t 1)), none, []⟩,
    ⟨(some 31), 31, (.idx 1 (.t 29) (.t 30)), none, [1, 2]⟩,
    ⟨(some 32), 32, (.load false 1 (.t 31)), none, [3]⟩,
    ⟨(some 4), 4, (.mv (.t 32)), none, [4, 0, 1, 2, 3, 4]⟩])
  .ret)))
theorem fn89 : FnIs Try.prog 89 ac89 [(.t 4)] 33 := ⟨Try.f89, Try.func89, by kernel_rfl, by kernel_rfl, by kernel_rfl⟩
/- lockkeeper/lockkeeperref03.Sync -/
def ac90 : ACode := (.seq (.reg [⟨(some 1), 1, (.box 62 2 (.t 0)), none, []⟩,
    ⟨(some 2), 2, (.mk 62 2 [[.zc, .zc]]), none, []⟩])
  (.seq (.reg [⟨(some 3), 3, (.mk 62 2 [[.zc, .zc]]), none, []⟩])
  (.seq (.seq (.reg [⟨(some 4), 4, (.mv (.k (.c (.s (.pv (.int .i64 0)))))), none, []⟩])
  (.block 0 (.loop (.seq (.seq (.reg [⟨(some 5), 5, (.mv (.t 4)), none, []⟩,
    ⟨(some 6), 6, (.fld 0 (.t 1)), none, []⟩,
    ⟨(some 7), 7, (.load false 1 (.t 6)), none, [1]⟩,
    ⟨(some 8), 8, (.len (.t 7)), none, [2]⟩,
    ⟨(some 9), 9, (.bin false .lss (.t 5) (.t 8)), none, [0, 3]⟩])
  (.cond (.t 9) .skip (.exit 0)))
  (.seq (.block 1 (.draw [⟨(some 12), 12, (.fld 0 (.t 3)), none, []⟩,
    ⟨(some 13), 13, (.load false 1 (.t 12)), none, [0]⟩,
    ⟨(some 14), 14, (.load true 2 (.t 1)), none, []⟩,
    ⟨(some 15), 15, (.mv (.t 4)), none, []⟩,
    ⟨(some 16), 16, (.call 89 [(.t 14), (.t 15)]), none, [2, 3]⟩,
    ⟨(some 17), 17, (.bslice 9 1 [(.s (.pv (.string ⟨#[]⟩)))] 1 [(0, 1, (.t 16))]), none, [4]⟩,
    ⟨(some 18), 18, (.app 9 1 16 (.t 13) (.t 17)), none, [1, 5, 4]⟩,
    ⟨(some 19), 19, (.fld 0 (.t 3)), none, [0, 1, 2, 3, 4, 5, 6]⟩,
    ⟨none, 29, (.store 1 (.t 19) (.t 18)), none, [7, 6, 6, 0, 1, 2, 3, 4, 5, 6]⟩]))
  (.reg [⟨(some 10), 10, (.mv (.t 4)), none, []⟩,
    ⟨(some 11), 11, (.bin false .add (.t 10) (.k (.c (.s (.pv (.int .i64 1)))))), none, [0]⟩,
    ⟨(some 4), 4, (.mv (.t 11)), none, [1, 0, 1]⟩]))))))
  (.seq (.reg [⟨(some 20), 20, (.load true 2 (.t 3)), none, []⟩,
    ⟨none, 22, (.store 2 (.t 2) (.t 20)), none, [0, 0]⟩])
  .ret))))
theorem fn90 : FnIs Try.prog 90 ac90 [(.cell 2 true 2)] 21 := ⟨Try.f90, Try.func90, by kernel_rfl, by kernel_rfl, by kernel_rfl⟩
/- lockkeeper/lockkeeperref03.in -/
def ac91 : ACode := (.seq (.reg [⟨(some 4), 4, (.mv (.k (.c (.s (.pv (.bool false)))))), none, []⟩])
  (.seq (.seq (.reg [⟨(some 5), 5, (.mv (.k (.c (.s (.pv (.int .i64 0)))))), none, []⟩])
  (.block 0 (.loop (.seq (.seq (.reg [⟨(some 6), 6, (.mv (.t 5)), none, []⟩,
    ⟨(some 7), 7, (.mv (.t 0)), none, []⟩,
    ⟨(some 8), 8, (.len (.t 7)), none, [1]⟩,
    ⟨(some 9), 9, (.bin false .lss (.t 6) (.t 8)), none, [0, 2]⟩])
  (.cond (.t 9) .skip (.exit 0)))
  (.seq (.block 1 (.seq (.reg [⟨(some 12), 12, (.mv (.t 0)), none, []⟩,
    ⟨(some 13), 13, (.mv (.t 5)), none, []⟩,
    ⟨(some 14), 14, (.idx 1 (.t 12) (.t 13)), none, [0, 1]⟩,
    ⟨(some 15), 15, (.load false 1 (.t 14)), none, [2]⟩,
    ⟨(some 16), 16, (.mv (.t 1)), none, []⟩,
    ⟨(some 17), 17, (.bin false .eql (.t 15) (.t 16)), none, [3, 4]⟩])
  (.cond (.t 17) (.seq (.reg [⟨(some 4), 4, (.mv (.k (.c (.s (.pv (.bool true)))))), none, []⟩])
  .ret) .skip)))
  (.reg [⟨(some 10), 10, (.mv (.t 5)), none, []⟩,
    ⟨(some 11), 11, (.bin false .add (.t 10) (.k (.c (.s (.pv (.int .i64 1)))))), none, [0]⟩,
    ⟨(some 5), 5, (.mv (.t 11)), none, [1, 0, 1]⟩]))))))
  (.seq (.reg [⟨(some 4), 4, (.mv (.k (.c (.s (.pv (.bool false)))))), none, []⟩])
  .ret)))
theorem fn91 : FnIs Try.prog 91 ac91 [(.t 4)] 18 := ⟨Try.f91, Try.func91, by kernel_rfl, by kernel_rfl, by kernel_rfl⟩
/- lockkeeper/disk.fits -/
def ac92 : ACode := (.seq (.reg [⟨(some 2), 2, (.box 62 2 (.t 0)), none, []⟩,
    ⟨(some 3), 3, (.box 141 2 (.t 1)), none, []⟩,
    ⟨(some 4), 4, (.mv (.k (.c (.s (.pv (.bool false)))))), none, []⟩])
  (.seq (.reg [⟨(some 5), 5, (.load true 2 (.t 2)), none, []⟩,
    ⟨(some 6), 6, (.fld 0 (.t 3)), none, []⟩,
    ⟨(some 7), 7, (.load false 1 (.t 6)), none, [1]⟩,
    ⟨(some 8), 8, (.call 105 [(.t 5), (.t 7)]), none, [0, 2]⟩,
    ⟨(some 9), 9, (.mv (.t 8)), none, [3, 3]⟩,
    ⟨(some 10), 10, (.fld 1 (.t 3)), (some (9, true)), [4]⟩,
    ⟨(some 11), 11, (.load false 1 (.t 10)), (some (9, true)), [5, 4]⟩,
    ⟨(some 12), 12, (.slen (.t 11)), (some (9, true)), [6, 4]⟩,
    ⟨(some 13), 13, (.bin false .eql (.t 12) (.k (.c (.s (.pv (.int .i64 16)))))), (some (9, true)), [7, 4]⟩,
    ⟨(some 14), 14, (.pick (.t 9) (.t 13) (.k (.c (.s (.pv (.bool false)))))), none, [4, 8]⟩,
    ⟨(some 4), 4, (.mv (.t 14)), none, [9, 4, 0, 1, 2, 3, 4, 5, 6, 7, 8, 9]⟩])
  .ret))
theorem fn92 : FnIs Try.prog 92 ac92 [(.t 4)] 15 := ⟨Try.f92, Try.func92, by kernel_rfl, by kernel_rfl, by kernel_rfl⟩
/- slices.Clone[[]string,string] -/
def ac93 : ACode := (.seq (.reg [⟨(some 2), 2, (.mv (.k (.c .zc))), none, []⟩])
  (.seq (.seq (.reg [⟨(some 3), 3, (.mv (.t 0)), none, []⟩,
    ⟨(some 4), 4, (.isnil (.t 3)), none, [0]⟩])
  (.cond (.t 4) (.seq (.reg [⟨(some 2), 2, (.mv (.k (.c .zc))), none, []⟩])
  .ret) .skip))
  (.seq (.reg [⟨(some 5), 5, (.bslice 9 1 [(.s (.pv (.string ⟨#[]⟩)))] 0 []), none, []⟩,
    ⟨(some 6), 6, (.mv (.t 0)), none, []⟩,
    ⟨(some 7), 7, (.app 9 1 16 (.t 5) (.t 6)), none, [0, 1]⟩,
    ⟨(some 2), 2, (.mv (.t 7)), none, [2, 2, 0, 1, 2]⟩])
  .ret)))
theorem fn93 : FnIs Try.prog 93 ac93 [(.t 2)] 8 := ⟨Try.f93, Try.func93, by kernel_rfl, by kernel_rfl, by kernel_rfl⟩
/- slices.IndexFunc[[]lockkeeper/lanes.Lane,lockkeeper/lanes.Lane] -/
def ac94 : ACode := (.seq (.reg [⟨(some 4), 4, (.mv (.k (.c (.s (.pv (.int .i64 0)))))), none, []⟩])
  (.seq (.seq (.reg [⟨(some 6), 6, (.mv (.t 0)), none, []⟩,
    ⟨(some 7), 7, (.len (.t 6)), none, [0]⟩,
    ⟨(some 8), 8, (.mv (.k (.c (.s (.pv (.int .i64 0)))))), none, []⟩])
  (.block 0 (.loop (.seq (.reg [⟨(some 9), 9, (.bin false .lss (.t 8) (.t 7)), none, []⟩])
  (.seq (.cond (.t 9) .skip (.exit 0))
  (.seq (.block 1 (.seq (.reg [⟨(some 10), 10, (.mv (.t 8)), none, []⟩,
    ⟨(some 5), 5, (.mv (.t 10)), none, [0, 0]⟩])
  (.seq (.reg [⟨(some 11), 11, (.mv (.t 1)), none, []⟩,
    ⟨(some 12), 12, (.mv (.t 0)), none, []⟩,
    ⟨(some 13), 13, (.mv (.t 5)), none, []⟩,
    ⟨(some 14), 14, (.idx 3 (.t 12) (.t 13)), none, [1, 2]⟩,
    ⟨(some 15), 15, (.load true 3 (.t 14)), none, [3]⟩,
    ⟨(some 16), 16, (.callv (.t 11) [(.t 15)]), none, [0, 4]⟩])
  (.cond (.t 16) (.seq (.reg [⟨(some 17), 17, (.mv (.t 5)), none, []⟩,
    ⟨(some 4), 4, (.mv (.t 17)), none, [0, 0]⟩])
  .ret) .skip))))
  (.reg [⟨(some 18), 18, (.bin false .add (.t 8) (.k (.c (.s (.pv (.int .i64 1)))))), none, []⟩,
    ⟨(some 8), 8, (.mv (.t 18)), none, [0]⟩])))))))
  (.seq (.reg [⟨(some 4), 4, (.mv (.k (.c (.s (.pv (.int .i64 (-1))))))), none, []⟩])
  .ret)))
theorem fn94 : FnIs Try.prog 94 ac94 [(.t 4)] 19 := ⟨Try.f94, Try.func94, by kernel_rfl, by kernel_rfl, by kernel_rfl⟩
/- lockkeeper/lockkeeperref03.Right -/
def ac101 : ACode := (.seq (.reg [⟨(some 1), 1, (.box 62 2 (.t 0)), none, []⟩,
    ⟨(some 2), 2, (.mv (.k (.c (.s (.pv (.bool false)))))), none, []⟩])
  (.seq (.seq (.reg [⟨(some 6), 6, (.fld 0 (.t 1)), none, []⟩,
    ⟨(some 7), 7, (.load false 1 (.t 6)), none, [0]⟩,
    ⟨(some 8), 8, (.len (.t 7)), none, [1]⟩,
    ⟨(some 9), 9, (.bin false .lss (.t 8) (.k (.c (.s (.pv (.int .i64 1)))))), none, [2]⟩,
    ⟨(some 10), 10, (.mv (.t 9)), none, [3]⟩,
    ⟨(some 11), 11, (.fld 0 (.t 1)), (some (10, false)), [4]⟩,
    ⟨(some 12), 12, (.load false 1 (.t 11)), (some (10, false)), [5, 4]⟩,
    ⟨(some 13), 13, (.len (.t 12)), (some (10, false)), [6, 4]⟩,
    ⟨(some 14), 14, (.bin false .gtr (.t 13) (.k (.c (.s (.pv (.int .i64 64)))))), (some (10, false)), [7, 4]⟩,
    ⟨(some 15), 15, (.pick (.t 10) (.k (.c (.s (.pv (.bool true))))) (.t 14)), none, [4, 8]⟩,
    ⟨(some 16), 16, (.mv (.t 15)), none, [9, 4]⟩,
    ⟨(some 17), 17, (.fld 1 (.t 1)), (some (16, false)), [10]⟩,
    ⟨(some 18), 18, (.load false 1 (.t 17)), (some (16, false)), [11, 10]⟩,
    ⟨(some 19), 19, (.len (.t 18)), (some (16, false)), [12, 10]⟩,
    ⟨(some 20), 20, (.bin false .gtr (.t 19) (.k (.c (.s (.pv (.int .i64 200)))))), (some (16, false)), [13, 10]⟩,
    ⟨(some 21), 21, (.pick (.t 16) (.k (.c (.s (.pv (.bool true))))) (.t 20)), none, [10, 14]⟩])
  (.cond (.t 21) (.seq (.reg [⟨(some 2), 2, (.mv (.k (.c (.s (.pv (.bool false)))))), none, []⟩])
  .ret) .skip))
  (.seq (.seq (.reg [⟨(some 3), 3, (.mv (.k (.c (.s (.pv (.int .i64 0)))))), none, []⟩])
  (.block 0 (.loop (.seq (.seq (.reg [⟨(some 22), 22, (.mv (.t 3)), none, []⟩,
    ⟨(some 23), 23, (.fld 0 (.t 1)), none, []⟩,
    ⟨(some 24), 24, (.load false 1 (.t 23)), none, [1]⟩,
    ⟨(some 25), 25, (.len (.t 24)), none, [2]⟩,
    ⟨(some 26), 26, (.bin false .lss (.t 22) (.t 25)), none, [0, 3]⟩])
  (.cond (.t 26) .skip (.exit 0)))
  (.seq (.block 1 (.seq (.reg [⟨(some 29), 29, (.fld 0 (.t 1)), none, []⟩,
    ⟨(some 30), 30, (.load false 1 (.t 29)), none, [0]⟩,
    ⟨(some 31), 31, (.mv (.t 3)), none, []⟩,
    ⟨(some 32), 32, (.idx 1 (.t 30) (.t 31)), none, [1, 2]⟩,
    ⟨(some 33), 33, (.load false 1 (.t 32)), none, [3]⟩,
    ⟨(some 34), 34, (.slen (.t 33)), none, [4]⟩,
    ⟨(some 35), 35, (.bin false .neq (.t 34) (.k (.c (.s (.pv (.int .i64 16)))))), none, [5]⟩])
  (.cond (.t 35) (.seq (.reg [⟨(some 2), 2, (.mv (.k (.c (.s (.pv (.bool false)))))), none, []⟩])
  .ret) .skip)))
  (.reg [⟨(some 27), 27, (.mv (.t 3)), none, []⟩,
    ⟨(some 28), 28, (.bin false .add (.t 27) (.k (.c (.s (.pv (.int .i64 1)))))), none, [0]⟩,
    ⟨(some 3), 3, (.mv (.t 28)), none, [1, 0, 1]⟩]))))))
  (.seq (.seq (.reg [⟨(some 4), 4, (.mv (.k (.c (.s (.pv (.int .i64 0)))))), none, []⟩])
  (.block 2 (.loop (.seq (.seq (.reg [⟨(some 36), 36, (.mv (.t 4)), none, []⟩,
    ⟨(some 37), 37, (.fld 1 (.t 1)), none, []⟩,
    ⟨(some 38), 38, (.load false 1 (.t 37)), none, [1]⟩,
    ⟨(some 39), 39, (.len (.t 38)), none, [2]⟩,
    ⟨(some 40), 40, (.bin false .lss (.t 36) (.t 39)), none, [0, 3]⟩])
  (.cond (.t 40) .skip (.exit 2)))
  (.seq (.block 3 (.seq (.reg [⟨(some 43), 43, (.fld 1 (.t 1)), none, []⟩,
    ⟨(some 44), 44, (.load false 1 (.t 43)), none, [0]⟩,
    ⟨(some 45), 45, (.mv (.t 4)), none, []⟩,
    ⟨(some 46), 46, (.idx 2 (.t 44) (.t 45)), none, [1, 2]⟩,
    ⟨(some 47), 47, (.load true 2 (.t 46)), none, [3]⟩,
    ⟨(some 5), 5, (.mk 141 2 [[(.s (.pv (.int .i64 0))), (.s (.pv (.string ⟨#[]⟩)))]]), none, []⟩,
    ⟨none, 71, (.store 2 (.t 5) (.t 47)), none, [5, 4, 0, 1, 2, 3, 4, 5]⟩])
  (.seq (.reg [⟨(some 48), 48, (.fld 0 (.t 5)), none, []⟩,
    ⟨(some 49), 49, (.load false 1 (.t 48)), none, [0]⟩,
    ⟨(some 50), 50, (.bin false .lss (.t 49) (.k (.c (.s (.pv (.int .i64 0)))))), none, [1]⟩,
    ⟨(some 51), 51, (.mv (.t 50)), none, [2]⟩,
    ⟨(some 52), 52, (.fld 0 (.t 5)), (some (51, false)), [3]⟩,
    ⟨(some 53), 53, (.load false 1 (.t 52)), (some (51, false)), [4, 3]⟩,
    ⟨(some 54), 54, (.fld 0 (.t 1)), (some (51, false)), [3]⟩,
    ⟨(some 55), 55, (.load false 1 (.t 54)), (some (51, false)), [6, 3]⟩,
    ⟨(some 56), 56, (.len (.t 55)), (some (51, false)), [7, 3]⟩,
    ⟨(some 57), 57, (.bin false .geq (.t 53) (.t 56)), (some (51, false)), [5, 8, 3]⟩,
    ⟨(some 58), 58, (.pick (.t 51) (.k (.c (.s (.pv (.bool true))))) (.t 57)), none, [3, 9]⟩,
    ⟨(some 59), 59, (.mv (.t 58)), none, [10, 3]⟩,
    ⟨(some 60), 60, (.fld 1 (.t 5)), (some (59, false)), [11]⟩,
    ⟨(some 61), 61, (.load false 1 (.t 60)), (some (59, false)), [12, 11]⟩,
    ⟨(some 62), 62, (.slen (.t 61)), (some (59, false)), [13, 11]⟩,
    ⟨(some 63), 63, (.bin false .neq (.t 62) (.k (.c (.s (.pv (.int .i64 16)))))), (some (59, false)), [14, 11]⟩,
    ⟨(some 64), 64, (.pick (.t 59) (.k (.c (.s (.pv (.bool true))))) (.t 63)), none, [11, 15]⟩])
  (.cond (.t 64) (.seq (.reg [⟨(some 2), 2, (.mv (.k (.c (.s (.pv (.bool false)))))), none, []⟩])
  .ret) .skip))))
  (.reg [⟨(some 41), 41, (.mv (.t 4)), none, []⟩,
    ⟨(some 42), 42, (.bin false .add (.t 41) (.k (.c (.s (.pv (.int .i64 1)))))), none, [0]⟩,
    ⟨(some 4), 4, (.mv (.t 42)), none, [1, 0, 1]⟩]))))))
  (.seq (.reg [⟨(some 2), 2, (.mv (.k (.c (.s (.pv (.bool true)))))), none, []⟩])
  .ret)))))
theorem fn101 : FnIs Try.prog 101 ac101 [(.t 2)] 65 := ⟨Try.f101, Try.func101, by kernel_rfl, by kernel_rfl, by kernel_rfl⟩
/- lockkeeper/device.home -/
def ac103 : ACode := (.seq (.reg [⟨(some 2), 2, (.mv (.k (.c (.s (.pv (.int .i64 0)))))), none, []⟩])
  (.seq (.reg [⟨(some 3), 3, (.mv (.t 0)), none, []⟩,
    ⟨(some 4), 4, (.bin false .mul (.k (.c (.s (.pv (.int .i64 2))))) (.t 3)), none, [0]⟩,
    ⟨(some 5), 5, (.bin false .add (.t 4) (.k (.c (.s (.pv (.int .i64 1)))))), none, [1]⟩,
    ⟨(some 2), 2, (.mv (.t 5)), none, [2, 0, 1, 2]⟩])
  .ret))
theorem fn103 : FnIs Try.prog 103 ac103 [(.t 2)] 6 := ⟨Try.f103, Try.func103, by kernel_rfl, by kernel_rfl, by kernel_rfl⟩
/- lockkeeper/disk.Put -/
def ac104 : ACode := (.seq (.reg [⟨(some 2), 2, (.box 62 2 (.t 0)), none, []⟩,
    ⟨(some 3), 3, (.box 141 2 (.t 1)), none, []⟩,
    ⟨(some 4), 4, (.mk 62 2 [[.zc, .zc]]), none, []⟩,
    ⟨(some 5), 5, (.mv (.k (.c (.s (.pv (.int .i64 0)))))), none, []⟩])
  (.seq (.seq (.reg [⟨(some 6), 6, (.load true 2 (.t 2)), none, []⟩,
    ⟨(some 7), 7, (.call 72 [(.t 6)]), none, [0]⟩,
    ⟨(some 8), 8, (.not (.t 7)), none, [1]⟩,
    ⟨(some 9), 9, (.mv (.t 8)), none, [2, 1]⟩,
    ⟨(some 10), 10, (.load true 2 (.t 2)), (some (9, false)), [3]⟩,
    ⟨(some 11), 11, (.load true 2 (.t 3)), (some (9, false)), [3]⟩,
    ⟨(some 12), 12, (.call 92 [(.t 10), (.t 11)]), (some (9, false)), [4, 5, 3, 3]⟩,
    ⟨(some 13), 13, (.not (.t 12)), (some (9, false)), [6, 3]⟩,
    ⟨(some 14), 14, (.pick (.t 9) (.k (.c (.s (.pv (.bool true))))) (.t 13)), none, [3, 7]⟩])
  (.cond (.t 14) (.seq (.reg [⟨(some 15), 15, (.load true 2 (.t 2)), none, []⟩,
    ⟨none, 31, (.store 2 (.t 4) (.t 15)), none, [0, 0]⟩,
    ⟨(some 5), 5, (.mv (.k (.c (.s (.pv (.int .i64 1)))))), none, [1, 0, 1]⟩])
  .ret) .skip))
  (.seq (.seq (.reg [⟨(some 16), 16, (.fld 1 (.t 2)), none, []⟩,
    ⟨(some 17), 17, (.load false 1 (.t 16)), none, [0]⟩,
    ⟨(some 18), 18, (.len (.t 17)), none, [1]⟩,
    ⟨(some 19), 19, (.bin false .eql (.t 18) (.k (.c (.s (.pv (.int .i64 200)))))), none, [2]⟩])
  (.cond (.t 19) (.seq (.reg [⟨(some 20), 20, (.load true 2 (.t 2)), none, []⟩,
    ⟨none, 31, (.store 2 (.t 4) (.t 20)), none, [0, 0]⟩,
    ⟨(some 5), 5, (.mv (.k (.c (.s (.pv (.int .i64 7)))))), none, [1, 0, 1]⟩])
  .ret) .skip))
  (.seq (.draw [⟨(some 21), 21, (.fld 0 (.t 2)), none, []⟩,
    ⟨(some 22), 22, (.load false 1 (.t 21)), none, [0]⟩,
    ⟨(some 23), 23, (.fld 1 (.t 2)), none, []⟩,
    ⟨(some 24), 24, (.load false 1 (.t 23)), none, [2]⟩,
    ⟨(some 25), 25, (.call 112 [(.t 24)]), none, [3]⟩,
    ⟨(some 26), 26, (.load true 2 (.t 3)), none, []⟩,
    ⟨(some 27), 27, (.bslice 141 2 [(.s (.pv (.int .i64 0))), (.s (.pv (.string ⟨#[]⟩)))] 1 [(0, 2, (.t 26))]), none, [5]⟩,
    ⟨(some 28), 28, (.app 141 2 24 (.t 25) (.t 27)), none, [4, 6, 4]⟩,
    ⟨(some 29), 29, (.build [.zc, .zc] [(0, 1, (.t 22)), (1, 1, (.t 28))]), none, [1, 7]⟩,
    ⟨none, 39, (.store 2 (.t 4) (.t 29)), none, [8, 7, 0, 1, 2, 3, 4, 5, 6, 7, 8]⟩,
    ⟨(some 5), 5, (.mv (.k (.c (.s (.pv (.int .i64 0)))))), none, [9, 0, 1, 2, 3, 4, 5, 6, 7, 8, 9]⟩])
  .ret))))
theorem fn104 : FnIs Try.prog 104 ac104 [(.cell 4 true 2), (.t 5)] 30 := ⟨Try.f104, Try.func104, by kernel_rfl, by kernel_rfl, by kernel_rfl⟩
/- lockkeeper/disk.has -/
def ac105 : ACode := (.seq (.reg [⟨(some 2), 2, (.box 62 2 (.t 0)), none, []⟩,
    ⟨(some 4), 4, (.mv (.k (.c (.s (.pv (.bool false)))))), none, []⟩])
  (.seq (.reg [⟨(some 5), 5, (.mv (.t 1)), none, []⟩,
    ⟨(some 6), 6, (.bin false .geq (.t 5) (.k (.c (.s (.pv (.int .i64 0)))))), none, [0]⟩,
    ⟨(some 7), 7, (.mv (.t 6)), none, [1]⟩,
    ⟨(some 8), 8, (.mv (.t 1)), (some (7, true)), [2]⟩,
    ⟨(some 9), 9, (.fld 0 (.t 2)), (some (7, true)), [2]⟩,
    ⟨(some 10), 10, (.load false 1 (.t 9)), (some (7, true)), [4, 2]⟩,
    ⟨(some 11), 11, (.len (.t 10)), (some (7, true)), [5, 2]⟩,
    ⟨(some 12), 12, (.bin false .lss (.t 8) (.t 11)), (some (7, true)), [3, 6, 2]⟩,
    ⟨(some 13), 13, (.pick (.t 7) (.t 12) (.k (.c (.s (.pv (.bool false)))))), none, [2, 7]⟩,
    ⟨(some 4), 4, (.mv (.t 13)), none, [8, 2, 0, 1, 2, 3, 4, 5, 6, 7, 8]⟩])
  .ret))
theorem fn105 : FnIs Try.prog 105 ac105 [(.t 4)] 14 := ⟨Try.f105, Try.func105, by kernel_rfl, by kernel_rfl, by kernel_rfl⟩
/- slices.Backward[[]lockkeeper/api.Write,lockkeeper/api.Write] -/
def ac111 : ACode := (.seq (.reg [⟨(some 1), 1, (.box 60 1 (.t 0)), none, []⟩,
    ⟨(some 2), 2, (.mv (.k (.c (.s (.pv .nilFunc))))), none, []⟩])
  (.seq (.reg [⟨(some 3), 3, (.clo 115 [(.t 1)]), none, []⟩,
    ⟨(some 2), 2, (.mv (.t 3)), none, [0, 0]⟩])
  .ret))
theorem fn111 : FnIs Try.prog 111 ac111 [(.t 2)] 4 := ⟨Try.f111, Try.func111, by kernel_rfl, by kernel_rfl, by kernel_rfl⟩
/- slices.Clone[[]lockkeeper/api.Write,lockkeeper/api.Write] -/
def ac112 : ACode := (.seq (.reg [⟨(some 2), 2, (.mv (.k (.c .zc))), none, []⟩])
  (.seq (.seq (.reg [⟨(some 3), 3, (.mv (.t 0)), none, []⟩,
    ⟨(some 4), 4, (.isnil (.t 3)), none, [0]⟩])
  (.cond (.t 4) (.seq (.reg [⟨(some 2), 2, (.mv (.k (.c .zc))), none, []⟩])
  .ret) .skip))
  (.seq (.reg [⟨(some 5), 5, (.bslice 141 2 [(.s (.pv (.int .i64 0))), (.s (.pv (.string ⟨#[]⟩)))] 0 []), none, []⟩,
    ⟨(some 6), 6, (.mv (.t 0)), none, []⟩,
    ⟨(some 7), 7, (.app 141 2 24 (.t 5) (.t 6)), none, [0, 1]⟩,
    ⟨(some 2), 2, (.mv (.t 7)), none, [2, 2, 0, 1, 2]⟩])
  .ret)))
theorem fn112 : FnIs Try.prog 112 ac112 [(.t 2)] 8 := ⟨Try.f112, Try.func112, by kernel_rfl, by kernel_rfl, by kernel_rfl⟩
/- slices.Backward[[]lockkeeper/api.Write,lockkeeper/api.Write]$1 -/
def ac115 : ACode := (.seq (.reg [⟨(some 4), 4, (.load false 1 (.t 1)), none, []⟩,
    ⟨(some 5), 5, (.len (.t 4)), none, [0]⟩,
    ⟨(some 6), 6, (.bin false .sub (.t 5) (.k (.c (.s (.pv (.int .i64 1)))))), none, [1]⟩,
    ⟨(some 3), 3, (.mv (.t 6)), none, [2, 0, 1, 2]⟩])
  (.block 0 (.loop (.seq (.seq (.reg [⟨(some 7), 7, (.mv (.t 3)), none, []⟩,
    ⟨(some 8), 8, (.bin false .geq (.t 7) (.k (.c (.s (.pv (.int .i64 0)))))), none, [0]⟩])
  (.cond (.t 8) .skip (.exit 0)))
  (.seq (.block 1 (.seq (.reg [⟨(some 11), 11, (.mv (.t 0)), none, []⟩,
    ⟨(some 12), 12, (.mv (.t 3)), none, []⟩,
    ⟨(some 13), 13, (.load false 1 (.t 1)), none, []⟩,
    ⟨(some 14), 14, (.mv (.t 3)), none, []⟩,
    ⟨(some 15), 15, (.idx 2 (.t 13) (.t 14)), none, [2, 3]⟩,
    ⟨(some 16), 16, (.load true 2 (.t 15)), none, [4]⟩,
    ⟨(some 17), 17, (.callv (.t 11) [(.t 12), (.t 16)]), none, [0, 1, 5]⟩,
    ⟨(some 18), 18, (.not (.t 17)), none, [6]⟩])
  (.cond (.t 18) .ret .skip)))
  (.reg [⟨(some 9), 9, (.mv (.t 3)), none, []⟩,
    ⟨(some 10), 10, (.bin false .sub (.t 9) (.k (.c (.s (.pv (.int .i64 1)))))), none, [0]⟩,
    ⟨(some 3), 3, (.mv (.t 10)), none, [1, 0, 1]⟩]))))))
theorem fn115 : FnIs Try.prog 115 ac115 [] 19 := ⟨Try.f115, Try.func115, by kernel_rfl, by kernel_rfl, by kernel_rfl⟩

end Go.Proofs.Ytfmbfgoofiojcaa
