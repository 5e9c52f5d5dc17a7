/- THE PROGRAM's functions, as the abstract machine's code (printed by wip/tools/code.py out of the translation). No condition. -/
import Derived.Test.YtcindpblgbpcoaaAm22
import Derived.Test.YtcindpblgbpcoaaProg
import Derived.KernelRfl
namespace Go.Proofs.Ytcindpblgbpcoaa
set_option maxRecDepth 100000
/- lockkeeper/lockkeeperlaw15.FramesKeep -/
def ac3 : ACode := (.seq (.reg [⟨(some 4), 4, (.mv (.k (.c (.s (.pv (.bool false)))))), none, []⟩])
  (.seq (.reg [⟨(some 16), 16, (.mv (.t 0)), none, []⟩,
    ⟨(some 17), 17, (.bin false .rem (.t 16) (.k (.c (.s (.pv (.int .u8 8)))))), none, [0]⟩,
    ⟨(some 18), 18, (.conv .i64 (.t 17)), none, [1]⟩,
    ⟨(some 19), 19, (.bin false .add (.k (.c (.s (.pv (.int .i64 1))))) (.t 18)), none, [2]⟩,
    ⟨(some 20), 20, (.call 13 [(.t 19)]), none, [3]⟩,
    ⟨(some 15), 15, (.mv (.t 20)), none, [4]⟩,
    ⟨(some 21), 21, (.ext 0 (.t 15)), none, [5]⟩,
    ⟨(some 22), 22, (.ext 1 (.t 15)), none, [5]⟩,
    ⟨(some 5), 5, (.mk 32 5 [[.zc, (.s (.pv (.int .i64 0))), .zc, .zc, .zc]]), none, []⟩,
    ⟨none, 167, (.store 5 (.t 5) (.t 21)), none, [8, 6, 4, 0, 1, 2, 3, 4, 5, 6, 8]⟩,
    ⟨(some 6), 6, (.mv (.t 22)), none, [7, 9, 0, 1, 2, 3, 4, 5, 6, 7, 8, 9]⟩])
  (.seq (.seq (.reg [⟨(some 23), 23, (.mv (.t 6)), none, []⟩,
    ⟨(some 24), 24, (.bin false .neq (.t 23) (.k (.c (.s (.pv (.int .i64 0)))))), none, [0]⟩])
  (.cond (.t 24) (.seq (.reg [⟨(some 4), 4, (.mv (.k (.c (.s (.pv (.bool false)))))), none, []⟩])
  .ret) .skip))
  (.seq (.reg [⟨(some 7), 7, (.mk 36 1 [[(.s (.pv (.int .i64 0)))], [(.s (.pv (.int .i64 0)))], [(.s (.pv (.int .i64 0)))], [(.s (.pv (.int .i64 0)))], [(.s (.pv (.int .i64 0)))], [(.s (.pv (.int .i64 0)))], [(.s (.pv (.int .i64 0)))], [(.s (.pv (.int .i64 0)))], [(.s (.pv (.int .i64 0)))], [(.s (.pv (.int .i64 0)))], [(.s (.pv (.int .i64 0)))], [(.s (.pv (.int .i64 0)))], [(.s (.pv (.int .i64 0)))], [(.s (.pv (.int .i64 0)))], [(.s (.pv (.int .i64 0)))], [(.s (.pv (.int .i64 0)))], [(.s (.pv (.int .i64 0)))]]), none, []⟩])
  (.seq (.seq (.reg [⟨(some 8), 8, (.mv (.k (.c (.s (.pv (.int .i64 0)))))), none, []⟩])
  (.block 0 (.loop (.seq (.seq (.reg [⟨(some 25), 25, (.mv (.t 8)), none, []⟩,
    ⟨(some 26), 26, (.mv (.t 1)), none, []⟩,
    ⟨(some 27), 27, (.len (.t 26)), none, [1]⟩,
    ⟨(some 28), 28, (.bin false .lss (.t 25) (.t 27)), none, [0, 2]⟩,
    ⟨(some 29), 29, (.mv (.t 28)), none, [3]⟩,
    ⟨(some 30), 30, (.mv (.t 8)), (some (29, true)), [4]⟩,
    ⟨(some 31), 31, (.bin false .lss (.t 30) (.k (.c (.s (.pv (.int .i64 60)))))), (some (29, true)), [5, 4]⟩,
    ⟨(some 32), 32, (.pick (.t 29) (.t 31) (.k (.c (.s (.pv (.bool false)))))), none, [4, 6]⟩])
  (.cond (.t 32) .skip (.exit 0)))
  (.seq (.block 1 (.seq (.reg [⟨(some 35), 35, (.mv (.t 1)), none, []⟩,
    ⟨(some 36), 36, (.mv (.t 8)), none, []⟩,
    ⟨(some 37), 37, (.idx 7 (.t 35) (.t 36)), none, [0, 1]⟩,
    ⟨(some 38), 38, (.load true 7 (.t 37)), none, [2]⟩,
    ⟨(some 9), 9, (.mk 40 7 [[(.s (.pv (.int .i64 0))), (.s (.pv (.int .i64 0))), (.s (.pv (.int .i64 0))), (.s (.pv (.string ⟨#[]⟩))), (.s (.pv (.int .i64 0))), (.s (.pv (.int .i64 0))), (.s (.pv (.string ⟨#[]⟩)))]]), none, []⟩,
    ⟨none, 163, (.store 7 (.t 9) (.t 38)), none, [4, 3, 0, 1, 2, 3, 4]⟩])
  (.seq (.reg [⟨(some 40), 40, (.load true 5 (.t 5)), none, []⟩,
    ⟨(some 41), 41, (.load true 7 (.t 9)), none, []⟩,
    ⟨(some 42), 42, (.call 14 [(.t 40), (.t 41)]), none, [0, 1]⟩,
    ⟨(some 39), 39, (.mv (.t 42)), none, [2]⟩,
    ⟨(some 43), 43, (.ext 0 (.t 39)), none, [3]⟩,
    ⟨(some 44), 44, (.ext 1 (.t 39)), none, [3]⟩,
    ⟨(some 10), 10, (.mk 32 5 [[.zc, (.s (.pv (.int .i64 0))), .zc, .zc, .zc]]), none, []⟩,
    ⟨none, 165, (.store 5 (.t 10) (.t 43)), none, [6, 4, 2, 0, 1, 2, 3, 4, 6]⟩,
    ⟨(some 11), 11, (.mv (.t 44)), none, [5, 7, 0, 1, 2, 3, 4, 5, 6, 7]⟩])
  (.seq (.seq (.reg [⟨(some 45), 45, (.mv (.t 11)), none, []⟩,
    ⟨(some 46), 46, (.bin false .eql (.t 45) (.k (.c (.s (.pv (.int .i64 0)))))), none, [0]⟩,
    ⟨(some 47), 47, (.mv (.t 46)), none, [1]⟩,
    ⟨(some 48), 48, (.fld 1 (.t 9)), (some (47, true)), [2]⟩,
    ⟨(some 49), 49, (.load false 1 (.t 48)), (some (47, true)), [3, 2]⟩,
    ⟨(some 50), 50, (.bin false .geq (.t 49) (.k (.c (.s (.pv (.int .i64 1)))))), (some (47, true)), [4, 2]⟩,
    ⟨(some 51), 51, (.pick (.t 47) (.t 50) (.k (.c (.s (.pv (.bool false)))))), none, [2, 5]⟩,
    ⟨(some 52), 52, (.mv (.t 51)), none, [6, 2]⟩,
    ⟨(some 53), 53, (.fld 1 (.t 9)), (some (52, true)), [7]⟩,
    ⟨(some 54), 54, (.load false 1 (.t 53)), (some (52, true)), [8, 7]⟩,
    ⟨(some 55), 55, (.bin false .leq (.t 54) (.k (.c (.s (.pv (.int .i64 16)))))), (some (52, true)), [9, 7]⟩,
    ⟨(some 56), 56, (.pick (.t 52) (.t 55) (.k (.c (.s (.pv (.bool false)))))), none, [7, 10]⟩])
  (.cond (.t 56) (.seq (.reg [⟨(some 57), 57, (.fld 0 (.t 9)), none, []⟩,
    ⟨(some 58), 58, (.load false 1 (.t 57)), none, [0]⟩])
  (.block 2 (.seq (.reg [⟨(some 60), 60, (.bin false .eql (.t 58) (.k (.c (.s (.pv (.int .i64 1)))))), none, []⟩,
    ⟨(some 59), 59, (.mv (.t 60)), none, [0]⟩])
  (.cond (.t 59) (.reg [⟨(some 61), 61, (.fld 1 (.t 9)), none, []⟩,
    ⟨(some 62), 62, (.load false 1 (.t 61)), none, [0]⟩,
    ⟨(some 63), 63, (.aidx 17 1 (.t 7) (.t 62)), none, [1]⟩,
    ⟨(some 64), 64, (.load false 1 (.t 63)), none, [2]⟩,
    ⟨(some 65), 65, (.bin false .add (.t 64) (.k (.c (.s (.pv (.int .i64 1)))))), none, [3]⟩,
    ⟨(some 66), 66, (.aidx 17 1 (.t 7) (.t 62)), none, [1, 0, 1, 2, 3, 4]⟩,
    ⟨none, 164, (.store 1 (.t 66) (.t 65)), none, [5, 4, 0, 1, 2, 3, 4]⟩]) (.seq (.reg [⟨(some 68), 68, (.bin false .eql (.t 58) (.k (.c (.s (.pv (.int .i64 2)))))), none, []⟩,
    ⟨(some 67), 67, (.mv (.t 68)), none, [0]⟩])
  (.cond (.t 67) (.reg [⟨(some 69), 69, (.fld 1 (.t 9)), none, []⟩,
    ⟨(some 70), 70, (.load false 1 (.t 69)), none, [0]⟩,
    ⟨(some 71), 71, (.aidx 17 1 (.t 7) (.t 70)), none, [1]⟩,
    ⟨(some 72), 72, (.load false 1 (.t 71)), none, [2]⟩,
    ⟨(some 73), 73, (.bin false .sub (.t 72) (.k (.c (.s (.pv (.int .i64 1)))))), none, [3]⟩,
    ⟨(some 74), 74, (.aidx 17 1 (.t 7) (.t 70)), none, [1, 0, 1, 2, 3, 4]⟩,
    ⟨none, 164, (.store 1 (.t 74) (.t 73)), none, [5, 4, 0, 1, 2, 3, 4]⟩]) .skip)))))) .skip))
  (.seq (.seq (.reg [⟨(some 75), 75, (.mv (.t 11)), none, []⟩,
    ⟨(some 76), 76, (.bin false .eql (.t 75) (.k (.c (.s (.pv (.int .i64 0)))))), none, [0]⟩,
    ⟨(some 77), 77, (.mv (.t 76)), none, [1]⟩,
    ⟨(some 78), 78, (.fld 0 (.t 9)), (some (77, true)), [2]⟩,
    ⟨(some 79), 79, (.load false 1 (.t 78)), (some (77, true)), [3, 2]⟩,
    ⟨(some 80), 80, (.bin false .eql (.t 79) (.k (.c (.s (.pv (.int .i64 6)))))), (some (77, true)), [4, 2]⟩,
    ⟨(some 81), 81, (.pick (.t 77) (.t 80) (.k (.c (.s (.pv (.bool false)))))), none, [2, 5]⟩,
    ⟨(some 82), 82, (.mv (.t 81)), none, [6, 2]⟩,
    ⟨(some 83), 83, (.fld 4 (.t 9)), (some (82, true)), [7]⟩,
    ⟨(some 84), 84, (.fld 0 (.t 83)), (some (82, true)), [8, 7]⟩,
    ⟨(some 85), 85, (.load false 1 (.t 84)), (some (82, true)), [9, 7]⟩,
    ⟨(some 86), 86, (.bin false .geq (.t 85) (.k (.c (.s (.pv (.int .i64 1)))))), (some (82, true)), [10, 7]⟩,
    ⟨(some 87), 87, (.pick (.t 82) (.t 86) (.k (.c (.s (.pv (.bool false)))))), none, [7, 11]⟩,
    ⟨(some 88), 88, (.mv (.t 87)), none, [12, 7]⟩,
    ⟨(some 89), 89, (.fld 4 (.t 9)), (some (88, true)), [13]⟩,
    ⟨(some 90), 90, (.fld 0 (.t 89)), (some (88, true)), [14, 13]⟩,
    ⟨(some 91), 91, (.load false 1 (.t 90)), (some (88, true)), [15, 13]⟩,
    ⟨(some 92), 92, (.bin false .leq (.t 91) (.k (.c (.s (.pv (.int .i64 16)))))), (some (88, true)), [16, 13]⟩,
    ⟨(some 93), 93, (.pick (.t 88) (.t 92) (.k (.c (.s (.pv (.bool false)))))), none, [13, 17]⟩])
  (.cond (.t 93) (.reg [⟨(some 94), 94, (.fld 4 (.t 9)), none, []⟩,
    ⟨(some 95), 95, (.fld 0 (.t 94)), none, [0]⟩,
    ⟨(some 96), 96, (.load false 1 (.t 95)), none, [1]⟩,
    ⟨(some 97), 97, (.aidx 17 1 (.t 7) (.t 96)), none, [2, 0, 1, 2]⟩,
    ⟨none, 162, (.store 1 (.t 97) (.k (.c (.s (.pv (.int .i64 1)))))), none, [3, 0, 1, 2]⟩]) .skip))
  (.seq (.reg [⟨(some 98), 98, (.load true 5 (.t 10)), none, []⟩,
    ⟨none, 159, (.store 5 (.t 5) (.t 98)), none, [0, 0]⟩])
  (.seq (.seq (.reg [⟨(some 99), 99, (.load true 5 (.t 5)), none, []⟩,
    ⟨(some 100), 100, (.call 15 [(.t 99)]), none, [0]⟩,
    ⟨(some 101), 101, (.not (.t 100)), none, [1]⟩])
  (.cond (.t 101) (.seq (.reg [⟨(some 4), 4, (.mv (.k (.c (.s (.pv (.bool false)))))), none, []⟩])
  .ret) .skip))
  (.seq (.reg [⟨(some 12), 12, (.mv (.k (.c (.s (.pv (.int .i64 1)))))), none, []⟩])
  (.block 3 (.loop (.seq (.seq (.reg [⟨(some 102), 102, (.mv (.t 12)), none, []⟩,
    ⟨(some 103), 103, (.bin false .lss (.t 102) (.k (.c (.s (.pv (.int .i64 17)))))), none, [0]⟩])
  (.cond (.t 103) .skip (.exit 3)))
  (.seq (.block 4 (.seq (.reg [⟨(some 107), 107, (.load true 5 (.t 5)), none, []⟩,
    ⟨(some 108), 108, (.mv (.t 12)), none, []⟩,
    ⟨(some 109), 109, (.call 16 [(.t 107), (.t 108)]), none, [0, 1]⟩,
    ⟨(some 106), 106, (.mv (.t 109)), none, [2]⟩,
    ⟨(some 110), 110, (.ext 0 (.t 106)), none, [3]⟩,
    ⟨(some 111), 111, (.ext 1 (.t 106)), none, [3]⟩,
    ⟨(some 13), 13, (.mv (.t 110)), none, [4, 2, 0, 1, 2, 3, 4]⟩,
    ⟨(some 14), 14, (.mv (.t 111)), none, [5, 6, 0, 1, 2, 3, 4, 5, 6]⟩])
  (.seq (.draw [⟨(some 112), 112, (.mv (.t 12)), none, []⟩,
    ⟨(some 113), 113, (.aidx 17 1 (.t 7) (.t 112)), none, [0]⟩,
    ⟨(some 114), 114, (.load false 1 (.t 113)), none, [1]⟩,
    ⟨(some 115), 115, (.bin false .gtr (.t 114) (.k (.c (.s (.pv (.int .i64 0)))))), none, [2]⟩,
    ⟨(some 116), 116, (.mv (.t 115)), none, [3]⟩,
    ⟨(some 117), 117, (.mv (.t 14)), (some (116, true)), [4]⟩,
    ⟨(some 118), 118, (.not (.t 117)), (some (116, true)), [5, 4]⟩,
    ⟨(some 119), 119, (.pick (.t 116) (.t 118) (.k (.c (.s (.pv (.bool false)))))), none, [4, 6]⟩,
    ⟨(some 120), 120, (.mv (.t 119)), none, [7, 4]⟩,
    ⟨(some 121), 121, (.mv (.t 14)), (some (120, false)), [8]⟩,
    ⟨(some 122), 122, (.mv (.t 121)), (some (120, false)), [9, 8, 8]⟩,
    ⟨(some 123), 123, (.mv (.t 13)), (some (122, true)), [10]⟩,
    ⟨(some 124), 124, (.bin false .lss (.t 123) (.k (.c (.s (.pv (.int .i64 0)))))), (some (122, true)), [11, 10]⟩,
    ⟨(some 125), 125, (.mv (.t 124)), (some (122, true)), [12, 10, 10]⟩,
    ⟨(some 126), 126, (.mv (.t 13)), (some (125, false)), [13]⟩,
    ⟨(some 127), 127, (.fld 3 (.t 5)), (some (125, false)), [13]⟩,
    ⟨(some 128), 128, (.load false 1 (.t 127)), (some (125, false)), [15, 13]⟩,
    ⟨(some 129), 129, (.len (.t 128)), (some (125, false)), [16, 13]⟩,
    ⟨(some 130), 130, (.bin false .geq (.t 126) (.t 129)), (some (125, false)), [14, 17, 13]⟩,
    ⟨(some 131), 131, (.pick (.t 125) (.k (.c (.s (.pv (.bool true))))) (.t 130)), (some (122, true)), [13, 18, 10]⟩,
    ⟨(some 132), 132, (.mv (.t 131)), (some (122, true)), [19, 13, 10]⟩,
    ⟨(some 133), 133, (.fld 3 (.t 5)), (some (132, false)), [20]⟩,
    ⟨(some 134), 134, (.load false 1 (.t 133)), (some (132, false)), [21, 20]⟩,
    ⟨(some 135), 135, (.mv (.t 13)), (some (132, false)), [20]⟩,
    ⟨(some 136), 136, (.idx 3 (.t 134) (.t 135)), (some (132, false)), [22, 23, 20]⟩,
    ⟨(some 137), 137, (.fld 0 (.t 136)), (some (132, false)), [24, 20]⟩,
    ⟨(some 138), 138, (.load false 1 (.t 137)), (some (132, false)), [25, 20]⟩,
    ⟨(some 139), 139, (.mv (.t 12)), (some (132, false)), [20]⟩,
    ⟨(some 140), 140, (.bin false .neq (.t 138) (.t 139)), (some (132, false)), [26, 27, 20]⟩,
    ⟨(some 141), 141, (.pick (.t 132) (.k (.c (.s (.pv (.bool true))))) (.t 140)), (some (122, true)), [20, 28, 10]⟩,
    ⟨(some 142), 142, (.mv (.t 141)), (some (122, true)), [29, 20, 10]⟩,
    ⟨(some 143), 143, (.fld 0 (.t 5)), (some (142, false)), [30]⟩,
    ⟨(some 144), 144, (.fld 0 (.t 143)), (some (142, false)), [31, 30]⟩,
    ⟨(some 145), 145, (.load false 1 (.t 144)), (some (142, false)), [32, 30]⟩,
    ⟨(some 146), 146, (.mv (.t 13)), (some (142, false)), [30]⟩,
    ⟨(some 147), 147, (.idx 3 (.t 145) (.t 146)), (some (142, false)), [33, 34, 30]⟩,
    ⟨(some 148), 148, (.fld 1 (.t 147)), (some (142, false)), [35, 30]⟩,
    ⟨(some 149), 149, (.load false 1 (.t 148)), (some (142, false)), [36, 30]⟩,
    ⟨(some 150), 150, (.mv (.t 12)), (some (142, false)), [30]⟩,
    ⟨(some 151), 151, (.aidx 17 1 (.t 7) (.t 150)), (some (142, false)), [38, 30]⟩,
    ⟨(some 152), 152, (.load false 1 (.t 151)), (some (142, false)), [39, 30]⟩,
    ⟨(some 153), 153, (.bin false .neq (.t 149) (.t 152)), (some (142, false)), [37, 40, 30]⟩,
    ⟨(some 154), 154, (.pick (.t 142) (.k (.c (.s (.pv (.bool true))))) (.t 153)), (some (122, true)), [30, 41, 10]⟩,
    ⟨(some 155), 155, (.pick (.t 122) (.t 154) (.k (.c (.s (.pv (.bool false)))))), (some (120, false)), [10, 42, 8]⟩,
    ⟨(some 156), 156, (.pick (.t 120) (.k (.c (.s (.pv (.bool true))))) (.t 155)), none, [8, 43]⟩])
  (.cond (.t 156) (.seq (.reg [⟨(some 4), 4, (.mv (.k (.c (.s (.pv (.bool false)))))), none, []⟩])
  .ret) .skip))))
  (.reg [⟨(some 104), 104, (.mv (.t 12)), none, []⟩,
    ⟨(some 105), 105, (.bin false .add (.t 104) (.k (.c (.s (.pv (.int .i64 1)))))), none, [0]⟩,
    ⟨(some 12), 12, (.mv (.t 105)), none, [1, 0, 1]⟩])))))))))))))
  (.reg [⟨(some 33), 33, (.mv (.t 8)), none, []⟩,
    ⟨(some 34), 34, (.bin false .add (.t 33) (.k (.c (.s (.pv (.int .i64 1)))))), none, [0]⟩,
    ⟨(some 8), 8, (.mv (.t 34)), none, [1, 0, 1]⟩]))))))
  (.seq (.reg [⟨(some 157), 157, (.call 17 []), none, []⟩,
    ⟨(some 4), 4, (.mv (.t 157)), none, [0, 0, 0]⟩])
  .ret))))))
theorem fn3 : FnIs Try.prog 3 ac3 [(.t 4)] 158 := ⟨Try.f3, Try.func3, by kernel_rfl, by kernel_rfl, by kernel_rfl⟩
/- lockkeeper/lockkeeperlaw15.FramesRoom -/
def ac4 : ACode := (.seq (.reg [⟨(some 1), 1, (.box 32 5 (.t 0)), none, []⟩,
    ⟨(some 2), 2, (.mv (.k (.c (.s (.pv (.bool false)))))), none, []⟩])
  (.seq (.reg [⟨(some 17), 17, (.load true 5 (.t 1)), none, []⟩,
    ⟨(some 18), 18, (.call 18 [(.t 17)]), none, [0]⟩,
    ⟨(some 16), 16, (.mv (.t 18)), none, [1]⟩,
    ⟨(some 19), 19, (.ext 0 (.t 16)), none, [2]⟩,
    ⟨(some 20), 20, (.ext 1 (.t 16)), none, [2]⟩,
    ⟨(some 3), 3, (.mk 57 5 [[.zc, (.s (.pv (.int .i64 0))), .zc, .zc, .zc]]), none, []⟩,
    ⟨none, 142, (.store 5 (.t 3) (.t 19)), none, [5, 3, 1, 0, 1, 2, 3, 5]⟩,
    ⟨(some 4), 4, (.mv (.t 20)), none, [4, 6, 0, 1, 2, 3, 4, 5, 6]⟩])
  (.seq (.seq (.reg [⟨(some 21), 21, (.mv (.t 4)), none, []⟩,
    ⟨(some 22), 22, (.not (.t 21)), none, [0]⟩,
    ⟨(some 23), 23, (.mv (.t 22)), none, [1]⟩,
    ⟨(some 24), 24, (.load true 5 (.t 3)), (some (23, false)), [2]⟩,
    ⟨(some 25), 25, (.call 19 [(.t 24)]), (some (23, false)), [3, 2, 2]⟩,
    ⟨(some 26), 26, (.not (.t 25)), (some (23, false)), [4, 2]⟩,
    ⟨(some 27), 27, (.pick (.t 23) (.k (.c (.s (.pv (.bool true))))) (.t 26)), none, [2, 5]⟩])
  (.cond (.t 27) (.seq (.reg [⟨(some 28), 28, (.call 17 []), none, []⟩,
    ⟨(some 2), 2, (.mv (.t 28)), none, [0, 0, 0]⟩])
  .ret) .skip))
  (.seq (.reg [⟨(some 5), 5, (.mv (.k (.c (.s (.pv (.bool false)))))), none, []⟩,
    ⟨(some 6), 6, (.mv (.k (.c (.s (.pv (.bool true)))))), none, [0, 0]⟩])
  (.seq (.seq (.reg [⟨(some 29), 29, (.fld 3 (.t 1)), none, []⟩,
    ⟨(some 30), 30, (.load false 1 (.t 29)), none, [0]⟩,
    ⟨(some 31), 31, (.len (.t 30)), none, [1]⟩,
    ⟨(some 32), 32, (.mv (.k (.c (.s (.pv (.int .i64 0)))))), none, []⟩])
  (.block 0 (.loop (.seq (.reg [⟨(some 33), 33, (.bin false .lss (.t 32) (.t 31)), none, []⟩])
  (.seq (.cond (.t 33) .skip (.exit 0))
  (.seq (.block 1 (.seq (.reg [⟨(some 34), 34, (.mv (.t 32)), none, []⟩,
    ⟨(some 35), 35, (.idx 3 (.t 30) (.t 32)), none, []⟩,
    ⟨(some 36), 36, (.load true 3 (.t 35)), none, [1]⟩,
    ⟨(some 8), 8, (.mk 38 3 [[(.s (.pv (.int .i64 0))), (.s (.pv (.int .i64 0))), (.s (.pv (.string ⟨#[]⟩)))]]), none, []⟩,
    ⟨(some 7), 7, (.mv (.t 34)), none, [0, 0, 1, 2, 3]⟩,
    ⟨none, 141, (.store 3 (.t 8) (.t 36)), none, [3, 2, 4, 0, 1, 2, 3, 4]⟩])
  (.seq (.reg [⟨(some 37), 37, (.mv (.t 5)), none, []⟩,
    ⟨(some 38), 38, (.mv (.t 37)), none, [0]⟩,
    ⟨(some 39), 39, (.fld 0 (.t 8)), (some (38, false)), [1]⟩,
    ⟨(some 40), 40, (.load false 1 (.t 39)), (some (38, false)), [2, 1]⟩,
    ⟨(some 41), 41, (.bin false .eql (.t 40) (.k (.c (.s (.pv (.int .i64 0)))))), (some (38, false)), [3, 1]⟩,
    ⟨(some 42), 42, (.pick (.t 38) (.k (.c (.s (.pv (.bool true))))) (.t 41)), none, [1, 4]⟩,
    ⟨(some 5), 5, (.mv (.t 42)), none, [5, 1, 0, 1, 2, 3, 4, 5]⟩])
  (.reg [⟨(some 43), 43, (.mv (.t 6)), none, []⟩,
    ⟨(some 44), 44, (.mv (.t 43)), none, [0]⟩,
    ⟨(some 45), 45, (.fld 0 (.t 1)), (some (44, true)), [1]⟩,
    ⟨(some 46), 46, (.fld 0 (.t 45)), (some (44, true)), [2, 1]⟩,
    ⟨(some 47), 47, (.load false 1 (.t 46)), (some (44, true)), [3, 1]⟩,
    ⟨(some 48), 48, (.mv (.t 7)), (some (44, true)), [1]⟩,
    ⟨(some 49), 49, (.idx 3 (.t 47) (.t 48)), (some (44, true)), [4, 5, 1]⟩,
    ⟨(some 50), 50, (.fld 1 (.t 49)), (some (44, true)), [6, 1]⟩,
    ⟨(some 51), 51, (.load false 1 (.t 50)), (some (44, true)), [7, 1]⟩,
    ⟨(some 52), 52, (.bin false .gtr (.t 51) (.k (.c (.s (.pv (.int .i64 0)))))), (some (44, true)), [8, 1]⟩,
    ⟨(some 53), 53, (.pick (.t 44) (.t 52) (.k (.c (.s (.pv (.bool false)))))), none, [1, 9]⟩,
    ⟨(some 6), 6, (.mv (.t 53)), none, [10, 1, 0, 1, 2, 3, 4, 5, 6, 7, 8, 9, 10]⟩]))))
  (.reg [⟨(some 54), 54, (.bin false .add (.t 32) (.k (.c (.s (.pv (.int .i64 1)))))), none, []⟩,
    ⟨(some 32), 32, (.mv (.t 54)), none, [0]⟩])))))))
  (.seq (.reg [⟨(some 56), 56, (.load true 5 (.t 1)), none, []⟩,
    ⟨(some 57), 57, (.call 20 [(.t 56)]), none, [0]⟩,
    ⟨(some 55), 55, (.mv (.t 57)), none, [1]⟩,
    ⟨(some 58), 58, (.ext 0 (.t 55)), none, [2]⟩,
    ⟨(some 59), 59, (.ext 1 (.t 55)), none, [2]⟩,
    ⟨(some 60), 60, (.ext 2 (.t 55)), none, [2]⟩,
    ⟨(some 61), 61, (.ext 3 (.t 55)), none, [2]⟩,
    ⟨(some 9), 9, (.mk 32 5 [[.zc, (.s (.pv (.int .i64 0))), .zc, .zc, .zc]]), none, []⟩,
    ⟨(some 10), 10, (.mk 38 3 [[(.s (.pv (.int .i64 0))), (.s (.pv (.int .i64 0))), (.s (.pv (.string ⟨#[]⟩)))]]), none, []⟩,
    ⟨none, 145, (.store 5 (.t 9) (.t 58)), none, [7, 3, 1, 0, 1, 2, 3, 7, 8]⟩,
    ⟨none, 146, (.store 3 (.t 10) (.t 59)), none, [8, 4, 9, 0, 1, 2, 3, 4, 7, 8, 9]⟩,
    ⟨(some 11), 11, (.mv (.t 60)), none, [5, 10, 0, 1, 2, 3, 4, 5, 7, 8, 9, 10]⟩,
    ⟨(some 12), 12, (.mv (.t 61)), none, [6, 11, 0, 1, 2, 3, 4, 5, 6, 7, 8, 9, 10, 11]⟩])
  (.seq (.seq (.reg [⟨(some 62), 62, (.mv (.t 5)), none, []⟩])
  (.cond (.t 62) (.seq (.reg [⟨(some 63), 63, (.load true 3 (.t 10)), none, []⟩,
    ⟨(some 64), 64, (.build [(.s (.pv (.int .i64 0))), (.s (.pv (.int .i64 0))), (.s (.pv (.string ⟨#[]⟩)))] []), none, []⟩,
    ⟨(some 65), 65, (.eqs false 38 (.t 63) (.t 64)), none, [0, 1]⟩,
    ⟨(some 66), 66, (.mv (.t 65)), none, [2]⟩,
    ⟨(some 67), 67, (.mv (.t 11)), (some (66, true)), [3]⟩,
    ⟨(some 68), 68, (.not (.t 67)), (some (66, true)), [4, 3]⟩,
    ⟨(some 69), 69, (.pick (.t 66) (.t 68) (.k (.c (.s (.pv (.bool false)))))), none, [3, 5]⟩,
    ⟨(some 70), 70, (.mv (.t 69)), none, [6, 3]⟩,
    ⟨(some 71), 71, (.mv (.t 12)), (some (70, true)), [7]⟩,
    ⟨(some 72), 72, (.bin false .eql (.t 71) (.k (.c (.s (.pv (.int .i64 0)))))), (some (70, true)), [8, 7]⟩,
    ⟨(some 73), 73, (.pick (.t 70) (.t 72) (.k (.c (.s (.pv (.bool false)))))), none, [7, 9]⟩,
    ⟨(some 74), 74, (.mv (.t 73)), none, [10, 7]⟩,
    ⟨(some 75), 75, (.call 17 []), (some (74, true)), [11, 11]⟩,
    ⟨(some 76), 76, (.pick (.t 74) (.t 75) (.k (.c (.s (.pv (.bool false)))))), none, [11, 12]⟩,
    ⟨(some 2), 2, (.mv (.t 76)), none, [13, 12, 0, 1, 2, 3, 4, 5, 6, 7, 8, 9, 10, 11, 12, 13]⟩])
  .ret) .skip))
  (.seq (.seq (.reg [⟨(some 77), 77, (.mv (.t 6)), none, []⟩])
  (.cond (.t 77) (.seq (.reg [⟨(some 78), 78, (.mv (.t 12)), none, []⟩,
    ⟨(some 79), 79, (.bin false .eql (.t 78) (.k (.c (.s (.pv (.int .i64 6)))))), none, [0]⟩,
    ⟨(some 80), 80, (.mv (.t 79)), none, [1]⟩,
    ⟨(some 81), 81, (.load true 3 (.t 10)), (some (80, true)), [2]⟩,
    ⟨(some 82), 82, (.build [(.s (.pv (.int .i64 0))), (.s (.pv (.int .i64 0))), (.s (.pv (.string ⟨#[]⟩)))] []), (some (80, true)), [2]⟩,
    ⟨(some 83), 83, (.eqs false 38 (.t 81) (.t 82)), (some (80, true)), [3, 4, 2]⟩,
    ⟨(some 84), 84, (.pick (.t 80) (.t 83) (.k (.c (.s (.pv (.bool false)))))), none, [2, 5]⟩,
    ⟨(some 85), 85, (.mv (.t 84)), none, [6, 2]⟩,
    ⟨(some 86), 86, (.call 17 []), (some (85, true)), [7, 7]⟩,
    ⟨(some 87), 87, (.pick (.t 85) (.t 86) (.k (.c (.s (.pv (.bool false)))))), none, [7, 8]⟩,
    ⟨(some 2), 2, (.mv (.t 87)), none, [9, 8, 0, 1, 2, 3, 4, 5, 6, 7, 8, 9]⟩])
  .ret) .skip))
  (.seq (.reg [⟨(some 88), 88, (.load true 5 (.t 3)), none, []⟩,
    ⟨(some 89), 89, (.fld 0 (.t 10)), none, []⟩,
    ⟨(some 90), 90, (.load false 1 (.t 89)), none, [1]⟩,
    ⟨(some 91), 91, (.call 21 [(.t 88), (.t 90)]), none, [0, 2]⟩,
    ⟨(some 13), 13, (.mv (.t 91)), none, [3, 3, 0, 1, 2, 3]⟩])
  (.seq (.reg [⟨(some 93), 93, (.load true 5 (.t 9)), none, []⟩,
    ⟨(some 94), 94, (.fld 0 (.t 10)), none, []⟩,
    ⟨(some 95), 95, (.load false 1 (.t 94)), none, [1]⟩,
    ⟨(some 96), 96, (.call 16 [(.t 93), (.t 95)]), none, [0, 2]⟩,
    ⟨(some 92), 92, (.mv (.t 96)), none, [3]⟩,
    ⟨(some 97), 97, (.ext 0 (.t 92)), none, [4]⟩,
    ⟨(some 98), 98, (.ext 1 (.t 92)), none, [4]⟩,
    ⟨(some 14), 14, (.mv (.t 97)), none, [5, 3, 0, 1, 2, 3, 4, 5]⟩,
    ⟨(some 15), 15, (.mv (.t 98)), none, [6, 7, 0, 1, 2, 3, 4, 5, 6, 7]⟩])
  (.seq (.draw [⟨(some 99), 99, (.mv (.t 12)), none, []⟩,
    ⟨(some 100), 100, (.bin false .eql (.t 99) (.k (.c (.s (.pv (.int .i64 0)))))), none, [0]⟩,
    ⟨(some 101), 101, (.mv (.t 100)), none, [1]⟩,
    ⟨(some 102), 102, (.mv (.t 13)), (some (101, true)), [2]⟩,
    ⟨(some 103), 103, (.bin false .geq (.t 102) (.k (.c (.s (.pv (.int .i64 0)))))), (some (101, true)), [3, 2]⟩,
    ⟨(some 104), 104, (.pick (.t 101) (.t 103) (.k (.c (.s (.pv (.bool false)))))), none, [2, 4]⟩,
    ⟨(some 105), 105, (.mv (.t 104)), none, [5, 2]⟩,
    ⟨(some 106), 106, (.fld 3 (.t 1)), (some (105, true)), [6]⟩,
    ⟨(some 107), 107, (.load false 1 (.t 106)), (some (105, true)), [7, 6]⟩,
    ⟨(some 108), 108, (.mv (.t 13)), (some (105, true)), [6]⟩,
    ⟨(some 109), 109, (.idx 3 (.t 107) (.t 108)), (some (105, true)), [8, 9, 6]⟩,
    ⟨(some 110), 110, (.load true 3 (.t 109)), (some (105, true)), [10, 6]⟩,
    ⟨(some 111), 111, (.load true 3 (.t 10)), (some (105, true)), [6]⟩,
    ⟨(some 112), 112, (.eqs false 38 (.t 110) (.t 111)), (some (105, true)), [11, 12, 6]⟩,
    ⟨(some 113), 113, (.pick (.t 105) (.t 112) (.k (.c (.s (.pv (.bool false)))))), none, [6, 13]⟩,
    ⟨(some 114), 114, (.mv (.t 113)), none, [14, 6]⟩,
    ⟨(some 115), 115, (.fld 0 (.t 1)), (some (114, true)), [15]⟩,
    ⟨(some 116), 116, (.fld 0 (.t 115)), (some (114, true)), [16, 15]⟩,
    ⟨(some 117), 117, (.load false 1 (.t 116)), (some (114, true)), [17, 15]⟩,
    ⟨(some 118), 118, (.mv (.t 13)), (some (114, true)), [15]⟩,
    ⟨(some 119), 119, (.idx 3 (.t 117) (.t 118)), (some (114, true)), [18, 19, 15]⟩,
    ⟨(some 120), 120, (.fld 1 (.t 119)), (some (114, true)), [20, 15]⟩,
    ⟨(some 121), 121, (.load false 1 (.t 120)), (some (114, true)), [21, 15]⟩,
    ⟨(some 122), 122, (.bin false .eql (.t 121) (.k (.c (.s (.pv (.int .i64 0)))))), (some (114, true)), [22, 15]⟩,
    ⟨(some 123), 123, (.pick (.t 114) (.t 122) (.k (.c (.s (.pv (.bool false)))))), none, [15, 23]⟩,
    ⟨(some 124), 124, (.mv (.t 123)), none, [24, 15]⟩,
    ⟨(some 125), 125, (.mv (.t 15)), (some (124, true)), [25]⟩,
    ⟨(some 126), 126, (.mv (.t 11)), (some (124, true)), [25]⟩,
    ⟨(some 127), 127, (.bin true .eql (.t 125) (.t 126)), (some (124, true)), [26, 27, 25]⟩,
    ⟨(some 128), 128, (.pick (.t 124) (.t 127) (.k (.c (.s (.pv (.bool false)))))), none, [25, 28]⟩,
    ⟨(some 129), 129, (.mv (.t 128)), none, [29, 25]⟩,
    ⟨(some 130), 130, (.load true 5 (.t 9)), (some (129, true)), [30]⟩,
    ⟨(some 131), 131, (.call 15 [(.t 130)]), (some (129, true)), [31, 30, 30]⟩,
    ⟨(some 132), 132, (.pick (.t 129) (.t 131) (.k (.c (.s (.pv (.bool false)))))), none, [30, 32]⟩,
    ⟨(some 133), 133, (.mv (.t 132)), none, [33, 32]⟩,
    ⟨(some 134), 134, (.call 17 []), (some (133, true)), [34, 34]⟩,
    ⟨(some 135), 135, (.pick (.t 133) (.t 134) (.k (.c (.s (.pv (.bool false)))))), none, [34, 35]⟩,
    ⟨(some 2), 2, (.mv (.t 135)), none, [36, 35, 0, 1, 2, 3, 4, 5, 6, 7, 8, 9, 10, 11, 12, 13, 14, 15, 16, 17, 18, 19, 20, 21, 22, 23, 24, 25, 26, 27, 28, 29, 30, 31, 32, 33, 34, 35, 36]⟩])
  .ret)))))))))))
theorem fn4 : FnIs Try.prog 4 ac4 [(.t 2)] 136 := ⟨Try.f4, Try.func4, by kernel_rfl, by kernel_rfl, by kernel_rfl⟩
/- lockkeeper/lockkeeperlaw15.FramesBack -/
def ac5 : ACode := (.seq (.reg [⟨(some 3), 3, (.box 32 5 (.t 0)), none, []⟩,
    ⟨(some 5), 5, (.box 38 3 (.t 2)), none, []⟩,
    ⟨(some 6), 6, (.mv (.k (.c (.s (.pv (.bool false)))))), none, []⟩])
  (.seq (.reg [⟨(some 27), 27, (.load true 5 (.t 3)), none, []⟩,
    ⟨(some 28), 28, (.call 18 [(.t 27)]), none, [0]⟩,
    ⟨(some 26), 26, (.mv (.t 28)), none, [1]⟩,
    ⟨(some 29), 29, (.ext 0 (.t 26)), none, [2]⟩,
    ⟨(some 30), 30, (.ext 1 (.t 26)), none, [2]⟩,
    ⟨(some 7), 7, (.mk 57 5 [[.zc, (.s (.pv (.int .i64 0))), .zc, .zc, .zc]]), none, []⟩,
    ⟨none, 194, (.store 5 (.t 7) (.t 29)), none, [5, 3, 1, 0, 1, 2, 3, 5]⟩,
    ⟨(some 8), 8, (.mv (.t 30)), none, [4, 6, 0, 1, 2, 3, 4, 5, 6]⟩])
  (.seq (.seq (.reg [⟨(some 31), 31, (.mv (.t 8)), none, []⟩,
    ⟨(some 32), 32, (.not (.t 31)), none, [0]⟩,
    ⟨(some 33), 33, (.mv (.t 32)), none, [1]⟩,
    ⟨(some 34), 34, (.fld 2 (.t 5)), (some (33, false)), [2]⟩,
    ⟨(some 35), 35, (.load false 1 (.t 34)), (some (33, false)), [3, 2]⟩,
    ⟨(some 36), 36, (.slen (.t 35)), (some (33, false)), [4, 2]⟩,
    ⟨(some 37), 37, (.bin false .gtr (.t 36) (.k (.c (.s (.pv (.int .i64 100)))))), (some (33, false)), [5, 2]⟩,
    ⟨(some 38), 38, (.pick (.t 33) (.k (.c (.s (.pv (.bool true))))) (.t 37)), none, [2, 6]⟩])
  (.cond (.t 38) (.seq (.reg [⟨(some 39), 39, (.call 17 []), none, []⟩,
    ⟨(some 6), 6, (.mv (.t 39)), none, [0, 0, 0]⟩])
  .ret) .skip))
  (.seq (.reg [⟨(some 41), 41, (.load true 5 (.t 3)), none, []⟩,
    ⟨(some 42), 42, (.mv (.t 1)), none, []⟩,
    ⟨(some 43), 43, (.call 22 [(.t 41), (.t 42)]), none, [0, 1]⟩,
    ⟨(some 40), 40, (.mv (.t 43)), none, [2]⟩,
    ⟨(some 44), 44, (.ext 0 (.t 40)), none, [3]⟩,
    ⟨(some 45), 45, (.ext 1 (.t 40)), none, [3]⟩,
    ⟨(some 9), 9, (.mk 32 5 [[.zc, (.s (.pv (.int .i64 0))), .zc, .zc, .zc]]), none, []⟩,
    ⟨none, 195, (.store 5 (.t 9) (.t 44)), none, [6, 4, 2, 0, 1, 2, 3, 4, 6]⟩,
    ⟨(some 10), 10, (.mv (.t 45)), none, [5, 7, 0, 1, 2, 3, 4, 5, 6, 7]⟩])
  (.seq (.seq (.reg [⟨(some 46), 46, (.mv (.t 10)), none, []⟩,
    ⟨(some 47), 47, (.bin false .eql (.t 46) (.k (.c (.s (.pv (.int .i64 0)))))), none, [0]⟩])
  (.cond (.t 47) (.seq (.reg [⟨(some 49), 49, (.load true 5 (.t 9)), none, []⟩,
    ⟨(some 50), 50, (.mv (.t 1)), none, []⟩,
    ⟨(some 51), 51, (.call 23 [(.t 49), (.t 50)]), none, [0, 1]⟩,
    ⟨(some 48), 48, (.mv (.t 51)), none, [2]⟩,
    ⟨(some 52), 52, (.ext 0 (.t 48)), none, [3]⟩,
    ⟨(some 53), 53, (.ext 1 (.t 48)), none, [3]⟩,
    ⟨(some 11), 11, (.mk 32 5 [[.zc, (.s (.pv (.int .i64 0))), .zc, .zc, .zc]]), none, []⟩,
    ⟨none, 195, (.store 5 (.t 11) (.t 52)), none, [6, 4, 2, 0, 1, 2, 3, 4, 6]⟩,
    ⟨(some 12), 12, (.mv (.t 53)), none, [5, 7, 0, 1, 2, 3, 4, 5, 6, 7]⟩])
  (.seq (.reg [⟨(some 55), 55, (.load true 5 (.t 11)), none, []⟩,
    ⟨(some 56), 56, (.call 18 [(.t 55)]), none, [0]⟩,
    ⟨(some 54), 54, (.mv (.t 56)), none, [1]⟩,
    ⟨(some 57), 57, (.ext 0 (.t 54)), none, [2]⟩,
    ⟨(some 58), 58, (.ext 1 (.t 54)), none, [2]⟩,
    ⟨(some 13), 13, (.mk 57 5 [[.zc, (.s (.pv (.int .i64 0))), .zc, .zc, .zc]]), none, []⟩,
    ⟨none, 194, (.store 5 (.t 13) (.t 57)), none, [5, 3, 1, 0, 1, 2, 3, 5]⟩,
    ⟨(some 14), 14, (.mv (.t 58)), none, [4, 6, 0, 1, 2, 3, 4, 5, 6]⟩])
  (.seq (.reg [⟨(some 59), 59, (.load true 5 (.t 7)), none, []⟩,
    ⟨(some 60), 60, (.mv (.t 1)), none, []⟩,
    ⟨(some 61), 61, (.call 21 [(.t 59), (.t 60)]), none, [0, 1]⟩,
    ⟨(some 15), 15, (.mv (.t 61)), none, [2, 2, 0, 1, 2]⟩])
  (.seq (.seq (.reg [⟨(some 62), 62, (.mv (.t 12)), none, []⟩,
    ⟨(some 63), 63, (.bin false .neq (.t 62) (.k (.c (.s (.pv (.int .i64 0)))))), none, [0]⟩,
    ⟨(some 64), 64, (.mv (.t 63)), none, [1]⟩,
    ⟨(some 65), 65, (.mv (.t 14)), (some (64, false)), [2]⟩,
    ⟨(some 66), 66, (.not (.t 65)), (some (64, false)), [3, 2]⟩,
    ⟨(some 67), 67, (.pick (.t 64) (.k (.c (.s (.pv (.bool true))))) (.t 66)), none, [2, 4]⟩,
    ⟨(some 68), 68, (.mv (.t 67)), none, [5, 2]⟩,
    ⟨(some 69), 69, (.mv (.t 15)), (some (68, false)), [6]⟩,
    ⟨(some 70), 70, (.bin false .lss (.t 69) (.k (.c (.s (.pv (.int .i64 0)))))), (some (68, false)), [7, 6]⟩,
    ⟨(some 71), 71, (.pick (.t 68) (.k (.c (.s (.pv (.bool true))))) (.t 70)), none, [6, 8]⟩,
    ⟨(some 72), 72, (.mv (.t 71)), none, [9, 6]⟩,
    ⟨(some 73), 73, (.mv (.t 15)), (some (72, false)), [10]⟩,
    ⟨(some 74), 74, (.fld 0 (.t 13)), (some (72, false)), [10]⟩,
    ⟨(some 75), 75, (.fld 0 (.t 74)), (some (72, false)), [12, 10]⟩,
    ⟨(some 76), 76, (.load false 1 (.t 75)), (some (72, false)), [13, 10]⟩,
    ⟨(some 77), 77, (.len (.t 76)), (some (72, false)), [14, 10]⟩,
    ⟨(some 78), 78, (.bin false .geq (.t 73) (.t 77)), (some (72, false)), [11, 15, 10]⟩,
    ⟨(some 79), 79, (.pick (.t 72) (.k (.c (.s (.pv (.bool true))))) (.t 78)), none, [10, 16]⟩,
    ⟨(some 80), 80, (.mv (.t 79)), none, [17, 10]⟩,
    ⟨(some 81), 81, (.fld 0 (.t 13)), (some (80, false)), [18]⟩,
    ⟨(some 82), 82, (.fld 0 (.t 81)), (some (80, false)), [19, 18]⟩,
    ⟨(some 83), 83, (.load false 1 (.t 82)), (some (80, false)), [20, 18]⟩,
    ⟨(some 84), 84, (.mv (.t 15)), (some (80, false)), [18]⟩,
    ⟨(some 85), 85, (.idx 3 (.t 83) (.t 84)), (some (80, false)), [21, 22, 18]⟩,
    ⟨(some 86), 86, (.fld 2 (.t 85)), (some (80, false)), [23, 18]⟩,
    ⟨(some 87), 87, (.load false 1 (.t 86)), (some (80, false)), [24, 18]⟩,
    ⟨(some 88), 88, (.not (.t 87)), (some (80, false)), [25, 18]⟩,
    ⟨(some 89), 89, (.pick (.t 80) (.k (.c (.s (.pv (.bool true))))) (.t 88)), none, [18, 26]⟩])
  (.cond (.t 89) (.seq (.reg [⟨(some 6), 6, (.mv (.k (.c (.s (.pv (.bool false)))))), none, []⟩])
  .ret) .skip))
  (.seq (.reg [⟨(some 91), 91, (.load true 5 (.t 7)), none, []⟩,
    ⟨(some 92), 92, (.mv (.t 1)), none, []⟩,
    ⟨(some 93), 93, (.call 24 [(.t 91), (.k (.c (.s (.pv (.int .i64 1))))), (.t 92), (.k (.c (.s (.pv (.string ⟨#[]⟩))))), (.k (.c (.s (.pv (.int .i64 0)))))]), none, [0, 1]⟩,
    ⟨(some 90), 90, (.mv (.t 93)), none, [2]⟩,
    ⟨(some 94), 94, (.ext 0 (.t 90)), none, [3]⟩,
    ⟨(some 95), 95, (.ext 1 (.t 90)), none, [3]⟩,
    ⟨(some 16), 16, (.mk 57 5 [[.zc, (.s (.pv (.int .i64 0))), .zc, .zc, .zc]]), none, []⟩,
    ⟨none, 195, (.store 5 (.t 16) (.t 94)), none, [6, 4, 2, 0, 1, 2, 3, 4, 6]⟩,
    ⟨(some 17), 17, (.mv (.t 95)), none, [5, 7, 0, 1, 2, 3, 4, 5, 6, 7]⟩])
  (.seq (.reg [⟨(some 97), 97, (.load true 5 (.t 16)), none, []⟩,
    ⟨(some 98), 98, (.mv (.t 1)), none, []⟩,
    ⟨(some 99), 99, (.call 24 [(.t 97), (.k (.c (.s (.pv (.int .i64 2))))), (.t 98), (.k (.c (.s (.pv (.string ⟨#[]⟩))))), (.k (.c (.s (.pv (.int .i64 0)))))]), none, [0, 1]⟩,
    ⟨(some 96), 96, (.mv (.t 99)), none, [2]⟩,
    ⟨(some 100), 100, (.ext 0 (.t 96)), none, [3]⟩,
    ⟨(some 101), 101, (.ext 1 (.t 96)), none, [3]⟩,
    ⟨(some 18), 18, (.mk 57 5 [[.zc, (.s (.pv (.int .i64 0))), .zc, .zc, .zc]]), none, []⟩,
    ⟨none, 195, (.store 5 (.t 18) (.t 100)), none, [6, 4, 2, 0, 1, 2, 3, 4, 6]⟩,
    ⟨(some 19), 19, (.mv (.t 101)), none, [5, 7, 0, 1, 2, 3, 4, 5, 6, 7]⟩])
  (.seq (.reg [⟨(some 102), 102, (.mv (.t 17)), none, []⟩,
    ⟨(some 103), 103, (.bin false .neq (.t 102) (.k (.c (.s (.pv (.int .i64 0)))))), none, [0]⟩,
    ⟨(some 104), 104, (.mv (.t 103)), none, [1]⟩,
    ⟨(some 105), 105, (.mv (.t 19)), (some (104, false)), [2]⟩,
    ⟨(some 106), 106, (.bin false .neq (.t 105) (.k (.c (.s (.pv (.int .i64 0)))))), (some (104, false)), [3, 2]⟩,
    ⟨(some 107), 107, (.pick (.t 104) (.k (.c (.s (.pv (.bool true))))) (.t 106)), none, [2, 4]⟩,
    ⟨(some 108), 108, (.mv (.t 107)), none, [5, 2]⟩,
    ⟨(some 109), 109, (.load true 5 (.t 18)), (some (108, false)), [6]⟩,
    ⟨(some 110), 110, (.load true 5 (.t 13)), (some (108, false)), [6]⟩,
    ⟨(some 111), 111, (.call 25 [(.t 109), (.t 110)]), (some (108, false)), [7, 8, 6, 6]⟩,
    ⟨(some 112), 112, (.not (.t 111)), (some (108, false)), [9, 6]⟩,
    ⟨(some 113), 113, (.pick (.t 108) (.k (.c (.s (.pv (.bool true))))) (.t 112)), none, [6, 10]⟩])
  (.cond (.t 113) (.seq (.reg [⟨(some 6), 6, (.mv (.k (.c (.s (.pv (.bool false)))))), none, []⟩])
  .ret) .skip)))))))) .skip))
  (.seq (.reg [⟨(some 115), 115, (.load true 5 (.t 3)), none, []⟩,
    ⟨(some 116), 116, (.load true 3 (.t 5)), none, []⟩,
    ⟨(some 117), 117, (.call 26 [(.t 115), (.t 116), (.k (.c (.s (.pv (.int .i64 0))))), (.k (.c (.s (.pv (.bool false)))))]), none, [0, 1]⟩,
    ⟨(some 114), 114, (.mv (.t 117)), none, [2]⟩,
    ⟨(some 118), 118, (.ext 0 (.t 114)), none, [3]⟩,
    ⟨(some 119), 119, (.ext 1 (.t 114)), none, [3]⟩,
    ⟨(some 20), 20, (.mk 32 5 [[.zc, (.s (.pv (.int .i64 0))), .zc, .zc, .zc]]), none, []⟩,
    ⟨none, 195, (.store 5 (.t 20) (.t 118)), none, [6, 4, 2, 0, 1, 2, 3, 4, 6]⟩,
    ⟨(some 21), 21, (.mv (.t 119)), none, [5, 7, 0, 1, 2, 3, 4, 5, 6, 7]⟩])
  (.seq (.seq (.reg [⟨(some 120), 120, (.mv (.t 21)), none, []⟩,
    ⟨(some 121), 121, (.bin false .neq (.t 120) (.k (.c (.s (.pv (.int .i64 0)))))), none, [0]⟩])
  (.cond (.t 121) (.seq (.reg [⟨(some 122), 122, (.call 17 []), none, []⟩,
    ⟨(some 6), 6, (.mv (.t 122)), none, [0, 0, 0]⟩])
  .ret) .skip))
  (.seq (.reg [⟨(some 124), 124, (.load true 5 (.t 20)), none, []⟩,
    ⟨(some 125), 125, (.fld 0 (.t 5)), none, []⟩,
    ⟨(some 126), 126, (.load false 1 (.t 125)), none, [1]⟩,
    ⟨(some 127), 127, (.call 23 [(.t 124), (.t 126)]), none, [0, 2]⟩,
    ⟨(some 123), 123, (.mv (.t 127)), none, [3]⟩,
    ⟨(some 128), 128, (.ext 0 (.t 123)), none, [4]⟩,
    ⟨(some 129), 129, (.ext 1 (.t 123)), none, [4]⟩,
    ⟨none, 195, (.store 5 (.t 20) (.t 128)), none, [5, 3, 0, 1, 2, 3, 4, 5]⟩,
    ⟨(some 22), 22, (.mv (.t 129)), none, [6, 7, 0, 1, 2, 3, 4, 5, 6, 7]⟩])
  (.seq (.reg [⟨(some 131), 131, (.load true 5 (.t 20)), none, []⟩,
    ⟨(some 132), 132, (.fld 0 (.t 5)), none, []⟩,
    ⟨(some 133), 133, (.load false 1 (.t 132)), none, [1]⟩,
    ⟨(some 134), 134, (.call 27 [(.t 131), (.t 133)]), none, [0, 2]⟩,
    ⟨(some 130), 130, (.mv (.t 134)), none, [3]⟩,
    ⟨(some 135), 135, (.ext 0 (.t 130)), none, [4]⟩,
    ⟨(some 136), 136, (.ext 1 (.t 130)), none, [4]⟩,
    ⟨none, 195, (.store 5 (.t 20) (.t 135)), none, [5, 3, 0, 1, 2, 3, 4, 5]⟩,
    ⟨(some 23), 23, (.mv (.t 136)), none, [6, 7, 0, 1, 2, 3, 4, 5, 6, 7]⟩])
  (.seq (.reg [⟨(some 138), 138, (.load true 5 (.t 20)), none, []⟩,
    ⟨(some 139), 139, (.call 18 [(.t 138)]), none, [0]⟩,
    ⟨(some 137), 137, (.mv (.t 139)), none, [1]⟩,
    ⟨(some 140), 140, (.ext 0 (.t 137)), none, [2]⟩,
    ⟨(some 141), 141, (.ext 1 (.t 137)), none, [2]⟩,
    ⟨(some 24), 24, (.mk 57 5 [[.zc, (.s (.pv (.int .i64 0))), .zc, .zc, .zc]]), none, []⟩,
    ⟨none, 194, (.store 5 (.t 24) (.t 140)), none, [5, 3, 1, 0, 1, 2, 3, 5]⟩,
    ⟨(some 25), 25, (.mv (.t 141)), none, [4, 6, 0, 1, 2, 3, 4, 5, 6]⟩])
  (.seq (.reg [⟨(some 142), 142, (.mv (.t 22)), none, []⟩,
    ⟨(some 143), 143, (.bin false .eql (.t 142) (.k (.c (.s (.pv (.int .i64 0)))))), none, [0]⟩,
    ⟨(some 144), 144, (.mv (.t 143)), none, [1]⟩,
    ⟨(some 145), 145, (.mv (.t 23)), (some (144, true)), [2]⟩,
    ⟨(some 146), 146, (.bin false .eql (.t 145) (.k (.c (.s (.pv (.int .i64 0)))))), (some (144, true)), [3, 2]⟩,
    ⟨(some 147), 147, (.pick (.t 144) (.t 146) (.k (.c (.s (.pv (.bool false)))))), none, [2, 4]⟩,
    ⟨(some 148), 148, (.mv (.t 147)), none, [5, 2]⟩,
    ⟨(some 149), 149, (.mv (.t 25)), (some (148, true)), [6]⟩,
    ⟨(some 150), 150, (.pick (.t 148) (.t 149) (.k (.c (.s (.pv (.bool false)))))), none, [6, 7]⟩,
    ⟨(some 151), 151, (.mv (.t 150)), none, [8, 6]⟩,
    ⟨(some 152), 152, (.fld 3 (.t 24)), (some (151, true)), [9]⟩,
    ⟨(some 153), 153, (.load false 1 (.t 152)), (some (151, true)), [10, 9]⟩,
    ⟨(some 154), 154, (.len (.t 153)), (some (151, true)), [11, 9]⟩,
    ⟨(some 155), 155, (.fld 3 (.t 7)), (some (151, true)), [9]⟩,
    ⟨(some 156), 156, (.load false 1 (.t 155)), (some (151, true)), [13, 9]⟩,
    ⟨(some 157), 157, (.len (.t 156)), (some (151, true)), [14, 9]⟩,
    ⟨(some 158), 158, (.bin false .eql (.t 154) (.t 157)), (some (151, true)), [12, 15, 9]⟩,
    ⟨(some 159), 159, (.pick (.t 151) (.t 158) (.k (.c (.s (.pv (.bool false)))))), none, [9, 16]⟩,
    ⟨(some 160), 160, (.mv (.t 159)), none, [17, 9]⟩,
    ⟨(some 161), 161, (.load true 5 (.t 24)), (some (160, true)), [18]⟩,
    ⟨(some 162), 162, (.fld 0 (.t 5)), (some (160, true)), [18]⟩,
    ⟨(some 163), 163, (.load false 1 (.t 162)), (some (160, true)), [20, 18]⟩,
    ⟨(some 164), 164, (.call 21 [(.t 161), (.t 163)]), (some (160, true)), [19, 21, 18, 18]⟩,
    ⟨(some 165), 165, (.bin false .lss (.t 164) (.k (.c (.s (.pv (.int .i64 0)))))), (some (160, true)), [22, 18]⟩,
    ⟨(some 166), 166, (.pick (.t 160) (.t 165) (.k (.c (.s (.pv (.bool false)))))), none, [18, 23]⟩,
    ⟨(some 167), 167, (.mv (.t 166)), none, [24, 22]⟩,
    ⟨(some 168), 168, (.fld 2 (.t 7)), (some (167, true)), [25]⟩,
    ⟨(some 169), 169, (.load true 1 (.t 168)), (some (167, true)), [26, 25]⟩,
    ⟨(some 170), 170, (.fld 2 (.t 24)), (some (167, true)), [25]⟩,
    ⟨(some 171), 171, (.load true 1 (.t 170)), (some (167, true)), [28, 25]⟩,
    ⟨(some 172), 172, (.call 28 [(.t 169), (.t 171)]), (some (167, true)), [27, 29, 25, 25]⟩,
    ⟨(some 173), 173, (.pick (.t 167) (.t 172) (.k (.c (.s (.pv (.bool false)))))), none, [25, 30]⟩,
    ⟨(some 174), 174, (.mv (.t 173)), none, [31, 30]⟩,
    ⟨(some 175), 175, (.fld 4 (.t 7)), (some (174, true)), [32]⟩,
    ⟨(some 176), 176, (.load false 1 (.t 175)), (some (174, true)), [33, 32]⟩,
    ⟨(some 177), 177, (.fld 4 (.t 24)), (some (174, true)), [32]⟩,
    ⟨(some 178), 178, (.load false 1 (.t 177)), (some (174, true)), [35, 32]⟩,
    ⟨(some 179), 179, (.call 29 [(.t 176), (.t 178)]), (some (174, true)), [34, 36, 32, 32]⟩,
    ⟨(some 180), 180, (.pick (.t 174) (.t 179) (.k (.c (.s (.pv (.bool false)))))), none, [32, 37]⟩,
    ⟨(some 181), 181, (.mv (.t 180)), none, [38, 37]⟩,
    ⟨(some 182), 182, (.load true 5 (.t 20)), (some (181, true)), [39]⟩,
    ⟨(some 183), 183, (.call 15 [(.t 182)]), (some (181, true)), [40, 39, 39]⟩,
    ⟨(some 184), 184, (.pick (.t 181) (.t 183) (.k (.c (.s (.pv (.bool false)))))), none, [39, 41]⟩,
    ⟨(some 185), 185, (.mv (.t 184)), none, [42, 41]⟩,
    ⟨(some 186), 186, (.call 17 []), (some (185, true)), [43, 43]⟩,
    ⟨(some 187), 187, (.pick (.t 185) (.t 186) (.k (.c (.s (.pv (.bool false)))))), none, [43, 44]⟩,
    ⟨(some 6), 6, (.mv (.t 187)), none, [45, 44, 0, 1, 2, 3, 4, 5, 6, 7, 8, 9, 10, 11, 12, 13, 14, 15, 16, 17, 18, 19, 20, 21, 22, 23, 24, 25, 26, 27, 28, 29, 30, 31, 32, 33, 34, 35, 36, 37, 38, 39, 40, 41, 42, 43, 44, 45]⟩])
  .ret)))))))))))
theorem fn5 : FnIs Try.prog 5 ac5 [(.t 6)] 188 := ⟨Try.f5, Try.func5, by kernel_rfl, by kernel_rfl, by kernel_rfl⟩
/- lockkeeper/lockkeeperlaw15.FramesFull -/
def ac6 : ACode := (.seq (.reg [⟨(some 4), 4, (.mv (.k (.c (.s (.pv (.bool false)))))), none, []⟩])
  (.seq (.reg [⟨(some 26), 26, (.mv (.t 0)), none, []⟩,
    ⟨(some 27), 27, (.bin false .rem (.t 26) (.k (.c (.s (.pv (.int .u8 8)))))), none, [0]⟩,
    ⟨(some 28), 28, (.conv .i64 (.t 27)), none, [1]⟩,
    ⟨(some 29), 29, (.bin false .add (.k (.c (.s (.pv (.int .i64 1))))) (.t 28)), none, [2]⟩,
    ⟨(some 5), 5, (.mv (.t 29)), none, [3, 0, 1, 2, 3]⟩])
  (.seq (.reg [⟨(some 31), 31, (.mv (.t 5)), none, []⟩,
    ⟨(some 32), 32, (.call 13 [(.t 31)]), none, [0]⟩,
    ⟨(some 30), 30, (.mv (.t 32)), none, [1]⟩,
    ⟨(some 33), 33, (.ext 0 (.t 30)), none, [2]⟩,
    ⟨(some 34), 34, (.ext 1 (.t 30)), none, [2]⟩,
    ⟨(some 6), 6, (.mk 32 5 [[.zc, (.s (.pv (.int .i64 0))), .zc, .zc, .zc]]), none, []⟩,
    ⟨none, 132, (.store 5 (.t 6) (.t 33)), none, [5, 3, 1, 0, 1, 2, 3, 5]⟩,
    ⟨(some 7), 7, (.mv (.t 34)), none, [4, 6, 0, 1, 2, 3, 4, 5, 6]⟩])
  (.seq (.seq (.reg [⟨(some 35), 35, (.mv (.t 7)), none, []⟩,
    ⟨(some 36), 36, (.bin false .neq (.t 35) (.k (.c (.s (.pv (.int .i64 0)))))), none, [0]⟩])
  (.cond (.t 36) (.seq (.reg [⟨(some 4), 4, (.mv (.k (.c (.s (.pv (.bool false)))))), none, []⟩])
  .ret) .skip))
  (.seq (.seq (.reg [⟨(some 8), 8, (.mv (.k (.c (.s (.pv (.int .i64 1)))))), none, []⟩])
  (.block 0 (.loop (.seq (.seq (.reg [⟨(some 37), 37, (.mv (.t 8)), none, []⟩,
    ⟨(some 38), 38, (.mv (.t 5)), none, []⟩,
    ⟨(some 39), 39, (.bin false .leq (.t 37) (.t 38)), none, [0, 1]⟩])
  (.cond (.t 39) .skip (.exit 0)))
  (.seq (.block 1 (.seq (.reg [⟨(some 43), 43, (.load true 5 (.t 6)), none, []⟩,
    ⟨(some 44), 44, (.mv (.t 8)), none, []⟩,
    ⟨(some 45), 45, (.build [(.s (.pv (.int .i64 0))), (.s (.pv (.int .i64 0))), (.s (.pv (.string ⟨#[]⟩)))] [(0, 1, (.t 44)), (1, 1, (.k (.c (.s (.pv (.int .i64 1))))))]), none, [1]⟩,
    ⟨(some 46), 46, (.call 26 [(.t 43), (.t 45), (.k (.c (.s (.pv (.int .i64 0))))), (.k (.c (.s (.pv (.bool false)))))]), none, [0, 2]⟩,
    ⟨(some 42), 42, (.mv (.t 46)), none, [3]⟩,
    ⟨(some 47), 47, (.ext 0 (.t 42)), none, [4]⟩,
    ⟨(some 48), 48, (.ext 1 (.t 42)), none, [4]⟩,
    ⟨(some 9), 9, (.mk 32 5 [[.zc, (.s (.pv (.int .i64 0))), .zc, .zc, .zc]]), none, []⟩,
    ⟨none, 134, (.store 5 (.t 9) (.t 47)), none, [7, 5, 3, 0, 1, 2, 3, 4, 5, 7]⟩,
    ⟨(some 10), 10, (.mv (.t 48)), none, [6, 8, 0, 1, 2, 3, 4, 5, 6, 7, 8]⟩])
  (.seq (.seq (.reg [⟨(some 49), 49, (.mv (.t 10)), none, []⟩,
    ⟨(some 50), 50, (.bin false .neq (.t 49) (.k (.c (.s (.pv (.int .i64 0)))))), none, [0]⟩])
  (.cond (.t 50) (.seq (.reg [⟨(some 4), 4, (.mv (.k (.c (.s (.pv (.bool false)))))), none, []⟩])
  .ret) .skip))
  (.reg [⟨(some 51), 51, (.load true 5 (.t 9)), none, []⟩,
    ⟨none, 127, (.store 5 (.t 6) (.t 51)), none, [0, 0]⟩]))))
  (.reg [⟨(some 40), 40, (.mv (.t 8)), none, []⟩,
    ⟨(some 41), 41, (.bin false .add (.t 40) (.k (.c (.s (.pv (.int .i64 1)))))), none, [0]⟩,
    ⟨(some 8), 8, (.mv (.t 41)), none, [1, 0, 1]⟩]))))))
  (.seq (.reg [⟨(some 53), 53, (.load true 5 (.t 6)), none, []⟩,
    ⟨(some 54), 54, (.mv (.t 5)), none, []⟩,
    ⟨(some 55), 55, (.bin false .add (.t 54) (.k (.c (.s (.pv (.int .i64 1)))))), none, [1]⟩,
    ⟨(some 56), 56, (.build [(.s (.pv (.int .i64 0))), (.s (.pv (.int .i64 0))), (.s (.pv (.string ⟨#[]⟩)))] [(0, 1, (.t 55)), (1, 1, (.k (.c (.s (.pv (.int .i64 1))))))]), none, [2]⟩,
    ⟨(some 57), 57, (.call 26 [(.t 53), (.t 56), (.k (.c (.s (.pv (.int .i64 0))))), (.k (.c (.s (.pv (.bool false)))))]), none, [0, 3]⟩,
    ⟨(some 52), 52, (.mv (.t 57)), none, [4]⟩,
    ⟨(some 58), 58, (.ext 0 (.t 52)), none, [5]⟩,
    ⟨(some 59), 59, (.ext 1 (.t 52)), none, [5]⟩,
    ⟨(some 11), 11, (.mk 32 5 [[.zc, (.s (.pv (.int .i64 0))), .zc, .zc, .zc]]), none, []⟩,
    ⟨none, 135, (.store 5 (.t 11) (.t 58)), none, [8, 6, 4, 0, 1, 2, 3, 4, 5, 6, 8]⟩,
    ⟨(some 12), 12, (.mv (.t 59)), none, [7, 9, 0, 1, 2, 3, 4, 5, 6, 7, 8, 9]⟩])
  (.seq (.reg [⟨(some 61), 61, (.load true 5 (.t 6)), none, []⟩,
    ⟨(some 62), 62, (.call 20 [(.t 61)]), none, [0]⟩,
    ⟨(some 60), 60, (.mv (.t 62)), none, [1]⟩,
    ⟨(some 63), 63, (.ext 0 (.t 60)), none, [2]⟩,
    ⟨(some 64), 64, (.ext 1 (.t 60)), none, [2]⟩,
    ⟨(some 65), 65, (.ext 2 (.t 60)), none, [2]⟩,
    ⟨(some 66), 66, (.ext 3 (.t 60)), none, [2]⟩,
    ⟨(some 13), 13, (.mk 32 5 [[.zc, (.s (.pv (.int .i64 0))), .zc, .zc, .zc]]), none, []⟩,
    ⟨(some 14), 14, (.mk 38 3 [[(.s (.pv (.int .i64 0))), (.s (.pv (.int .i64 0))), (.s (.pv (.string ⟨#[]⟩)))]]), none, []⟩,
    ⟨none, 135, (.store 5 (.t 13) (.t 63)), none, [7, 3, 1, 0, 1, 2, 3, 7, 8]⟩,
    ⟨none, 136, (.store 3 (.t 14) (.t 64)), none, [8, 4, 9, 0, 1, 2, 3, 4, 7, 8, 9]⟩,
    ⟨(some 15), 15, (.mv (.t 65)), none, [5, 10, 0, 1, 2, 3, 4, 5, 7, 8, 9, 10]⟩,
    ⟨(some 16), 16, (.mv (.t 66)), none, [6, 11, 0, 1, 2, 3, 4, 5, 6, 7, 8, 9, 10, 11]⟩])
  (.seq (.reg [⟨(some 67), 67, (.mv (.t 1)), none, []⟩,
    ⟨(some 68), 68, (.conv .i64 (.t 67)), none, [0]⟩,
    ⟨(some 69), 69, (.mv (.t 5)), none, []⟩,
    ⟨(some 70), 70, (.bin false .rem (.t 68) (.t 69)), none, [1, 2]⟩,
    ⟨(some 71), 71, (.bin false .add (.k (.c (.s (.pv (.int .i64 1))))) (.t 70)), none, [3]⟩,
    ⟨(some 17), 17, (.mv (.t 71)), none, [4, 0, 1, 2, 3, 4]⟩])
  (.seq (.reg [⟨(some 73), 73, (.load true 5 (.t 6)), none, []⟩,
    ⟨(some 74), 74, (.mv (.t 17)), none, []⟩,
    ⟨(some 75), 75, (.call 23 [(.t 73), (.t 74)]), none, [0, 1]⟩,
    ⟨(some 72), 72, (.mv (.t 75)), none, [2]⟩,
    ⟨(some 76), 76, (.ext 0 (.t 72)), none, [3]⟩,
    ⟨(some 77), 77, (.ext 1 (.t 72)), none, [3]⟩,
    ⟨(some 18), 18, (.mk 32 5 [[.zc, (.s (.pv (.int .i64 0))), .zc, .zc, .zc]]), none, []⟩,
    ⟨none, 133, (.store 5 (.t 18) (.t 76)), none, [6, 4, 2, 0, 1, 2, 3, 4, 6]⟩,
    ⟨(some 19), 19, (.mv (.t 77)), none, [5, 7, 0, 1, 2, 3, 4, 5, 6, 7]⟩])
  (.seq (.reg [⟨(some 79), 79, (.load true 5 (.t 18)), none, []⟩,
    ⟨(some 80), 80, (.call 20 [(.t 79)]), none, [0]⟩,
    ⟨(some 78), 78, (.mv (.t 80)), none, [1]⟩,
    ⟨(some 81), 81, (.ext 0 (.t 78)), none, [2]⟩,
    ⟨(some 82), 82, (.ext 1 (.t 78)), none, [2]⟩,
    ⟨(some 83), 83, (.ext 2 (.t 78)), none, [2]⟩,
    ⟨(some 84), 84, (.ext 3 (.t 78)), none, [2]⟩,
    ⟨(some 20), 20, (.mk 32 5 [[.zc, (.s (.pv (.int .i64 0))), .zc, .zc, .zc]]), none, []⟩,
    ⟨(some 21), 21, (.mk 38 3 [[(.s (.pv (.int .i64 0))), (.s (.pv (.int .i64 0))), (.s (.pv (.string ⟨#[]⟩)))]]), none, []⟩,
    ⟨none, 135, (.store 5 (.t 20) (.t 81)), none, [7, 3, 1, 0, 1, 2, 3, 7, 8]⟩,
    ⟨none, 136, (.store 3 (.t 21) (.t 82)), none, [8, 4, 9, 0, 1, 2, 3, 4, 7, 8, 9]⟩,
    ⟨(some 22), 22, (.mv (.t 83)), none, [5, 10, 0, 1, 2, 3, 4, 5, 7, 8, 9, 10]⟩,
    ⟨(some 23), 23, (.mv (.t 84)), none, [6, 11, 0, 1, 2, 3, 4, 5, 6, 7, 8, 9, 10, 11]⟩])
  (.seq (.reg [⟨(some 86), 86, (.load true 5 (.t 20)), none, []⟩,
    ⟨(some 87), 87, (.mv (.t 17)), none, []⟩,
    ⟨(some 88), 88, (.call 16 [(.t 86), (.t 87)]), none, [0, 1]⟩,
    ⟨(some 85), 85, (.mv (.t 88)), none, [2]⟩,
    ⟨(some 89), 89, (.ext 0 (.t 85)), none, [3]⟩,
    ⟨(some 90), 90, (.ext 1 (.t 85)), none, [3]⟩,
    ⟨(some 24), 24, (.mv (.t 89)), none, [4, 2, 0, 1, 2, 3, 4]⟩,
    ⟨(some 25), 25, (.mv (.t 90)), none, [5, 6, 0, 1, 2, 3, 4, 5, 6]⟩])
  (.seq (.reg [⟨(some 91), 91, (.mv (.t 12)), none, []⟩,
    ⟨(some 92), 92, (.bin false .eql (.t 91) (.k (.c (.s (.pv (.int .i64 7)))))), none, [0]⟩,
    ⟨(some 93), 93, (.mv (.t 92)), none, [1]⟩,
    ⟨(some 94), 94, (.mv (.t 16)), (some (93, true)), [2]⟩,
    ⟨(some 95), 95, (.bin false .eql (.t 94) (.k (.c (.s (.pv (.int .i64 6)))))), (some (93, true)), [3, 2]⟩,
    ⟨(some 96), 96, (.pick (.t 93) (.t 95) (.k (.c (.s (.pv (.bool false)))))), none, [2, 4]⟩,
    ⟨(some 97), 97, (.mv (.t 96)), none, [5, 2]⟩,
    ⟨(some 98), 98, (.mv (.t 19)), (some (97, true)), [6]⟩,
    ⟨(some 99), 99, (.bin false .eql (.t 98) (.k (.c (.s (.pv (.int .i64 0)))))), (some (97, true)), [7, 6]⟩,
    ⟨(some 100), 100, (.pick (.t 97) (.t 99) (.k (.c (.s (.pv (.bool false)))))), none, [6, 8]⟩,
    ⟨(some 101), 101, (.mv (.t 100)), none, [9, 6]⟩,
    ⟨(some 102), 102, (.fld 0 (.t 21)), (some (101, true)), [10]⟩,
    ⟨(some 103), 103, (.load false 1 (.t 102)), (some (101, true)), [11, 10]⟩,
    ⟨(some 104), 104, (.mv (.t 17)), (some (101, true)), [10]⟩,
    ⟨(some 105), 105, (.bin false .eql (.t 103) (.t 104)), (some (101, true)), [12, 13, 10]⟩,
    ⟨(some 106), 106, (.pick (.t 101) (.t 105) (.k (.c (.s (.pv (.bool false)))))), none, [10, 14]⟩,
    ⟨(some 107), 107, (.mv (.t 106)), none, [15, 10]⟩,
    ⟨(some 108), 108, (.mv (.t 22)), (some (107, true)), [16]⟩,
    ⟨(some 109), 109, (.not (.t 108)), (some (107, true)), [17, 16]⟩,
    ⟨(some 110), 110, (.pick (.t 107) (.t 109) (.k (.c (.s (.pv (.bool false)))))), none, [16, 18]⟩,
    ⟨(some 111), 111, (.mv (.t 110)), none, [19, 16]⟩,
    ⟨(some 112), 112, (.mv (.t 23)), (some (111, true)), [20]⟩,
    ⟨(some 113), 113, (.bin false .eql (.t 112) (.k (.c (.s (.pv (.int .i64 0)))))), (some (111, true)), [21, 20]⟩,
    ⟨(some 114), 114, (.pick (.t 111) (.t 113) (.k (.c (.s (.pv (.bool false)))))), none, [20, 22]⟩,
    ⟨(some 115), 115, (.mv (.t 114)), none, [23, 20]⟩,
    ⟨(some 116), 116, (.mv (.t 25)), (some (115, true)), [24]⟩,
    ⟨(some 117), 117, (.not (.t 116)), (some (115, true)), [25, 24]⟩,
    ⟨(some 118), 118, (.pick (.t 115) (.t 117) (.k (.c (.s (.pv (.bool false)))))), none, [24, 26]⟩,
    ⟨(some 119), 119, (.mv (.t 118)), none, [27, 24]⟩,
    ⟨(some 120), 120, (.load true 5 (.t 20)), (some (119, true)), [28]⟩,
    ⟨(some 121), 121, (.call 15 [(.t 120)]), (some (119, true)), [29, 28, 28]⟩,
    ⟨(some 122), 122, (.pick (.t 119) (.t 121) (.k (.c (.s (.pv (.bool false)))))), none, [28, 30]⟩,
    ⟨(some 123), 123, (.mv (.t 122)), none, [31, 30]⟩,
    ⟨(some 124), 124, (.call 17 []), (some (123, true)), [32, 32]⟩,
    ⟨(some 125), 125, (.pick (.t 123) (.t 124) (.k (.c (.s (.pv (.bool false)))))), none, [32, 33]⟩,
    ⟨(some 4), 4, (.mv (.t 125)), none, [34, 33, 0, 1, 2, 3, 4, 5, 6, 7, 8, 9, 10, 11, 12, 13, 14, 15, 16, 17, 18, 19, 20, 21, 22, 23, 24, 25, 26, 27, 28, 29, 30, 31, 32, 33, 34]⟩])
  .ret))))))))))))
theorem fn6 : FnIs Try.prog 6 ac6 [(.t 4)] 126 := ⟨Try.f6, Try.func6, by kernel_rfl, by kernel_rfl, by kernel_rfl⟩
/- lockkeeper/frames.New -/
def ac13 : ACode := (.seq (.reg [⟨(some 2), 2, (.mk 32 5 [[.zc, (.s (.pv (.int .i64 0))), .zc, .zc, .zc]]), none, []⟩,
    ⟨(some 3), 3, (.mv (.k (.c (.s (.pv (.int .i64 0)))))), none, []⟩])
  (.seq (.seq (.reg [⟨(some 4), 4, (.mv (.t 0)), none, []⟩,
    ⟨(some 5), 5, (.bin false .lss (.t 4) (.k (.c (.s (.pv (.int .i64 1)))))), none, [0]⟩,
    ⟨(some 6), 6, (.mv (.t 5)), none, [1]⟩,
    ⟨(some 7), 7, (.mv (.t 0)), (some (6, false)), [2]⟩,
    ⟨(some 8), 8, (.bin false .gtr (.t 7) (.k (.c (.s (.pv (.int .i64 8)))))), (some (6, false)), [3, 2]⟩,
    ⟨(some 9), 9, (.pick (.t 6) (.k (.c (.s (.pv (.bool true))))) (.t 8)), none, [2, 4]⟩])
  (.cond (.t 9) (.seq (.reg [⟨(some 10), 10, (.build [.zc, (.s (.pv (.int .i64 0))), .zc, .zc, .zc] []), none, []⟩,
    ⟨none, 19, (.store 5 (.t 2) (.t 10)), none, [0, 0]⟩,
    ⟨(some 3), 3, (.mv (.k (.c (.s (.pv (.int .i64 1)))))), none, [1, 0, 1]⟩])
  .ret) .skip))
  (.seq (.draw [⟨(some 11), 11, (.mv (.t 0)), none, []⟩,
    ⟨(some 12), 12, (.mkSlice 46 3 24 [(.pv (.int .i64 0)), (.pv (.int .i64 0)), (.pv (.bool false))] (.t 11) (.t 11)), none, [0, 0]⟩,
    ⟨(some 13), 13, (.build [.zc, (.s (.pv (.int .i64 0)))] [(0, 1, (.t 12))]), none, [1]⟩,
    ⟨(some 14), 14, (.call 43 []), none, []⟩,
    ⟨(some 15), 15, (.mv (.t 0)), none, []⟩,
    ⟨(some 16), 16, (.mkSlice 38 3 32 [(.pv (.int .i64 0)), (.pv (.int .i64 0)), (.pv (.string ⟨#[]⟩))] (.t 15) (.t 15)), none, [4, 4]⟩,
    ⟨(some 17), 17, (.build [.zc, (.s (.pv (.int .i64 0))), .zc, .zc, .zc] [(0, 2, (.t 13)), (2, 1, (.t 14)), (3, 1, (.t 16))]), none, [2, 3, 5]⟩,
    ⟨none, 25, (.store 5 (.t 2) (.t 17)), none, [6, 3, 0, 1, 2, 3, 4, 5, 6]⟩,
    ⟨(some 3), 3, (.mv (.k (.c (.s (.pv (.int .i64 0)))))), none, [7, 0, 1, 2, 3, 4, 5, 6, 7]⟩])
  .ret)))
theorem fn13 : FnIs Try.prog 13 ac13 [(.cell 2 true 5), (.t 3)] 18 := ⟨Try.f13, Try.func13, by kernel_rfl, by kernel_rfl, by kernel_rfl⟩
/- lockkeeper/lockkeeperlaw15.do -/
def ac14 : ACode := (.seq (.reg [⟨(some 2), 2, (.box 32 5 (.t 0)), none, []⟩,
    ⟨(some 3), 3, (.box 40 7 (.t 1)), none, []⟩,
    ⟨(some 4), 4, (.mk 32 5 [[.zc, (.s (.pv (.int .i64 0))), .zc, .zc, .zc]]), none, []⟩,
    ⟨(some 5), 5, (.mv (.k (.c (.s (.pv (.int .i64 0)))))), none, []⟩])
  (.seq (.seq (.reg [⟨(some 10), 10, (.fld 0 (.t 3)), none, []⟩,
    ⟨(some 11), 11, (.load false 1 (.t 10)), none, [0]⟩])
  (.block 0 (.seq (.reg [⟨(some 13), 13, (.bin false .eql (.t 11) (.k (.c (.s (.pv (.int .i64 1)))))), none, []⟩,
    ⟨(some 12), 12, (.mv (.t 13)), none, [0]⟩])
  (.cond (.t 12) (.seq (.reg [⟨(some 14), 14, (.load true 5 (.t 2)), none, []⟩,
    ⟨(some 15), 15, (.fld 1 (.t 3)), none, []⟩,
    ⟨(some 16), 16, (.load false 1 (.t 15)), none, [1]⟩,
    ⟨(some 17), 17, (.call 22 [(.t 14), (.t 16)]), none, [0, 2]⟩,
    ⟨(some 18), 18, (.ext 0 (.t 17)), none, [3]⟩,
    ⟨(some 19), 19, (.ext 1 (.t 17)), none, [3]⟩,
    ⟨none, 84, (.store 5 (.t 4) (.t 18)), none, [4, 3, 0, 1, 2, 3, 4, 5]⟩,
    ⟨(some 5), 5, (.mv (.t 19)), none, [5, 6, 0, 1, 2, 3, 4, 5, 6]⟩])
  .ret) (.seq (.reg [⟨(some 21), 21, (.bin false .eql (.t 11) (.k (.c (.s (.pv (.int .i64 2)))))), none, []⟩,
    ⟨(some 20), 20, (.mv (.t 21)), none, [0]⟩])
  (.cond (.t 20) (.seq (.reg [⟨(some 22), 22, (.load true 5 (.t 2)), none, []⟩,
    ⟨(some 23), 23, (.fld 1 (.t 3)), none, []⟩,
    ⟨(some 24), 24, (.load false 1 (.t 23)), none, [1]⟩,
    ⟨(some 25), 25, (.call 23 [(.t 22), (.t 24)]), none, [0, 2]⟩,
    ⟨(some 26), 26, (.ext 0 (.t 25)), none, [3]⟩,
    ⟨(some 27), 27, (.ext 1 (.t 25)), none, [3]⟩,
    ⟨none, 84, (.store 5 (.t 4) (.t 26)), none, [4, 3, 0, 1, 2, 3, 4, 5]⟩,
    ⟨(some 5), 5, (.mv (.t 27)), none, [5, 6, 0, 1, 2, 3, 4, 5, 6]⟩])
  .ret) (.seq (.reg [⟨(some 29), 29, (.bin false .eql (.t 11) (.k (.c (.s (.pv (.int .i64 3)))))), none, []⟩,
    ⟨(some 28), 28, (.mv (.t 29)), none, [0]⟩])
  (.cond (.t 28) (.seq (.reg [⟨(some 30), 30, (.load true 5 (.t 2)), none, []⟩,
    ⟨(some 31), 31, (.fld 1 (.t 3)), none, []⟩,
    ⟨(some 32), 32, (.load false 1 (.t 31)), none, [1]⟩,
    ⟨(some 33), 33, (.fld 3 (.t 3)), none, []⟩,
    ⟨(some 34), 34, (.load false 1 (.t 33)), none, [3]⟩,
    ⟨(some 35), 35, (.fld 2 (.t 3)), none, []⟩,
    ⟨(some 36), 36, (.load false 1 (.t 35)), none, [5]⟩,
    ⟨(some 37), 37, (.call 44 [(.t 30), (.t 32), (.t 34), (.t 36)]), none, [0, 2, 4, 6]⟩,
    ⟨(some 38), 38, (.ext 0 (.t 37)), none, [7]⟩,
    ⟨(some 39), 39, (.ext 1 (.t 37)), none, [7]⟩,
    ⟨none, 88, (.store 5 (.t 4) (.t 38)), none, [8, 7, 0, 1, 2, 3, 4, 5, 6, 7, 8, 9]⟩,
    ⟨(some 5), 5, (.mv (.t 39)), none, [9, 10, 0, 1, 2, 3, 4, 5, 6, 7, 8, 9, 10]⟩])
  .ret) (.seq (.reg [⟨(some 41), 41, (.bin false .eql (.t 11) (.k (.c (.s (.pv (.int .i64 4)))))), none, []⟩,
    ⟨(some 40), 40, (.mv (.t 41)), none, [0]⟩])
  (.cond (.t 40) (.seq (.reg [⟨(some 42), 42, (.load true 5 (.t 2)), none, []⟩,
    ⟨(some 43), 43, (.fld 1 (.t 3)), none, []⟩,
    ⟨(some 44), 44, (.load false 1 (.t 43)), none, [1]⟩,
    ⟨(some 45), 45, (.call 45 [(.t 42), (.t 44)]), none, [0, 2]⟩,
    ⟨(some 46), 46, (.ext 0 (.t 45)), none, [3]⟩,
    ⟨(some 47), 47, (.ext 1 (.t 45)), none, [3]⟩,
    ⟨none, 84, (.store 5 (.t 4) (.t 46)), none, [4, 3, 0, 1, 2, 3, 4, 5]⟩,
    ⟨(some 5), 5, (.mv (.t 47)), none, [5, 6, 0, 1, 2, 3, 4, 5, 6]⟩])
  .ret) (.seq (.reg [⟨(some 49), 49, (.bin false .eql (.t 11) (.k (.c (.s (.pv (.int .i64 5)))))), none, []⟩,
    ⟨(some 48), 48, (.mv (.t 49)), none, [0]⟩])
  (.cond (.t 48) (.seq (.reg [⟨(some 50), 50, (.load true 5 (.t 2)), none, []⟩,
    ⟨(some 51), 51, (.fld 1 (.t 3)), none, []⟩,
    ⟨(some 52), 52, (.load false 1 (.t 51)), none, [1]⟩,
    ⟨(some 53), 53, (.call 27 [(.t 50), (.t 52)]), none, [0, 2]⟩,
    ⟨(some 54), 54, (.ext 0 (.t 53)), none, [3]⟩,
    ⟨(some 55), 55, (.ext 1 (.t 53)), none, [3]⟩,
    ⟨none, 84, (.store 5 (.t 4) (.t 54)), none, [4, 3, 0, 1, 2, 3, 4, 5]⟩,
    ⟨(some 5), 5, (.mv (.t 55)), none, [5, 6, 0, 1, 2, 3, 4, 5, 6]⟩])
  .ret) (.seq (.reg [⟨(some 57), 57, (.bin false .eql (.t 11) (.k (.c (.s (.pv (.int .i64 6)))))), none, []⟩,
    ⟨(some 56), 56, (.mv (.t 57)), none, [0]⟩])
  (.cond (.t 56) (.seq (.reg [⟨(some 58), 58, (.load true 5 (.t 2)), none, []⟩,
    ⟨(some 59), 59, (.fld 4 (.t 3)), none, []⟩,
    ⟨(some 60), 60, (.load true 3 (.t 59)), none, [1]⟩,
    ⟨(some 61), 61, (.fld 2 (.t 3)), none, []⟩,
    ⟨(some 62), 62, (.load false 1 (.t 61)), none, [3]⟩,
    ⟨(some 63), 63, (.fld 3 (.t 3)), none, []⟩,
    ⟨(some 64), 64, (.load false 1 (.t 63)), none, [5]⟩,
    ⟨(some 65), 65, (.bin false .neq (.t 64) (.k (.c (.s (.pv (.string ⟨#[]⟩)))))), none, [6]⟩,
    ⟨(some 66), 66, (.call 26 [(.t 58), (.t 60), (.t 62), (.t 65)]), none, [0, 2, 4, 7]⟩,
    ⟨(some 67), 67, (.ext 0 (.t 66)), none, [8]⟩,
    ⟨(some 68), 68, (.ext 1 (.t 66)), none, [8]⟩,
    ⟨none, 89, (.store 5 (.t 4) (.t 67)), none, [9, 8, 0, 1, 2, 3, 4, 5, 6, 7, 8, 9, 10]⟩,
    ⟨(some 5), 5, (.mv (.t 68)), none, [10, 11, 0, 1, 2, 3, 4, 5, 6, 7, 8, 9, 10, 11]⟩])
  .ret) .skip))))))))))))))
  (.seq (.reg [⟨(some 70), 70, (.load true 5 (.t 2)), none, []⟩,
    ⟨(some 71), 71, (.call 20 [(.t 70)]), none, [0]⟩,
    ⟨(some 69), 69, (.mv (.t 71)), none, [1]⟩,
    ⟨(some 72), 72, (.ext 0 (.t 69)), none, [2]⟩,
    ⟨(some 73), 73, (.ext 1 (.t 69)), none, [2]⟩,
    ⟨(some 74), 74, (.ext 2 (.t 69)), none, [2]⟩,
    ⟨(some 75), 75, (.ext 3 (.t 69)), none, [2]⟩,
    ⟨(some 6), 6, (.mk 32 5 [[.zc, (.s (.pv (.int .i64 0))), .zc, .zc, .zc]]), none, []⟩,
    ⟨(some 7), 7, (.mk 38 3 [[(.s (.pv (.int .i64 0))), (.s (.pv (.int .i64 0))), (.s (.pv (.string ⟨#[]⟩)))]]), none, []⟩,
    ⟨none, 87, (.store 5 (.t 6) (.t 72)), none, [7, 3, 1, 0, 1, 2, 3, 7, 8]⟩,
    ⟨none, 88, (.store 3 (.t 7) (.t 73)), none, [8, 4, 9, 0, 1, 2, 3, 4, 7, 8, 9]⟩,
    ⟨(some 8), 8, (.mv (.t 74)), none, [5, 10, 0, 1, 2, 3, 4, 5, 7, 8, 9, 10]⟩,
    ⟨(some 9), 9, (.mv (.t 75)), none, [6, 11, 0, 1, 2, 3, 4, 5, 6, 7, 8, 9, 10, 11]⟩])
  (.seq (.reg [⟨(some 76), 76, (.load true 5 (.t 6)), none, []⟩,
    ⟨(some 77), 77, (.mv (.t 9)), none, []⟩,
    ⟨none, 80, (.store 5 (.t 4) (.t 76)), none, [0, 0]⟩,
    ⟨(some 5), 5, (.mv (.t 77)), none, [1, 2, 0, 1, 2]⟩])
  .ret))))
theorem fn14 : FnIs Try.prog 14 ac14 [(.cell 4 true 5), (.t 5)] 78 := ⟨Try.f14, Try.func14, by kernel_rfl, by kernel_rfl, by kernel_rfl⟩
/- lockkeeper/frames.Right -/
def ac15 : ACode := (.seq (.reg [⟨(some 1), 1, (.box 32 5 (.t 0)), none, []⟩,
    ⟨(some 2), 2, (.mv (.k (.c (.s (.pv (.bool false)))))), none, []⟩])
  (.seq (.seq (.reg [⟨(some 10), 10, (.fld 0 (.t 1)), none, []⟩,
    ⟨(some 11), 11, (.load true 2 (.t 10)), none, [0]⟩,
    ⟨(some 12), 12, (.call 46 [(.t 11)]), none, [1]⟩,
    ⟨(some 13), 13, (.not (.t 12)), none, [2]⟩,
    ⟨(some 14), 14, (.mv (.t 13)), none, [3, 2]⟩,
    ⟨(some 15), 15, (.fld 2 (.t 1)), (some (14, false)), [4]⟩,
    ⟨(some 16), 16, (.load true 1 (.t 15)), (some (14, false)), [5, 4]⟩,
    ⟨(some 17), 17, (.call 47 [(.t 16)]), (some (14, false)), [6, 4, 4]⟩,
    ⟨(some 18), 18, (.not (.t 17)), (some (14, false)), [7, 4]⟩,
    ⟨(some 19), 19, (.pick (.t 14) (.k (.c (.s (.pv (.bool true))))) (.t 18)), none, [4, 8]⟩,
    ⟨(some 20), 20, (.mv (.t 19)), none, [9, 7]⟩,
    ⟨(some 21), 21, (.fld 4 (.t 1)), (some (20, false)), [10]⟩,
    ⟨(some 22), 22, (.load false 1 (.t 21)), (some (20, false)), [11, 10]⟩,
    ⟨(some 23), 23, (.call 48 [(.t 22)]), (some (20, false)), [12, 10, 10]⟩,
    ⟨(some 24), 24, (.not (.t 23)), (some (20, false)), [13, 10]⟩,
    ⟨(some 25), 25, (.pick (.t 20) (.k (.c (.s (.pv (.bool true))))) (.t 24)), none, [10, 14]⟩,
    ⟨(some 26), 26, (.mv (.t 25)), none, [15, 13]⟩,
    ⟨(some 27), 27, (.fld 3 (.t 1)), (some (26, false)), [16]⟩,
    ⟨(some 28), 28, (.load false 1 (.t 27)), (some (26, false)), [17, 16]⟩,
    ⟨(some 29), 29, (.len (.t 28)), (some (26, false)), [18, 16]⟩,
    ⟨(some 30), 30, (.fld 0 (.t 1)), (some (26, false)), [16]⟩,
    ⟨(some 31), 31, (.fld 0 (.t 30)), (some (26, false)), [20, 16]⟩,
    ⟨(some 32), 32, (.load false 1 (.t 31)), (some (26, false)), [21, 16]⟩,
    ⟨(some 33), 33, (.len (.t 32)), (some (26, false)), [22, 16]⟩,
    ⟨(some 34), 34, (.bin false .neq (.t 29) (.t 33)), (some (26, false)), [19, 23, 16]⟩,
    ⟨(some 35), 35, (.pick (.t 26) (.k (.c (.s (.pv (.bool true))))) (.t 34)), none, [16, 24]⟩])
  (.cond (.t 35) (.seq (.reg [⟨(some 2), 2, (.mv (.k (.c (.s (.pv (.bool false)))))), none, []⟩])
  .ret) .skip))
  (.seq (.reg [⟨(some 3), 3, (.mv (.k (.c (.s (.pv (.int .i64 0)))))), none, []⟩])
  (.seq (.seq (.reg [⟨(some 36), 36, (.fld 3 (.t 1)), none, []⟩,
    ⟨(some 37), 37, (.load false 1 (.t 36)), none, [0]⟩,
    ⟨(some 38), 38, (.len (.t 37)), none, [1]⟩,
    ⟨(some 39), 39, (.mv (.k (.c (.s (.pv (.int .i64 0)))))), none, []⟩])
  (.block 0 (.loop (.seq (.reg [⟨(some 40), 40, (.bin false .lss (.t 39) (.t 38)), none, []⟩])
  (.seq (.cond (.t 40) .skip (.exit 0))
  (.seq (.block 1 (.seq (.reg [⟨(some 41), 41, (.mv (.t 39)), none, []⟩,
    ⟨(some 42), 42, (.idx 3 (.t 37) (.t 39)), none, []⟩,
    ⟨(some 43), 43, (.load true 3 (.t 42)), none, [1]⟩,
    ⟨(some 5), 5, (.mk 38 3 [[(.s (.pv (.int .i64 0))), (.s (.pv (.int .i64 0))), (.s (.pv (.string ⟨#[]⟩)))]]), none, []⟩,
    ⟨(some 4), 4, (.mv (.t 41)), none, [0, 0, 1, 2, 3]⟩,
    ⟨none, 83, (.store 3 (.t 5) (.t 43)), none, [3, 2, 4, 0, 1, 2, 3, 4]⟩])
  (.seq (.seq (.reg [⟨(some 44), 44, (.load true 5 (.t 1)), none, []⟩,
    ⟨(some 45), 45, (.mv (.t 4)), none, []⟩,
    ⟨(some 46), 46, (.call 49 [(.t 44), (.t 45)]), none, [0, 1]⟩,
    ⟨(some 47), 47, (.not (.t 46)), none, [2]⟩])
  (.cond (.t 47) (.seq (.reg [⟨(some 2), 2, (.mv (.k (.c (.s (.pv (.bool false)))))), none, []⟩])
  .ret) .skip))
  (.seq (.reg [⟨(some 48), 48, (.fld 0 (.t 5)), none, []⟩,
    ⟨(some 49), 49, (.load false 1 (.t 48)), none, [0]⟩,
    ⟨(some 50), 50, (.bin false .neq (.t 49) (.k (.c (.s (.pv (.int .i64 0)))))), none, [1]⟩])
  (.cond (.t 50) (.reg [⟨(some 51), 51, (.mv (.t 3)), none, []⟩,
    ⟨(some 52), 52, (.bin false .add (.t 51) (.k (.c (.s (.pv (.int .i64 1)))))), none, [0]⟩,
    ⟨(some 3), 3, (.mv (.t 52)), none, [1, 0, 1]⟩]) .skip)))))
  (.reg [⟨(some 53), 53, (.bin false .add (.t 39) (.k (.c (.s (.pv (.int .i64 1)))))), none, []⟩,
    ⟨(some 39), 39, (.mv (.t 53)), none, [0]⟩])))))))
  (.seq (.seq (.reg [⟨(some 54), 54, (.fld 2 (.t 1)), none, []⟩,
    ⟨(some 55), 55, (.load true 1 (.t 54)), none, [0]⟩,
    ⟨(some 56), 56, (.call 50 [(.t 55)]), none, [1]⟩,
    ⟨(some 57), 57, (.len (.t 56)), none, [2]⟩,
    ⟨(some 58), 58, (.mv (.t 3)), none, []⟩,
    ⟨(some 59), 59, (.bin false .neq (.t 57) (.t 58)), none, [3, 4]⟩])
  (.cond (.t 59) (.seq (.reg [⟨(some 2), 2, (.mv (.k (.c (.s (.pv (.bool false)))))), none, []⟩])
  .ret) .skip))
  (.seq (.seq (.reg [⟨(some 60), 60, (.fld 4 (.t 1)), none, []⟩,
    ⟨(some 61), 61, (.load false 1 (.t 60)), none, [0]⟩,
    ⟨(some 62), 62, (.len (.t 61)), none, [1]⟩,
    ⟨(some 63), 63, (.mv (.k (.c (.s (.pv (.int .i64 0)))))), none, []⟩])
  (.block 2 (.loop (.seq (.reg [⟨(some 64), 64, (.bin false .lss (.t 63) (.t 62)), none, []⟩])
  (.seq (.cond (.t 64) .skip (.exit 2))
  (.seq (.block 3 (.seq (.reg [⟨(some 65), 65, (.idx 2 (.t 61) (.t 63)), none, []⟩,
    ⟨(some 66), 66, (.load true 2 (.t 65)), none, [0]⟩,
    ⟨(some 7), 7, (.mk 117 2 [[(.s (.pv (.int .i64 0))), (.s (.pv (.int .i64 0)))]]), none, []⟩,
    ⟨none, 81, (.store 2 (.t 7) (.t 66)), none, [2, 1, 0, 1, 2]⟩])
  (.seq (.reg [⟨(some 68), 68, (.fld 2 (.t 1)), none, []⟩,
    ⟨(some 69), 69, (.load true 1 (.t 68)), none, [0]⟩,
    ⟨(some 70), 70, (.fld 0 (.t 7)), none, []⟩,
    ⟨(some 71), 71, (.load false 1 (.t 70)), none, [2]⟩,
    ⟨(some 72), 72, (.call 51 [(.t 69), (.t 71)]), none, [1, 3]⟩,
    ⟨(some 67), 67, (.mv (.t 72)), none, [4]⟩,
    ⟨(some 73), 73, (.ext 0 (.t 67)), none, [5]⟩,
    ⟨(some 74), 74, (.ext 1 (.t 67)), none, [5]⟩,
    ⟨(some 8), 8, (.mv (.t 73)), none, [6, 4, 0, 1, 2, 3, 4, 5, 6]⟩,
    ⟨(some 9), 9, (.mv (.t 74)), none, [7, 8, 0, 1, 2, 3, 4, 5, 6, 7, 8]⟩])
  (.seq (.reg [⟨(some 75), 75, (.mv (.t 9)), none, []⟩,
    ⟨(some 76), 76, (.not (.t 75)), none, [0]⟩])
  (.cond (.t 76) (.seq (.reg [⟨(some 2), 2, (.mv (.k (.c (.s (.pv (.bool false)))))), none, []⟩])
  .ret) .skip)))))
  (.reg [⟨(some 77), 77, (.bin false .add (.t 63) (.k (.c (.s (.pv (.int .i64 1)))))), none, []⟩,
    ⟨(some 63), 63, (.mv (.t 77)), none, [0]⟩])))))))
  (.seq (.reg [⟨(some 2), 2, (.mv (.k (.c (.s (.pv (.bool true)))))), none, []⟩])
  .ret)))))))
theorem fn15 : FnIs Try.prog 15 ac15 [(.t 2)] 78 := ⟨Try.f15, Try.func15, by kernel_rfl, by kernel_rfl, by kernel_rfl⟩
/- lockkeeper/frames.Find -/
def ac16 : ACode := (.seq (.reg [⟨(some 2), 2, (.box 32 5 (.t 0)), none, []⟩,
    ⟨(some 4), 4, (.mv (.k (.c (.s (.pv (.int .i64 0)))))), none, []⟩,
    ⟨(some 5), 5, (.mv (.k (.c (.s (.pv (.bool false)))))), none, [1]⟩])
  (.seq (.seq (.reg [⟨(some 6), 6, (.load true 5 (.t 2)), none, []⟩,
    ⟨(some 7), 7, (.call 15 [(.t 6)]), none, [0]⟩,
    ⟨(some 8), 8, (.not (.t 7)), none, [1]⟩])
  (.cond (.t 8) (.seq (.reg [⟨(some 4), 4, (.mv (.k (.c (.s (.pv (.int .i64 0)))))), none, []⟩,
    ⟨(some 5), 5, (.mv (.k (.c (.s (.pv (.bool false)))))), none, [0, 0]⟩])
  .ret) .skip))
  (.seq (.reg [⟨(some 9), 9, (.fld 2 (.t 2)), none, []⟩,
    ⟨(some 10), 10, (.load true 1 (.t 9)), none, [0]⟩,
    ⟨(some 11), 11, (.mv (.t 1)), none, []⟩,
    ⟨(some 12), 12, (.call 51 [(.t 10), (.t 11)]), none, [1, 2]⟩,
    ⟨(some 13), 13, (.ext 0 (.t 12)), none, [3]⟩,
    ⟨(some 14), 14, (.ext 1 (.t 12)), none, [3]⟩,
    ⟨(some 4), 4, (.mv (.t 13)), none, [4, 3, 0, 1, 2, 3, 4, 5]⟩,
    ⟨(some 5), 5, (.mv (.t 14)), none, [5, 6, 0, 1, 2, 3, 4, 5, 6]⟩])
  .ret)))
theorem fn16 : FnIs Try.prog 16 ac16 [(.t 4), (.t 5)] 15 := ⟨Try.f16, Try.func16, by kernel_rfl, by kernel_rfl, by kernel_rfl⟩
/- lockkeeper/lockkeeperlaw15.awake -/
def ac17 : ACode := (.seq (.reg [⟨(some 0), 0, (.mv (.k (.c (.s (.pv (.bool false)))))), none, []⟩])
  (.seq (.reg [⟨(some 13), 13, (.call 13 [(.k (.c (.s (.pv (.int .i64 2)))))]), none, []⟩,
    ⟨(some 12), 12, (.mv (.t 13)), none, [0]⟩,
    ⟨(some 14), 14, (.ext 0 (.t 12)), none, [1]⟩,
    ⟨(some 15), 15, (.ext 1 (.t 12)), none, [1]⟩,
    ⟨(some 1), 1, (.mk 32 5 [[.zc, (.s (.pv (.int .i64 0))), .zc, .zc, .zc]]), none, []⟩,
    ⟨none, 88, (.store 5 (.t 1) (.t 14)), none, [4, 2, 0, 0, 1, 2, 4]⟩,
    ⟨(some 2), 2, (.mv (.t 15)), none, [3, 5, 0, 1, 2, 3, 4, 5]⟩])
  (.seq (.reg [⟨(some 17), 17, (.load true 5 (.t 1)), none, []⟩,
    ⟨(some 18), 18, (.build [(.s (.pv (.int .i64 0))), (.s (.pv (.int .i64 0))), (.s (.pv (.string ⟨#[]⟩)))] [(0, 1, (.k (.c (.s (.pv (.int .i64 1)))))), (1, 1, (.k (.c (.s (.pv (.int .i64 1))))))]), none, []⟩,
    ⟨(some 19), 19, (.call 26 [(.t 17), (.t 18), (.k (.c (.s (.pv (.int .i64 5))))), (.k (.c (.s (.pv (.bool false)))))]), none, [0, 1]⟩,
    ⟨(some 16), 16, (.mv (.t 19)), none, [2]⟩,
    ⟨(some 20), 20, (.ext 0 (.t 16)), none, [3]⟩,
    ⟨(some 21), 21, (.ext 1 (.t 16)), none, [3]⟩,
    ⟨none, 89, (.store 5 (.t 1) (.t 20)), none, [4, 2, 0, 1, 2, 3, 4]⟩,
    ⟨(some 3), 3, (.mv (.t 21)), none, [5, 6, 0, 1, 2, 3, 4, 5, 6]⟩])
  (.seq (.reg [⟨(some 23), 23, (.load true 5 (.t 1)), none, []⟩,
    ⟨(some 24), 24, (.build [(.s (.pv (.int .i64 0))), (.s (.pv (.int .i64 0))), (.s (.pv (.string ⟨#[]⟩)))] [(0, 1, (.k (.c (.s (.pv (.int .i64 2)))))), (1, 1, (.k (.c (.s (.pv (.int .i64 1))))))]), none, []⟩,
    ⟨(some 25), 25, (.call 26 [(.t 23), (.t 24), (.k (.c (.s (.pv (.int .i64 5))))), (.k (.c (.s (.pv (.bool true)))))]), none, [0, 1]⟩,
    ⟨(some 22), 22, (.mv (.t 25)), none, [2]⟩,
    ⟨(some 26), 26, (.ext 0 (.t 22)), none, [3]⟩,
    ⟨(some 27), 27, (.ext 1 (.t 22)), none, [3]⟩,
    ⟨none, 89, (.store 5 (.t 1) (.t 26)), none, [4, 2, 0, 1, 2, 3, 4]⟩,
    ⟨(some 4), 4, (.mv (.t 27)), none, [5, 6, 0, 1, 2, 3, 4, 5, 6]⟩])
  (.seq (.reg [⟨(some 29), 29, (.load true 5 (.t 1)), none, []⟩,
    ⟨(some 30), 30, (.call 23 [(.t 29), (.k (.c (.s (.pv (.int .i64 1)))))]), none, [0]⟩,
    ⟨(some 28), 28, (.mv (.t 30)), none, [1]⟩,
    ⟨(some 31), 31, (.ext 0 (.t 28)), none, [2]⟩,
    ⟨(some 32), 32, (.ext 1 (.t 28)), none, [2]⟩,
    ⟨none, 88, (.store 5 (.t 1) (.t 31)), none, [3, 1, 0, 1, 2, 3]⟩,
    ⟨(some 5), 5, (.mv (.t 32)), none, [4, 5, 0, 1, 2, 3, 4, 5]⟩])
  (.seq (.reg [⟨(some 34), 34, (.load true 5 (.t 1)), none, []⟩,
    ⟨(some 35), 35, (.call 20 [(.t 34)]), none, [0]⟩,
    ⟨(some 33), 33, (.mv (.t 35)), none, [1]⟩,
    ⟨(some 36), 36, (.ext 0 (.t 33)), none, [2]⟩,
    ⟨(some 37), 37, (.ext 1 (.t 33)), none, [2]⟩,
    ⟨(some 38), 38, (.ext 2 (.t 33)), none, [2]⟩,
    ⟨(some 39), 39, (.ext 3 (.t 33)), none, [2]⟩,
    ⟨(some 6), 6, (.mk 32 5 [[.zc, (.s (.pv (.int .i64 0))), .zc, .zc, .zc]]), none, []⟩,
    ⟨(some 7), 7, (.mk 38 3 [[(.s (.pv (.int .i64 0))), (.s (.pv (.int .i64 0))), (.s (.pv (.string ⟨#[]⟩)))]]), none, []⟩,
    ⟨none, 92, (.store 5 (.t 6) (.t 36)), none, [7, 3, 1, 0, 1, 2, 3, 7, 8]⟩,
    ⟨none, 93, (.store 3 (.t 7) (.t 37)), none, [8, 4, 9, 0, 1, 2, 3, 4, 7, 8, 9]⟩,
    ⟨(some 8), 8, (.mv (.t 38)), none, [5, 10, 0, 1, 2, 3, 4, 5, 7, 8, 9, 10]⟩,
    ⟨(some 9), 9, (.mv (.t 39)), none, [6, 11, 0, 1, 2, 3, 4, 5, 6, 7, 8, 9, 10, 11]⟩])
  (.seq (.reg [⟨(some 41), 41, (.load true 5 (.t 1)), none, []⟩,
    ⟨(some 42), 42, (.call 16 [(.t 41), (.k (.c (.s (.pv (.int .i64 2)))))]), none, [0]⟩,
    ⟨(some 40), 40, (.mv (.t 42)), none, [1]⟩,
    ⟨(some 43), 43, (.ext 0 (.t 40)), none, [2]⟩,
    ⟨(some 44), 44, (.ext 1 (.t 40)), none, [2]⟩,
    ⟨(some 10), 10, (.mv (.t 43)), none, [3, 1, 0, 1, 2, 3]⟩,
    ⟨(some 11), 11, (.mv (.t 44)), none, [4, 5, 0, 1, 2, 3, 4, 5]⟩])
  (.seq (.reg [⟨(some 45), 45, (.mv (.t 2)), none, []⟩,
    ⟨(some 46), 46, (.bin false .eql (.t 45) (.k (.c (.s (.pv (.int .i64 0)))))), none, [0]⟩,
    ⟨(some 47), 47, (.mv (.t 46)), none, [1]⟩,
    ⟨(some 48), 48, (.mv (.t 3)), (some (47, true)), [2]⟩,
    ⟨(some 49), 49, (.bin false .eql (.t 48) (.k (.c (.s (.pv (.int .i64 0)))))), (some (47, true)), [3, 2]⟩,
    ⟨(some 50), 50, (.pick (.t 47) (.t 49) (.k (.c (.s (.pv (.bool false)))))), none, [2, 4]⟩,
    ⟨(some 51), 51, (.mv (.t 50)), none, [5, 2]⟩,
    ⟨(some 52), 52, (.mv (.t 4)), (some (51, true)), [6]⟩,
    ⟨(some 53), 53, (.bin false .eql (.t 52) (.k (.c (.s (.pv (.int .i64 0)))))), (some (51, true)), [7, 6]⟩,
    ⟨(some 54), 54, (.pick (.t 51) (.t 53) (.k (.c (.s (.pv (.bool false)))))), none, [6, 8]⟩,
    ⟨(some 55), 55, (.mv (.t 54)), none, [9, 6]⟩,
    ⟨(some 56), 56, (.mv (.t 5)), (some (55, true)), [10]⟩,
    ⟨(some 57), 57, (.bin false .eql (.t 56) (.k (.c (.s (.pv (.int .i64 0)))))), (some (55, true)), [11, 10]⟩,
    ⟨(some 58), 58, (.pick (.t 55) (.t 57) (.k (.c (.s (.pv (.bool false)))))), none, [10, 12]⟩,
    ⟨(some 59), 59, (.mv (.t 58)), none, [13, 10]⟩,
    ⟨(some 60), 60, (.fld 0 (.t 7)), (some (59, true)), [14]⟩,
    ⟨(some 61), 61, (.load false 1 (.t 60)), (some (59, true)), [15, 14]⟩,
    ⟨(some 62), 62, (.bin false .eql (.t 61) (.k (.c (.s (.pv (.int .i64 1)))))), (some (59, true)), [16, 14]⟩,
    ⟨(some 63), 63, (.pick (.t 59) (.t 62) (.k (.c (.s (.pv (.bool false)))))), none, [14, 17]⟩,
    ⟨(some 64), 64, (.mv (.t 63)), none, [18, 14]⟩,
    ⟨(some 65), 65, (.mv (.t 8)), (some (64, true)), [19]⟩,
    ⟨(some 66), 66, (.not (.t 65)), (some (64, true)), [20, 19]⟩,
    ⟨(some 67), 67, (.pick (.t 64) (.t 66) (.k (.c (.s (.pv (.bool false)))))), none, [19, 21]⟩,
    ⟨(some 68), 68, (.mv (.t 67)), none, [22, 19]⟩,
    ⟨(some 69), 69, (.mv (.t 9)), (some (68, true)), [23]⟩,
    ⟨(some 70), 70, (.bin false .eql (.t 69) (.k (.c (.s (.pv (.int .i64 0)))))), (some (68, true)), [24, 23]⟩,
    ⟨(some 71), 71, (.pick (.t 68) (.t 70) (.k (.c (.s (.pv (.bool false)))))), none, [23, 25]⟩,
    ⟨(some 72), 72, (.mv (.t 71)), none, [26, 23]⟩,
    ⟨(some 73), 73, (.mv (.t 10)), (some (72, true)), [27]⟩,
    ⟨(some 74), 74, (.bin false .eql (.t 73) (.k (.c (.s (.pv (.int .i64 1)))))), (some (72, true)), [28, 27]⟩,
    ⟨(some 75), 75, (.pick (.t 72) (.t 74) (.k (.c (.s (.pv (.bool false)))))), none, [27, 29]⟩,
    ⟨(some 76), 76, (.mv (.t 75)), none, [30, 27]⟩,
    ⟨(some 77), 77, (.mv (.t 11)), (some (76, true)), [31]⟩,
    ⟨(some 78), 78, (.pick (.t 76) (.t 77) (.k (.c (.s (.pv (.bool false)))))), none, [31, 32]⟩,
    ⟨(some 79), 79, (.mv (.t 78)), none, [33, 31]⟩,
    ⟨(some 80), 80, (.load true 5 (.t 6)), (some (79, true)), [34]⟩,
    ⟨(some 81), 81, (.call 15 [(.t 80)]), (some (79, true)), [35, 34, 34]⟩,
    ⟨(some 82), 82, (.pick (.t 79) (.t 81) (.k (.c (.s (.pv (.bool false)))))), none, [34, 36]⟩,
    ⟨(some 0), 0, (.mv (.t 82)), none, [37, 36, 0, 1, 2, 3, 4, 5, 6, 7, 8, 9, 10, 11, 12, 13, 14, 15, 16, 17, 18, 19, 20, 21, 22, 23, 24, 25, 26, 27, 28, 29, 30, 31, 32, 33, 34, 35, 36, 37]⟩])
  .ret))))))))
theorem fn17 : FnIs Try.prog 17 ac17 [(.t 0)] 83 := ⟨Try.f17, Try.func17, by kernel_rfl, by kernel_rfl, by kernel_rfl⟩
/- lockkeeper/lockkeeperlaw15.Ref -/
def ac18 : ACode := (.seq (.reg [⟨(some 1), 1, (.box 32 5 (.t 0)), none, []⟩,
    ⟨(some 2), 2, (.mk 57 5 [[.zc, (.s (.pv (.int .i64 0))), .zc, .zc, .zc]]), none, []⟩,
    ⟨(some 3), 3, (.mv (.k (.c (.s (.pv (.bool false)))))), none, []⟩])
  (.seq (.reg [⟨(some 16), 16, (.fld 0 (.t 1)), none, []⟩,
    ⟨(some 17), 17, (.fld 1 (.t 16)), none, [0]⟩,
    ⟨(some 18), 18, (.load false 1 (.t 17)), none, [1]⟩,
    ⟨(some 19), 19, (.build [.zc, (.s (.pv (.int .i64 0)))] [(1, 1, (.t 18))]), none, [2]⟩,
    ⟨(some 20), 20, (.fld 3 (.t 1)), none, []⟩,
    ⟨(some 21), 21, (.load false 1 (.t 20)), none, [4]⟩,
    ⟨(some 22), 22, (.build [.zc, (.s (.pv (.int .i64 0))), .zc, .zc, .zc] [(0, 2, (.t 19)), (3, 1, (.t 21))]), none, [3, 5]⟩,
    ⟨(some 4), 4, (.mk 57 5 [[.zc, (.s (.pv (.int .i64 0))), .zc, .zc, .zc]]), none, []⟩,
    ⟨none, 116, (.store 5 (.t 4) (.t 22)), none, [7, 6, 0, 1, 2, 3, 4, 5, 6, 7]⟩])
  (.seq (.seq (.reg [⟨(some 23), 23, (.fld 0 (.t 1)), none, []⟩,
    ⟨(some 24), 24, (.fld 0 (.t 23)), none, [0]⟩,
    ⟨(some 25), 25, (.load false 1 (.t 24)), none, [1]⟩,
    ⟨(some 26), 26, (.len (.t 25)), none, [2]⟩,
    ⟨(some 27), 27, (.bin false .gtr (.t 26) (.k (.c (.s (.pv (.int .i64 40)))))), none, [3]⟩,
    ⟨(some 28), 28, (.mv (.t 27)), none, [4]⟩,
    ⟨(some 29), 29, (.fld 2 (.t 1)), (some (28, false)), [5]⟩,
    ⟨(some 30), 30, (.fld 0 (.t 29)), (some (28, false)), [6, 5]⟩,
    ⟨(some 31), 31, (.load false 1 (.t 30)), (some (28, false)), [7, 5]⟩,
    ⟨(some 32), 32, (.len (.t 31)), (some (28, false)), [8, 5]⟩,
    ⟨(some 33), 33, (.bin false .gtr (.t 32) (.k (.c (.s (.pv (.int .i64 40)))))), (some (28, false)), [9, 5]⟩,
    ⟨(some 34), 34, (.pick (.t 28) (.k (.c (.s (.pv (.bool true))))) (.t 33)), none, [5, 10]⟩,
    ⟨(some 35), 35, (.mv (.t 34)), none, [11, 5]⟩,
    ⟨(some 36), 36, (.fld 3 (.t 1)), (some (35, false)), [12]⟩,
    ⟨(some 37), 37, (.load false 1 (.t 36)), (some (35, false)), [13, 12]⟩,
    ⟨(some 38), 38, (.len (.t 37)), (some (35, false)), [14, 12]⟩,
    ⟨(some 39), 39, (.bin false .gtr (.t 38) (.k (.c (.s (.pv (.int .i64 40)))))), (some (35, false)), [15, 12]⟩,
    ⟨(some 40), 40, (.pick (.t 35) (.k (.c (.s (.pv (.bool true))))) (.t 39)), none, [12, 16]⟩,
    ⟨(some 41), 41, (.mv (.t 40)), none, [17, 12]⟩,
    ⟨(some 42), 42, (.fld 4 (.t 1)), (some (41, false)), [18]⟩,
    ⟨(some 43), 43, (.load false 1 (.t 42)), (some (41, false)), [19, 18]⟩,
    ⟨(some 44), 44, (.len (.t 43)), (some (41, false)), [20, 18]⟩,
    ⟨(some 45), 45, (.bin false .gtr (.t 44) (.k (.c (.s (.pv (.int .i64 40)))))), (some (41, false)), [21, 18]⟩,
    ⟨(some 46), 46, (.pick (.t 41) (.k (.c (.s (.pv (.bool true))))) (.t 45)), none, [18, 22]⟩])
  (.cond (.t 46) (.seq (.reg [⟨(some 47), 47, (.load true 5 (.t 4)), none, []⟩,
    ⟨none, 109, (.store 5 (.t 2) (.t 47)), none, [0, 0]⟩,
    ⟨(some 3), 3, (.mv (.k (.c (.s (.pv (.bool false)))))), none, [1, 0, 1]⟩])
  .ret) .skip))
  (.seq (.reg [⟨(some 5), 5, (.mv (.k (.c .zc))), none, []⟩])
  (.seq (.seq (.reg [⟨(some 48), 48, (.fld 0 (.t 1)), none, []⟩,
    ⟨(some 49), 49, (.fld 0 (.t 48)), none, [0]⟩,
    ⟨(some 50), 50, (.load false 1 (.t 49)), none, [1]⟩,
    ⟨(some 51), 51, (.len (.t 50)), none, [2]⟩,
    ⟨(some 52), 52, (.mv (.k (.c (.s (.pv (.int .i64 0)))))), none, []⟩])
  (.block 0 (.loop (.seq (.reg [⟨(some 53), 53, (.bin false .lss (.t 52) (.t 51)), none, []⟩])
  (.seq (.cond (.t 53) .skip (.exit 0))
  (.seq (.block 1 (.seq (.reg [⟨(some 54), 54, (.idx 3 (.t 50) (.t 52)), none, []⟩,
    ⟨(some 55), 55, (.load true 3 (.t 54)), none, [0]⟩,
    ⟨(some 7), 7, (.mk 46 3 [[(.s (.pv (.int .i64 0))), (.s (.pv (.int .i64 0))), (.s (.pv (.bool false)))]]), none, []⟩,
    ⟨none, 111, (.store 3 (.t 7) (.t 55)), none, [2, 1, 0, 1, 2]⟩])
  (.reg [⟨(some 56), 56, (.mv (.t 5)), none, []⟩,
    ⟨(some 57), 57, (.load true 3 (.t 7)), none, []⟩,
    ⟨(some 58), 58, (.bslice 65 3 [(.s (.pv (.int .i64 0))), (.s (.pv (.int .i64 0))), (.s (.pv (.bool false)))] 1 [(0, 3, (.t 57))]), none, [1]⟩,
    ⟨(some 59), 59, (.app 65 3 24 (.t 56) (.t 58)), none, [0, 2]⟩,
    ⟨(some 5), 5, (.mv (.t 59)), none, [3, 3, 0, 1, 2, 3]⟩])))
  (.reg [⟨(some 60), 60, (.bin false .add (.t 52) (.k (.c (.s (.pv (.int .i64 1)))))), none, []⟩,
    ⟨(some 52), 52, (.mv (.t 60)), none, [0]⟩])))))))
  (.seq (.reg [⟨(some 8), 8, (.mv (.k (.c .zc))), none, []⟩])
  (.seq (.seq (.reg [⟨(some 61), 61, (.fld 2 (.t 1)), none, []⟩,
    ⟨(some 62), 62, (.fld 0 (.t 61)), none, [0]⟩,
    ⟨(some 63), 63, (.load false 1 (.t 62)), none, [1]⟩,
    ⟨(some 64), 64, (.len (.t 63)), none, [2]⟩,
    ⟨(some 65), 65, (.mv (.k (.c (.s (.pv (.int .i64 0)))))), none, []⟩])
  (.block 2 (.loop (.seq (.reg [⟨(some 66), 66, (.bin false .lss (.t 65) (.t 64)), none, []⟩])
  (.seq (.cond (.t 66) .skip (.exit 2))
  (.seq (.block 3 (.seq (.reg [⟨(some 67), 67, (.idx 2 (.t 63) (.t 65)), none, []⟩,
    ⟨(some 68), 68, (.load true 2 (.t 67)), none, [0]⟩,
    ⟨(some 10), 10, (.mk 120 2 [[(.s (.pv (.int .i64 0))), (.s (.pv (.int .i64 0)))]]), none, []⟩,
    ⟨none, 111, (.store 2 (.t 10) (.t 68)), none, [2, 1, 0, 1, 2]⟩])
  (.reg [⟨(some 69), 69, (.mv (.t 8)), none, []⟩,
    ⟨(some 70), 70, (.load true 2 (.t 10)), none, []⟩,
    ⟨(some 71), 71, (.bslice 121 2 [(.s (.pv (.int .i64 0))), (.s (.pv (.int .i64 0)))] 1 [(0, 2, (.t 70))]), none, [1]⟩,
    ⟨(some 72), 72, (.app 121 2 16 (.t 69) (.t 71)), none, [0, 2]⟩,
    ⟨(some 8), 8, (.mv (.t 72)), none, [3, 3, 0, 1, 2, 3]⟩])))
  (.reg [⟨(some 73), 73, (.bin false .add (.t 65) (.k (.c (.s (.pv (.int .i64 1)))))), none, []⟩,
    ⟨(some 65), 65, (.mv (.t 73)), none, [0]⟩])))))))
  (.seq (.reg [⟨(some 11), 11, (.mv (.k (.c .zc))), none, []⟩])
  (.seq (.seq (.reg [⟨(some 74), 74, (.fld 4 (.t 1)), none, []⟩,
    ⟨(some 75), 75, (.load false 1 (.t 74)), none, [0]⟩,
    ⟨(some 76), 76, (.len (.t 75)), none, [1]⟩,
    ⟨(some 77), 77, (.mv (.k (.c (.s (.pv (.int .i64 0)))))), none, []⟩])
  (.block 4 (.loop (.seq (.reg [⟨(some 78), 78, (.bin false .lss (.t 77) (.t 76)), none, []⟩])
  (.seq (.cond (.t 78) .skip (.exit 4))
  (.seq (.block 5 (.seq (.reg [⟨(some 79), 79, (.idx 2 (.t 75) (.t 77)), none, []⟩,
    ⟨(some 80), 80, (.load true 2 (.t 79)), none, [0]⟩,
    ⟨(some 13), 13, (.mk 117 2 [[(.s (.pv (.int .i64 0))), (.s (.pv (.int .i64 0)))]]), none, []⟩,
    ⟨none, 111, (.store 2 (.t 13) (.t 80)), none, [2, 1, 0, 1, 2]⟩])
  (.reg [⟨(some 81), 81, (.mv (.t 11)), none, []⟩,
    ⟨(some 82), 82, (.load true 2 (.t 13)), none, []⟩,
    ⟨(some 83), 83, (.bslice 122 2 [(.s (.pv (.int .i64 0))), (.s (.pv (.int .i64 0)))] 1 [(0, 2, (.t 82))]), none, [1]⟩,
    ⟨(some 84), 84, (.app 122 2 16 (.t 81) (.t 83)), none, [0, 2]⟩,
    ⟨(some 11), 11, (.mv (.t 84)), none, [3, 3, 0, 1, 2, 3]⟩])))
  (.reg [⟨(some 85), 85, (.bin false .add (.t 77) (.k (.c (.s (.pv (.int .i64 1)))))), none, []⟩,
    ⟨(some 77), 77, (.mv (.t 85)), none, [0]⟩])))))))
  (.seq (.seq (.reg [⟨(some 86), 86, (.fld 3 (.t 1)), none, []⟩,
    ⟨(some 87), 87, (.load false 1 (.t 86)), none, [0]⟩,
    ⟨(some 88), 88, (.len (.t 87)), none, [1]⟩,
    ⟨(some 89), 89, (.mv (.k (.c (.s (.pv (.int .i64 0)))))), none, []⟩])
  (.block 6 (.loop (.seq (.reg [⟨(some 90), 90, (.bin false .lss (.t 89) (.t 88)), none, []⟩])
  (.seq (.cond (.t 90) .skip (.exit 6))
  (.seq (.block 7 (.seq (.reg [⟨(some 91), 91, (.idx 3 (.t 87) (.t 89)), none, []⟩,
    ⟨(some 92), 92, (.load true 3 (.t 91)), none, [0]⟩,
    ⟨(some 15), 15, (.mk 38 3 [[(.s (.pv (.int .i64 0))), (.s (.pv (.int .i64 0))), (.s (.pv (.string ⟨#[]⟩)))]]), none, []⟩,
    ⟨none, 111, (.store 3 (.t 15) (.t 92)), none, [2, 1, 0, 1, 2]⟩])
  (.seq (.reg [⟨(some 93), 93, (.fld 2 (.t 15)), none, []⟩,
    ⟨(some 94), 94, (.load false 1 (.t 93)), none, [0]⟩,
    ⟨(some 95), 95, (.slen (.t 94)), none, [1]⟩,
    ⟨(some 96), 96, (.bin false .gtr (.t 95) (.k (.c (.s (.pv (.int .i64 100)))))), none, [2]⟩])
  (.cond (.t 96) (.seq (.reg [⟨(some 97), 97, (.load true 5 (.t 4)), none, []⟩,
    ⟨none, 109, (.store 5 (.t 2) (.t 97)), none, [0, 0]⟩,
    ⟨(some 3), 3, (.mv (.k (.c (.s (.pv (.bool false)))))), none, [1, 0, 1]⟩])
  .ret) .skip))))
  (.reg [⟨(some 98), 98, (.bin false .add (.t 89) (.k (.c (.s (.pv (.int .i64 1)))))), none, []⟩,
    ⟨(some 89), 89, (.mv (.t 98)), none, [0]⟩])))))))
  (.seq (.reg [⟨(some 99), 99, (.mv (.t 5)), none, []⟩,
    ⟨(some 100), 100, (.mv (.t 8)), none, []⟩,
    ⟨(some 101), 101, (.mv (.t 11)), none, []⟩,
    ⟨(some 102), 102, (.fld 0 (.t 4)), none, [0]⟩,
    ⟨(some 103), 103, (.fld 0 (.t 102)), none, [3, 0]⟩,
    ⟨none, 113, (.store 1 (.t 103) (.t 99)), none, [4, 0, 0]⟩,
    ⟨(some 104), 104, (.fld 2 (.t 4)), none, [0, 1, 3, 4, 5]⟩,
    ⟨(some 105), 105, (.fld 0 (.t 104)), none, [6, 0, 1, 3, 4, 5]⟩,
    ⟨none, 116, (.store 1 (.t 105) (.t 100)), none, [7, 1, 5, 0, 1, 3, 4, 5]⟩,
    ⟨(some 106), 106, (.fld 4 (.t 4)), none, [0, 1, 2, 3, 4, 5, 6, 7, 8]⟩,
    ⟨none, 118, (.store 1 (.t 106) (.t 101)), none, [9, 2, 8, 0, 1, 2, 3, 4, 5, 6, 7, 8]⟩])
  (.seq (.reg [⟨(some 107), 107, (.load true 5 (.t 4)), none, []⟩,
    ⟨none, 109, (.store 5 (.t 2) (.t 107)), none, [0, 0]⟩,
    ⟨(some 3), 3, (.mv (.k (.c (.s (.pv (.bool true)))))), none, [1, 0, 1]⟩])
  .ret))))))))))))
theorem fn18 : FnIs Try.prog 18 ac18 [(.cell 2 true 5), (.t 3)] 108 := ⟨Try.f18, Try.func18, by kernel_rfl, by kernel_rfl, by kernel_rfl⟩
/- lockkeeper/lockkeeperref15.Right -/
def ac19 : ACode := (.seq (.reg [⟨(some 1), 1, (.box 57 5 (.t 0)), none, []⟩,
    ⟨(some 2), 2, (.mv (.k (.c (.s (.pv (.bool false)))))), none, []⟩])
  (.seq (.seq (.reg [⟨(some 10), 10, (.fld 0 (.t 1)), none, []⟩,
    ⟨(some 11), 11, (.load true 2 (.t 10)), none, [0]⟩,
    ⟨(some 12), 12, (.call 52 [(.t 11)]), none, [1]⟩,
    ⟨(some 13), 13, (.not (.t 12)), none, [2]⟩,
    ⟨(some 14), 14, (.mv (.t 13)), none, [3, 2]⟩,
    ⟨(some 15), 15, (.fld 2 (.t 1)), (some (14, false)), [4]⟩,
    ⟨(some 16), 16, (.load true 1 (.t 15)), (some (14, false)), [5, 4]⟩,
    ⟨(some 17), 17, (.call 53 [(.t 16)]), (some (14, false)), [6, 4, 4]⟩,
    ⟨(some 18), 18, (.not (.t 17)), (some (14, false)), [7, 4]⟩,
    ⟨(some 19), 19, (.pick (.t 14) (.k (.c (.s (.pv (.bool true))))) (.t 18)), none, [4, 8]⟩,
    ⟨(some 20), 20, (.mv (.t 19)), none, [9, 7]⟩,
    ⟨(some 21), 21, (.fld 4 (.t 1)), (some (20, false)), [10]⟩,
    ⟨(some 22), 22, (.load false 1 (.t 21)), (some (20, false)), [11, 10]⟩,
    ⟨(some 23), 23, (.call 54 [(.t 22)]), (some (20, false)), [12, 10, 10]⟩,
    ⟨(some 24), 24, (.not (.t 23)), (some (20, false)), [13, 10]⟩,
    ⟨(some 25), 25, (.pick (.t 20) (.k (.c (.s (.pv (.bool true))))) (.t 24)), none, [10, 14]⟩,
    ⟨(some 26), 26, (.mv (.t 25)), none, [15, 13]⟩,
    ⟨(some 27), 27, (.fld 3 (.t 1)), (some (26, false)), [16]⟩,
    ⟨(some 28), 28, (.load false 1 (.t 27)), (some (26, false)), [17, 16]⟩,
    ⟨(some 29), 29, (.len (.t 28)), (some (26, false)), [18, 16]⟩,
    ⟨(some 30), 30, (.fld 0 (.t 1)), (some (26, false)), [16]⟩,
    ⟨(some 31), 31, (.fld 0 (.t 30)), (some (26, false)), [20, 16]⟩,
    ⟨(some 32), 32, (.load false 1 (.t 31)), (some (26, false)), [21, 16]⟩,
    ⟨(some 33), 33, (.len (.t 32)), (some (26, false)), [22, 16]⟩,
    ⟨(some 34), 34, (.bin false .neq (.t 29) (.t 33)), (some (26, false)), [19, 23, 16]⟩,
    ⟨(some 35), 35, (.pick (.t 26) (.k (.c (.s (.pv (.bool true))))) (.t 34)), none, [16, 24]⟩])
  (.cond (.t 35) (.seq (.reg [⟨(some 2), 2, (.mv (.k (.c (.s (.pv (.bool false)))))), none, []⟩])
  .ret) .skip))
  (.seq (.seq (.reg [⟨(some 3), 3, (.mv (.k (.c (.s (.pv (.int .i64 0)))))), none, []⟩])
  (.block 0 (.loop (.seq (.seq (.reg [⟨(some 36), 36, (.mv (.t 3)), none, []⟩,
    ⟨(some 37), 37, (.fld 3 (.t 1)), none, []⟩,
    ⟨(some 38), 38, (.load false 1 (.t 37)), none, [1]⟩,
    ⟨(some 39), 39, (.len (.t 38)), none, [2]⟩,
    ⟨(some 40), 40, (.bin false .lss (.t 36) (.t 39)), none, [0, 3]⟩])
  (.cond (.t 40) .skip (.exit 0)))
  (.seq (.block 1 (.seq (.draw [⟨(some 43), 43, (.fld 0 (.t 1)), none, []⟩,
    ⟨(some 44), 44, (.fld 0 (.t 43)), none, [0]⟩,
    ⟨(some 45), 45, (.load false 1 (.t 44)), none, [1]⟩,
    ⟨(some 46), 46, (.mv (.t 3)), none, []⟩,
    ⟨(some 47), 47, (.idx 3 (.t 45) (.t 46)), none, [2, 3]⟩,
    ⟨(some 48), 48, (.load true 3 (.t 47)), none, [4]⟩,
    ⟨(some 49), 49, (.fld 3 (.t 1)), none, []⟩,
    ⟨(some 50), 50, (.load false 1 (.t 49)), none, [6]⟩,
    ⟨(some 51), 51, (.mv (.t 3)), none, []⟩,
    ⟨(some 52), 52, (.idx 3 (.t 50) (.t 51)), none, [7, 8]⟩,
    ⟨(some 53), 53, (.load true 3 (.t 52)), none, [9]⟩,
    ⟨(some 4), 4, (.mk 65 3 [[(.s (.pv (.int .i64 0))), (.s (.pv (.int .i64 0))), (.s (.pv (.bool false)))]]), none, []⟩,
    ⟨(some 5), 5, (.mk 38 3 [[(.s (.pv (.int .i64 0))), (.s (.pv (.int .i64 0))), (.s (.pv (.string ⟨#[]⟩)))]]), none, []⟩,
    ⟨none, 168, (.store 3 (.t 4) (.t 48)), none, [11, 5, 0, 1, 2, 3, 4, 5, 11, 12]⟩,
    ⟨none, 169, (.store 3 (.t 5) (.t 53)), none, [12, 10, 13, 0, 1, 2, 3, 4, 5, 6, 7, 8, 9, 10, 11, 12, 13]⟩])
  (.seq (.seq (.reg [⟨(some 54), 54, (.fld 0 (.t 4)), none, []⟩,
    ⟨(some 55), 55, (.load false 1 (.t 54)), none, [0]⟩,
    ⟨(some 56), 56, (.bin false .eql (.t 55) (.k (.c (.s (.pv (.int .i64 0)))))), none, [1]⟩])
  (.cond (.t 56) (.seq (.seq (.reg [⟨(some 57), 57, (.fld 0 (.t 5)), none, []⟩,
    ⟨(some 58), 58, (.load false 1 (.t 57)), none, [0]⟩,
    ⟨(some 59), 59, (.bin false .neq (.t 58) (.k (.c (.s (.pv (.int .i64 0)))))), none, [1]⟩,
    ⟨(some 60), 60, (.mv (.t 59)), none, [2]⟩,
    ⟨(some 61), 61, (.fld 1 (.t 5)), (some (60, false)), [3]⟩,
    ⟨(some 62), 62, (.load false 1 (.t 61)), (some (60, false)), [4, 3]⟩,
    ⟨(some 63), 63, (.bin false .neq (.t 62) (.k (.c (.s (.pv (.int .i64 0)))))), (some (60, false)), [5, 3]⟩,
    ⟨(some 64), 64, (.pick (.t 60) (.k (.c (.s (.pv (.bool true))))) (.t 63)), none, [3, 6]⟩,
    ⟨(some 65), 65, (.mv (.t 64)), none, [7, 3]⟩,
    ⟨(some 66), 66, (.fld 2 (.t 5)), (some (65, false)), [8]⟩,
    ⟨(some 67), 67, (.load false 1 (.t 66)), (some (65, false)), [9, 8]⟩,
    ⟨(some 68), 68, (.bin false .neq (.t 67) (.k (.c (.s (.pv (.string ⟨#[]⟩)))))), (some (65, false)), [10, 8]⟩,
    ⟨(some 69), 69, (.pick (.t 65) (.k (.c (.s (.pv (.bool true))))) (.t 68)), none, [8, 11]⟩,
    ⟨(some 70), 70, (.mv (.t 69)), none, [12, 8]⟩,
    ⟨(some 71), 71, (.fld 1 (.t 4)), (some (70, false)), [13]⟩,
    ⟨(some 72), 72, (.load false 1 (.t 71)), (some (70, false)), [14, 13]⟩,
    ⟨(some 73), 73, (.bin false .neq (.t 72) (.k (.c (.s (.pv (.int .i64 0)))))), (some (70, false)), [15, 13]⟩,
    ⟨(some 74), 74, (.pick (.t 70) (.k (.c (.s (.pv (.bool true))))) (.t 73)), none, [13, 16]⟩])
  (.cond (.t 74) (.seq (.reg [⟨(some 2), 2, (.mv (.k (.c (.s (.pv (.bool false)))))), none, []⟩])
  .ret) .skip))
  (.exit 1)) .skip))
  (.seq (.reg [⟨(some 75), 75, (.fld 2 (.t 1)), none, []⟩,
    ⟨(some 76), 76, (.load true 1 (.t 75)), none, [0]⟩,
    ⟨(some 77), 77, (.fld 0 (.t 4)), none, []⟩,
    ⟨(some 78), 78, (.load false 1 (.t 77)), none, [2]⟩,
    ⟨(some 79), 79, (.call 55 [(.t 76), (.t 78)]), none, [1, 3]⟩,
    ⟨(some 6), 6, (.mv (.t 79)), none, [4, 4, 0, 1, 2, 3, 4]⟩])
  (.seq (.reg [⟨(some 80), 80, (.fld 0 (.t 5)), none, []⟩,
    ⟨(some 81), 81, (.load false 1 (.t 80)), none, [0]⟩,
    ⟨(some 82), 82, (.fld 0 (.t 4)), none, []⟩,
    ⟨(some 83), 83, (.load false 1 (.t 82)), none, [2]⟩,
    ⟨(some 84), 84, (.bin false .neq (.t 81) (.t 83)), none, [1, 3]⟩,
    ⟨(some 85), 85, (.mv (.t 84)), none, [4]⟩,
    ⟨(some 86), 86, (.load true 3 (.t 5)), (some (85, false)), [5]⟩,
    ⟨(some 87), 87, (.call 56 [(.t 86)]), (some (85, false)), [6, 5, 5]⟩,
    ⟨(some 88), 88, (.not (.t 87)), (some (85, false)), [7, 5]⟩,
    ⟨(some 89), 89, (.pick (.t 85) (.k (.c (.s (.pv (.bool true))))) (.t 88)), none, [5, 8]⟩,
    ⟨(some 90), 90, (.mv (.t 89)), none, [9, 7]⟩,
    ⟨(some 91), 91, (.mv (.t 6)), (some (90, false)), [10]⟩,
    ⟨(some 92), 92, (.bin false .lss (.t 91) (.k (.c (.s (.pv (.int .i64 0)))))), (some (90, false)), [11, 10]⟩,
    ⟨(some 93), 93, (.pick (.t 90) (.k (.c (.s (.pv (.bool true))))) (.t 92)), none, [10, 12]⟩,
    ⟨(some 94), 94, (.mv (.t 93)), none, [13, 10]⟩,
    ⟨(some 95), 95, (.fld 2 (.t 1)), (some (94, false)), [14]⟩,
    ⟨(some 96), 96, (.fld 0 (.t 95)), (some (94, false)), [15, 14]⟩,
    ⟨(some 97), 97, (.load false 1 (.t 96)), (some (94, false)), [16, 14]⟩,
    ⟨(some 98), 98, (.mv (.t 6)), (some (94, false)), [14]⟩,
    ⟨(some 99), 99, (.idx 2 (.t 97) (.t 98)), (some (94, false)), [17, 18, 14]⟩,
    ⟨(some 100), 100, (.fld 1 (.t 99)), (some (94, false)), [19, 14]⟩,
    ⟨(some 101), 101, (.load false 1 (.t 100)), (some (94, false)), [20, 14]⟩,
    ⟨(some 102), 102, (.mv (.t 3)), (some (94, false)), [14]⟩,
    ⟨(some 103), 103, (.bin false .neq (.t 101) (.t 102)), (some (94, false)), [21, 22, 14]⟩,
    ⟨(some 104), 104, (.pick (.t 94) (.k (.c (.s (.pv (.bool true))))) (.t 103)), none, [14, 23]⟩])
  (.cond (.t 104) (.seq (.reg [⟨(some 2), 2, (.mv (.k (.c (.s (.pv (.bool false)))))), none, []⟩])
  .ret) .skip))))))
  (.reg [⟨(some 41), 41, (.mv (.t 3)), none, []⟩,
    ⟨(some 42), 42, (.bin false .add (.t 41) (.k (.c (.s (.pv (.int .i64 1)))))), none, [0]⟩,
    ⟨(some 3), 3, (.mv (.t 42)), none, [1, 0, 1]⟩]))))))
  (.seq (.seq (.reg [⟨(some 7), 7, (.mv (.k (.c (.s (.pv (.int .i64 0)))))), none, []⟩])
  (.block 2 (.loop (.seq (.seq (.reg [⟨(some 105), 105, (.mv (.t 7)), none, []⟩,
    ⟨(some 106), 106, (.bin false .lss (.t 105) (.k (.c (.s (.pv (.int .i64 16)))))), none, [0]⟩])
  (.cond (.t 106) .skip (.exit 2)))
  (.seq (.block 3 (.seq (.reg [⟨(some 109), 109, (.fld 2 (.t 1)), none, []⟩,
    ⟨(some 110), 110, (.fld 0 (.t 109)), none, [0]⟩,
    ⟨(some 111), 111, (.load false 1 (.t 110)), none, [1]⟩,
    ⟨(some 112), 112, (.mv (.t 7)), none, []⟩,
    ⟨(some 113), 113, (.idx 2 (.t 111) (.t 112)), none, [2, 3]⟩,
    ⟨(some 114), 114, (.load true 2 (.t 113)), none, [4]⟩,
    ⟨(some 8), 8, (.mk 121 2 [[(.s (.pv (.int .i64 0))), (.s (.pv (.int .i64 0)))]]), none, []⟩,
    ⟨none, 162, (.store 2 (.t 8) (.t 114)), none, [6, 5, 0, 1, 2, 3, 4, 5, 6]⟩])
  (.seq (.draw [⟨(some 115), 115, (.fld 0 (.t 8)), none, []⟩,
    ⟨(some 116), 116, (.load false 1 (.t 115)), none, [0]⟩,
    ⟨(some 117), 117, (.bin false .neq (.t 116) (.k (.c (.s (.pv (.int .i64 0)))))), none, [1]⟩,
    ⟨(some 118), 118, (.mv (.t 117)), none, [2]⟩,
    ⟨(some 119), 119, (.fld 1 (.t 8)), (some (118, true)), [3]⟩,
    ⟨(some 120), 120, (.load false 1 (.t 119)), (some (118, true)), [4, 3]⟩,
    ⟨(some 121), 121, (.fld 3 (.t 1)), (some (118, true)), [3]⟩,
    ⟨(some 122), 122, (.load false 1 (.t 121)), (some (118, true)), [6, 3]⟩,
    ⟨(some 123), 123, (.len (.t 122)), (some (118, true)), [7, 3]⟩,
    ⟨(some 124), 124, (.bin false .geq (.t 120) (.t 123)), (some (118, true)), [5, 8, 3]⟩,
    ⟨(some 125), 125, (.mv (.t 124)), (some (118, true)), [9, 3, 3]⟩,
    ⟨(some 126), 126, (.fld 3 (.t 1)), (some (125, false)), [10]⟩,
    ⟨(some 127), 127, (.load false 1 (.t 126)), (some (125, false)), [11, 10]⟩,
    ⟨(some 128), 128, (.fld 1 (.t 8)), (some (125, false)), [10]⟩,
    ⟨(some 129), 129, (.load false 1 (.t 128)), (some (125, false)), [13, 10]⟩,
    ⟨(some 130), 130, (.idx 3 (.t 127) (.t 129)), (some (125, false)), [12, 14, 10]⟩,
    ⟨(some 131), 131, (.fld 0 (.t 130)), (some (125, false)), [15, 10]⟩,
    ⟨(some 132), 132, (.load false 1 (.t 131)), (some (125, false)), [16, 10]⟩,
    ⟨(some 133), 133, (.fld 0 (.t 8)), (some (125, false)), [10]⟩,
    ⟨(some 134), 134, (.load false 1 (.t 133)), (some (125, false)), [18, 10]⟩,
    ⟨(some 135), 135, (.bin false .neq (.t 132) (.t 134)), (some (125, false)), [17, 19, 10]⟩,
    ⟨(some 136), 136, (.pick (.t 125) (.k (.c (.s (.pv (.bool true))))) (.t 135)), (some (118, true)), [10, 20, 3]⟩,
    ⟨(some 137), 137, (.pick (.t 118) (.t 136) (.k (.c (.s (.pv (.bool false)))))), none, [3, 21]⟩])
  (.cond (.t 137) (.seq (.reg [⟨(some 2), 2, (.mv (.k (.c (.s (.pv (.bool false)))))), none, []⟩])
  .ret) .skip))))
  (.reg [⟨(some 107), 107, (.mv (.t 7)), none, []⟩,
    ⟨(some 108), 108, (.bin false .add (.t 107) (.k (.c (.s (.pv (.int .i64 1)))))), none, [0]⟩,
    ⟨(some 7), 7, (.mv (.t 108)), none, [1, 0, 1]⟩]))))))
  (.seq (.seq (.reg [⟨(some 9), 9, (.mv (.k (.c (.s (.pv (.int .i64 0)))))), none, []⟩])
  (.block 4 (.loop (.seq (.seq (.reg [⟨(some 138), 138, (.mv (.t 9)), none, []⟩,
    ⟨(some 139), 139, (.fld 4 (.t 1)), none, []⟩,
    ⟨(some 140), 140, (.load false 1 (.t 139)), none, [1]⟩,
    ⟨(some 141), 141, (.len (.t 140)), none, [2]⟩,
    ⟨(some 142), 142, (.bin false .lss (.t 138) (.t 141)), none, [0, 3]⟩])
  (.cond (.t 142) .skip (.exit 4)))
  (.seq (.block 5 (.seq (.draw [⟨(some 145), 145, (.fld 2 (.t 1)), none, []⟩,
    ⟨(some 146), 146, (.load true 1 (.t 145)), none, [0]⟩,
    ⟨(some 147), 147, (.fld 4 (.t 1)), none, []⟩,
    ⟨(some 148), 148, (.load false 1 (.t 147)), none, [2]⟩,
    ⟨(some 149), 149, (.mv (.t 9)), none, []⟩,
    ⟨(some 150), 150, (.idx 2 (.t 148) (.t 149)), none, [3, 4]⟩,
    ⟨(some 151), 151, (.fld 0 (.t 150)), none, [5]⟩,
    ⟨(some 152), 152, (.load false 1 (.t 151)), none, [6]⟩,
    ⟨(some 153), 153, (.call 55 [(.t 146), (.t 152)]), none, [1, 7]⟩,
    ⟨(some 154), 154, (.bin false .lss (.t 153) (.k (.c (.s (.pv (.int .i64 0)))))), none, [8]⟩])
  (.cond (.t 154) (.seq (.reg [⟨(some 2), 2, (.mv (.k (.c (.s (.pv (.bool false)))))), none, []⟩])
  .ret) .skip)))
  (.reg [⟨(some 143), 143, (.mv (.t 9)), none, []⟩,
    ⟨(some 144), 144, (.bin false .add (.t 143) (.k (.c (.s (.pv (.int .i64 1)))))), none, [0]⟩,
    ⟨(some 9), 9, (.mv (.t 144)), none, [1, 0, 1]⟩]))))))
  (.seq (.reg [⟨(some 2), 2, (.mv (.k (.c (.s (.pv (.bool true)))))), none, []⟩])
  .ret))))))
theorem fn19 : FnIs Try.prog 19 ac19 [(.t 2)] 155 := ⟨Try.f19, Try.func19, by kernel_rfl, by kernel_rfl, by kernel_rfl⟩
/- lockkeeper/frames.Room -/
def ac20 : ACode := (.seq (.reg [⟨(some 1), 1, (.box 32 5 (.t 0)), none, []⟩,
    ⟨(some 2), 2, (.mk 32 5 [[.zc, (.s (.pv (.int .i64 0))), .zc, .zc, .zc]]), none, []⟩,
    ⟨(some 3), 3, (.mk 38 3 [[(.s (.pv (.int .i64 0))), (.s (.pv (.int .i64 0))), (.s (.pv (.string ⟨#[]⟩)))]]), none, []⟩,
    ⟨(some 4), 4, (.mv (.k (.c (.s (.pv (.bool false)))))), none, []⟩,
    ⟨(some 5), 5, (.mv (.k (.c (.s (.pv (.int .i64 0)))))), none, [3]⟩])
  (.seq (.seq (.reg [⟨(some 12), 12, (.load true 5 (.t 1)), none, []⟩,
    ⟨(some 13), 13, (.call 15 [(.t 12)]), none, [0]⟩,
    ⟨(some 14), 14, (.not (.t 13)), none, [1]⟩])
  (.cond (.t 14) (.seq (.reg [⟨(some 15), 15, (.load true 5 (.t 1)), none, []⟩,
    ⟨(some 16), 16, (.build [(.s (.pv (.int .i64 0))), (.s (.pv (.int .i64 0))), (.s (.pv (.string ⟨#[]⟩)))] []), none, []⟩,
    ⟨none, 57, (.store 5 (.t 2) (.t 15)), none, [0, 0]⟩,
    ⟨none, 58, (.store 3 (.t 3) (.t 16)), none, [1, 2, 0, 1, 2]⟩,
    ⟨(some 4), 4, (.mv (.k (.c (.s (.pv (.bool false)))))), none, [3, 0, 1, 2, 3]⟩,
    ⟨(some 5), 5, (.mv (.k (.c (.s (.pv (.int .i64 1)))))), none, [4, 0, 1, 2, 3, 4]⟩])
  .ret) .skip))
  (.seq (.seq (.reg [⟨(some 17), 17, (.load true 5 (.t 1)), none, []⟩,
    ⟨(some 18), 18, (.call 57 [(.t 17)]), none, [0]⟩,
    ⟨(some 19), 19, (.bin false .geq (.t 18) (.k (.c (.s (.pv (.int .i64 0)))))), none, [1]⟩])
  (.cond (.t 19) (.seq (.reg [⟨(some 20), 20, (.load true 5 (.t 1)), none, []⟩,
    ⟨(some 21), 21, (.build [(.s (.pv (.int .i64 0))), (.s (.pv (.int .i64 0))), (.s (.pv (.string ⟨#[]⟩)))] []), none, []⟩,
    ⟨none, 57, (.store 5 (.t 2) (.t 20)), none, [0, 0]⟩,
    ⟨none, 58, (.store 3 (.t 3) (.t 21)), none, [1, 2, 0, 1, 2]⟩,
    ⟨(some 4), 4, (.mv (.k (.c (.s (.pv (.bool false)))))), none, [3, 0, 1, 2, 3]⟩,
    ⟨(some 5), 5, (.mv (.k (.c (.s (.pv (.int .i64 0)))))), none, [4, 0, 1, 2, 3, 4]⟩])
  .ret) .skip))
  (.seq (.reg [⟨(some 23), 23, (.fld 0 (.t 1)), none, []⟩,
    ⟨(some 24), 24, (.load true 2 (.t 23)), none, [0]⟩,
    ⟨(some 25), 25, (.call 58 [(.t 24)]), none, [1]⟩,
    ⟨(some 22), 22, (.mv (.t 25)), none, [2]⟩,
    ⟨(some 26), 26, (.ext 0 (.t 22)), none, [3]⟩,
    ⟨(some 27), 27, (.ext 1 (.t 22)), none, [3]⟩,
    ⟨(some 28), 28, (.ext 2 (.t 22)), none, [3]⟩,
    ⟨(some 6), 6, (.mk 25 2 [[.zc, (.s (.pv (.int .i64 0)))]]), none, []⟩,
    ⟨none, 63, (.store 2 (.t 6) (.t 26)), none, [7, 4, 2, 0, 1, 2, 3, 4, 7]⟩,
    ⟨(some 7), 7, (.mv (.t 27)), none, [5, 8, 0, 1, 2, 3, 4, 5, 7, 8]⟩,
    ⟨(some 8), 8, (.mv (.t 28)), none, [6, 9, 0, 1, 2, 3, 4, 5, 6, 7, 8, 9]⟩])
  (.seq (.seq (.reg [⟨(some 29), 29, (.mv (.t 8)), none, []⟩,
    ⟨(some 30), 30, (.not (.t 29)), none, [0]⟩])
  (.cond (.t 30) (.seq (.reg [⟨(some 31), 31, (.load true 5 (.t 1)), none, []⟩,
    ⟨(some 32), 32, (.build [(.s (.pv (.int .i64 0))), (.s (.pv (.int .i64 0))), (.s (.pv (.string ⟨#[]⟩)))] []), none, []⟩,
    ⟨none, 57, (.store 5 (.t 2) (.t 31)), none, [0, 0]⟩,
    ⟨none, 58, (.store 3 (.t 3) (.t 32)), none, [1, 2, 0, 1, 2]⟩,
    ⟨(some 4), 4, (.mv (.k (.c (.s (.pv (.bool false)))))), none, [3, 0, 1, 2, 3]⟩,
    ⟨(some 5), 5, (.mv (.k (.c (.s (.pv (.int .i64 6)))))), none, [4, 0, 1, 2, 3, 4]⟩])
  .ret) .skip))
  (.seq (.reg [⟨(some 33), 33, (.load true 2 (.t 6)), none, []⟩,
    ⟨(some 34), 34, (.fld 0 (.t 1)), none, [0]⟩,
    ⟨none, 57, (.store 2 (.t 34) (.t 33)), none, [1, 0, 0]⟩])
  (.seq (.reg [⟨(some 35), 35, (.fld 3 (.t 1)), none, []⟩,
    ⟨(some 36), 36, (.load false 1 (.t 35)), none, [0]⟩,
    ⟨(some 37), 37, (.mv (.t 7)), none, []⟩,
    ⟨(some 38), 38, (.idx 3 (.t 36) (.t 37)), none, [1, 2]⟩,
    ⟨(some 39), 39, (.load true 3 (.t 38)), none, [3]⟩,
    ⟨(some 9), 9, (.mk 38 3 [[(.s (.pv (.int .i64 0))), (.s (.pv (.int .i64 0))), (.s (.pv (.string ⟨#[]⟩)))]]), none, []⟩,
    ⟨none, 61, (.store 3 (.t 9) (.t 39)), none, [5, 4, 0, 1, 2, 3, 4, 5]⟩])
  (.seq (.seq (.reg [⟨(some 41), 41, (.fld 4 (.t 1)), none, []⟩,
    ⟨(some 42), 42, (.load false 1 (.t 41)), none, [0]⟩,
    ⟨(some 43), 43, (.fld 0 (.t 9)), none, []⟩,
    ⟨(some 44), 44, (.load false 1 (.t 43)), none, [2]⟩,
    ⟨(some 45), 45, (.call 59 [(.t 42), (.t 44)]), none, [1, 3]⟩,
    ⟨(some 40), 40, (.mv (.t 45)), none, [4]⟩,
    ⟨(some 46), 46, (.ext 0 (.t 40)), none, [5]⟩,
    ⟨(some 47), 47, (.ext 1 (.t 40)), none, [5]⟩,
    ⟨(some 10), 10, (.mv (.t 46)), none, [6, 4, 0, 1, 2, 3, 4, 5, 6]⟩,
    ⟨(some 11), 11, (.mv (.t 47)), none, [7, 8, 0, 1, 2, 3, 4, 5, 6, 7, 8]⟩])
  (.seq (.reg [⟨(some 48), 48, (.mv (.t 11)), none, []⟩])
  (.cond (.t 48) (.seq (.draw [⟨(some 49), 49, (.load true 5 (.t 1)), none, []⟩,
    ⟨(some 50), 50, (.load true 3 (.t 9)), none, []⟩,
    ⟨none, 57, (.store 5 (.t 2) (.t 49)), none, [0, 0]⟩,
    ⟨none, 58, (.store 3 (.t 3) (.t 50)), none, [1, 2, 0, 1, 2]⟩,
    ⟨(some 4), 4, (.mv (.k (.c (.s (.pv (.bool true)))))), none, [3, 0, 1, 2, 3]⟩,
    ⟨(some 5), 5, (.mv (.k (.c (.s (.pv (.int .i64 0)))))), none, [4, 0, 1, 2, 3, 4]⟩])
  .ret) .skip)))
  (.seq (.draw [⟨(some 51), 51, (.load true 5 (.t 1)), none, []⟩,
    ⟨(some 52), 52, (.mv (.t 7)), none, []⟩,
    ⟨(some 53), 53, (.call 60 [(.t 51), (.t 52)]), none, [0, 1]⟩,
    ⟨(some 54), 54, (.load true 3 (.t 9)), none, []⟩,
    ⟨none, 59, (.store 5 (.t 2) (.t 53)), none, [2, 2, 0, 1, 2]⟩,
    ⟨none, 60, (.store 3 (.t 3) (.t 54)), none, [3, 4, 0, 1, 2, 3, 4]⟩,
    ⟨(some 4), 4, (.mv (.k (.c (.s (.pv (.bool false)))))), none, [5, 0, 1, 2, 3, 4, 5]⟩,
    ⟨(some 5), 5, (.mv (.k (.c (.s (.pv (.int .i64 0)))))), none, [6, 0, 1, 2, 3, 4, 5, 6]⟩])
  .ret)))))))))
theorem fn20 : FnIs Try.prog 20 ac20 [(.cell 2 true 5), (.cell 3 true 3), (.t 4), (.t 5)] 55 := ⟨Try.f20, Try.func20, by kernel_rfl, by kernel_rfl, by kernel_rfl⟩
/- lockkeeper/lockkeeperref15.Find -/
def ac21 : ACode := (.seq (.reg [⟨(some 2), 2, (.box 57 5 (.t 0)), none, []⟩,
    ⟨(some 4), 4, (.mv (.k (.c (.s (.pv (.int .i64 0)))))), none, []⟩])
  (.seq (.seq (.reg [⟨(some 5), 5, (.mv (.k (.c (.s (.pv (.int .i64 0)))))), none, []⟩])
  (.block 0 (.loop (.seq (.seq (.reg [⟨(some 6), 6, (.mv (.t 5)), none, []⟩,
    ⟨(some 7), 7, (.fld 3 (.t 2)), none, []⟩,
    ⟨(some 8), 8, (.load false 1 (.t 7)), none, [1]⟩,
    ⟨(some 9), 9, (.len (.t 8)), none, [2]⟩,
    ⟨(some 10), 10, (.bin false .lss (.t 6) (.t 9)), none, [0, 3]⟩])
  (.cond (.t 10) .skip (.exit 0)))
  (.seq (.block 1 (.seq (.reg [⟨(some 13), 13, (.mv (.t 1)), none, []⟩,
    ⟨(some 14), 14, (.bin false .gtr (.t 13) (.k (.c (.s (.pv (.int .i64 0)))))), none, [0]⟩,
    ⟨(some 15), 15, (.mv (.t 14)), none, [1]⟩,
    ⟨(some 16), 16, (.fld 3 (.t 2)), (some (15, true)), [2]⟩,
    ⟨(some 17), 17, (.load false 1 (.t 16)), (some (15, true)), [3, 2]⟩,
    ⟨(some 18), 18, (.mv (.t 5)), (some (15, true)), [2]⟩,
    ⟨(some 19), 19, (.idx 3 (.t 17) (.t 18)), (some (15, true)), [4, 5, 2]⟩,
    ⟨(some 20), 20, (.fld 0 (.t 19)), (some (15, true)), [6, 2]⟩,
    ⟨(some 21), 21, (.load false 1 (.t 20)), (some (15, true)), [7, 2]⟩,
    ⟨(some 22), 22, (.mv (.t 1)), (some (15, true)), [2]⟩,
    ⟨(some 23), 23, (.bin false .eql (.t 21) (.t 22)), (some (15, true)), [8, 9, 2]⟩,
    ⟨(some 24), 24, (.pick (.t 15) (.t 23) (.k (.c (.s (.pv (.bool false)))))), none, [2, 10]⟩])
  (.cond (.t 24) (.seq (.reg [⟨(some 25), 25, (.mv (.t 5)), none, []⟩,
    ⟨(some 4), 4, (.mv (.t 25)), none, [0, 0]⟩])
  .ret) .skip)))
  (.reg [⟨(some 11), 11, (.mv (.t 5)), none, []⟩,
    ⟨(some 12), 12, (.bin false .add (.t 11) (.k (.c (.s (.pv (.int .i64 1)))))), none, [0]⟩,
    ⟨(some 5), 5, (.mv (.t 12)), none, [1, 0, 1]⟩]))))))
  (.seq (.reg [⟨(some 4), 4, (.mv (.k (.c (.s (.pv (.int .i64 (-1))))))), none, []⟩])
  .ret)))
theorem fn21 : FnIs Try.prog 21 ac21 [(.t 4)] 26 := ⟨Try.f21, Try.func21, by kernel_rfl, by kernel_rfl, by kernel_rfl⟩
/- lockkeeper/frames.Pin -/
def ac22 : ACode := (.seq (.reg [⟨(some 2), 2, (.box 32 5 (.t 0)), none, []⟩,
    ⟨(some 4), 4, (.mk 32 5 [[.zc, (.s (.pv (.int .i64 0))), .zc, .zc, .zc]]), none, []⟩,
    ⟨(some 5), 5, (.mv (.k (.c (.s (.pv (.int .i64 0)))))), none, []⟩])
  (.seq (.reg [⟨(some 10), 10, (.load true 5 (.t 2)), none, []⟩,
    ⟨(some 11), 11, (.mv (.t 1)), none, []⟩,
    ⟨(some 12), 12, (.call 61 [(.t 10), (.t 11)]), none, [0, 1]⟩,
    ⟨(some 9), 9, (.mv (.t 12)), none, [2]⟩,
    ⟨(some 13), 13, (.ext 0 (.t 9)), none, [3]⟩,
    ⟨(some 14), 14, (.ext 1 (.t 9)), none, [3]⟩,
    ⟨(some 6), 6, (.mv (.t 13)), none, [4, 2, 0, 1, 2, 3, 4]⟩,
    ⟨(some 7), 7, (.mv (.t 14)), none, [5, 6, 0, 1, 2, 3, 4, 5, 6]⟩])
  (.seq (.seq (.reg [⟨(some 15), 15, (.mv (.t 7)), none, []⟩,
    ⟨(some 16), 16, (.bin false .neq (.t 15) (.k (.c (.s (.pv (.int .i64 0)))))), none, [0]⟩])
  (.cond (.t 16) (.seq (.reg [⟨(some 17), 17, (.load true 5 (.t 2)), none, []⟩,
    ⟨(some 18), 18, (.mv (.t 7)), none, []⟩,
    ⟨none, 45, (.store 5 (.t 4) (.t 17)), none, [0, 0]⟩,
    ⟨(some 5), 5, (.mv (.t 18)), none, [1, 2, 0, 1, 2]⟩])
  .ret) .skip))
  (.seq (.reg [⟨(some 19), 19, (.fld 0 (.t 2)), none, []⟩,
    ⟨(some 20), 20, (.fld 0 (.t 19)), none, [0]⟩,
    ⟨(some 21), 21, (.load false 1 (.t 20)), none, [1]⟩,
    ⟨(some 22), 22, (.mv (.t 6)), none, []⟩,
    ⟨(some 23), 23, (.idx 3 (.t 21) (.t 22)), none, [2, 3]⟩,
    ⟨(some 24), 24, (.load true 3 (.t 23)), none, [4]⟩,
    ⟨(some 8), 8, (.mk 46 3 [[(.s (.pv (.int .i64 0))), (.s (.pv (.int .i64 0))), (.s (.pv (.bool false)))]]), none, []⟩,
    ⟨none, 50, (.store 3 (.t 8) (.t 24)), none, [6, 5, 0, 1, 2, 3, 4, 5, 6]⟩])
  (.seq (.seq (.reg [⟨(some 25), 25, (.fld 1 (.t 8)), none, []⟩,
    ⟨(some 26), 26, (.load false 1 (.t 25)), none, [0]⟩,
    ⟨(some 27), 27, (.bin false .eql (.t 26) (.k (.c (.s (.pv (.int .i64 2147483647)))))), none, [1]⟩])
  (.cond (.t 27) (.seq (.reg [⟨(some 28), 28, (.load true 5 (.t 2)), none, []⟩,
    ⟨none, 44, (.store 5 (.t 4) (.t 28)), none, [0, 0]⟩,
    ⟨(some 5), 5, (.mv (.k (.c (.s (.pv (.int .i64 7)))))), none, [1, 0, 1]⟩])
  .ret) .skip))
  (.seq (.reg [⟨(some 29), 29, (.fld 1 (.t 8)), none, []⟩,
    ⟨(some 30), 30, (.load false 1 (.t 29)), none, [0]⟩,
    ⟨(some 31), 31, (.bin false .add (.t 30) (.k (.c (.s (.pv (.int .i64 1)))))), none, [1]⟩,
    ⟨(some 32), 32, (.fld 1 (.t 8)), none, [0, 1, 2]⟩,
    ⟨none, 47, (.store 1 (.t 32) (.t 31)), none, [3, 2, 0, 1, 2]⟩])
  (.seq (.reg [⟨(some 33), 33, (.fld 2 (.t 8)), none, []⟩,
    ⟨none, 44, (.store 1 (.t 33) (.k (.c (.s (.pv (.bool true)))))), none, [0]⟩])
  (.seq (.draw [⟨(some 34), 34, (.load true 5 (.t 2)), none, []⟩,
    ⟨(some 35), 35, (.mv (.t 6)), none, []⟩,
    ⟨(some 36), 36, (.load true 3 (.t 8)), none, []⟩,
    ⟨(some 37), 37, (.fld 3 (.t 2)), none, []⟩,
    ⟨(some 38), 38, (.load false 1 (.t 37)), none, [3]⟩,
    ⟨(some 39), 39, (.mv (.t 6)), none, []⟩,
    ⟨(some 40), 40, (.idx 3 (.t 38) (.t 39)), none, [4, 5]⟩,
    ⟨(some 41), 41, (.load true 3 (.t 40)), none, [6]⟩,
    ⟨(some 42), 42, (.call 62 [(.t 34), (.t 35), (.t 36), (.t 41)]), none, [0, 1, 2, 7]⟩,
    ⟨none, 52, (.store 5 (.t 4) (.t 42)), none, [8, 8, 0, 1, 2, 3, 4, 5, 6, 7, 8]⟩,
    ⟨(some 5), 5, (.mv (.k (.c (.s (.pv (.int .i64 0)))))), none, [9, 0, 1, 2, 3, 4, 5, 6, 7, 8, 9]⟩])
  .ret))))))))
theorem fn22 : FnIs Try.prog 22 ac22 [(.cell 4 true 5), (.t 5)] 43 := ⟨Try.f22, Try.func22, by kernel_rfl, by kernel_rfl, by kernel_rfl⟩
/- lockkeeper/frames.Unpin -/
def ac23 : ACode := (.seq (.reg [⟨(some 2), 2, (.box 32 5 (.t 0)), none, []⟩,
    ⟨(some 4), 4, (.mk 32 5 [[.zc, (.s (.pv (.int .i64 0))), .zc, .zc, .zc]]), none, []⟩,
    ⟨(some 5), 5, (.mv (.k (.c (.s (.pv (.int .i64 0)))))), none, []⟩])
  (.seq (.reg [⟨(some 10), 10, (.load true 5 (.t 2)), none, []⟩,
    ⟨(some 11), 11, (.mv (.t 1)), none, []⟩,
    ⟨(some 12), 12, (.call 61 [(.t 10), (.t 11)]), none, [0, 1]⟩,
    ⟨(some 9), 9, (.mv (.t 12)), none, [2]⟩,
    ⟨(some 13), 13, (.ext 0 (.t 9)), none, [3]⟩,
    ⟨(some 14), 14, (.ext 1 (.t 9)), none, [3]⟩,
    ⟨(some 6), 6, (.mv (.t 13)), none, [4, 2, 0, 1, 2, 3, 4]⟩,
    ⟨(some 7), 7, (.mv (.t 14)), none, [5, 6, 0, 1, 2, 3, 4, 5, 6]⟩])
  (.seq (.seq (.reg [⟨(some 15), 15, (.mv (.t 7)), none, []⟩,
    ⟨(some 16), 16, (.bin false .neq (.t 15) (.k (.c (.s (.pv (.int .i64 0)))))), none, [0]⟩])
  (.cond (.t 16) (.seq (.reg [⟨(some 17), 17, (.load true 5 (.t 2)), none, []⟩,
    ⟨(some 18), 18, (.mv (.t 7)), none, []⟩,
    ⟨none, 44, (.store 5 (.t 4) (.t 17)), none, [0, 0]⟩,
    ⟨(some 5), 5, (.mv (.t 18)), none, [1, 2, 0, 1, 2]⟩])
  .ret) .skip))
  (.seq (.reg [⟨(some 19), 19, (.fld 0 (.t 2)), none, []⟩,
    ⟨(some 20), 20, (.fld 0 (.t 19)), none, [0]⟩,
    ⟨(some 21), 21, (.load false 1 (.t 20)), none, [1]⟩,
    ⟨(some 22), 22, (.mv (.t 6)), none, []⟩,
    ⟨(some 23), 23, (.idx 3 (.t 21) (.t 22)), none, [2, 3]⟩,
    ⟨(some 24), 24, (.load true 3 (.t 23)), none, [4]⟩,
    ⟨(some 8), 8, (.mk 46 3 [[(.s (.pv (.int .i64 0))), (.s (.pv (.int .i64 0))), (.s (.pv (.bool false)))]]), none, []⟩,
    ⟨none, 49, (.store 3 (.t 8) (.t 24)), none, [6, 5, 0, 1, 2, 3, 4, 5, 6]⟩])
  (.seq (.seq (.reg [⟨(some 25), 25, (.fld 1 (.t 8)), none, []⟩,
    ⟨(some 26), 26, (.load false 1 (.t 25)), none, [0]⟩,
    ⟨(some 27), 27, (.bin false .eql (.t 26) (.k (.c (.s (.pv (.int .i64 0)))))), none, [1]⟩])
  (.cond (.t 27) (.seq (.reg [⟨(some 28), 28, (.load true 5 (.t 2)), none, []⟩,
    ⟨none, 43, (.store 5 (.t 4) (.t 28)), none, [0, 0]⟩,
    ⟨(some 5), 5, (.mv (.k (.c (.s (.pv (.int .i64 12)))))), none, [1, 0, 1]⟩])
  .ret) .skip))
  (.seq (.reg [⟨(some 29), 29, (.fld 1 (.t 8)), none, []⟩,
    ⟨(some 30), 30, (.load false 1 (.t 29)), none, [0]⟩,
    ⟨(some 31), 31, (.bin false .sub (.t 30) (.k (.c (.s (.pv (.int .i64 1)))))), none, [1]⟩,
    ⟨(some 32), 32, (.fld 1 (.t 8)), none, [0, 1, 2]⟩,
    ⟨none, 46, (.store 1 (.t 32) (.t 31)), none, [3, 2, 0, 1, 2]⟩])
  (.seq (.draw [⟨(some 33), 33, (.load true 5 (.t 2)), none, []⟩,
    ⟨(some 34), 34, (.mv (.t 6)), none, []⟩,
    ⟨(some 35), 35, (.load true 3 (.t 8)), none, []⟩,
    ⟨(some 36), 36, (.fld 3 (.t 2)), none, []⟩,
    ⟨(some 37), 37, (.load false 1 (.t 36)), none, [3]⟩,
    ⟨(some 38), 38, (.mv (.t 6)), none, []⟩,
    ⟨(some 39), 39, (.idx 3 (.t 37) (.t 38)), none, [4, 5]⟩,
    ⟨(some 40), 40, (.load true 3 (.t 39)), none, [6]⟩,
    ⟨(some 41), 41, (.call 62 [(.t 33), (.t 34), (.t 35), (.t 40)]), none, [0, 1, 2, 7]⟩,
    ⟨none, 51, (.store 5 (.t 4) (.t 41)), none, [8, 8, 0, 1, 2, 3, 4, 5, 6, 7, 8]⟩,
    ⟨(some 5), 5, (.mv (.k (.c (.s (.pv (.int .i64 0)))))), none, [9, 0, 1, 2, 3, 4, 5, 6, 7, 8, 9]⟩])
  .ret)))))))
theorem fn23 : FnIs Try.prog 23 ac23 [(.cell 4 true 5), (.t 5)] 42 := ⟨Try.f23, Try.func23, by kernel_rfl, by kernel_rfl, by kernel_rfl⟩
/- lockkeeper/lockkeeperref15.Turn -/
def ac24 : ACode := (.seq (.reg [⟨(some 5), 5, (.box 57 5 (.t 0)), none, []⟩,
    ⟨(some 10), 10, (.mk 57 5 [[.zc, (.s (.pv (.int .i64 0))), .zc, .zc, .zc]]), none, []⟩,
    ⟨(some 11), 11, (.mv (.k (.c (.s (.pv (.int .i64 0)))))), none, []⟩])
  (.seq (.seq (.reg [⟨(some 19), 19, (.load true 5 (.t 5)), none, []⟩,
    ⟨(some 20), 20, (.call 19 [(.t 19)]), none, [0]⟩,
    ⟨(some 21), 21, (.not (.t 20)), none, [1]⟩])
  (.cond (.t 21) (.seq (.reg [⟨(some 22), 22, (.load true 5 (.t 5)), none, []⟩,
    ⟨none, 121, (.store 5 (.t 10) (.t 22)), none, [0, 0]⟩,
    ⟨(some 11), 11, (.mv (.k (.c (.s (.pv (.int .i64 1)))))), none, [1, 0, 1]⟩])
  .ret) .skip))
  (.seq (.reg [⟨(some 23), 23, (.load true 5 (.t 5)), none, []⟩,
    ⟨(some 24), 24, (.mv (.t 2)), none, []⟩,
    ⟨(some 25), 25, (.call 21 [(.t 23), (.t 24)]), none, [0, 1]⟩,
    ⟨(some 12), 12, (.mv (.t 25)), none, [2, 2, 0, 1, 2]⟩])
  (.seq (.seq (.reg [⟨(some 26), 26, (.mv (.t 12)), none, []⟩,
    ⟨(some 27), 27, (.bin false .lss (.t 26) (.k (.c (.s (.pv (.int .i64 0)))))), none, [0]⟩])
  (.cond (.t 27) (.seq (.reg [⟨(some 28), 28, (.load true 5 (.t 5)), none, []⟩,
    ⟨none, 121, (.store 5 (.t 10) (.t 28)), none, [0, 0]⟩,
    ⟨(some 11), 11, (.mv (.k (.c (.s (.pv (.int .i64 3)))))), none, [1, 0, 1]⟩])
  .ret) .skip))
  (.seq (.draw [⟨(some 29), 29, (.fld 0 (.t 5)), none, []⟩,
    ⟨(some 30), 30, (.fld 0 (.t 29)), none, [0]⟩,
    ⟨(some 31), 31, (.load false 1 (.t 30)), none, [1]⟩,
    ⟨(some 32), 32, (.mv (.t 12)), none, []⟩,
    ⟨(some 33), 33, (.idx 3 (.t 31) (.t 32)), none, [2, 3]⟩,
    ⟨(some 34), 34, (.load true 3 (.t 33)), none, [4]⟩,
    ⟨(some 35), 35, (.fld 3 (.t 5)), none, []⟩,
    ⟨(some 36), 36, (.load false 1 (.t 35)), none, [6]⟩,
    ⟨(some 37), 37, (.mv (.t 12)), none, []⟩,
    ⟨(some 38), 38, (.idx 3 (.t 36) (.t 37)), none, [7, 8]⟩,
    ⟨(some 39), 39, (.load true 3 (.t 38)), none, [9]⟩,
    ⟨(some 13), 13, (.mk 65 3 [[(.s (.pv (.int .i64 0))), (.s (.pv (.int .i64 0))), (.s (.pv (.bool false)))]]), none, []⟩,
    ⟨(some 14), 14, (.mk 38 3 [[(.s (.pv (.int .i64 0))), (.s (.pv (.int .i64 0))), (.s (.pv (.string ⟨#[]⟩)))]]), none, []⟩,
    ⟨none, 133, (.store 3 (.t 13) (.t 34)), none, [11, 5, 0, 1, 2, 3, 4, 5, 11, 12]⟩,
    ⟨none, 134, (.store 3 (.t 14) (.t 39)), none, [12, 10, 13, 0, 1, 2, 3, 4, 5, 6, 7, 8, 9, 10, 11, 12, 13]⟩])
  (.seq (.reg [⟨(some 40), 40, (.fld 4 (.t 5)), none, []⟩,
    ⟨(some 41), 41, (.load false 1 (.t 40)), none, [0]⟩,
    ⟨(some 15), 15, (.mv (.t 41)), none, [1, 0, 1]⟩])
  (.seq (.seq (.reg [⟨(some 42), 42, (.mv (.t 1)), none, []⟩])
  (.block 0 (.seq (.reg [⟨(some 51), 51, (.bin false .eql (.t 42) (.k (.c (.s (.pv (.int .i64 1)))))), none, []⟩,
    ⟨(some 50), 50, (.mv (.t 51)), none, [0]⟩])
  (.cond (.t 50) (.seq (.seq (.reg [⟨(some 52), 52, (.fld 1 (.t 13)), none, []⟩,
    ⟨(some 53), 53, (.load false 1 (.t 52)), none, [0]⟩,
    ⟨(some 54), 54, (.bin false .eql (.t 53) (.k (.c (.s (.pv (.int .i64 2147483647)))))), none, [1]⟩])
  (.cond (.t 54) (.seq (.reg [⟨(some 55), 55, (.load true 5 (.t 5)), none, []⟩,
    ⟨none, 121, (.store 5 (.t 10) (.t 55)), none, [0, 0]⟩,
    ⟨(some 11), 11, (.mv (.k (.c (.s (.pv (.int .i64 7)))))), none, [1, 0, 1]⟩])
  .ret) .skip))
  (.seq (.reg [⟨(some 56), 56, (.fld 1 (.t 13)), none, []⟩,
    ⟨(some 57), 57, (.load false 1 (.t 56)), none, [0]⟩,
    ⟨(some 58), 58, (.bin false .add (.t 57) (.k (.c (.s (.pv (.int .i64 1)))))), none, [1]⟩,
    ⟨(some 59), 59, (.fld 1 (.t 13)), none, [0, 1, 2]⟩,
    ⟨none, 124, (.store 1 (.t 59) (.t 58)), none, [3, 2, 0, 1, 2]⟩])
  (.reg [⟨(some 60), 60, (.fld 2 (.t 13)), none, []⟩,
    ⟨none, 121, (.store 1 (.t 60) (.k (.c (.s (.pv (.bool true)))))), none, [0]⟩]))) (.seq (.reg [⟨(some 62), 62, (.bin false .eql (.t 42) (.k (.c (.s (.pv (.int .i64 2)))))), none, []⟩,
    ⟨(some 61), 61, (.mv (.t 62)), none, [0]⟩])
  (.cond (.t 61) (.seq (.seq (.reg [⟨(some 63), 63, (.fld 1 (.t 13)), none, []⟩,
    ⟨(some 64), 64, (.load false 1 (.t 63)), none, [0]⟩,
    ⟨(some 65), 65, (.bin false .eql (.t 64) (.k (.c (.s (.pv (.int .i64 0)))))), none, [1]⟩])
  (.cond (.t 65) (.seq (.reg [⟨(some 66), 66, (.load true 5 (.t 5)), none, []⟩,
    ⟨none, 121, (.store 5 (.t 10) (.t 66)), none, [0, 0]⟩,
    ⟨(some 11), 11, (.mv (.k (.c (.s (.pv (.int .i64 12)))))), none, [1, 0, 1]⟩])
  .ret) .skip))
  (.reg [⟨(some 67), 67, (.fld 1 (.t 13)), none, []⟩,
    ⟨(some 68), 68, (.load false 1 (.t 67)), none, [0]⟩,
    ⟨(some 69), 69, (.bin false .sub (.t 68) (.k (.c (.s (.pv (.int .i64 1)))))), none, [1]⟩,
    ⟨(some 70), 70, (.fld 1 (.t 13)), none, [0, 1, 2]⟩,
    ⟨none, 124, (.store 1 (.t 70) (.t 69)), none, [3, 2, 0, 1, 2]⟩])) (.seq (.reg [⟨(some 72), 72, (.bin false .eql (.t 42) (.k (.c (.s (.pv (.int .i64 3)))))), none, []⟩,
    ⟨(some 71), 71, (.mv (.t 72)), none, [0]⟩])
  (.cond (.t 71) (.seq (.seq (.reg [⟨(some 73), 73, (.fld 1 (.t 13)), none, []⟩,
    ⟨(some 74), 74, (.load false 1 (.t 73)), none, [0]⟩,
    ⟨(some 75), 75, (.bin false .eql (.t 74) (.k (.c (.s (.pv (.int .i64 0)))))), none, [1]⟩])
  (.cond (.t 75) (.seq (.reg [⟨(some 76), 76, (.load true 5 (.t 5)), none, []⟩,
    ⟨none, 121, (.store 5 (.t 10) (.t 76)), none, [0, 0]⟩,
    ⟨(some 11), 11, (.mv (.k (.c (.s (.pv (.int .i64 12)))))), none, [1, 0, 1]⟩])
  .ret) .skip))
  (.seq (.seq (.reg [⟨(some 77), 77, (.mv (.t 3)), none, []⟩,
    ⟨(some 78), 78, (.slen (.t 77)), none, [0]⟩,
    ⟨(some 79), 79, (.bin false .gtr (.t 78) (.k (.c (.s (.pv (.int .i64 16)))))), none, [1]⟩])
  (.cond (.t 79) (.seq (.reg [⟨(some 80), 80, (.load true 5 (.t 5)), none, []⟩,
    ⟨none, 121, (.store 5 (.t 10) (.t 80)), none, [0, 0]⟩,
    ⟨(some 11), 11, (.mv (.k (.c (.s (.pv (.int .i64 5)))))), none, [1, 0, 1]⟩])
  .ret) .skip))
  (.seq (.seq (.reg [⟨(some 81), 81, (.fld 1 (.t 14)), none, []⟩,
    ⟨(some 82), 82, (.load false 1 (.t 81)), none, [0]⟩,
    ⟨(some 83), 83, (.bin false .eql (.t 82) (.k (.c (.s (.pv (.int .i64 2147483647)))))), none, [1]⟩])
  (.cond (.t 83) (.seq (.reg [⟨(some 84), 84, (.load true 5 (.t 5)), none, []⟩,
    ⟨none, 121, (.store 5 (.t 10) (.t 84)), none, [0, 0]⟩,
    ⟨(some 11), 11, (.mv (.k (.c (.s (.pv (.int .i64 7)))))), none, [1, 0, 1]⟩])
  .ret) .skip))
  (.seq (.reg [⟨(some 86), 86, (.mv (.t 15)), none, []⟩,
    ⟨(some 87), 87, (.mv (.t 2)), none, []⟩,
    ⟨(some 88), 88, (.mv (.t 4)), none, []⟩,
    ⟨(some 89), 89, (.call 63 [(.t 86), (.t 87), (.t 88)]), none, [0, 1, 2]⟩,
    ⟨(some 85), 85, (.mv (.t 89)), none, [3]⟩,
    ⟨(some 90), 90, (.ext 0 (.t 85)), none, [4]⟩,
    ⟨(some 91), 91, (.ext 1 (.t 85)), none, [4]⟩,
    ⟨(some 16), 16, (.mv (.t 90)), none, [5, 3, 0, 1, 2, 3, 4, 5]⟩,
    ⟨(some 17), 17, (.mv (.t 91)), none, [6, 7, 0, 1, 2, 3, 4, 5, 6, 7]⟩])
  (.seq (.seq (.reg [⟨(some 92), 92, (.mv (.t 17)), none, []⟩,
    ⟨(some 93), 93, (.not (.t 92)), none, [0]⟩])
  (.cond (.t 93) (.seq (.reg [⟨(some 94), 94, (.load true 5 (.t 5)), none, []⟩,
    ⟨none, 121, (.store 5 (.t 10) (.t 94)), none, [0, 0]⟩,
    ⟨(some 11), 11, (.mv (.k (.c (.s (.pv (.int .i64 1)))))), none, [1, 0, 1]⟩])
  .ret) .skip))
  (.seq (.reg [⟨(some 95), 95, (.mv (.t 16)), none, []⟩,
    ⟨(some 15), 15, (.mv (.t 95)), none, [0, 0]⟩])
  (.seq (.reg [⟨(some 96), 96, (.mv (.t 3)), none, []⟩,
    ⟨(some 97), 97, (.fld 2 (.t 14)), none, [0]⟩,
    ⟨none, 122, (.store 1 (.t 97) (.t 96)), none, [1, 0, 0]⟩])
  (.reg [⟨(some 98), 98, (.fld 1 (.t 14)), none, []⟩,
    ⟨(some 99), 99, (.load false 1 (.t 98)), none, [0]⟩,
    ⟨(some 100), 100, (.bin false .add (.t 99) (.k (.c (.s (.pv (.int .i64 1)))))), none, [1]⟩,
    ⟨(some 101), 101, (.fld 1 (.t 14)), none, [0, 1, 2]⟩,
    ⟨none, 124, (.store 1 (.t 101) (.t 100)), none, [3, 2, 0, 1, 2]⟩])))))))) (.seq (.reg [⟨(some 103), 103, (.bin false .eql (.t 42) (.k (.c (.s (.pv (.int .i64 4)))))), none, []⟩,
    ⟨(some 102), 102, (.mv (.t 103)), none, [0]⟩])
  (.cond (.t 102) (.seq (.seq (.reg [⟨(some 104), 104, (.mv (.t 15)), none, []⟩,
    ⟨(some 105), 105, (.mv (.t 2)), none, []⟩,
    ⟨(some 106), 106, (.call 64 [(.t 104), (.t 105)]), none, [0, 1]⟩,
    ⟨(some 107), 107, (.bin false .lss (.t 106) (.k (.c (.s (.pv (.int .i64 0)))))), none, [2]⟩])
  (.cond (.t 107) (.seq (.reg [⟨(some 108), 108, (.load true 5 (.t 5)), none, []⟩,
    ⟨none, 121, (.store 5 (.t 10) (.t 108)), none, [0, 0]⟩,
    ⟨(some 11), 11, (.mv (.k (.c (.s (.pv (.int .i64 12)))))), none, [1, 0, 1]⟩])
  .ret) .skip))
  (.reg [⟨(some 109), 109, (.mv (.t 15)), none, []⟩,
    ⟨(some 110), 110, (.mv (.t 2)), none, []⟩,
    ⟨(some 111), 111, (.call 65 [(.t 109), (.t 110)]), none, [0, 1]⟩,
    ⟨(some 15), 15, (.mv (.t 111)), none, [2, 2, 0, 1, 2]⟩])) (.seq (.seq (.reg [⟨(some 43), 43, (.fld 1 (.t 13)), none, []⟩,
    ⟨(some 44), 44, (.load false 1 (.t 43)), none, [0]⟩,
    ⟨(some 45), 45, (.bin false .gtr (.t 44) (.k (.c (.s (.pv (.int .i64 0)))))), none, [1]⟩])
  (.cond (.t 45) (.seq (.reg [⟨(some 46), 46, (.load true 5 (.t 5)), none, []⟩,
    ⟨none, 121, (.store 5 (.t 10) (.t 46)), none, [0, 0]⟩,
    ⟨(some 11), 11, (.mv (.k (.c (.s (.pv (.int .i64 6)))))), none, [1, 0, 1]⟩])
  .ret) .skip))
  (.seq (.reg [⟨(some 47), 47, (.load true 5 (.t 5)), none, []⟩,
    ⟨(some 48), 48, (.mv (.t 12)), none, []⟩,
    ⟨(some 49), 49, (.call 66 [(.t 47), (.t 48)]), none, [0, 1]⟩,
    ⟨none, 123, (.store 5 (.t 10) (.t 49)), none, [2, 2, 0, 1, 2]⟩,
    ⟨(some 11), 11, (.mv (.k (.c (.s (.pv (.int .i64 0)))))), none, [3, 0, 1, 2, 3]⟩])
  .ret))))))))))))
  (.seq (.reg [⟨(some 112), 112, (.load true 5 (.t 5)), none, []⟩,
    ⟨(some 113), 113, (.mv (.t 12)), none, []⟩,
    ⟨(some 114), 114, (.load true 3 (.t 13)), none, []⟩,
    ⟨(some 115), 115, (.load true 3 (.t 14)), none, []⟩,
    ⟨(some 116), 116, (.call 67 [(.t 112), (.t 113), (.t 114), (.t 115)]), none, [0, 1, 2, 3]⟩,
    ⟨(some 18), 18, (.mk 57 5 [[.zc, (.s (.pv (.int .i64 0))), .zc, .zc, .zc]]), none, []⟩,
    ⟨none, 126, (.store 5 (.t 18) (.t 116)), none, [5, 4, 4, 0, 1, 2, 3, 4, 5]⟩])
  (.seq (.reg [⟨(some 117), 117, (.mv (.t 15)), none, []⟩,
    ⟨(some 118), 118, (.fld 4 (.t 18)), none, [0]⟩,
    ⟨none, 122, (.store 1 (.t 118) (.t 117)), none, [1, 0, 0]⟩])
  (.seq (.reg [⟨(some 119), 119, (.load true 5 (.t 18)), none, []⟩,
    ⟨none, 121, (.store 5 (.t 10) (.t 119)), none, [0, 0]⟩,
    ⟨(some 11), 11, (.mv (.k (.c (.s (.pv (.int .i64 0)))))), none, [1, 0, 1]⟩])
  .ret))))))))))
theorem fn24 : FnIs Try.prog 24 ac24 [(.cell 10 true 5), (.t 11)] 120 := ⟨Try.f24, Try.func24, by kernel_rfl, by kernel_rfl, by kernel_rfl⟩
/- lockkeeper/lockkeeperref15.Same -/
def ac25 : ACode := (.seq (.reg [⟨(some 2), 2, (.box 57 5 (.t 0)), none, []⟩,
    ⟨(some 3), 3, (.box 57 5 (.t 1)), none, []⟩,
    ⟨(some 4), 4, (.mv (.k (.c (.s (.pv (.bool false)))))), none, []⟩])
  (.seq (.seq (.reg [⟨(some 6), 6, (.fld 0 (.t 2)), none, []⟩,
    ⟨(some 7), 7, (.load true 2 (.t 6)), none, [0]⟩,
    ⟨(some 8), 8, (.fld 0 (.t 3)), none, []⟩,
    ⟨(some 9), 9, (.load true 2 (.t 8)), none, [2]⟩,
    ⟨(some 10), 10, (.call 68 [(.t 7), (.t 9)]), none, [1, 3]⟩,
    ⟨(some 11), 11, (.not (.t 10)), none, [4]⟩,
    ⟨(some 12), 12, (.mv (.t 11)), none, [5, 4]⟩,
    ⟨(some 13), 13, (.fld 2 (.t 2)), (some (12, false)), [6]⟩,
    ⟨(some 14), 14, (.load true 1 (.t 13)), (some (12, false)), [7, 6]⟩,
    ⟨(some 15), 15, (.fld 2 (.t 3)), (some (12, false)), [6]⟩,
    ⟨(some 16), 16, (.load true 1 (.t 15)), (some (12, false)), [9, 6]⟩,
    ⟨(some 17), 17, (.call 28 [(.t 14), (.t 16)]), (some (12, false)), [8, 10, 6, 6]⟩,
    ⟨(some 18), 18, (.not (.t 17)), (some (12, false)), [11, 6]⟩,
    ⟨(some 19), 19, (.pick (.t 12) (.k (.c (.s (.pv (.bool true))))) (.t 18)), none, [6, 12]⟩,
    ⟨(some 20), 20, (.mv (.t 19)), none, [13, 11]⟩,
    ⟨(some 21), 21, (.fld 4 (.t 2)), (some (20, false)), [14]⟩,
    ⟨(some 22), 22, (.load false 1 (.t 21)), (some (20, false)), [15, 14]⟩,
    ⟨(some 23), 23, (.fld 4 (.t 3)), (some (20, false)), [14]⟩,
    ⟨(some 24), 24, (.load false 1 (.t 23)), (some (20, false)), [17, 14]⟩,
    ⟨(some 25), 25, (.call 29 [(.t 22), (.t 24)]), (some (20, false)), [16, 18, 14, 14]⟩,
    ⟨(some 26), 26, (.not (.t 25)), (some (20, false)), [19, 14]⟩,
    ⟨(some 27), 27, (.pick (.t 20) (.k (.c (.s (.pv (.bool true))))) (.t 26)), none, [14, 20]⟩,
    ⟨(some 28), 28, (.mv (.t 27)), none, [21, 19]⟩,
    ⟨(some 29), 29, (.fld 3 (.t 2)), (some (28, false)), [22]⟩,
    ⟨(some 30), 30, (.load false 1 (.t 29)), (some (28, false)), [23, 22]⟩,
    ⟨(some 31), 31, (.len (.t 30)), (some (28, false)), [24, 22]⟩,
    ⟨(some 32), 32, (.fld 3 (.t 3)), (some (28, false)), [22]⟩,
    ⟨(some 33), 33, (.load false 1 (.t 32)), (some (28, false)), [26, 22]⟩,
    ⟨(some 34), 34, (.len (.t 33)), (some (28, false)), [27, 22]⟩,
    ⟨(some 35), 35, (.bin false .neq (.t 31) (.t 34)), (some (28, false)), [25, 28, 22]⟩,
    ⟨(some 36), 36, (.pick (.t 28) (.k (.c (.s (.pv (.bool true))))) (.t 35)), none, [22, 29]⟩])
  (.cond (.t 36) (.seq (.reg [⟨(some 4), 4, (.mv (.k (.c (.s (.pv (.bool false)))))), none, []⟩])
  .ret) .skip))
  (.seq (.seq (.reg [⟨(some 5), 5, (.mv (.k (.c (.s (.pv (.int .i64 0)))))), none, []⟩])
  (.block 0 (.loop (.seq (.seq (.reg [⟨(some 37), 37, (.mv (.t 5)), none, []⟩,
    ⟨(some 38), 38, (.fld 3 (.t 2)), none, []⟩,
    ⟨(some 39), 39, (.load false 1 (.t 38)), none, [1]⟩,
    ⟨(some 40), 40, (.len (.t 39)), none, [2]⟩,
    ⟨(some 41), 41, (.bin false .lss (.t 37) (.t 40)), none, [0, 3]⟩])
  (.cond (.t 41) .skip (.exit 0)))
  (.seq (.block 1 (.seq (.draw [⟨(some 44), 44, (.fld 3 (.t 2)), none, []⟩,
    ⟨(some 45), 45, (.load false 1 (.t 44)), none, [0]⟩,
    ⟨(some 46), 46, (.mv (.t 5)), none, []⟩,
    ⟨(some 47), 47, (.idx 3 (.t 45) (.t 46)), none, [1, 2]⟩,
    ⟨(some 48), 48, (.load true 3 (.t 47)), none, [3]⟩,
    ⟨(some 49), 49, (.fld 3 (.t 3)), none, []⟩,
    ⟨(some 50), 50, (.load false 1 (.t 49)), none, [5]⟩,
    ⟨(some 51), 51, (.mv (.t 5)), none, []⟩,
    ⟨(some 52), 52, (.idx 3 (.t 50) (.t 51)), none, [6, 7]⟩,
    ⟨(some 53), 53, (.load true 3 (.t 52)), none, [8]⟩,
    ⟨(some 54), 54, (.eqs true 38 (.t 48) (.t 53)), none, [4, 9]⟩])
  (.cond (.t 54) (.seq (.reg [⟨(some 4), 4, (.mv (.k (.c (.s (.pv (.bool false)))))), none, []⟩])
  .ret) .skip)))
  (.reg [⟨(some 42), 42, (.mv (.t 5)), none, []⟩,
    ⟨(some 43), 43, (.bin false .add (.t 42) (.k (.c (.s (.pv (.int .i64 1)))))), none, [0]⟩,
    ⟨(some 5), 5, (.mv (.t 43)), none, [1, 0, 1]⟩]))))))
  (.seq (.reg [⟨(some 4), 4, (.mv (.k (.c (.s (.pv (.bool true)))))), none, []⟩])
  .ret))))
theorem fn25 : FnIs Try.prog 25 ac25 [(.t 4)] 55 := ⟨Try.f25, Try.func25, by kernel_rfl, by kernel_rfl, by kernel_rfl⟩
/- lockkeeper/frames.Load -/
def ac26 : ACode := (.seq (.reg [⟨(some 4), 4, (.box 32 5 (.t 0)), none, []⟩,
    ⟨(some 5), 5, (.box 38 3 (.t 1)), none, []⟩,
    ⟨(some 8), 8, (.mk 32 5 [[.zc, (.s (.pv (.int .i64 0))), .zc, .zc, .zc]]), none, []⟩,
    ⟨(some 9), 9, (.mv (.k (.c (.s (.pv (.int .i64 0)))))), none, []⟩])
  (.seq (.seq (.reg [⟨(some 15), 15, (.load true 5 (.t 4)), none, []⟩,
    ⟨(some 16), 16, (.call 15 [(.t 15)]), none, [0]⟩,
    ⟨(some 17), 17, (.not (.t 16)), none, [1]⟩,
    ⟨(some 18), 18, (.mv (.t 17)), none, [2, 1]⟩,
    ⟨(some 19), 19, (.load true 3 (.t 5)), (some (18, false)), [3]⟩,
    ⟨(some 20), 20, (.call 69 [(.t 19)]), (some (18, false)), [4, 3, 3]⟩,
    ⟨(some 21), 21, (.not (.t 20)), (some (18, false)), [5, 3]⟩,
    ⟨(some 22), 22, (.pick (.t 18) (.k (.c (.s (.pv (.bool true))))) (.t 21)), none, [3, 6]⟩,
    ⟨(some 23), 23, (.mv (.t 22)), none, [7, 5]⟩,
    ⟨(some 24), 24, (.mv (.t 2)), (some (23, false)), [8]⟩,
    ⟨(some 25), 25, (.bin false .lss (.t 24) (.k (.c (.s (.pv (.int .i64 0)))))), (some (23, false)), [9, 8]⟩,
    ⟨(some 26), 26, (.pick (.t 23) (.k (.c (.s (.pv (.bool true))))) (.t 25)), none, [8, 10]⟩,
    ⟨(some 27), 27, (.mv (.t 26)), none, [11, 8]⟩,
    ⟨(some 28), 28, (.mv (.t 2)), (some (27, false)), [12]⟩,
    ⟨(some 29), 29, (.bin false .gtr (.t 28) (.k (.c (.s (.pv (.int .i64 2147483647)))))), (some (27, false)), [13, 12]⟩,
    ⟨(some 30), 30, (.pick (.t 27) (.k (.c (.s (.pv (.bool true))))) (.t 29)), none, [12, 14]⟩])
  (.cond (.t 30) (.seq (.reg [⟨(some 31), 31, (.load true 5 (.t 4)), none, []⟩,
    ⟨none, 79, (.store 5 (.t 8) (.t 31)), none, [0, 0]⟩,
    ⟨(some 9), 9, (.mv (.k (.c (.s (.pv (.int .i64 1)))))), none, [1, 0, 1]⟩])
  .ret) .skip))
  (.seq (.seq (.reg [⟨(some 33), 33, (.fld 2 (.t 4)), none, []⟩,
    ⟨(some 34), 34, (.load true 1 (.t 33)), none, [0]⟩,
    ⟨(some 35), 35, (.fld 0 (.t 5)), none, []⟩,
    ⟨(some 36), 36, (.load false 1 (.t 35)), none, [2]⟩,
    ⟨(some 37), 37, (.call 51 [(.t 34), (.t 36)]), none, [1, 3]⟩,
    ⟨(some 32), 32, (.mv (.t 37)), none, [4]⟩,
    ⟨(some 38), 38, (.ext 0 (.t 32)), none, [5]⟩,
    ⟨(some 39), 39, (.ext 1 (.t 32)), none, [5]⟩,
    ⟨(some 10), 10, (.mv (.t 38)), none, [6, 4, 0, 1, 2, 3, 4, 5, 6]⟩,
    ⟨(some 11), 11, (.mv (.t 39)), none, [7, 8, 0, 1, 2, 3, 4, 5, 6, 7, 8]⟩])
  (.seq (.reg [⟨(some 40), 40, (.mv (.t 11)), none, []⟩])
  (.cond (.t 40) (.seq (.reg [⟨(some 41), 41, (.load true 5 (.t 4)), none, []⟩,
    ⟨none, 79, (.store 5 (.t 8) (.t 41)), none, [0, 0]⟩,
    ⟨(some 9), 9, (.mv (.k (.c (.s (.pv (.int .i64 4)))))), none, [1, 0, 1]⟩])
  .ret) .skip)))
  (.seq (.reg [⟨(some 42), 42, (.load true 5 (.t 4)), none, []⟩,
    ⟨(some 43), 43, (.call 57 [(.t 42)]), none, [0]⟩,
    ⟨(some 12), 12, (.mv (.t 43)), none, [1, 1, 0, 1]⟩])
  (.seq (.seq (.reg [⟨(some 44), 44, (.mv (.t 12)), none, []⟩,
    ⟨(some 45), 45, (.bin false .lss (.t 44) (.k (.c (.s (.pv (.int .i64 0)))))), none, [0]⟩])
  (.cond (.t 45) (.seq (.reg [⟨(some 46), 46, (.load true 5 (.t 4)), none, []⟩,
    ⟨none, 79, (.store 5 (.t 8) (.t 46)), none, [0, 0]⟩,
    ⟨(some 9), 9, (.mv (.k (.c (.s (.pv (.int .i64 7)))))), none, [1, 0, 1]⟩])
  .ret) .skip))
  (.seq (.reg [⟨(some 47), 47, (.load true 5 (.t 4)), none, []⟩,
    ⟨(some 48), 48, (.mv (.t 12)), none, []⟩,
    ⟨(some 49), 49, (.fld 0 (.t 5)), none, []⟩,
    ⟨(some 50), 50, (.load false 1 (.t 49)), none, [2]⟩,
    ⟨(some 51), 51, (.build [(.s (.pv (.int .i64 0))), (.s (.pv (.int .i64 0))), (.s (.pv (.bool false)))] [(0, 1, (.t 50)), (1, 1, (.k (.c (.s (.pv (.int .i64 1)))))), (2, 1, (.k (.c (.s (.pv (.bool true))))))]), none, [3]⟩,
    ⟨(some 52), 52, (.load true 3 (.t 5)), none, []⟩,
    ⟨(some 53), 53, (.call 62 [(.t 47), (.t 48), (.t 51), (.t 52)]), none, [0, 1, 4, 5]⟩,
    ⟨(some 13), 13, (.mk 32 5 [[.zc, (.s (.pv (.int .i64 0))), .zc, .zc, .zc]]), none, []⟩,
    ⟨none, 86, (.store 5 (.t 13) (.t 53)), none, [7, 6, 6, 0, 1, 2, 3, 4, 5, 6, 7]⟩])
  (.seq (.reg [⟨(some 55), 55, (.fld 2 (.t 4)), none, []⟩,
    ⟨(some 56), 56, (.load true 1 (.t 55)), none, [0]⟩,
    ⟨(some 57), 57, (.fld 0 (.t 5)), none, []⟩,
    ⟨(some 58), 58, (.load false 1 (.t 57)), none, [2]⟩,
    ⟨(some 59), 59, (.mv (.t 12)), none, []⟩,
    ⟨(some 60), 60, (.call 70 [(.t 56), (.t 58), (.t 59)]), none, [1, 3, 4]⟩,
    ⟨(some 54), 54, (.mv (.t 60)), none, [5]⟩,
    ⟨(some 61), 61, (.ext 0 (.t 54)), none, [6]⟩,
    ⟨(some 62), 62, (.ext 1 (.t 54)), none, [6]⟩,
    ⟨(some 63), 63, (.fld 2 (.t 13)), none, [0, 1, 2, 3, 4, 5, 6, 7]⟩,
    ⟨none, 88, (.store 1 (.t 63) (.t 61)), none, [9, 7, 5, 0, 1, 2, 3, 4, 5, 6, 7]⟩])
  (.seq (.seq (.reg [⟨(some 64), 64, (.mv (.t 3)), none, []⟩])
  (.cond (.t 64) (.seq (.reg [⟨(some 14), 14, (.mv (.k (.c (.s (.pv (.int .i64 0)))))), none, []⟩])
  (.seq (.reg [⟨(some 66), 66, (.load true 5 (.t 13)), none, []⟩,
    ⟨(some 67), 67, (.fld 0 (.t 5)), none, []⟩,
    ⟨(some 68), 68, (.load false 1 (.t 67)), none, [1]⟩,
    ⟨(some 69), 69, (.mv (.t 2)), none, []⟩,
    ⟨(some 70), 70, (.call 71 [(.t 66), (.t 68), (.t 69)]), none, [0, 2, 3]⟩,
    ⟨(some 65), 65, (.mv (.t 70)), none, [4]⟩,
    ⟨(some 71), 71, (.ext 0 (.t 65)), none, [5]⟩,
    ⟨(some 72), 72, (.ext 1 (.t 65)), none, [5]⟩,
    ⟨none, 86, (.store 5 (.t 13) (.t 71)), none, [6, 4, 0, 1, 2, 3, 4, 5, 6]⟩,
    ⟨(some 14), 14, (.mv (.t 72)), none, [7, 8, 0, 1, 2, 3, 4, 5, 6, 7, 8]⟩])
  (.seq (.reg [⟨(some 73), 73, (.mv (.t 14)), none, []⟩,
    ⟨(some 74), 74, (.bin false .neq (.t 73) (.k (.c (.s (.pv (.int .i64 0)))))), none, [0]⟩])
  (.cond (.t 74) (.seq (.reg [⟨(some 75), 75, (.load true 5 (.t 4)), none, []⟩,
    ⟨(some 76), 76, (.mv (.t 14)), none, []⟩,
    ⟨none, 80, (.store 5 (.t 8) (.t 75)), none, [0, 0]⟩,
    ⟨(some 9), 9, (.mv (.t 76)), none, [1, 2, 0, 1, 2]⟩])
  .ret) .skip)))) .skip))
  (.seq (.reg [⟨(some 77), 77, (.load true 5 (.t 13)), none, []⟩,
    ⟨none, 79, (.store 5 (.t 8) (.t 77)), none, [0, 0]⟩,
    ⟨(some 9), 9, (.mv (.k (.c (.s (.pv (.int .i64 0)))))), none, [1, 0, 1]⟩])
  .ret)))))))))
theorem fn26 : FnIs Try.prog 26 ac26 [(.cell 8 true 5), (.t 9)] 78 := ⟨Try.f26, Try.func26, by kernel_rfl, by kernel_rfl, by kernel_rfl⟩
/- lockkeeper/frames.Drop -/
def ac27 : ACode := (.seq (.reg [⟨(some 2), 2, (.box 32 5 (.t 0)), none, []⟩,
    ⟨(some 4), 4, (.mk 32 5 [[.zc, (.s (.pv (.int .i64 0))), .zc, .zc, .zc]]), none, []⟩,
    ⟨(some 5), 5, (.mv (.k (.c (.s (.pv (.int .i64 0)))))), none, []⟩])
  (.seq (.reg [⟨(some 9), 9, (.load true 5 (.t 2)), none, []⟩,
    ⟨(some 10), 10, (.mv (.t 1)), none, []⟩,
    ⟨(some 11), 11, (.call 61 [(.t 9), (.t 10)]), none, [0, 1]⟩,
    ⟨(some 8), 8, (.mv (.t 11)), none, [2]⟩,
    ⟨(some 12), 12, (.ext 0 (.t 8)), none, [3]⟩,
    ⟨(some 13), 13, (.ext 1 (.t 8)), none, [3]⟩,
    ⟨(some 6), 6, (.mv (.t 12)), none, [4, 2, 0, 1, 2, 3, 4]⟩,
    ⟨(some 7), 7, (.mv (.t 13)), none, [5, 6, 0, 1, 2, 3, 4, 5, 6]⟩])
  (.seq (.seq (.reg [⟨(some 14), 14, (.mv (.t 7)), none, []⟩,
    ⟨(some 15), 15, (.bin false .neq (.t 14) (.k (.c (.s (.pv (.int .i64 0)))))), none, [0]⟩])
  (.cond (.t 15) (.seq (.reg [⟨(some 16), 16, (.load true 5 (.t 2)), none, []⟩,
    ⟨(some 17), 17, (.mv (.t 7)), none, []⟩,
    ⟨none, 32, (.store 5 (.t 4) (.t 16)), none, [0, 0]⟩,
    ⟨(some 5), 5, (.mv (.t 17)), none, [1, 2, 0, 1, 2]⟩])
  .ret) .skip))
  (.seq (.seq (.reg [⟨(some 18), 18, (.fld 0 (.t 2)), none, []⟩,
    ⟨(some 19), 19, (.fld 0 (.t 18)), none, [0]⟩,
    ⟨(some 20), 20, (.load false 1 (.t 19)), none, [1]⟩,
    ⟨(some 21), 21, (.mv (.t 6)), none, []⟩,
    ⟨(some 22), 22, (.idx 3 (.t 20) (.t 21)), none, [2, 3]⟩,
    ⟨(some 23), 23, (.fld 1 (.t 22)), none, [4]⟩,
    ⟨(some 24), 24, (.load false 1 (.t 23)), none, [5]⟩,
    ⟨(some 25), 25, (.bin false .gtr (.t 24) (.k (.c (.s (.pv (.int .i64 0)))))), none, [6]⟩])
  (.cond (.t 25) (.seq (.reg [⟨(some 26), 26, (.load true 5 (.t 2)), none, []⟩,
    ⟨none, 31, (.store 5 (.t 4) (.t 26)), none, [0, 0]⟩,
    ⟨(some 5), 5, (.mv (.k (.c (.s (.pv (.int .i64 6)))))), none, [1, 0, 1]⟩])
  .ret) .skip))
  (.seq (.reg [⟨(some 27), 27, (.load true 5 (.t 2)), none, []⟩,
    ⟨(some 28), 28, (.mv (.t 6)), none, []⟩,
    ⟨(some 29), 29, (.call 60 [(.t 27), (.t 28)]), none, [0, 1]⟩,
    ⟨none, 33, (.store 5 (.t 4) (.t 29)), none, [2, 2, 0, 1, 2]⟩,
    ⟨(some 5), 5, (.mv (.k (.c (.s (.pv (.int .i64 0)))))), none, [3, 0, 1, 2, 3]⟩])
  .ret)))))
theorem fn27 : FnIs Try.prog 27 ac27 [(.cell 4 true 5), (.t 5)] 30 := ⟨Try.f27, Try.func27, by kernel_rfl, by kernel_rfl, by kernel_rfl⟩
/- lockkeeper/lockkeeperref07.Same -/
def ac28 : ACode := (.seq (.reg [⟨(some 2), 2, (.box 54 1 (.t 0)), none, []⟩,
    ⟨(some 3), 3, (.box 54 1 (.t 1)), none, []⟩,
    ⟨(some 4), 4, (.mv (.k (.c (.s (.pv (.bool false)))))), none, []⟩])
  (.seq (.seq (.reg [⟨(some 6), 6, (.fld 0 (.t 2)), none, []⟩,
    ⟨(some 7), 7, (.load false 1 (.t 6)), none, [0]⟩,
    ⟨(some 8), 8, (.len (.t 7)), none, [1]⟩,
    ⟨(some 9), 9, (.fld 0 (.t 3)), none, []⟩,
    ⟨(some 10), 10, (.load false 1 (.t 9)), none, [3]⟩,
    ⟨(some 11), 11, (.len (.t 10)), none, [4]⟩,
    ⟨(some 12), 12, (.bin false .neq (.t 8) (.t 11)), none, [2, 5]⟩])
  (.cond (.t 12) (.seq (.reg [⟨(some 4), 4, (.mv (.k (.c (.s (.pv (.bool false)))))), none, []⟩])
  .ret) .skip))
  (.seq (.seq (.reg [⟨(some 5), 5, (.mv (.k (.c (.s (.pv (.int .i64 0)))))), none, []⟩])
  (.block 0 (.loop (.seq (.seq (.reg [⟨(some 13), 13, (.mv (.t 5)), none, []⟩,
    ⟨(some 14), 14, (.fld 0 (.t 2)), none, []⟩,
    ⟨(some 15), 15, (.load false 1 (.t 14)), none, [1]⟩,
    ⟨(some 16), 16, (.len (.t 15)), none, [2]⟩,
    ⟨(some 17), 17, (.bin false .lss (.t 13) (.t 16)), none, [0, 3]⟩])
  (.cond (.t 17) .skip (.exit 0)))
  (.seq (.block 1 (.seq (.draw [⟨(some 20), 20, (.fld 0 (.t 2)), none, []⟩,
    ⟨(some 21), 21, (.load false 1 (.t 20)), none, [0]⟩,
    ⟨(some 22), 22, (.mv (.t 5)), none, []⟩,
    ⟨(some 23), 23, (.idx 2 (.t 21) (.t 22)), none, [1, 2]⟩,
    ⟨(some 24), 24, (.load true 2 (.t 23)), none, [3]⟩,
    ⟨(some 25), 25, (.fld 0 (.t 3)), none, []⟩,
    ⟨(some 26), 26, (.load false 1 (.t 25)), none, [5]⟩,
    ⟨(some 27), 27, (.mv (.t 5)), none, []⟩,
    ⟨(some 28), 28, (.idx 2 (.t 26) (.t 27)), none, [6, 7]⟩,
    ⟨(some 29), 29, (.load true 2 (.t 28)), none, [8]⟩,
    ⟨(some 30), 30, (.eqs true 121 (.t 24) (.t 29)), none, [4, 9]⟩])
  (.cond (.t 30) (.seq (.reg [⟨(some 4), 4, (.mv (.k (.c (.s (.pv (.bool false)))))), none, []⟩])
  .ret) .skip)))
  (.reg [⟨(some 18), 18, (.mv (.t 5)), none, []⟩,
    ⟨(some 19), 19, (.bin false .add (.t 18) (.k (.c (.s (.pv (.int .i64 1)))))), none, [0]⟩,
    ⟨(some 5), 5, (.mv (.t 19)), none, [1, 0, 1]⟩]))))))
  (.seq (.reg [⟨(some 4), 4, (.mv (.k (.c (.s (.pv (.bool true)))))), none, []⟩])
  .ret))))
theorem fn28 : FnIs Try.prog 28 ac28 [(.t 4)] 31 := ⟨Try.f28, Try.func28, by kernel_rfl, by kernel_rfl, by kernel_rfl⟩
/- lockkeeper/lockkeeperref14.Same -/
def ac29 : ACode := (.seq (.reg [⟨(some 4), 4, (.mv (.k (.c (.s (.pv (.bool false)))))), none, []⟩])
  (.seq (.seq (.reg [⟨(some 6), 6, (.mv (.t 0)), none, []⟩,
    ⟨(some 7), 7, (.len (.t 6)), none, [0]⟩,
    ⟨(some 8), 8, (.mv (.t 1)), none, []⟩,
    ⟨(some 9), 9, (.len (.t 8)), none, [2]⟩,
    ⟨(some 10), 10, (.bin false .neq (.t 7) (.t 9)), none, [1, 3]⟩])
  (.cond (.t 10) (.seq (.reg [⟨(some 4), 4, (.mv (.k (.c (.s (.pv (.bool false)))))), none, []⟩])
  .ret) .skip))
  (.seq (.seq (.reg [⟨(some 5), 5, (.mv (.k (.c (.s (.pv (.int .i64 0)))))), none, []⟩])
  (.block 0 (.loop (.seq (.seq (.reg [⟨(some 11), 11, (.mv (.t 5)), none, []⟩,
    ⟨(some 12), 12, (.mv (.t 0)), none, []⟩,
    ⟨(some 13), 13, (.len (.t 12)), none, [1]⟩,
    ⟨(some 14), 14, (.bin false .lss (.t 11) (.t 13)), none, [0, 2]⟩])
  (.cond (.t 14) .skip (.exit 0)))
  (.seq (.block 1 (.seq (.draw [⟨(some 17), 17, (.mv (.t 0)), none, []⟩,
    ⟨(some 18), 18, (.mv (.t 5)), none, []⟩,
    ⟨(some 19), 19, (.idx 2 (.t 17) (.t 18)), none, [0, 1]⟩,
    ⟨(some 20), 20, (.load true 2 (.t 19)), none, [2]⟩,
    ⟨(some 21), 21, (.mv (.t 1)), none, []⟩,
    ⟨(some 22), 22, (.mv (.t 5)), none, []⟩,
    ⟨(some 23), 23, (.idx 2 (.t 21) (.t 22)), none, [4, 5]⟩,
    ⟨(some 24), 24, (.load true 2 (.t 23)), none, [6]⟩,
    ⟨(some 25), 25, (.eqs true 122 (.t 20) (.t 24)), none, [3, 7]⟩])
  (.cond (.t 25) (.seq (.reg [⟨(some 4), 4, (.mv (.k (.c (.s (.pv (.bool false)))))), none, []⟩])
  .ret) .skip)))
  (.reg [⟨(some 15), 15, (.mv (.t 5)), none, []⟩,
    ⟨(some 16), 16, (.bin false .add (.t 15) (.k (.c (.s (.pv (.int .i64 1)))))), none, [0]⟩,
    ⟨(some 5), 5, (.mv (.t 16)), none, [1, 0, 1]⟩]))))))
  (.seq (.reg [⟨(some 4), 4, (.mv (.k (.c (.s (.pv (.bool true)))))), none, []⟩])
  .ret))))
theorem fn29 : FnIs Try.prog 29 ac29 [(.t 4)] 26 := ⟨Try.f29, Try.func29, by kernel_rfl, by kernel_rfl, by kernel_rfl⟩
/- lockkeeper/table.New -/
def ac43 : ACode := (.seq (.reg [⟨(some 0), 0, (.mk 28 1 [[.zc]]), none, []⟩])
  (.seq (.reg [⟨(some 1), 1, (.mkSlice 120 2 16 [(.pv (.int .i64 0)), (.pv (.int .i64 0))] (.k (.c (.s (.pv (.int .i64 16))))) (.k (.c (.s (.pv (.int .i64 16)))))), none, []⟩,
    ⟨(some 2), 2, (.build [.zc] [(0, 1, (.t 1))]), none, [0]⟩,
    ⟨none, 5, (.store 1 (.t 0) (.t 2)), none, [1, 0, 1]⟩])
  .ret))
theorem fn43 : FnIs Try.prog 43 ac43 [(.cell 0 true 1)] 3 := ⟨Try.f43, Try.func43, by kernel_rfl, by kernel_rfl, by kernel_rfl⟩
/- lockkeeper/frames.Write -/
def ac44 : ACode := (.seq (.reg [⟨(some 4), 4, (.box 32 5 (.t 0)), none, []⟩,
    ⟨(some 8), 8, (.mk 32 5 [[.zc, (.s (.pv (.int .i64 0))), .zc, .zc, .zc]]), none, []⟩,
    ⟨(some 9), 9, (.mv (.k (.c (.s (.pv (.int .i64 0)))))), none, []⟩])
  (.seq (.reg [⟨(some 16), 16, (.load true 5 (.t 4)), none, []⟩,
    ⟨(some 17), 17, (.mv (.t 1)), none, []⟩,
    ⟨(some 18), 18, (.call 61 [(.t 16), (.t 17)]), none, [0, 1]⟩,
    ⟨(some 15), 15, (.mv (.t 18)), none, [2]⟩,
    ⟨(some 19), 19, (.ext 0 (.t 15)), none, [3]⟩,
    ⟨(some 20), 20, (.ext 1 (.t 15)), none, [3]⟩,
    ⟨(some 10), 10, (.mv (.t 19)), none, [4, 2, 0, 1, 2, 3, 4]⟩,
    ⟨(some 11), 11, (.mv (.t 20)), none, [5, 6, 0, 1, 2, 3, 4, 5, 6]⟩])
  (.seq (.seq (.reg [⟨(some 21), 21, (.mv (.t 11)), none, []⟩,
    ⟨(some 22), 22, (.bin false .neq (.t 21) (.k (.c (.s (.pv (.int .i64 0)))))), none, [0]⟩])
  (.cond (.t 22) (.seq (.reg [⟨(some 23), 23, (.load true 5 (.t 4)), none, []⟩,
    ⟨(some 24), 24, (.mv (.t 11)), none, []⟩,
    ⟨none, 74, (.store 5 (.t 8) (.t 23)), none, [0, 0]⟩,
    ⟨(some 9), 9, (.mv (.t 24)), none, [1, 2, 0, 1, 2]⟩])
  .ret) .skip))
  (.seq (.draw [⟨(some 25), 25, (.fld 3 (.t 4)), none, []⟩,
    ⟨(some 26), 26, (.load false 1 (.t 25)), none, [0]⟩,
    ⟨(some 27), 27, (.mv (.t 10)), none, []⟩,
    ⟨(some 28), 28, (.idx 3 (.t 26) (.t 27)), none, [1, 2]⟩,
    ⟨(some 29), 29, (.load true 3 (.t 28)), none, [3]⟩,
    ⟨(some 30), 30, (.fld 0 (.t 4)), none, []⟩,
    ⟨(some 31), 31, (.fld 0 (.t 30)), none, [5]⟩,
    ⟨(some 32), 32, (.load false 1 (.t 31)), none, [6]⟩,
    ⟨(some 33), 33, (.mv (.t 10)), none, []⟩,
    ⟨(some 34), 34, (.idx 3 (.t 32) (.t 33)), none, [7, 8]⟩,
    ⟨(some 35), 35, (.load true 3 (.t 34)), none, [9]⟩,
    ⟨(some 12), 12, (.mk 38 3 [[(.s (.pv (.int .i64 0))), (.s (.pv (.int .i64 0))), (.s (.pv (.string ⟨#[]⟩)))]]), none, []⟩,
    ⟨(some 13), 13, (.mk 46 3 [[(.s (.pv (.int .i64 0))), (.s (.pv (.int .i64 0))), (.s (.pv (.bool false)))]]), none, []⟩,
    ⟨none, 85, (.store 3 (.t 12) (.t 29)), none, [11, 4, 0, 1, 2, 3, 4, 11, 12]⟩,
    ⟨none, 86, (.store 3 (.t 13) (.t 35)), none, [12, 10, 13, 0, 1, 2, 3, 4, 5, 6, 7, 8, 9, 10, 11, 12, 13]⟩])
  (.seq (.block 0 (.seq (.reg [⟨(some 37), 37, (.fld 1 (.t 13)), none, []⟩,
    ⟨(some 38), 38, (.load false 1 (.t 37)), none, [0]⟩,
    ⟨(some 39), 39, (.bin false .eql (.t 38) (.k (.c (.s (.pv (.int .i64 0)))))), none, [1]⟩,
    ⟨(some 36), 36, (.mv (.t 39)), none, [2]⟩])
  (.cond (.t 36) (.seq (.reg [⟨(some 40), 40, (.load true 5 (.t 4)), none, []⟩,
    ⟨none, 73, (.store 5 (.t 8) (.t 40)), none, [0, 0]⟩,
    ⟨(some 9), 9, (.mv (.k (.c (.s (.pv (.int .i64 12)))))), none, [1, 0, 1]⟩])
  .ret) (.seq (.reg [⟨(some 42), 42, (.mv (.t 2)), none, []⟩,
    ⟨(some 43), 43, (.slen (.t 42)), none, [0]⟩,
    ⟨(some 44), 44, (.bin false .gtr (.t 43) (.k (.c (.s (.pv (.int .i64 16)))))), none, [1]⟩,
    ⟨(some 41), 41, (.mv (.t 44)), none, [2]⟩])
  (.cond (.t 41) (.seq (.reg [⟨(some 45), 45, (.load true 5 (.t 4)), none, []⟩,
    ⟨none, 73, (.store 5 (.t 8) (.t 45)), none, [0, 0]⟩,
    ⟨(some 9), 9, (.mv (.k (.c (.s (.pv (.int .i64 5)))))), none, [1, 0, 1]⟩])
  .ret) (.seq (.reg [⟨(some 47), 47, (.fld 1 (.t 12)), none, []⟩,
    ⟨(some 48), 48, (.load false 1 (.t 47)), none, [0]⟩,
    ⟨(some 49), 49, (.bin false .eql (.t 48) (.k (.c (.s (.pv (.int .i64 2147483647)))))), none, [1]⟩,
    ⟨(some 46), 46, (.mv (.t 49)), none, [2]⟩])
  (.cond (.t 46) (.seq (.reg [⟨(some 50), 50, (.load true 5 (.t 4)), none, []⟩,
    ⟨none, 73, (.store 5 (.t 8) (.t 50)), none, [0, 0]⟩,
    ⟨(some 9), 9, (.mv (.k (.c (.s (.pv (.int .i64 7)))))), none, [1, 0, 1]⟩])
  .ret) .skip)))))))
  (.seq (.reg [⟨(some 52), 52, (.load true 5 (.t 4)), none, []⟩,
    ⟨(some 53), 53, (.mv (.t 1)), none, []⟩,
    ⟨(some 54), 54, (.mv (.t 3)), none, []⟩,
    ⟨(some 55), 55, (.call 71 [(.t 52), (.t 53), (.t 54)]), none, [0, 1, 2]⟩,
    ⟨(some 51), 51, (.mv (.t 55)), none, [3]⟩,
    ⟨(some 56), 56, (.ext 0 (.t 51)), none, [4]⟩,
    ⟨(some 57), 57, (.ext 1 (.t 51)), none, [4]⟩,
    ⟨(some 14), 14, (.mk 32 5 [[.zc, (.s (.pv (.int .i64 0))), .zc, .zc, .zc]]), none, []⟩,
    ⟨none, 80, (.store 5 (.t 14) (.t 56)), none, [7, 5, 3, 0, 1, 2, 3, 4, 5, 7]⟩,
    ⟨(some 11), 11, (.mv (.t 57)), none, [6, 8, 0, 1, 2, 3, 4, 5, 6, 7, 8]⟩])
  (.seq (.seq (.reg [⟨(some 58), 58, (.mv (.t 11)), none, []⟩,
    ⟨(some 59), 59, (.bin false .neq (.t 58) (.k (.c (.s (.pv (.int .i64 0)))))), none, [0]⟩])
  (.cond (.t 59) (.seq (.reg [⟨(some 60), 60, (.load true 5 (.t 4)), none, []⟩,
    ⟨(some 61), 61, (.mv (.t 11)), none, []⟩,
    ⟨none, 74, (.store 5 (.t 8) (.t 60)), none, [0, 0]⟩,
    ⟨(some 9), 9, (.mv (.t 61)), none, [1, 2, 0, 1, 2]⟩])
  .ret) .skip))
  (.seq (.reg [⟨(some 62), 62, (.load true 5 (.t 14)), none, []⟩,
    ⟨(some 63), 63, (.mv (.t 10)), none, []⟩,
    ⟨(some 64), 64, (.load true 3 (.t 13)), none, []⟩,
    ⟨(some 65), 65, (.mv (.t 1)), none, []⟩,
    ⟨(some 66), 66, (.fld 1 (.t 12)), none, []⟩,
    ⟨(some 67), 67, (.load false 1 (.t 66)), none, [4]⟩,
    ⟨(some 68), 68, (.bin false .add (.t 67) (.k (.c (.s (.pv (.int .i64 1)))))), none, [5]⟩,
    ⟨(some 69), 69, (.mv (.t 2)), none, []⟩,
    ⟨(some 70), 70, (.build [(.s (.pv (.int .i64 0))), (.s (.pv (.int .i64 0))), (.s (.pv (.string ⟨#[]⟩)))] [(0, 1, (.t 65)), (1, 1, (.t 68)), (2, 1, (.t 69))]), none, [3, 6, 7]⟩,
    ⟨(some 71), 71, (.call 62 [(.t 62), (.t 63), (.t 64), (.t 70)]), none, [0, 1, 2, 8]⟩,
    ⟨none, 82, (.store 5 (.t 8) (.t 71)), none, [9, 9, 0, 1, 2, 3, 4, 5, 6, 7, 8, 9]⟩,
    ⟨(some 9), 9, (.mv (.k (.c (.s (.pv (.int .i64 0)))))), none, [10, 0, 1, 2, 3, 4, 5, 6, 7, 8, 9, 10]⟩])
  .ret))))))))
theorem fn44 : FnIs Try.prog 44 ac44 [(.cell 8 true 5), (.t 9)] 72 := ⟨Try.f44, Try.func44, by kernel_rfl, by kernel_rfl, by kernel_rfl⟩
/- lockkeeper/frames.Clean -/
def ac45 : ACode := (.seq (.reg [⟨(some 2), 2, (.box 32 5 (.t 0)), none, []⟩,
    ⟨(some 4), 4, (.mk 32 5 [[.zc, (.s (.pv (.int .i64 0))), .zc, .zc, .zc]]), none, []⟩,
    ⟨(some 5), 5, (.mv (.k (.c (.s (.pv (.int .i64 0)))))), none, []⟩])
  (.seq (.seq (.reg [⟨(some 11), 11, (.load true 5 (.t 2)), none, []⟩,
    ⟨(some 12), 12, (.mv (.t 1)), none, []⟩,
    ⟨(some 13), 13, (.call 61 [(.t 11), (.t 12)]), none, [0, 1]⟩,
    ⟨(some 10), 10, (.mv (.t 13)), none, [2]⟩,
    ⟨(some 14), 14, (.ext 0 (.t 10)), none, [3]⟩,
    ⟨(some 15), 15, (.ext 1 (.t 10)), none, [3]⟩,
    ⟨(some 6), 6, (.mv (.t 14)), none, [4, 2, 0, 1, 2, 3, 4]⟩,
    ⟨(some 7), 7, (.mv (.t 15)), none, [5, 6, 0, 1, 2, 3, 4, 5, 6]⟩])
  (.seq (.reg [⟨(some 16), 16, (.mv (.t 7)), none, []⟩,
    ⟨(some 17), 17, (.bin false .neq (.t 16) (.k (.c (.s (.pv (.int .i64 0)))))), none, [0]⟩])
  (.cond (.t 17) (.seq (.reg [⟨(some 18), 18, (.load true 5 (.t 2)), none, []⟩,
    ⟨(some 19), 19, (.mv (.t 7)), none, []⟩,
    ⟨none, 35, (.store 5 (.t 4) (.t 18)), none, [0, 0]⟩,
    ⟨(some 5), 5, (.mv (.t 19)), none, [1, 2, 0, 1, 2]⟩])
  .ret) .skip)))
  (.seq (.reg [⟨(some 21), 21, (.fld 4 (.t 2)), none, []⟩,
    ⟨(some 22), 22, (.load false 1 (.t 21)), none, [0]⟩,
    ⟨(some 23), 23, (.mv (.t 1)), none, []⟩,
    ⟨(some 24), 24, (.call 80 [(.t 22), (.t 23)]), none, [1, 2]⟩,
    ⟨(some 20), 20, (.mv (.t 24)), none, [3]⟩,
    ⟨(some 25), 25, (.ext 0 (.t 20)), none, [4]⟩,
    ⟨(some 26), 26, (.ext 1 (.t 20)), none, [4]⟩,
    ⟨(some 8), 8, (.mv (.t 25)), none, [5, 3, 0, 1, 2, 3, 4, 5]⟩,
    ⟨(some 9), 9, (.mv (.t 26)), none, [6, 7, 0, 1, 2, 3, 4, 5, 6, 7]⟩])
  (.seq (.seq (.reg [⟨(some 27), 27, (.mv (.t 9)), none, []⟩,
    ⟨(some 28), 28, (.bin false .neq (.t 27) (.k (.c (.s (.pv (.int .i64 0)))))), none, [0]⟩])
  (.cond (.t 28) (.seq (.reg [⟨(some 29), 29, (.load true 5 (.t 2)), none, []⟩,
    ⟨none, 34, (.store 5 (.t 4) (.t 29)), none, [0, 0]⟩,
    ⟨(some 5), 5, (.mv (.k (.c (.s (.pv (.int .i64 12)))))), none, [1, 0, 1]⟩])
  .ret) .skip))
  (.seq (.reg [⟨(some 30), 30, (.mv (.t 8)), none, []⟩,
    ⟨(some 31), 31, (.fld 4 (.t 2)), none, [0]⟩,
    ⟨none, 35, (.store 1 (.t 31) (.t 30)), none, [1, 0, 0]⟩])
  (.seq (.reg [⟨(some 32), 32, (.load true 5 (.t 2)), none, []⟩,
    ⟨none, 34, (.store 5 (.t 4) (.t 32)), none, [0, 0]⟩,
    ⟨(some 5), 5, (.mv (.k (.c (.s (.pv (.int .i64 0)))))), none, [1, 0, 1]⟩])
  .ret))))))
theorem fn45 : FnIs Try.prog 45 ac45 [(.cell 4 true 5), (.t 5)] 33 := ⟨Try.f45, Try.func45, by kernel_rfl, by kernel_rfl, by kernel_rfl⟩
/- lockkeeper/clock.Right -/
def ac46 : ACode := (.seq (.reg [⟨(some 1), 1, (.box 25 2 (.t 0)), none, []⟩,
    ⟨(some 2), 2, (.mv (.k (.c (.s (.pv (.bool false)))))), none, []⟩])
  (.seq (.seq (.reg [⟨(some 5), 5, (.fld 0 (.t 1)), none, []⟩,
    ⟨(some 6), 6, (.load false 1 (.t 5)), none, [0]⟩,
    ⟨(some 7), 7, (.len (.t 6)), none, [1]⟩,
    ⟨(some 8), 8, (.bin false .gtr (.t 7) (.k (.c (.s (.pv (.int .i64 8)))))), none, [2]⟩,
    ⟨(some 9), 9, (.mv (.t 8)), none, [3]⟩,
    ⟨(some 10), 10, (.load true 2 (.t 1)), (some (9, false)), [4]⟩,
    ⟨(some 11), 11, (.fld 1 (.t 1)), (some (9, false)), [4]⟩,
    ⟨(some 12), 12, (.load false 1 (.t 11)), (some (9, false)), [6, 4]⟩,
    ⟨(some 13), 13, (.call 81 [(.t 10), (.t 12)]), (some (9, false)), [5, 7, 4, 4]⟩,
    ⟨(some 14), 14, (.not (.t 13)), (some (9, false)), [8, 4]⟩,
    ⟨(some 15), 15, (.pick (.t 9) (.k (.c (.s (.pv (.bool true))))) (.t 14)), none, [4, 9]⟩])
  (.cond (.t 15) (.seq (.reg [⟨(some 2), 2, (.mv (.k (.c (.s (.pv (.bool false)))))), none, []⟩])
  .ret) .skip))
  (.seq (.seq (.reg [⟨(some 16), 16, (.fld 0 (.t 1)), none, []⟩,
    ⟨(some 17), 17, (.load false 1 (.t 16)), none, [0]⟩,
    ⟨(some 18), 18, (.len (.t 17)), none, [1]⟩,
    ⟨(some 19), 19, (.mv (.k (.c (.s (.pv (.int .i64 0)))))), none, []⟩])
  (.block 0 (.loop (.seq (.reg [⟨(some 20), 20, (.bin false .lss (.t 19) (.t 18)), none, []⟩])
  (.seq (.cond (.t 20) .skip (.exit 0))
  (.seq (.block 1 (.seq (.reg [⟨(some 21), 21, (.idx 3 (.t 17) (.t 19)), none, []⟩,
    ⟨(some 22), 22, (.load true 3 (.t 21)), none, [0]⟩,
    ⟨(some 4), 4, (.mk 46 3 [[(.s (.pv (.int .i64 0))), (.s (.pv (.int .i64 0))), (.s (.pv (.bool false)))]]), none, []⟩,
    ⟨none, 45, (.store 3 (.t 4) (.t 22)), none, [2, 1, 0, 1, 2]⟩])
  (.seq (.reg [⟨(some 23), 23, (.fld 0 (.t 4)), none, []⟩,
    ⟨(some 24), 24, (.load false 1 (.t 23)), none, [0]⟩,
    ⟨(some 25), 25, (.bin false .lss (.t 24) (.k (.c (.s (.pv (.int .i64 0)))))), none, [1]⟩,
    ⟨(some 26), 26, (.mv (.t 25)), none, [2]⟩,
    ⟨(some 27), 27, (.fld 0 (.t 4)), (some (26, false)), [3]⟩,
    ⟨(some 28), 28, (.load false 1 (.t 27)), (some (26, false)), [4, 3]⟩,
    ⟨(some 29), 29, (.bin false .gtr (.t 28) (.k (.c (.s (.pv (.int .i64 16)))))), (some (26, false)), [5, 3]⟩,
    ⟨(some 30), 30, (.pick (.t 26) (.k (.c (.s (.pv (.bool true))))) (.t 29)), none, [3, 6]⟩,
    ⟨(some 31), 31, (.mv (.t 30)), none, [7, 3]⟩,
    ⟨(some 32), 32, (.fld 1 (.t 4)), (some (31, false)), [8]⟩,
    ⟨(some 33), 33, (.load false 1 (.t 32)), (some (31, false)), [9, 8]⟩,
    ⟨(some 34), 34, (.bin false .lss (.t 33) (.k (.c (.s (.pv (.int .i64 0)))))), (some (31, false)), [10, 8]⟩,
    ⟨(some 35), 35, (.pick (.t 31) (.k (.c (.s (.pv (.bool true))))) (.t 34)), none, [8, 11]⟩,
    ⟨(some 36), 36, (.mv (.t 35)), none, [12, 8]⟩,
    ⟨(some 37), 37, (.fld 1 (.t 4)), (some (36, false)), [13]⟩,
    ⟨(some 38), 38, (.load false 1 (.t 37)), (some (36, false)), [14, 13]⟩,
    ⟨(some 39), 39, (.bin false .gtr (.t 38) (.k (.c (.s (.pv (.int .i64 2147483647)))))), (some (36, false)), [15, 13]⟩,
    ⟨(some 40), 40, (.pick (.t 36) (.k (.c (.s (.pv (.bool true))))) (.t 39)), none, [13, 16]⟩])
  (.cond (.t 40) (.seq (.reg [⟨(some 2), 2, (.mv (.k (.c (.s (.pv (.bool false)))))), none, []⟩])
  .ret) .skip))))
  (.reg [⟨(some 41), 41, (.bin false .add (.t 19) (.k (.c (.s (.pv (.int .i64 1)))))), none, []⟩,
    ⟨(some 19), 19, (.mv (.t 41)), none, [0]⟩])))))))
  (.seq (.reg [⟨(some 2), 2, (.mv (.k (.c (.s (.pv (.bool true)))))), none, []⟩])
  .ret))))
theorem fn46 : FnIs Try.prog 46 ac46 [(.t 2)] 42 := ⟨Try.f46, Try.func46, by kernel_rfl, by kernel_rfl, by kernel_rfl⟩
/- lockkeeper/table.Right -/
def ac47 : ACode := (.seq (.reg [⟨(some 1), 1, (.box 28 1 (.t 0)), none, []⟩,
    ⟨(some 2), 2, (.mv (.k (.c (.s (.pv (.bool false)))))), none, []⟩])
  (.seq (.seq (.reg [⟨(some 5), 5, (.fld 0 (.t 1)), none, []⟩,
    ⟨(some 6), 6, (.load false 1 (.t 5)), none, [0]⟩,
    ⟨(some 7), 7, (.len (.t 6)), none, [1]⟩,
    ⟨(some 8), 8, (.bin false .neq (.t 7) (.k (.c (.s (.pv (.int .i64 16)))))), none, [2]⟩])
  (.cond (.t 8) (.seq (.reg [⟨(some 2), 2, (.mv (.k (.c (.s (.pv (.bool false)))))), none, []⟩])
  .ret) .skip))
  (.seq (.seq (.reg [⟨(some 9), 9, (.fld 0 (.t 1)), none, []⟩,
    ⟨(some 10), 10, (.load false 1 (.t 9)), none, [0]⟩,
    ⟨(some 11), 11, (.len (.t 10)), none, [1]⟩,
    ⟨(some 12), 12, (.mv (.k (.c (.s (.pv (.int .i64 0)))))), none, []⟩])
  (.block 0 (.loop (.seq (.reg [⟨(some 13), 13, (.bin false .lss (.t 12) (.t 11)), none, []⟩])
  (.seq (.cond (.t 13) .skip (.exit 0))
  (.seq (.block 1 (.seq (.reg [⟨(some 14), 14, (.mv (.t 12)), none, []⟩,
    ⟨(some 15), 15, (.idx 2 (.t 10) (.t 12)), none, []⟩,
    ⟨(some 16), 16, (.load true 2 (.t 15)), none, [1]⟩,
    ⟨(some 4), 4, (.mk 120 2 [[(.s (.pv (.int .i64 0))), (.s (.pv (.int .i64 0)))]]), none, []⟩,
    ⟨(some 3), 3, (.mv (.t 14)), none, [0, 0, 1, 2, 3]⟩,
    ⟨none, 43, (.store 2 (.t 4) (.t 16)), none, [3, 2, 4, 0, 1, 2, 3, 4]⟩])
  (.seq (.seq (.reg [⟨(some 17), 17, (.load true 2 (.t 4)), none, []⟩,
    ⟨(some 18), 18, (.call 82 [(.t 17)]), none, [0]⟩])
  (.cond (.t 18) (.exit 1) .skip))
  (.seq (.reg [⟨(some 19), 19, (.fld 0 (.t 4)), none, []⟩,
    ⟨(some 20), 20, (.load false 1 (.t 19)), none, [0]⟩,
    ⟨(some 21), 21, (.call 83 [(.t 20)]), none, [1]⟩,
    ⟨(some 22), 22, (.not (.t 21)), none, [2]⟩,
    ⟨(some 23), 23, (.mv (.t 22)), none, [3, 2]⟩,
    ⟨(some 24), 24, (.fld 1 (.t 4)), (some (23, false)), [4]⟩,
    ⟨(some 25), 25, (.load false 1 (.t 24)), (some (23, false)), [5, 4]⟩,
    ⟨(some 26), 26, (.call 84 [(.t 25)]), (some (23, false)), [6, 4, 4]⟩,
    ⟨(some 27), 27, (.not (.t 26)), (some (23, false)), [7, 4]⟩,
    ⟨(some 28), 28, (.pick (.t 23) (.k (.c (.s (.pv (.bool true))))) (.t 27)), none, [4, 8]⟩,
    ⟨(some 29), 29, (.mv (.t 28)), none, [9, 7]⟩,
    ⟨(some 30), 30, (.load true 1 (.t 1)), (some (29, false)), [10]⟩,
    ⟨(some 31), 31, (.fld 0 (.t 4)), (some (29, false)), [10]⟩,
    ⟨(some 32), 32, (.load false 1 (.t 31)), (some (29, false)), [12, 10]⟩,
    ⟨(some 33), 33, (.call 85 [(.t 30), (.t 32)]), (some (29, false)), [11, 13, 10, 10]⟩,
    ⟨(some 34), 34, (.mv (.t 3)), (some (29, false)), [10]⟩,
    ⟨(some 35), 35, (.bin false .neq (.t 33) (.t 34)), (some (29, false)), [14, 15, 10]⟩,
    ⟨(some 36), 36, (.pick (.t 29) (.k (.c (.s (.pv (.bool true))))) (.t 35)), none, [10, 16]⟩])
  (.cond (.t 36) (.seq (.reg [⟨(some 2), 2, (.mv (.k (.c (.s (.pv (.bool false)))))), none, []⟩])
  .ret) .skip)))))
  (.reg [⟨(some 37), 37, (.bin false .add (.t 12) (.k (.c (.s (.pv (.int .i64 1)))))), none, []⟩,
    ⟨(some 12), 12, (.mv (.t 37)), none, [0]⟩])))))))
  (.seq (.reg [⟨(some 2), 2, (.mv (.k (.c (.s (.pv (.bool true)))))), none, []⟩])
  .ret))))
theorem fn47 : FnIs Try.prog 47 ac47 [(.t 2)] 38 := ⟨Try.f47, Try.func47, by kernel_rfl, by kernel_rfl, by kernel_rfl⟩
/- lockkeeper/dirty.Right -/
def ac48 : ACode := (.seq (.reg [⟨(some 2), 2, (.mv (.k (.c (.s (.pv (.bool false)))))), none, []⟩])
  (.seq (.reg [⟨(some 3), 3, (.mv (.k (.c (.s (.pv (.int .i64 0)))))), none, []⟩])
  (.seq (.seq (.reg [⟨(some 6), 6, (.mv (.t 0)), none, []⟩,
    ⟨(some 7), 7, (.len (.t 6)), none, [0]⟩,
    ⟨(some 8), 8, (.mv (.k (.c (.s (.pv (.int .i64 0)))))), none, []⟩])
  (.block 0 (.loop (.seq (.reg [⟨(some 9), 9, (.bin false .lss (.t 8) (.t 7)), none, []⟩])
  (.seq (.cond (.t 9) .skip (.exit 0))
  (.seq (.block 1 (.seq (.reg [⟨(some 10), 10, (.mv (.t 8)), none, []⟩,
    ⟨(some 11), 11, (.idx 2 (.t 6) (.t 8)), none, []⟩,
    ⟨(some 12), 12, (.load true 2 (.t 11)), none, [1]⟩,
    ⟨(some 5), 5, (.mk 117 2 [[(.s (.pv (.int .i64 0))), (.s (.pv (.int .i64 0)))]]), none, []⟩,
    ⟨(some 4), 4, (.mv (.t 10)), none, [0, 0, 1, 2, 3]⟩,
    ⟨none, 44, (.store 2 (.t 5) (.t 12)), none, [3, 2, 4, 0, 1, 2, 3, 4]⟩])
  (.seq (.seq (.reg [⟨(some 13), 13, (.fld 0 (.t 5)), none, []⟩,
    ⟨(some 14), 14, (.load false 1 (.t 13)), none, [0]⟩,
    ⟨(some 15), 15, (.call 86 [(.t 14)]), none, [1]⟩,
    ⟨(some 16), 16, (.not (.t 15)), none, [2]⟩,
    ⟨(some 17), 17, (.mv (.t 16)), none, [3, 2]⟩,
    ⟨(some 18), 18, (.mv (.t 0)), (some (17, false)), [4]⟩,
    ⟨(some 19), 19, (.fld 0 (.t 5)), (some (17, false)), [4]⟩,
    ⟨(some 20), 20, (.load false 1 (.t 19)), (some (17, false)), [6, 4]⟩,
    ⟨(some 21), 21, (.call 87 [(.t 18), (.t 20)]), (some (17, false)), [5, 7, 4, 4]⟩,
    ⟨(some 22), 22, (.mv (.t 4)), (some (17, false)), [4]⟩,
    ⟨(some 23), 23, (.bin false .lss (.t 21) (.t 22)), (some (17, false)), [8, 9, 4]⟩,
    ⟨(some 24), 24, (.pick (.t 17) (.k (.c (.s (.pv (.bool true))))) (.t 23)), none, [4, 10]⟩,
    ⟨(some 25), 25, (.mv (.t 24)), none, [11, 8]⟩,
    ⟨(some 26), 26, (.fld 1 (.t 5)), (some (25, false)), [12]⟩,
    ⟨(some 27), 27, (.load false 1 (.t 26)), (some (25, false)), [13, 12]⟩,
    ⟨(some 28), 28, (.mv (.t 3)), (some (25, false)), [12]⟩,
    ⟨(some 29), 29, (.bin false .lss (.t 27) (.t 28)), (some (25, false)), [14, 15, 12]⟩,
    ⟨(some 30), 30, (.pick (.t 25) (.k (.c (.s (.pv (.bool true))))) (.t 29)), none, [12, 16]⟩,
    ⟨(some 31), 31, (.mv (.t 30)), none, [17, 12]⟩,
    ⟨(some 32), 32, (.fld 1 (.t 5)), (some (31, false)), [18]⟩,
    ⟨(some 33), 33, (.load false 1 (.t 32)), (some (31, false)), [19, 18]⟩,
    ⟨(some 34), 34, (.bin false .gtr (.t 33) (.k (.c (.s (.pv (.int .i64 2147483647)))))), (some (31, false)), [20, 18]⟩,
    ⟨(some 35), 35, (.pick (.t 31) (.k (.c (.s (.pv (.bool true))))) (.t 34)), none, [18, 21]⟩])
  (.cond (.t 35) (.seq (.reg [⟨(some 2), 2, (.mv (.k (.c (.s (.pv (.bool false)))))), none, []⟩])
  .ret) .skip))
  (.reg [⟨(some 36), 36, (.fld 1 (.t 5)), none, []⟩,
    ⟨(some 37), 37, (.load false 1 (.t 36)), none, [0]⟩,
    ⟨(some 3), 3, (.mv (.t 37)), none, [1, 0, 1]⟩]))))
  (.reg [⟨(some 38), 38, (.bin false .add (.t 8) (.k (.c (.s (.pv (.int .i64 1)))))), none, []⟩,
    ⟨(some 8), 8, (.mv (.t 38)), none, [0]⟩])))))))
  (.seq (.reg [⟨(some 2), 2, (.mv (.k (.c (.s (.pv (.bool true)))))), none, []⟩])
  .ret))))
theorem fn48 : FnIs Try.prog 48 ac48 [(.t 2)] 39 := ⟨Try.f48, Try.func48, by kernel_rfl, by kernel_rfl, by kernel_rfl⟩
/- lockkeeper/frames.frameRight -/
def ac49 : ACode := (.seq (.reg [⟨(some 2), 2, (.box 32 5 (.t 0)), none, []⟩,
    ⟨(some 4), 4, (.mv (.k (.c (.s (.pv (.bool false)))))), none, []⟩])
  (.seq (.draw [⟨(some 9), 9, (.fld 0 (.t 2)), none, []⟩,
    ⟨(some 10), 10, (.fld 0 (.t 9)), none, [0]⟩,
    ⟨(some 11), 11, (.load false 1 (.t 10)), none, [1]⟩,
    ⟨(some 12), 12, (.mv (.t 1)), none, []⟩,
    ⟨(some 13), 13, (.idx 3 (.t 11) (.t 12)), none, [2, 3]⟩,
    ⟨(some 14), 14, (.load true 3 (.t 13)), none, [4]⟩,
    ⟨(some 15), 15, (.fld 3 (.t 2)), none, []⟩,
    ⟨(some 16), 16, (.load false 1 (.t 15)), none, [6]⟩,
    ⟨(some 17), 17, (.mv (.t 1)), none, []⟩,
    ⟨(some 18), 18, (.idx 3 (.t 16) (.t 17)), none, [7, 8]⟩,
    ⟨(some 19), 19, (.load true 3 (.t 18)), none, [9]⟩,
    ⟨(some 5), 5, (.mk 46 3 [[(.s (.pv (.int .i64 0))), (.s (.pv (.int .i64 0))), (.s (.pv (.bool false)))]]), none, []⟩,
    ⟨(some 6), 6, (.mk 38 3 [[(.s (.pv (.int .i64 0))), (.s (.pv (.int .i64 0))), (.s (.pv (.string ⟨#[]⟩)))]]), none, []⟩,
    ⟨none, 69, (.store 3 (.t 5) (.t 14)), none, [11, 5, 0, 1, 2, 3, 4, 5, 11, 12]⟩,
    ⟨none, 70, (.store 3 (.t 6) (.t 19)), none, [12, 10, 13, 0, 1, 2, 3, 4, 5, 6, 7, 8, 9, 10, 11, 12, 13]⟩])
  (.seq (.seq (.reg [⟨(some 20), 20, (.fld 0 (.t 5)), none, []⟩,
    ⟨(some 21), 21, (.load false 1 (.t 20)), none, [0]⟩,
    ⟨(some 22), 22, (.bin false .eql (.t 21) (.k (.c (.s (.pv (.int .i64 0)))))), none, [1]⟩])
  (.cond (.t 22) (.seq (.reg [⟨(some 23), 23, (.load true 3 (.t 6)), none, []⟩,
    ⟨(some 24), 24, (.build [(.s (.pv (.int .i64 0))), (.s (.pv (.int .i64 0))), (.s (.pv (.string ⟨#[]⟩)))] []), none, []⟩,
    ⟨(some 25), 25, (.eqs false 38 (.t 23) (.t 24)), none, [0, 1]⟩,
    ⟨(some 26), 26, (.mv (.t 25)), none, [2]⟩,
    ⟨(some 27), 27, (.fld 1 (.t 5)), (some (26, true)), [3]⟩,
    ⟨(some 28), 28, (.load false 1 (.t 27)), (some (26, true)), [4, 3]⟩,
    ⟨(some 29), 29, (.bin false .eql (.t 28) (.k (.c (.s (.pv (.int .i64 0)))))), (some (26, true)), [5, 3]⟩,
    ⟨(some 30), 30, (.pick (.t 26) (.t 29) (.k (.c (.s (.pv (.bool false)))))), none, [3, 6]⟩,
    ⟨(some 4), 4, (.mv (.t 30)), none, [7, 3, 0, 1, 2, 3, 4, 5, 6, 7]⟩])
  .ret) .skip))
  (.seq (.reg [⟨(some 32), 32, (.fld 2 (.t 2)), none, []⟩,
    ⟨(some 33), 33, (.load true 1 (.t 32)), none, [0]⟩,
    ⟨(some 34), 34, (.fld 0 (.t 5)), none, []⟩,
    ⟨(some 35), 35, (.load false 1 (.t 34)), none, [2]⟩,
    ⟨(some 36), 36, (.call 51 [(.t 33), (.t 35)]), none, [1, 3]⟩,
    ⟨(some 31), 31, (.mv (.t 36)), none, [4]⟩,
    ⟨(some 37), 37, (.ext 0 (.t 31)), none, [5]⟩,
    ⟨(some 38), 38, (.ext 1 (.t 31)), none, [5]⟩,
    ⟨(some 7), 7, (.mv (.t 37)), none, [6, 4, 0, 1, 2, 3, 4, 5, 6]⟩,
    ⟨(some 8), 8, (.mv (.t 38)), none, [7, 8, 0, 1, 2, 3, 4, 5, 6, 7, 8]⟩])
  (.seq (.reg [⟨(some 39), 39, (.fld 0 (.t 5)), none, []⟩,
    ⟨(some 40), 40, (.load false 1 (.t 39)), none, [0]⟩,
    ⟨(some 41), 41, (.fld 0 (.t 6)), none, []⟩,
    ⟨(some 42), 42, (.load false 1 (.t 41)), none, [2]⟩,
    ⟨(some 43), 43, (.bin false .eql (.t 40) (.t 42)), none, [1, 3]⟩,
    ⟨(some 44), 44, (.mv (.t 43)), none, [4]⟩,
    ⟨(some 45), 45, (.load true 3 (.t 6)), (some (44, true)), [5]⟩,
    ⟨(some 46), 46, (.call 69 [(.t 45)]), (some (44, true)), [6, 5, 5]⟩,
    ⟨(some 47), 47, (.pick (.t 44) (.t 46) (.k (.c (.s (.pv (.bool false)))))), none, [5, 7]⟩,
    ⟨(some 48), 48, (.mv (.t 47)), none, [8, 7]⟩,
    ⟨(some 49), 49, (.mv (.t 8)), (some (48, true)), [9]⟩,
    ⟨(some 50), 50, (.pick (.t 48) (.t 49) (.k (.c (.s (.pv (.bool false)))))), none, [9, 10]⟩,
    ⟨(some 51), 51, (.mv (.t 50)), none, [11, 9]⟩,
    ⟨(some 52), 52, (.mv (.t 7)), (some (51, true)), [12]⟩,
    ⟨(some 53), 53, (.mv (.t 1)), (some (51, true)), [12]⟩,
    ⟨(some 54), 54, (.bin false .eql (.t 52) (.t 53)), (some (51, true)), [13, 14, 12]⟩,
    ⟨(some 55), 55, (.pick (.t 51) (.t 54) (.k (.c (.s (.pv (.bool false)))))), none, [12, 15]⟩,
    ⟨(some 4), 4, (.mv (.t 55)), none, [16, 12, 0, 1, 2, 3, 4, 5, 6, 7, 8, 9, 10, 11, 12, 13, 14, 15, 16]⟩])
  .ret)))))
theorem fn49 : FnIs Try.prog 49 ac49 [(.t 4)] 56 := ⟨Try.f49, Try.func49, by kernel_rfl, by kernel_rfl, by kernel_rfl⟩
/- lockkeeper/table.Pages -/
def ac50 : ACode := (.seq (.reg [⟨(some 1), 1, (.box 28 1 (.t 0)), none, []⟩,
    ⟨(some 2), 2, (.mv (.k (.c .zc))), none, []⟩])
  (.seq (.seq (.reg [⟨(some 6), 6, (.load true 1 (.t 1)), none, []⟩,
    ⟨(some 7), 7, (.call 47 [(.t 6)]), none, [0]⟩,
    ⟨(some 8), 8, (.not (.t 7)), none, [1]⟩])
  (.cond (.t 8) (.seq (.reg [⟨(some 2), 2, (.mv (.k (.c .zc))), none, []⟩])
  .ret) .skip))
  (.seq (.reg [⟨(some 3), 3, (.mv (.k (.c .zc))), none, []⟩])
  (.seq (.seq (.reg [⟨(some 9), 9, (.fld 0 (.t 1)), none, []⟩,
    ⟨(some 10), 10, (.load false 1 (.t 9)), none, [0]⟩,
    ⟨(some 11), 11, (.len (.t 10)), none, [1]⟩,
    ⟨(some 12), 12, (.mv (.k (.c (.s (.pv (.int .i64 0)))))), none, []⟩])
  (.block 0 (.loop (.seq (.reg [⟨(some 13), 13, (.bin false .lss (.t 12) (.t 11)), none, []⟩])
  (.seq (.cond (.t 13) .skip (.exit 0))
  (.seq (.block 1 (.seq (.reg [⟨(some 14), 14, (.idx 2 (.t 10) (.t 12)), none, []⟩,
    ⟨(some 15), 15, (.load true 2 (.t 14)), none, [0]⟩,
    ⟨(some 5), 5, (.mk 120 2 [[(.s (.pv (.int .i64 0))), (.s (.pv (.int .i64 0)))]]), none, []⟩,
    ⟨none, 31, (.store 2 (.t 5) (.t 15)), none, [2, 1, 0, 1, 2]⟩])
  (.seq (.reg [⟨(some 16), 16, (.load true 2 (.t 5)), none, []⟩,
    ⟨(some 17), 17, (.call 82 [(.t 16)]), none, [0]⟩,
    ⟨(some 18), 18, (.not (.t 17)), none, [1]⟩])
  (.cond (.t 18) (.reg [⟨(some 19), 19, (.mv (.t 3)), none, []⟩,
    ⟨(some 20), 20, (.fld 0 (.t 5)), none, []⟩,
    ⟨(some 21), 21, (.load false 1 (.t 20)), none, [1]⟩,
    ⟨(some 22), 22, (.bslice 3 1 [(.s (.pv (.int .i64 0)))] 1 [(0, 1, (.t 21))]), none, [2]⟩,
    ⟨(some 23), 23, (.app 3 1 8 (.t 19) (.t 22)), none, [0, 3]⟩,
    ⟨(some 3), 3, (.mv (.t 23)), none, [4, 4, 0, 1, 2, 3, 4]⟩]) .skip))))
  (.reg [⟨(some 24), 24, (.bin false .add (.t 12) (.k (.c (.s (.pv (.int .i64 1)))))), none, []⟩,
    ⟨(some 12), 12, (.mv (.t 24)), none, [0]⟩])))))))
  (.seq (.reg [⟨(some 25), 25, (.mv (.t 3)), none, []⟩,
    ⟨(some 26), 26, (.call 88 [(.t 25)]), none, [0]⟩])
  (.seq (.reg [⟨(some 27), 27, (.mv (.t 3)), none, []⟩,
    ⟨(some 2), 2, (.mv (.t 27)), none, [0, 0]⟩])
  .ret))))))
theorem fn50 : FnIs Try.prog 50 ac50 [(.t 2)] 28 := ⟨Try.f50, Try.func50, by kernel_rfl, by kernel_rfl, by kernel_rfl⟩
/- lockkeeper/table.Find -/
def ac51 : ACode := (.seq (.reg [⟨(some 2), 2, (.box 28 1 (.t 0)), none, []⟩,
    ⟨(some 4), 4, (.mv (.k (.c (.s (.pv (.int .i64 0)))))), none, []⟩,
    ⟨(some 5), 5, (.mv (.k (.c (.s (.pv (.bool false)))))), none, [1]⟩])
  (.seq (.seq (.reg [⟨(some 8), 8, (.load true 1 (.t 2)), none, []⟩,
    ⟨(some 9), 9, (.call 47 [(.t 8)]), none, [0]⟩,
    ⟨(some 10), 10, (.not (.t 9)), none, [1]⟩])
  (.cond (.t 10) (.seq (.reg [⟨(some 4), 4, (.mv (.k (.c (.s (.pv (.int .i64 0)))))), none, []⟩,
    ⟨(some 5), 5, (.mv (.k (.c (.s (.pv (.bool false)))))), none, [0, 0]⟩])
  .ret) .skip))
  (.seq (.reg [⟨(some 12), 12, (.load true 1 (.t 2)), none, []⟩,
    ⟨(some 13), 13, (.mv (.t 1)), none, []⟩,
    ⟨(some 14), 14, (.call 89 [(.t 12), (.t 13)]), none, [0, 1]⟩,
    ⟨(some 11), 11, (.mv (.t 14)), none, [2]⟩,
    ⟨(some 15), 15, (.ext 0 (.t 11)), none, [3]⟩,
    ⟨(some 16), 16, (.ext 1 (.t 11)), none, [3]⟩,
    ⟨(some 6), 6, (.mv (.t 15)), none, [4, 2, 0, 1, 2, 3, 4]⟩,
    ⟨(some 7), 7, (.mv (.t 16)), none, [5, 6, 0, 1, 2, 3, 4, 5, 6]⟩])
  (.seq (.seq (.reg [⟨(some 17), 17, (.mv (.t 7)), none, []⟩,
    ⟨(some 18), 18, (.not (.t 17)), none, [0]⟩])
  (.cond (.t 18) (.seq (.reg [⟨(some 4), 4, (.mv (.k (.c (.s (.pv (.int .i64 0)))))), none, []⟩,
    ⟨(some 5), 5, (.mv (.k (.c (.s (.pv (.bool false)))))), none, [0, 0]⟩])
  .ret) .skip))
  (.seq (.reg [⟨(some 19), 19, (.fld 0 (.t 2)), none, []⟩,
    ⟨(some 20), 20, (.load false 1 (.t 19)), none, [0]⟩,
    ⟨(some 21), 21, (.mv (.t 6)), none, []⟩,
    ⟨(some 22), 22, (.idx 2 (.t 20) (.t 21)), none, [1, 2]⟩,
    ⟨(some 23), 23, (.fld 1 (.t 22)), none, [3]⟩,
    ⟨(some 24), 24, (.load false 1 (.t 23)), none, [4]⟩,
    ⟨(some 4), 4, (.mv (.t 24)), none, [5, 0, 1, 2, 3, 4, 5]⟩,
    ⟨(some 5), 5, (.mv (.k (.c (.s (.pv (.bool true)))))), none, [6, 0, 1, 2, 3, 4, 5, 6]⟩])
  .ret)))))
theorem fn51 : FnIs Try.prog 51 ac51 [(.t 4), (.t 5)] 25 := ⟨Try.f51, Try.func51, by kernel_rfl, by kernel_rfl, by kernel_rfl⟩
/- lockkeeper/lockkeeperref09.Right -/
def ac52 : ACode := (.seq (.reg [⟨(some 1), 1, (.box 51 2 (.t 0)), none, []⟩,
    ⟨(some 2), 2, (.mv (.k (.c (.s (.pv (.bool false)))))), none, []⟩])
  (.seq (.seq (.reg [⟨(some 5), 5, (.fld 0 (.t 1)), none, []⟩,
    ⟨(some 6), 6, (.load false 1 (.t 5)), none, [0]⟩,
    ⟨(some 7), 7, (.len (.t 6)), none, [1]⟩,
    ⟨(some 8), 8, (.bin false .lss (.t 7) (.k (.c (.s (.pv (.int .i64 1)))))), none, [2]⟩,
    ⟨(some 9), 9, (.mv (.t 8)), none, [3]⟩,
    ⟨(some 10), 10, (.fld 0 (.t 1)), (some (9, false)), [4]⟩,
    ⟨(some 11), 11, (.load false 1 (.t 10)), (some (9, false)), [5, 4]⟩,
    ⟨(some 12), 12, (.len (.t 11)), (some (9, false)), [6, 4]⟩,
    ⟨(some 13), 13, (.bin false .gtr (.t 12) (.k (.c (.s (.pv (.int .i64 8)))))), (some (9, false)), [7, 4]⟩,
    ⟨(some 14), 14, (.pick (.t 9) (.k (.c (.s (.pv (.bool true))))) (.t 13)), none, [4, 8]⟩,
    ⟨(some 15), 15, (.mv (.t 14)), none, [9, 4]⟩,
    ⟨(some 16), 16, (.fld 1 (.t 1)), (some (15, false)), [10]⟩,
    ⟨(some 17), 17, (.load false 1 (.t 16)), (some (15, false)), [11, 10]⟩,
    ⟨(some 18), 18, (.bin false .lss (.t 17) (.k (.c (.s (.pv (.int .i64 0)))))), (some (15, false)), [12, 10]⟩,
    ⟨(some 19), 19, (.pick (.t 15) (.k (.c (.s (.pv (.bool true))))) (.t 18)), none, [10, 13]⟩,
    ⟨(some 20), 20, (.mv (.t 19)), none, [14, 10]⟩,
    ⟨(some 21), 21, (.fld 1 (.t 1)), (some (20, false)), [15]⟩,
    ⟨(some 22), 22, (.load false 1 (.t 21)), (some (20, false)), [16, 15]⟩,
    ⟨(some 23), 23, (.fld 0 (.t 1)), (some (20, false)), [15]⟩,
    ⟨(some 24), 24, (.load false 1 (.t 23)), (some (20, false)), [18, 15]⟩,
    ⟨(some 25), 25, (.len (.t 24)), (some (20, false)), [19, 15]⟩,
    ⟨(some 26), 26, (.bin false .geq (.t 22) (.t 25)), (some (20, false)), [17, 20, 15]⟩,
    ⟨(some 27), 27, (.pick (.t 20) (.k (.c (.s (.pv (.bool true))))) (.t 26)), none, [15, 21]⟩])
  (.cond (.t 27) (.seq (.reg [⟨(some 2), 2, (.mv (.k (.c (.s (.pv (.bool false)))))), none, []⟩])
  .ret) .skip))
  (.seq (.seq (.reg [⟨(some 3), 3, (.mv (.k (.c (.s (.pv (.int .i64 0)))))), none, []⟩])
  (.block 0 (.loop (.seq (.seq (.reg [⟨(some 28), 28, (.mv (.t 3)), none, []⟩,
    ⟨(some 29), 29, (.fld 0 (.t 1)), none, []⟩,
    ⟨(some 30), 30, (.load false 1 (.t 29)), none, [1]⟩,
    ⟨(some 31), 31, (.len (.t 30)), none, [2]⟩,
    ⟨(some 32), 32, (.bin false .lss (.t 28) (.t 31)), none, [0, 3]⟩])
  (.cond (.t 32) .skip (.exit 0)))
  (.seq (.block 1 (.seq (.reg [⟨(some 35), 35, (.fld 0 (.t 1)), none, []⟩,
    ⟨(some 36), 36, (.load false 1 (.t 35)), none, [0]⟩,
    ⟨(some 37), 37, (.mv (.t 3)), none, []⟩,
    ⟨(some 38), 38, (.idx 3 (.t 36) (.t 37)), none, [1, 2]⟩,
    ⟨(some 39), 39, (.load true 3 (.t 38)), none, [3]⟩,
    ⟨(some 4), 4, (.mk 65 3 [[(.s (.pv (.int .i64 0))), (.s (.pv (.int .i64 0))), (.s (.pv (.bool false)))]]), none, []⟩,
    ⟨none, 64, (.store 3 (.t 4) (.t 39)), none, [5, 4, 0, 1, 2, 3, 4, 5]⟩])
  (.seq (.reg [⟨(some 40), 40, (.fld 0 (.t 4)), none, []⟩,
    ⟨(some 41), 41, (.load false 1 (.t 40)), none, [0]⟩,
    ⟨(some 42), 42, (.bin false .lss (.t 41) (.k (.c (.s (.pv (.int .i64 0)))))), none, [1]⟩,
    ⟨(some 43), 43, (.mv (.t 42)), none, [2]⟩,
    ⟨(some 44), 44, (.fld 0 (.t 4)), (some (43, false)), [3]⟩,
    ⟨(some 45), 45, (.load false 1 (.t 44)), (some (43, false)), [4, 3]⟩,
    ⟨(some 46), 46, (.bin false .gtr (.t 45) (.k (.c (.s (.pv (.int .i64 16)))))), (some (43, false)), [5, 3]⟩,
    ⟨(some 47), 47, (.pick (.t 43) (.k (.c (.s (.pv (.bool true))))) (.t 46)), none, [3, 6]⟩,
    ⟨(some 48), 48, (.mv (.t 47)), none, [7, 3]⟩,
    ⟨(some 49), 49, (.fld 1 (.t 4)), (some (48, false)), [8]⟩,
    ⟨(some 50), 50, (.load false 1 (.t 49)), (some (48, false)), [9, 8]⟩,
    ⟨(some 51), 51, (.bin false .lss (.t 50) (.k (.c (.s (.pv (.int .i64 0)))))), (some (48, false)), [10, 8]⟩,
    ⟨(some 52), 52, (.pick (.t 48) (.k (.c (.s (.pv (.bool true))))) (.t 51)), none, [8, 11]⟩,
    ⟨(some 53), 53, (.mv (.t 52)), none, [12, 8]⟩,
    ⟨(some 54), 54, (.fld 1 (.t 4)), (some (53, false)), [13]⟩,
    ⟨(some 55), 55, (.load false 1 (.t 54)), (some (53, false)), [14, 13]⟩,
    ⟨(some 56), 56, (.bin false .gtr (.t 55) (.k (.c (.s (.pv (.int .i64 2147483647)))))), (some (53, false)), [15, 13]⟩,
    ⟨(some 57), 57, (.pick (.t 53) (.k (.c (.s (.pv (.bool true))))) (.t 56)), none, [13, 16]⟩])
  (.cond (.t 57) (.seq (.reg [⟨(some 2), 2, (.mv (.k (.c (.s (.pv (.bool false)))))), none, []⟩])
  .ret) .skip))))
  (.reg [⟨(some 33), 33, (.mv (.t 3)), none, []⟩,
    ⟨(some 34), 34, (.bin false .add (.t 33) (.k (.c (.s (.pv (.int .i64 1)))))), none, [0]⟩,
    ⟨(some 3), 3, (.mv (.t 34)), none, [1, 0, 1]⟩]))))))
  (.seq (.reg [⟨(some 2), 2, (.mv (.k (.c (.s (.pv (.bool true)))))), none, []⟩])
  .ret))))
theorem fn52 : FnIs Try.prog 52 ac52 [(.t 2)] 58 := ⟨Try.f52, Try.func52, by kernel_rfl, by kernel_rfl, by kernel_rfl⟩
/- lockkeeper/lockkeeperref07.Right -/
def ac53 : ACode := (.seq (.reg [⟨(some 1), 1, (.box 54 1 (.t 0)), none, []⟩,
    ⟨(some 2), 2, (.mv (.k (.c (.s (.pv (.bool false)))))), none, []⟩])
  (.seq (.seq (.reg [⟨(some 7), 7, (.fld 0 (.t 1)), none, []⟩,
    ⟨(some 8), 8, (.load false 1 (.t 7)), none, [0]⟩,
    ⟨(some 9), 9, (.len (.t 8)), none, [1]⟩,
    ⟨(some 10), 10, (.bin false .neq (.t 9) (.k (.c (.s (.pv (.int .i64 16)))))), none, [2]⟩])
  (.cond (.t 10) (.seq (.reg [⟨(some 2), 2, (.mv (.k (.c (.s (.pv (.bool false)))))), none, []⟩])
  .ret) .skip))
  (.seq (.seq (.reg [⟨(some 3), 3, (.mv (.k (.c (.s (.pv (.int .i64 0)))))), none, []⟩])
  (.block 0 (.loop (.seq (.seq (.reg [⟨(some 11), 11, (.mv (.t 3)), none, []⟩,
    ⟨(some 12), 12, (.bin false .lss (.t 11) (.k (.c (.s (.pv (.int .i64 16)))))), none, [0]⟩])
  (.cond (.t 12) .skip (.exit 0)))
  (.seq (.block 1 (.seq (.reg [⟨(some 15), 15, (.fld 0 (.t 1)), none, []⟩,
    ⟨(some 16), 16, (.load false 1 (.t 15)), none, [0]⟩,
    ⟨(some 17), 17, (.mv (.t 3)), none, []⟩,
    ⟨(some 18), 18, (.idx 2 (.t 16) (.t 17)), none, [1, 2]⟩,
    ⟨(some 19), 19, (.load true 2 (.t 18)), none, [3]⟩,
    ⟨(some 4), 4, (.mk 121 2 [[(.s (.pv (.int .i64 0))), (.s (.pv (.int .i64 0)))]]), none, []⟩,
    ⟨none, 78, (.store 2 (.t 4) (.t 19)), none, [5, 4, 0, 1, 2, 3, 4, 5]⟩])
  (.seq (.seq (.reg [⟨(some 20), 20, (.fld 0 (.t 4)), none, []⟩,
    ⟨(some 21), 21, (.load false 1 (.t 20)), none, [0]⟩,
    ⟨(some 22), 22, (.bin false .eql (.t 21) (.k (.c (.s (.pv (.int .i64 0)))))), none, [1]⟩,
    ⟨(some 23), 23, (.mv (.t 22)), none, [2]⟩,
    ⟨(some 24), 24, (.fld 1 (.t 4)), (some (23, true)), [3]⟩,
    ⟨(some 25), 25, (.load false 1 (.t 24)), (some (23, true)), [4, 3]⟩,
    ⟨(some 26), 26, (.bin false .eql (.t 25) (.k (.c (.s (.pv (.int .i64 0)))))), (some (23, true)), [5, 3]⟩,
    ⟨(some 27), 27, (.pick (.t 23) (.t 26) (.k (.c (.s (.pv (.bool false)))))), none, [3, 6]⟩])
  (.cond (.t 27) (.exit 1) .skip))
  (.seq (.seq (.reg [⟨(some 28), 28, (.fld 0 (.t 4)), none, []⟩,
    ⟨(some 29), 29, (.load false 1 (.t 28)), none, [0]⟩,
    ⟨(some 30), 30, (.bin false .lss (.t 29) (.k (.c (.s (.pv (.int .i64 1)))))), none, [1]⟩,
    ⟨(some 31), 31, (.mv (.t 30)), none, [2]⟩,
    ⟨(some 32), 32, (.fld 0 (.t 4)), (some (31, false)), [3]⟩,
    ⟨(some 33), 33, (.load false 1 (.t 32)), (some (31, false)), [4, 3]⟩,
    ⟨(some 34), 34, (.bin false .gtr (.t 33) (.k (.c (.s (.pv (.int .i64 2147483647)))))), (some (31, false)), [5, 3]⟩,
    ⟨(some 35), 35, (.pick (.t 31) (.k (.c (.s (.pv (.bool true))))) (.t 34)), none, [3, 6]⟩,
    ⟨(some 36), 36, (.mv (.t 35)), none, [7, 3]⟩,
    ⟨(some 37), 37, (.fld 1 (.t 4)), (some (36, false)), [8]⟩,
    ⟨(some 38), 38, (.load false 1 (.t 37)), (some (36, false)), [9, 8]⟩,
    ⟨(some 39), 39, (.bin false .lss (.t 38) (.k (.c (.s (.pv (.int .i64 0)))))), (some (36, false)), [10, 8]⟩,
    ⟨(some 40), 40, (.pick (.t 36) (.k (.c (.s (.pv (.bool true))))) (.t 39)), none, [8, 11]⟩,
    ⟨(some 41), 41, (.mv (.t 40)), none, [12, 8]⟩,
    ⟨(some 42), 42, (.fld 1 (.t 4)), (some (41, false)), [13]⟩,
    ⟨(some 43), 43, (.load false 1 (.t 42)), (some (41, false)), [14, 13]⟩,
    ⟨(some 44), 44, (.bin false .gtr (.t 43) (.k (.c (.s (.pv (.int .i64 2147483647)))))), (some (41, false)), [15, 13]⟩,
    ⟨(some 45), 45, (.pick (.t 41) (.k (.c (.s (.pv (.bool true))))) (.t 44)), none, [13, 16]⟩,
    ⟨(some 46), 46, (.mv (.t 45)), none, [17, 13]⟩,
    ⟨(some 47), 47, (.load true 1 (.t 1)), (some (46, false)), [18]⟩,
    ⟨(some 48), 48, (.fld 0 (.t 4)), (some (46, false)), [18]⟩,
    ⟨(some 49), 49, (.load false 1 (.t 48)), (some (46, false)), [20, 18]⟩,
    ⟨(some 50), 50, (.call 90 [(.t 47), (.t 49)]), (some (46, false)), [19, 21, 18, 18]⟩,
    ⟨(some 51), 51, (.bin false .neq (.t 50) (.k (.c (.s (.pv (.int .i64 1)))))), (some (46, false)), [22, 18]⟩,
    ⟨(some 52), 52, (.pick (.t 46) (.k (.c (.s (.pv (.bool true))))) (.t 51)), none, [18, 23]⟩])
  (.cond (.t 52) (.seq (.reg [⟨(some 2), 2, (.mv (.k (.c (.s (.pv (.bool false)))))), none, []⟩])
  .ret) .skip))
  (.seq (.reg [⟨(some 5), 5, (.mv (.k (.c (.s (.pv (.int .i64 0)))))), none, []⟩])
  (.block 2 (.loop (.seq (.seq (.reg [⟨(some 53), 53, (.mv (.t 5)), none, []⟩,
    ⟨(some 54), 54, (.bin false .lss (.t 53) (.k (.c (.s (.pv (.int .i64 16)))))), none, [0]⟩])
  (.cond (.t 54) .skip (.exit 2)))
  (.seq (.block 3 (.seq (.reg [⟨(some 57), 57, (.fld 0 (.t 4)), none, []⟩,
    ⟨(some 58), 58, (.load false 1 (.t 57)), none, [0]⟩,
    ⟨(some 59), 59, (.mv (.t 5)), none, []⟩,
    ⟨(some 60), 60, (.bin false .add (.t 58) (.t 59)), none, [1, 2]⟩,
    ⟨(some 61), 61, (.bin false .rem (.t 60) (.k (.c (.s (.pv (.int .i64 16)))))), none, [3]⟩,
    ⟨(some 6), 6, (.mv (.t 61)), none, [4, 0, 1, 2, 3, 4]⟩])
  (.seq (.seq (.reg [⟨(some 62), 62, (.mv (.t 6)), none, []⟩,
    ⟨(some 63), 63, (.mv (.t 3)), none, []⟩,
    ⟨(some 64), 64, (.bin false .eql (.t 62) (.t 63)), none, [0, 1]⟩])
  (.cond (.t 64) (.exit 2) .skip))
  (.seq (.reg [⟨(some 65), 65, (.fld 0 (.t 1)), none, []⟩,
    ⟨(some 66), 66, (.load false 1 (.t 65)), none, [0]⟩,
    ⟨(some 67), 67, (.mv (.t 6)), none, []⟩,
    ⟨(some 68), 68, (.idx 2 (.t 66) (.t 67)), none, [1, 2]⟩,
    ⟨(some 69), 69, (.fld 0 (.t 68)), none, [3]⟩,
    ⟨(some 70), 70, (.load false 1 (.t 69)), none, [4]⟩,
    ⟨(some 71), 71, (.bin false .eql (.t 70) (.k (.c (.s (.pv (.int .i64 0)))))), none, [5]⟩])
  (.cond (.t 71) (.seq (.reg [⟨(some 2), 2, (.mv (.k (.c (.s (.pv (.bool false)))))), none, []⟩])
  .ret) .skip)))))
  (.reg [⟨(some 55), 55, (.mv (.t 5)), none, []⟩,
    ⟨(some 56), 56, (.bin false .add (.t 55) (.k (.c (.s (.pv (.int .i64 1)))))), none, [0]⟩,
    ⟨(some 5), 5, (.mv (.t 56)), none, [1, 0, 1]⟩]))))))))))
  (.reg [⟨(some 13), 13, (.mv (.t 3)), none, []⟩,
    ⟨(some 14), 14, (.bin false .add (.t 13) (.k (.c (.s (.pv (.int .i64 1)))))), none, [0]⟩,
    ⟨(some 3), 3, (.mv (.t 14)), none, [1, 0, 1]⟩]))))))
  (.seq (.reg [⟨(some 2), 2, (.mv (.k (.c (.s (.pv (.bool true)))))), none, []⟩])
  .ret))))
theorem fn53 : FnIs Try.prog 53 ac53 [(.t 2)] 72 := ⟨Try.f53, Try.func53, by kernel_rfl, by kernel_rfl, by kernel_rfl⟩
/- lockkeeper/lockkeeperref14.Right -/
def ac54 : ACode := (.seq (.reg [⟨(some 2), 2, (.mv (.k (.c (.s (.pv (.bool false)))))), none, []⟩])
  (.seq (.seq (.reg [⟨(some 7), 7, (.mv (.t 0)), none, []⟩,
    ⟨(some 8), 8, (.len (.t 7)), none, [0]⟩,
    ⟨(some 9), 9, (.bin false .gtr (.t 8) (.k (.c (.s (.pv (.int .i64 16)))))), none, [1]⟩])
  (.cond (.t 9) (.seq (.reg [⟨(some 2), 2, (.mv (.k (.c (.s (.pv (.bool false)))))), none, []⟩])
  .ret) .skip))
  (.seq (.reg [⟨(some 3), 3, (.mk 163 1 [[(.s (.pv (.bool false)))], [(.s (.pv (.bool false)))], [(.s (.pv (.bool false)))], [(.s (.pv (.bool false)))], [(.s (.pv (.bool false)))], [(.s (.pv (.bool false)))], [(.s (.pv (.bool false)))], [(.s (.pv (.bool false)))], [(.s (.pv (.bool false)))], [(.s (.pv (.bool false)))], [(.s (.pv (.bool false)))], [(.s (.pv (.bool false)))], [(.s (.pv (.bool false)))], [(.s (.pv (.bool false)))], [(.s (.pv (.bool false)))], [(.s (.pv (.bool false)))], [(.s (.pv (.bool false)))]]), none, []⟩])
  (.seq (.reg [⟨(some 4), 4, (.mv (.k (.c (.s (.pv (.int .i64 0)))))), none, []⟩])
  (.seq (.seq (.reg [⟨(some 5), 5, (.mv (.k (.c (.s (.pv (.int .i64 0)))))), none, []⟩])
  (.block 0 (.loop (.seq (.seq (.reg [⟨(some 10), 10, (.mv (.t 5)), none, []⟩,
    ⟨(some 11), 11, (.mv (.t 0)), none, []⟩,
    ⟨(some 12), 12, (.len (.t 11)), none, [1]⟩,
    ⟨(some 13), 13, (.bin false .lss (.t 10) (.t 12)), none, [0, 2]⟩])
  (.cond (.t 13) .skip (.exit 0)))
  (.seq (.block 1 (.seq (.reg [⟨(some 16), 16, (.mv (.t 0)), none, []⟩,
    ⟨(some 17), 17, (.mv (.t 5)), none, []⟩,
    ⟨(some 18), 18, (.idx 2 (.t 16) (.t 17)), none, [0, 1]⟩,
    ⟨(some 19), 19, (.load true 2 (.t 18)), none, [2]⟩,
    ⟨(some 6), 6, (.mk 122 2 [[(.s (.pv (.int .i64 0))), (.s (.pv (.int .i64 0)))]]), none, []⟩,
    ⟨none, 55, (.store 2 (.t 6) (.t 19)), none, [4, 3, 0, 1, 2, 3, 4]⟩])
  (.seq (.seq (.reg [⟨(some 20), 20, (.fld 0 (.t 6)), none, []⟩,
    ⟨(some 21), 21, (.load false 1 (.t 20)), none, [0]⟩,
    ⟨(some 22), 22, (.bin false .lss (.t 21) (.k (.c (.s (.pv (.int .i64 1)))))), none, [1]⟩,
    ⟨(some 23), 23, (.mv (.t 22)), none, [2]⟩,
    ⟨(some 24), 24, (.fld 0 (.t 6)), (some (23, false)), [3]⟩,
    ⟨(some 25), 25, (.load false 1 (.t 24)), (some (23, false)), [4, 3]⟩,
    ⟨(some 26), 26, (.bin false .gtr (.t 25) (.k (.c (.s (.pv (.int .i64 16)))))), (some (23, false)), [5, 3]⟩,
    ⟨(some 27), 27, (.pick (.t 23) (.k (.c (.s (.pv (.bool true))))) (.t 26)), none, [3, 6]⟩,
    ⟨(some 28), 28, (.mv (.t 27)), none, [7, 3]⟩,
    ⟨(some 29), 29, (.fld 0 (.t 6)), (some (28, false)), [8]⟩,
    ⟨(some 30), 30, (.load false 1 (.t 29)), (some (28, false)), [9, 8]⟩,
    ⟨(some 31), 31, (.aidx 17 1 (.t 3) (.t 30)), (some (28, false)), [10, 8]⟩,
    ⟨(some 32), 32, (.load false 1 (.t 31)), (some (28, false)), [11, 8]⟩,
    ⟨(some 33), 33, (.pick (.t 28) (.k (.c (.s (.pv (.bool true))))) (.t 32)), none, [8, 12]⟩,
    ⟨(some 34), 34, (.mv (.t 33)), none, [13, 8]⟩,
    ⟨(some 35), 35, (.fld 1 (.t 6)), (some (34, false)), [14]⟩,
    ⟨(some 36), 36, (.load false 1 (.t 35)), (some (34, false)), [15, 14]⟩,
    ⟨(some 37), 37, (.mv (.t 4)), (some (34, false)), [14]⟩,
    ⟨(some 38), 38, (.bin false .lss (.t 36) (.t 37)), (some (34, false)), [16, 17, 14]⟩,
    ⟨(some 39), 39, (.pick (.t 34) (.k (.c (.s (.pv (.bool true))))) (.t 38)), none, [14, 18]⟩,
    ⟨(some 40), 40, (.mv (.t 39)), none, [19, 14]⟩,
    ⟨(some 41), 41, (.fld 1 (.t 6)), (some (40, false)), [20]⟩,
    ⟨(some 42), 42, (.load false 1 (.t 41)), (some (40, false)), [21, 20]⟩,
    ⟨(some 43), 43, (.bin false .gtr (.t 42) (.k (.c (.s (.pv (.int .i64 2147483647)))))), (some (40, false)), [22, 20]⟩,
    ⟨(some 44), 44, (.pick (.t 40) (.k (.c (.s (.pv (.bool true))))) (.t 43)), none, [20, 23]⟩])
  (.cond (.t 44) (.seq (.reg [⟨(some 2), 2, (.mv (.k (.c (.s (.pv (.bool false)))))), none, []⟩])
  .ret) .skip))
  (.seq (.reg [⟨(some 45), 45, (.fld 0 (.t 6)), none, []⟩,
    ⟨(some 46), 46, (.load false 1 (.t 45)), none, [0]⟩,
    ⟨(some 47), 47, (.aidx 17 1 (.t 3) (.t 46)), none, [1, 0, 1]⟩,
    ⟨none, 53, (.store 1 (.t 47) (.k (.c (.s (.pv (.bool true)))))), none, [2, 0, 1]⟩])
  (.reg [⟨(some 48), 48, (.fld 1 (.t 6)), none, []⟩,
    ⟨(some 49), 49, (.load false 1 (.t 48)), none, [0]⟩,
    ⟨(some 4), 4, (.mv (.t 49)), none, [1, 0, 1]⟩])))))
  (.reg [⟨(some 14), 14, (.mv (.t 5)), none, []⟩,
    ⟨(some 15), 15, (.bin false .add (.t 14) (.k (.c (.s (.pv (.int .i64 1)))))), none, [0]⟩,
    ⟨(some 5), 5, (.mv (.t 15)), none, [1, 0, 1]⟩]))))))
  (.seq (.reg [⟨(some 2), 2, (.mv (.k (.c (.s (.pv (.bool true)))))), none, []⟩])
  .ret))))))
theorem fn54 : FnIs Try.prog 54 ac54 [(.t 2)] 50 := ⟨Try.f54, Try.func54, by kernel_rfl, by kernel_rfl, by kernel_rfl⟩
/- lockkeeper/lockkeeperref07.Find -/
def ac55 : ACode := (.seq (.reg [⟨(some 2), 2, (.box 54 1 (.t 0)), none, []⟩,
    ⟨(some 4), 4, (.mv (.k (.c (.s (.pv (.int .i64 0)))))), none, []⟩])
  (.seq (.seq (.reg [⟨(some 6), 6, (.mv (.t 1)), none, []⟩,
    ⟨(some 7), 7, (.bin false .eql (.t 6) (.k (.c (.s (.pv (.int .i64 0)))))), none, [0]⟩])
  (.cond (.t 7) (.seq (.reg [⟨(some 4), 4, (.mv (.k (.c (.s (.pv (.int .i64 (-1))))))), none, []⟩])
  .ret) .skip))
  (.seq (.seq (.reg [⟨(some 5), 5, (.mv (.k (.c (.s (.pv (.int .i64 0)))))), none, []⟩])
  (.block 0 (.loop (.seq (.seq (.reg [⟨(some 8), 8, (.mv (.t 5)), none, []⟩,
    ⟨(some 9), 9, (.fld 0 (.t 2)), none, []⟩,
    ⟨(some 10), 10, (.load false 1 (.t 9)), none, [1]⟩,
    ⟨(some 11), 11, (.len (.t 10)), none, [2]⟩,
    ⟨(some 12), 12, (.bin false .lss (.t 8) (.t 11)), none, [0, 3]⟩])
  (.cond (.t 12) .skip (.exit 0)))
  (.seq (.block 1 (.seq (.reg [⟨(some 15), 15, (.fld 0 (.t 2)), none, []⟩,
    ⟨(some 16), 16, (.load false 1 (.t 15)), none, [0]⟩,
    ⟨(some 17), 17, (.mv (.t 5)), none, []⟩,
    ⟨(some 18), 18, (.idx 2 (.t 16) (.t 17)), none, [1, 2]⟩,
    ⟨(some 19), 19, (.fld 0 (.t 18)), none, [3]⟩,
    ⟨(some 20), 20, (.load false 1 (.t 19)), none, [4]⟩,
    ⟨(some 21), 21, (.mv (.t 1)), none, []⟩,
    ⟨(some 22), 22, (.bin false .eql (.t 20) (.t 21)), none, [5, 6]⟩])
  (.cond (.t 22) (.seq (.reg [⟨(some 23), 23, (.mv (.t 5)), none, []⟩,
    ⟨(some 4), 4, (.mv (.t 23)), none, [0, 0]⟩])
  .ret) .skip)))
  (.reg [⟨(some 13), 13, (.mv (.t 5)), none, []⟩,
    ⟨(some 14), 14, (.bin false .add (.t 13) (.k (.c (.s (.pv (.int .i64 1)))))), none, [0]⟩,
    ⟨(some 5), 5, (.mv (.t 14)), none, [1, 0, 1]⟩]))))))
  (.seq (.reg [⟨(some 4), 4, (.mv (.k (.c (.s (.pv (.int .i64 (-1))))))), none, []⟩])
  .ret))))
theorem fn55 : FnIs Try.prog 55 ac55 [(.t 4)] 24 := ⟨Try.f55, Try.func55, by kernel_rfl, by kernel_rfl, by kernel_rfl⟩
/- lockkeeper/lockkeeperref02.Right -/
def ac56 : ACode := (.seq (.reg [⟨(some 1), 1, (.box 38 3 (.t 0)), none, []⟩,
    ⟨(some 2), 2, (.mv (.k (.c (.s (.pv (.bool false)))))), none, []⟩])
  (.seq (.reg [⟨(some 3), 3, (.fld 0 (.t 1)), none, []⟩,
    ⟨(some 4), 4, (.load false 1 (.t 3)), none, [0]⟩,
    ⟨(some 5), 5, (.bin false .gtr (.t 4) (.k (.c (.s (.pv (.int .i64 0)))))), none, [1]⟩,
    ⟨(some 6), 6, (.mv (.t 5)), none, [2]⟩,
    ⟨(some 7), 7, (.fld 0 (.t 1)), (some (6, true)), [3]⟩,
    ⟨(some 8), 8, (.load false 1 (.t 7)), (some (6, true)), [4, 3]⟩,
    ⟨(some 9), 9, (.bin false .lss (.t 8) (.k (.c (.s (.pv (.int .i64 17)))))), (some (6, true)), [5, 3]⟩,
    ⟨(some 10), 10, (.pick (.t 6) (.t 9) (.k (.c (.s (.pv (.bool false)))))), none, [3, 6]⟩,
    ⟨(some 11), 11, (.mv (.t 10)), none, [7, 3]⟩,
    ⟨(some 12), 12, (.fld 1 (.t 1)), (some (11, true)), [8]⟩,
    ⟨(some 13), 13, (.load false 1 (.t 12)), (some (11, true)), [9, 8]⟩,
    ⟨(some 14), 14, (.bin false .gtr (.t 13) (.k (.c (.s (.pv (.int .i64 0)))))), (some (11, true)), [10, 8]⟩,
    ⟨(some 15), 15, (.pick (.t 11) (.t 14) (.k (.c (.s (.pv (.bool false)))))), none, [8, 11]⟩,
    ⟨(some 16), 16, (.mv (.t 15)), none, [12, 8]⟩,
    ⟨(some 17), 17, (.fld 1 (.t 1)), (some (16, true)), [13]⟩,
    ⟨(some 18), 18, (.load false 1 (.t 17)), (some (16, true)), [14, 13]⟩,
    ⟨(some 19), 19, (.bin false .lss (.t 18) (.k (.c (.s (.pv (.int .i64 2147483648)))))), (some (16, true)), [15, 13]⟩,
    ⟨(some 20), 20, (.pick (.t 16) (.t 19) (.k (.c (.s (.pv (.bool false)))))), none, [13, 16]⟩,
    ⟨(some 21), 21, (.mv (.t 20)), none, [17, 13]⟩,
    ⟨(some 22), 22, (.fld 2 (.t 1)), (some (21, true)), [18]⟩,
    ⟨(some 23), 23, (.load false 1 (.t 22)), (some (21, true)), [19, 18]⟩,
    ⟨(some 24), 24, (.slen (.t 23)), (some (21, true)), [20, 18]⟩,
    ⟨(some 25), 25, (.bin false .lss (.t 24) (.k (.c (.s (.pv (.int .i64 17)))))), (some (21, true)), [21, 18]⟩,
    ⟨(some 26), 26, (.pick (.t 21) (.t 25) (.k (.c (.s (.pv (.bool false)))))), none, [18, 22]⟩,
    ⟨(some 2), 2, (.mv (.t 26)), none, [23, 18, 0, 1, 2, 3, 4, 5, 6, 7, 8, 9, 10, 11, 12, 13, 14, 15, 16, 17, 18, 19, 20, 21, 22, 23]⟩])
  .ret))
theorem fn56 : FnIs Try.prog 56 ac56 [(.t 2)] 27 := ⟨Try.f56, Try.func56, by kernel_rfl, by kernel_rfl, by kernel_rfl⟩
/- lockkeeper/frames.firstFree -/
def ac57 : ACode := (.seq (.reg [⟨(some 1), 1, (.box 32 5 (.t 0)), none, []⟩,
    ⟨(some 2), 2, (.mv (.k (.c (.s (.pv (.int .i64 0)))))), none, []⟩])
  (.seq (.reg [⟨(some 3), 3, (.fld 0 (.t 1)), none, []⟩,
    ⟨(some 4), 4, (.fld 0 (.t 3)), none, [0]⟩,
    ⟨(some 5), 5, (.load false 1 (.t 4)), none, [1]⟩,
    ⟨(some 6), 6, (.call 91 [(.t 5), (.k (.c (.s (.fn 92 []))))]), none, [2]⟩,
    ⟨(some 2), 2, (.mv (.t 6)), none, [3, 3, 0, 1, 2, 3]⟩])
  .ret))
theorem fn57 : FnIs Try.prog 57 ac57 [(.t 2)] 7 := ⟨Try.f57, Try.func57, by kernel_rfl, by kernel_rfl, by kernel_rfl⟩
/- lockkeeper/clock.Sweep -/
def ac58 : ACode := (.seq (.reg [⟨(some 1), 1, (.box 25 2 (.t 0)), none, []⟩,
    ⟨(some 2), 2, (.mk 25 2 [[.zc, (.s (.pv (.int .i64 0)))]]), none, []⟩,
    ⟨(some 3), 3, (.mv (.k (.c (.s (.pv (.int .i64 0)))))), none, []⟩,
    ⟨(some 4), 4, (.mv (.k (.c (.s (.pv (.bool false)))))), none, [2]⟩])
  (.seq (.seq (.reg [⟨(some 7), 7, (.load true 2 (.t 1)), none, []⟩,
    ⟨(some 8), 8, (.call 46 [(.t 7)]), none, [0]⟩,
    ⟨(some 9), 9, (.not (.t 8)), none, [1]⟩,
    ⟨(some 10), 10, (.mv (.t 9)), none, [2, 1]⟩,
    ⟨(some 11), 11, (.fld 0 (.t 1)), (some (10, false)), [3]⟩,
    ⟨(some 12), 12, (.load false 1 (.t 11)), (some (10, false)), [4, 3]⟩,
    ⟨(some 13), 13, (.call 93 [(.t 12), (.k (.c (.s (.fn 94 []))))]), (some (10, false)), [5, 3, 3]⟩,
    ⟨(some 14), 14, (.not (.t 13)), (some (10, false)), [6, 3]⟩,
    ⟨(some 15), 15, (.pick (.t 10) (.k (.c (.s (.pv (.bool true))))) (.t 14)), none, [3, 7]⟩])
  (.cond (.t 15) (.seq (.reg [⟨(some 16), 16, (.load true 2 (.t 1)), none, []⟩,
    ⟨none, 54, (.store 2 (.t 2) (.t 16)), none, [0, 0]⟩,
    ⟨(some 3), 3, (.mv (.k (.c (.s (.pv (.int .i64 0)))))), none, [1, 0, 1]⟩,
    ⟨(some 4), 4, (.mv (.k (.c (.s (.pv (.bool false)))))), none, [2, 0, 1, 2]⟩])
  .ret) .skip))
  (.seq (.reg [⟨(some 17), 17, (.fld 0 (.t 1)), none, []⟩,
    ⟨(some 18), 18, (.load false 1 (.t 17)), none, [0]⟩,
    ⟨(some 19), 19, (.call 96 [(.t 18)]), none, [1]⟩,
    ⟨(some 5), 5, (.mv (.t 19)), none, [2, 2, 0, 1, 2]⟩])
  (.seq (.reg [⟨(some 20), 20, (.fld 1 (.t 1)), none, []⟩,
    ⟨(some 21), 21, (.load false 1 (.t 20)), none, [0]⟩,
    ⟨(some 6), 6, (.mv (.t 21)), none, [1, 0, 1]⟩])
  (.seq (.block 0 (.loop (.seq (.seq (.reg [⟨(some 22), 22, (.mv (.t 5)), none, []⟩,
    ⟨(some 23), 23, (.mv (.t 6)), none, []⟩,
    ⟨(some 24), 24, (.idx 3 (.t 22) (.t 23)), none, [0, 1]⟩,
    ⟨(some 25), 25, (.load true 3 (.t 24)), none, [2]⟩,
    ⟨(some 26), 26, (.call 95 [(.t 25)]), none, [3]⟩,
    ⟨(some 27), 27, (.mv (.t 26)), none, [4, 4]⟩,
    ⟨(some 28), 28, (.mv (.t 5)), (some (27, false)), [5]⟩,
    ⟨(some 29), 29, (.mv (.t 6)), (some (27, false)), [5]⟩,
    ⟨(some 30), 30, (.idx 3 (.t 28) (.t 29)), (some (27, false)), [6, 7, 5]⟩,
    ⟨(some 31), 31, (.fld 2 (.t 30)), (some (27, false)), [8, 5]⟩,
    ⟨(some 32), 32, (.load false 1 (.t 31)), (some (27, false)), [9, 5]⟩,
    ⟨(some 33), 33, (.pick (.t 27) (.k (.c (.s (.pv (.bool true))))) (.t 32)), none, [5, 10]⟩])
  (.cond (.t 33) .skip (.exit 0)))
  (.block 1 (.seq (.seq (.reg [⟨(some 34), 34, (.mv (.t 5)), none, []⟩,
    ⟨(some 35), 35, (.mv (.t 6)), none, []⟩,
    ⟨(some 36), 36, (.idx 3 (.t 34) (.t 35)), none, [0, 1]⟩,
    ⟨(some 37), 37, (.load true 3 (.t 36)), none, [2]⟩,
    ⟨(some 38), 38, (.call 95 [(.t 37)]), none, [3]⟩,
    ⟨(some 39), 39, (.not (.t 38)), none, [4]⟩])
  (.cond (.t 39) (.reg [⟨(some 40), 40, (.mv (.t 5)), none, []⟩,
    ⟨(some 41), 41, (.mv (.t 6)), none, []⟩,
    ⟨(some 42), 42, (.idx 3 (.t 40) (.t 41)), none, [0, 1, 0, 1]⟩,
    ⟨(some 43), 43, (.fld 2 (.t 42)), none, [2, 0, 1]⟩,
    ⟨none, 57, (.store 1 (.t 43) (.k (.c (.s (.pv (.bool false)))))), none, [3, 0, 1]⟩]) .skip))
  (.reg [⟨(some 44), 44, (.load true 2 (.t 1)), none, []⟩,
    ⟨(some 45), 45, (.mv (.t 6)), none, []⟩,
    ⟨(some 46), 46, (.call 97 [(.t 44), (.t 45)]), none, [0, 1]⟩,
    ⟨(some 6), 6, (.mv (.t 46)), none, [2, 2, 0, 1, 2]⟩]))))))
  (.seq (.reg [⟨(some 47), 47, (.mv (.t 5)), none, []⟩,
    ⟨(some 48), 48, (.load true 2 (.t 1)), none, []⟩,
    ⟨(some 49), 49, (.mv (.t 6)), none, []⟩,
    ⟨(some 50), 50, (.call 97 [(.t 48), (.t 49)]), none, [1, 2]⟩,
    ⟨(some 51), 51, (.build [.zc, (.s (.pv (.int .i64 0)))] [(0, 1, (.t 47)), (1, 1, (.t 50))]), none, [0, 3]⟩,
    ⟨(some 52), 52, (.mv (.t 6)), none, []⟩,
    ⟨none, 59, (.store 2 (.t 2) (.t 51)), none, [4, 3, 0, 1, 2, 3, 4]⟩,
    ⟨(some 3), 3, (.mv (.t 52)), none, [5, 6, 0, 1, 2, 3, 4, 5, 6]⟩,
    ⟨(some 4), 4, (.mv (.k (.c (.s (.pv (.bool true)))))), none, [7, 0, 1, 2, 3, 4, 5, 6, 7]⟩])
  .ret))))))
theorem fn58 : FnIs Try.prog 58 ac58 [(.cell 2 true 2), (.t 3), (.t 4)] 53 := ⟨Try.f58, Try.func58, by kernel_rfl, by kernel_rfl, by kernel_rfl⟩
/- lockkeeper/dirty.Since -/
def ac59 : ACode := (.seq (.reg [⟨(some 4), 4, (.mv (.k (.c (.s (.pv (.int .i64 0)))))), none, []⟩,
    ⟨(some 5), 5, (.mv (.k (.c (.s (.pv (.bool false)))))), none, [0]⟩])
  (.seq (.seq (.reg [⟨(some 7), 7, (.mv (.t 0)), none, []⟩,
    ⟨(some 8), 8, (.call 48 [(.t 7)]), none, [0]⟩,
    ⟨(some 9), 9, (.not (.t 8)), none, [1]⟩])
  (.cond (.t 9) (.seq (.reg [⟨(some 4), 4, (.mv (.k (.c (.s (.pv (.int .i64 0)))))), none, []⟩,
    ⟨(some 5), 5, (.mv (.k (.c (.s (.pv (.bool false)))))), none, [0, 0]⟩])
  .ret) .skip))
  (.seq (.reg [⟨(some 10), 10, (.mv (.t 0)), none, []⟩,
    ⟨(some 11), 11, (.mv (.t 1)), none, []⟩,
    ⟨(some 12), 12, (.call 87 [(.t 10), (.t 11)]), none, [0, 1]⟩,
    ⟨(some 6), 6, (.mv (.t 12)), none, [2, 2, 0, 1, 2]⟩])
  (.seq (.seq (.reg [⟨(some 13), 13, (.mv (.t 6)), none, []⟩,
    ⟨(some 14), 14, (.bin false .lss (.t 13) (.k (.c (.s (.pv (.int .i64 0)))))), none, [0]⟩])
  (.cond (.t 14) (.seq (.reg [⟨(some 4), 4, (.mv (.k (.c (.s (.pv (.int .i64 0)))))), none, []⟩,
    ⟨(some 5), 5, (.mv (.k (.c (.s (.pv (.bool false)))))), none, [0, 0]⟩])
  .ret) .skip))
  (.seq (.reg [⟨(some 15), 15, (.mv (.t 0)), none, []⟩,
    ⟨(some 16), 16, (.mv (.t 6)), none, []⟩,
    ⟨(some 17), 17, (.idx 2 (.t 15) (.t 16)), none, [0, 1]⟩,
    ⟨(some 18), 18, (.fld 1 (.t 17)), none, [2]⟩,
    ⟨(some 19), 19, (.load false 1 (.t 18)), none, [3]⟩,
    ⟨(some 4), 4, (.mv (.t 19)), none, [4, 0, 1, 2, 3, 4]⟩,
    ⟨(some 5), 5, (.mv (.k (.c (.s (.pv (.bool true)))))), none, [5, 0, 1, 2, 3, 4, 5]⟩])
  .ret)))))
theorem fn59 : FnIs Try.prog 59 ac59 [(.t 4), (.t 5)] 20 := ⟨Try.f59, Try.func59, by kernel_rfl, by kernel_rfl, by kernel_rfl⟩
/- lockkeeper/frames.empty -/
def ac60 : ACode := (.seq (.reg [⟨(some 2), 2, (.box 32 5 (.t 0)), none, []⟩,
    ⟨(some 4), 4, (.mk 32 5 [[.zc, (.s (.pv (.int .i64 0))), .zc, .zc, .zc]]), none, []⟩])
  (.seq (.reg [⟨(some 6), 6, (.fld 3 (.t 2)), none, []⟩,
    ⟨(some 7), 7, (.load false 1 (.t 6)), none, [0]⟩,
    ⟨(some 8), 8, (.mv (.t 1)), none, []⟩,
    ⟨(some 9), 9, (.idx 3 (.t 7) (.t 8)), none, [1, 2]⟩,
    ⟨(some 10), 10, (.fld 0 (.t 9)), none, [3]⟩,
    ⟨(some 11), 11, (.load false 1 (.t 10)), none, [4]⟩,
    ⟨(some 5), 5, (.mv (.t 11)), none, [5, 0, 1, 2, 3, 4, 5]⟩])
  (.seq (.reg [⟨(some 12), 12, (.load true 5 (.t 2)), none, []⟩,
    ⟨(some 13), 13, (.mv (.t 1)), none, []⟩,
    ⟨(some 14), 14, (.build [(.s (.pv (.int .i64 0))), (.s (.pv (.int .i64 0))), (.s (.pv (.bool false)))] []), none, []⟩,
    ⟨(some 15), 15, (.build [(.s (.pv (.int .i64 0))), (.s (.pv (.int .i64 0))), (.s (.pv (.string ⟨#[]⟩)))] []), none, []⟩,
    ⟨(some 16), 16, (.call 62 [(.t 12), (.t 13), (.t 14), (.t 15)]), none, [0, 1, 2, 3]⟩,
    ⟨none, 39, (.store 5 (.t 2) (.t 16)), none, [4, 4, 0, 1, 2, 3, 4]⟩])
  (.seq (.reg [⟨(some 18), 18, (.fld 2 (.t 2)), none, []⟩,
    ⟨(some 19), 19, (.load true 1 (.t 18)), none, [0]⟩,
    ⟨(some 20), 20, (.mv (.t 5)), none, []⟩,
    ⟨(some 21), 21, (.call 98 [(.t 19), (.t 20)]), none, [1, 2]⟩,
    ⟨(some 17), 17, (.mv (.t 21)), none, [3]⟩,
    ⟨(some 22), 22, (.ext 0 (.t 17)), none, [4]⟩,
    ⟨(some 23), 23, (.ext 1 (.t 17)), none, [4]⟩,
    ⟨(some 24), 24, (.fld 2 (.t 2)), none, [0, 1, 2, 3, 4, 5]⟩,
    ⟨none, 42, (.store 1 (.t 24) (.t 22)), none, [7, 5, 3, 0, 1, 2, 3, 4, 5]⟩])
  (.seq (.reg [⟨(some 26), 26, (.fld 4 (.t 2)), none, []⟩,
    ⟨(some 27), 27, (.load false 1 (.t 26)), none, [0]⟩,
    ⟨(some 28), 28, (.mv (.t 5)), none, []⟩,
    ⟨(some 29), 29, (.call 80 [(.t 27), (.t 28)]), none, [1, 2]⟩,
    ⟨(some 25), 25, (.mv (.t 29)), none, [3]⟩,
    ⟨(some 30), 30, (.ext 0 (.t 25)), none, [4]⟩,
    ⟨(some 31), 31, (.ext 1 (.t 25)), none, [4]⟩,
    ⟨(some 32), 32, (.fld 4 (.t 2)), none, [0, 1, 2, 3, 4, 5]⟩,
    ⟨none, 42, (.store 1 (.t 32) (.t 30)), none, [7, 5, 3, 0, 1, 2, 3, 4, 5]⟩])
  (.seq (.reg [⟨(some 33), 33, (.load true 5 (.t 2)), none, []⟩,
    ⟨none, 35, (.store 5 (.t 4) (.t 33)), none, [0, 0]⟩])
  .ret))))))
theorem fn60 : FnIs Try.prog 60 ac60 [(.cell 4 true 5)] 34 := ⟨Try.f60, Try.func60, by kernel_rfl, by kernel_rfl, by kernel_rfl⟩
/- lockkeeper/frames.locate -/
def ac61 : ACode := (.seq (.reg [⟨(some 2), 2, (.box 32 5 (.t 0)), none, []⟩,
    ⟨(some 4), 4, (.mv (.k (.c (.s (.pv (.int .i64 0)))))), none, []⟩,
    ⟨(some 5), 5, (.mv (.k (.c (.s (.pv (.int .i64 0)))))), none, [1]⟩])
  (.seq (.seq (.reg [⟨(some 8), 8, (.load true 5 (.t 2)), none, []⟩,
    ⟨(some 9), 9, (.call 15 [(.t 8)]), none, [0]⟩,
    ⟨(some 10), 10, (.not (.t 9)), none, [1]⟩])
  (.cond (.t 10) (.seq (.reg [⟨(some 4), 4, (.mv (.k (.c (.s (.pv (.int .i64 0)))))), none, []⟩,
    ⟨(some 5), 5, (.mv (.k (.c (.s (.pv (.int .i64 1)))))), none, [0, 0]⟩])
  .ret) .skip))
  (.seq (.reg [⟨(some 12), 12, (.fld 2 (.t 2)), none, []⟩,
    ⟨(some 13), 13, (.load true 1 (.t 12)), none, [0]⟩,
    ⟨(some 14), 14, (.mv (.t 1)), none, []⟩,
    ⟨(some 15), 15, (.call 51 [(.t 13), (.t 14)]), none, [1, 2]⟩,
    ⟨(some 11), 11, (.mv (.t 15)), none, [3]⟩,
    ⟨(some 16), 16, (.ext 0 (.t 11)), none, [4]⟩,
    ⟨(some 17), 17, (.ext 1 (.t 11)), none, [4]⟩,
    ⟨(some 6), 6, (.mv (.t 16)), none, [5, 3, 0, 1, 2, 3, 4, 5]⟩,
    ⟨(some 7), 7, (.mv (.t 17)), none, [6, 7, 0, 1, 2, 3, 4, 5, 6, 7]⟩])
  (.seq (.seq (.reg [⟨(some 18), 18, (.mv (.t 7)), none, []⟩,
    ⟨(some 19), 19, (.not (.t 18)), none, [0]⟩])
  (.cond (.t 19) (.seq (.reg [⟨(some 4), 4, (.mv (.k (.c (.s (.pv (.int .i64 0)))))), none, []⟩,
    ⟨(some 5), 5, (.mv (.k (.c (.s (.pv (.int .i64 3)))))), none, [0, 0]⟩])
  .ret) .skip))
  (.seq (.reg [⟨(some 20), 20, (.mv (.t 6)), none, []⟩,
    ⟨(some 4), 4, (.mv (.t 20)), none, [0, 0]⟩,
    ⟨(some 5), 5, (.mv (.k (.c (.s (.pv (.int .i64 0)))))), none, [1, 0, 1]⟩])
  .ret)))))
theorem fn61 : FnIs Try.prog 61 ac61 [(.t 4), (.t 5)] 21 := ⟨Try.f61, Try.func61, by kernel_rfl, by kernel_rfl, by kernel_rfl⟩
/- lockkeeper/frames.lay -/
def ac62 : ACode := (.seq (.reg [⟨(some 4), 4, (.box 32 5 (.t 0)), none, []⟩,
    ⟨(some 6), 6, (.box 46 3 (.t 2)), none, []⟩,
    ⟨(some 7), 7, (.box 38 3 (.t 3)), none, []⟩,
    ⟨(some 8), 8, (.mk 32 5 [[.zc, (.s (.pv (.int .i64 0))), .zc, .zc, .zc]]), none, []⟩])
  (.seq (.reg [⟨(some 9), 9, (.fld 0 (.t 4)), none, []⟩,
    ⟨(some 10), 10, (.fld 0 (.t 9)), none, [0]⟩,
    ⟨(some 11), 11, (.load false 1 (.t 10)), none, [1]⟩,
    ⟨(some 12), 12, (.call 96 [(.t 11)]), none, [2]⟩,
    ⟨(some 13), 13, (.fld 0 (.t 4)), none, [0, 1, 2, 3]⟩,
    ⟨(some 14), 14, (.fld 0 (.t 13)), none, [4, 0, 1, 2, 3]⟩,
    ⟨none, 37, (.store 1 (.t 14) (.t 12)), none, [5, 3, 3, 0, 1, 2, 3]⟩])
  (.seq (.reg [⟨(some 15), 15, (.fld 0 (.t 4)), none, []⟩,
    ⟨(some 16), 16, (.fld 0 (.t 15)), none, [0]⟩,
    ⟨(some 17), 17, (.load false 1 (.t 16)), none, [1]⟩,
    ⟨(some 18), 18, (.mv (.t 1)), none, []⟩,
    ⟨(some 19), 19, (.load true 3 (.t 6)), none, []⟩,
    ⟨(some 20), 20, (.idx 3 (.t 17) (.t 18)), none, [2, 3, 0, 1, 2, 3, 4]⟩,
    ⟨none, 37, (.store 3 (.t 20) (.t 19)), none, [5, 4, 0, 1, 2, 3, 4]⟩])
  (.seq (.reg [⟨(some 21), 21, (.fld 3 (.t 4)), none, []⟩,
    ⟨(some 22), 22, (.load false 1 (.t 21)), none, [0]⟩,
    ⟨(some 23), 23, (.call 99 [(.t 22)]), none, [1]⟩,
    ⟨(some 24), 24, (.fld 3 (.t 4)), none, [0, 1, 2]⟩,
    ⟨none, 35, (.store 1 (.t 24) (.t 23)), none, [3, 2, 2, 0, 1, 2]⟩])
  (.seq (.reg [⟨(some 25), 25, (.fld 3 (.t 4)), none, []⟩,
    ⟨(some 26), 26, (.load false 1 (.t 25)), none, [0]⟩,
    ⟨(some 27), 27, (.mv (.t 1)), none, []⟩,
    ⟨(some 28), 28, (.load true 3 (.t 7)), none, []⟩,
    ⟨(some 29), 29, (.idx 3 (.t 26) (.t 27)), none, [1, 2, 0, 1, 2, 3]⟩,
    ⟨none, 36, (.store 3 (.t 29) (.t 28)), none, [4, 3, 0, 1, 2, 3]⟩])
  (.seq (.reg [⟨(some 30), 30, (.load true 5 (.t 4)), none, []⟩,
    ⟨none, 32, (.store 5 (.t 8) (.t 30)), none, [0, 0]⟩])
  .ret))))))
theorem fn62 : FnIs Try.prog 62 ac62 [(.cell 8 true 5)] 31 := ⟨Try.f62, Try.func62, by kernel_rfl, by kernel_rfl, by kernel_rfl⟩
/- lockkeeper/lockkeeperref15.marked -/
def ac63 : ACode := (.seq (.reg [⟨(some 6), 6, (.mv (.k (.c .zc))), none, []⟩,
    ⟨(some 7), 7, (.mv (.k (.c (.s (.pv (.bool false)))))), none, [0]⟩])
  (.seq (.seq (.reg [⟨(some 9), 9, (.mv (.t 2)), none, []⟩,
    ⟨(some 10), 10, (.bin false .lss (.t 9) (.k (.c (.s (.pv (.int .i64 0)))))), none, [0]⟩,
    ⟨(some 11), 11, (.mv (.t 10)), none, [1]⟩,
    ⟨(some 12), 12, (.mv (.t 2)), (some (11, false)), [2]⟩,
    ⟨(some 13), 13, (.bin false .gtr (.t 12) (.k (.c (.s (.pv (.int .i64 2147483647)))))), (some (11, false)), [3, 2]⟩,
    ⟨(some 14), 14, (.pick (.t 11) (.k (.c (.s (.pv (.bool true))))) (.t 13)), none, [2, 4]⟩,
    ⟨(some 15), 15, (.mv (.t 14)), none, [5, 2]⟩,
    ⟨(some 16), 16, (.mv (.t 0)), (some (15, false)), [6]⟩,
    ⟨(some 17), 17, (.len (.t 16)), (some (15, false)), [7, 6]⟩,
    ⟨(some 18), 18, (.bin false .gtr (.t 17) (.k (.c (.s (.pv (.int .i64 0)))))), (some (15, false)), [8, 6]⟩,
    ⟨(some 19), 19, (.mv (.t 18)), (some (15, false)), [9, 6, 6]⟩,
    ⟨(some 20), 20, (.mv (.t 2)), (some (19, true)), [10]⟩,
    ⟨(some 21), 21, (.mv (.t 0)), (some (19, true)), [10]⟩,
    ⟨(some 22), 22, (.mv (.t 0)), (some (19, true)), [10]⟩,
    ⟨(some 23), 23, (.len (.t 22)), (some (19, true)), [13, 10]⟩,
    ⟨(some 24), 24, (.bin false .sub (.t 23) (.k (.c (.s (.pv (.int .i64 1)))))), (some (19, true)), [14, 10]⟩,
    ⟨(some 25), 25, (.idx 2 (.t 21) (.t 24)), (some (19, true)), [12, 15, 10]⟩,
    ⟨(some 26), 26, (.fld 1 (.t 25)), (some (19, true)), [16, 10]⟩,
    ⟨(some 27), 27, (.load false 1 (.t 26)), (some (19, true)), [17, 10]⟩,
    ⟨(some 28), 28, (.bin false .lss (.t 20) (.t 27)), (some (19, true)), [11, 18, 10]⟩,
    ⟨(some 29), 29, (.pick (.t 19) (.t 28) (.k (.c (.s (.pv (.bool false)))))), (some (15, false)), [10, 19, 6]⟩,
    ⟨(some 30), 30, (.pick (.t 15) (.k (.c (.s (.pv (.bool true))))) (.t 29)), none, [6, 20]⟩])
  (.cond (.t 30) (.seq (.reg [⟨(some 6), 6, (.mv (.k (.c .zc))), none, []⟩,
    ⟨(some 7), 7, (.mv (.k (.c (.s (.pv (.bool false)))))), none, [0, 0]⟩])
  .ret) .skip))
  (.seq (.seq (.reg [⟨(some 31), 31, (.mv (.t 0)), none, []⟩,
    ⟨(some 32), 32, (.mv (.t 1)), none, []⟩,
    ⟨(some 33), 33, (.call 64 [(.t 31), (.t 32)]), none, [0, 1]⟩,
    ⟨(some 34), 34, (.bin false .geq (.t 33) (.k (.c (.s (.pv (.int .i64 0)))))), none, [2]⟩])
  (.cond (.t 34) (.seq (.reg [⟨(some 35), 35, (.mv (.t 0)), none, []⟩,
    ⟨(some 6), 6, (.mv (.t 35)), none, [0, 0]⟩,
    ⟨(some 7), 7, (.mv (.k (.c (.s (.pv (.bool true)))))), none, [1, 0, 1]⟩])
  .ret) .skip))
  (.seq (.reg [⟨(some 8), 8, (.mv (.k (.c .zc))), none, []⟩])
  (.seq (.reg [⟨(some 36), 36, (.mv (.t 8)), none, []⟩,
    ⟨(some 37), 37, (.mv (.t 0)), none, []⟩,
    ⟨(some 38), 38, (.app 122 2 16 (.t 36) (.t 37)), none, [0, 1]⟩,
    ⟨(some 8), 8, (.mv (.t 38)), none, [2, 2, 0, 1, 2]⟩])
  (.seq (.reg [⟨(some 39), 39, (.mv (.t 8)), none, []⟩,
    ⟨(some 40), 40, (.mv (.t 1)), none, []⟩,
    ⟨(some 41), 41, (.mv (.t 2)), none, []⟩,
    ⟨(some 42), 42, (.build [(.s (.pv (.int .i64 0))), (.s (.pv (.int .i64 0)))] [(0, 1, (.t 40)), (1, 1, (.t 41))]), none, [1, 2]⟩,
    ⟨(some 43), 43, (.bslice 122 2 [(.s (.pv (.int .i64 0))), (.s (.pv (.int .i64 0)))] 1 [(0, 2, (.t 42))]), none, [3]⟩,
    ⟨(some 44), 44, (.app 122 2 16 (.t 39) (.t 43)), none, [0, 4]⟩,
    ⟨(some 6), 6, (.mv (.t 44)), none, [5, 5, 0, 1, 2, 3, 4, 5]⟩,
    ⟨(some 7), 7, (.mv (.k (.c (.s (.pv (.bool true)))))), none, [6, 0, 1, 2, 3, 4, 5, 6]⟩])
  .ret))))))
theorem fn63 : FnIs Try.prog 63 ac63 [(.t 6), (.t 7)] 45 := ⟨Try.f63, Try.func63, by kernel_rfl, by kernel_rfl, by kernel_rfl⟩
/- lockkeeper/lockkeeperref14.Find -/
def ac64 : ACode := (.seq (.reg [⟨(some 4), 4, (.mv (.k (.c (.s (.pv (.int .i64 0)))))), none, []⟩])
  (.seq (.seq (.reg [⟨(some 5), 5, (.mv (.k (.c (.s (.pv (.int .i64 0)))))), none, []⟩])
  (.block 0 (.loop (.seq (.seq (.reg [⟨(some 6), 6, (.mv (.t 5)), none, []⟩,
    ⟨(some 7), 7, (.mv (.t 0)), none, []⟩,
    ⟨(some 8), 8, (.len (.t 7)), none, [1]⟩,
    ⟨(some 9), 9, (.bin false .lss (.t 6) (.t 8)), none, [0, 2]⟩])
  (.cond (.t 9) .skip (.exit 0)))
  (.seq (.block 1 (.seq (.reg [⟨(some 12), 12, (.mv (.t 0)), none, []⟩,
    ⟨(some 13), 13, (.mv (.t 5)), none, []⟩,
    ⟨(some 14), 14, (.idx 2 (.t 12) (.t 13)), none, [0, 1]⟩,
    ⟨(some 15), 15, (.fld 0 (.t 14)), none, [2]⟩,
    ⟨(some 16), 16, (.load false 1 (.t 15)), none, [3]⟩,
    ⟨(some 17), 17, (.mv (.t 1)), none, []⟩,
    ⟨(some 18), 18, (.bin false .eql (.t 16) (.t 17)), none, [4, 5]⟩])
  (.cond (.t 18) (.seq (.reg [⟨(some 19), 19, (.mv (.t 5)), none, []⟩,
    ⟨(some 4), 4, (.mv (.t 19)), none, [0, 0]⟩])
  .ret) .skip)))
  (.reg [⟨(some 10), 10, (.mv (.t 5)), none, []⟩,
    ⟨(some 11), 11, (.bin false .add (.t 10) (.k (.c (.s (.pv (.int .i64 1)))))), none, [0]⟩,
    ⟨(some 5), 5, (.mv (.t 11)), none, [1, 0, 1]⟩]))))))
  (.seq (.reg [⟨(some 4), 4, (.mv (.k (.c (.s (.pv (.int .i64 (-1))))))), none, []⟩])
  .ret)))
theorem fn64 : FnIs Try.prog 64 ac64 [(.t 4)] 20 := ⟨Try.f64, Try.func64, by kernel_rfl, by kernel_rfl, by kernel_rfl⟩
/- lockkeeper/lockkeeperref15.clean -/
def ac65 : ACode := (.seq (.reg [⟨(some 4), 4, (.mv (.k (.c .zc))), none, []⟩])
  (.seq (.reg [⟨(some 5), 5, (.mv (.k (.c .zc))), none, []⟩])
  (.seq (.seq (.reg [⟨(some 6), 6, (.mv (.k (.c (.s (.pv (.int .i64 0)))))), none, []⟩])
  (.block 0 (.loop (.seq (.seq (.reg [⟨(some 7), 7, (.mv (.t 6)), none, []⟩,
    ⟨(some 8), 8, (.mv (.t 0)), none, []⟩,
    ⟨(some 9), 9, (.len (.t 8)), none, [1]⟩,
    ⟨(some 10), 10, (.bin false .lss (.t 7) (.t 9)), none, [0, 2]⟩])
  (.cond (.t 10) .skip (.exit 0)))
  (.seq (.block 1 (.seq (.reg [⟨(some 13), 13, (.mv (.t 0)), none, []⟩,
    ⟨(some 14), 14, (.mv (.t 6)), none, []⟩,
    ⟨(some 15), 15, (.idx 2 (.t 13) (.t 14)), none, [0, 1]⟩,
    ⟨(some 16), 16, (.fld 0 (.t 15)), none, [2]⟩,
    ⟨(some 17), 17, (.load false 1 (.t 16)), none, [3]⟩,
    ⟨(some 18), 18, (.mv (.t 1)), none, []⟩,
    ⟨(some 19), 19, (.bin false .neq (.t 17) (.t 18)), none, [4, 5]⟩])
  (.cond (.t 19) (.reg [⟨(some 20), 20, (.mv (.t 5)), none, []⟩,
    ⟨(some 21), 21, (.mv (.t 0)), none, []⟩,
    ⟨(some 22), 22, (.mv (.t 6)), none, []⟩,
    ⟨(some 23), 23, (.idx 2 (.t 21) (.t 22)), none, [1, 2]⟩,
    ⟨(some 24), 24, (.load true 2 (.t 23)), none, [3]⟩,
    ⟨(some 25), 25, (.bslice 122 2 [(.s (.pv (.int .i64 0))), (.s (.pv (.int .i64 0)))] 1 [(0, 2, (.t 24))]), none, [4]⟩,
    ⟨(some 26), 26, (.app 122 2 16 (.t 20) (.t 25)), none, [0, 5]⟩,
    ⟨(some 5), 5, (.mv (.t 26)), none, [6, 6, 0, 1, 2, 3, 4, 5, 6]⟩]) .skip)))
  (.reg [⟨(some 11), 11, (.mv (.t 6)), none, []⟩,
    ⟨(some 12), 12, (.bin false .add (.t 11) (.k (.c (.s (.pv (.int .i64 1)))))), none, [0]⟩,
    ⟨(some 6), 6, (.mv (.t 12)), none, [1, 0, 1]⟩]))))))
  (.seq (.reg [⟨(some 27), 27, (.mv (.t 5)), none, []⟩,
    ⟨(some 4), 4, (.mv (.t 27)), none, [0, 0]⟩])
  .ret))))
theorem fn65 : FnIs Try.prog 65 ac65 [(.t 4)] 28 := ⟨Try.f65, Try.func65, by kernel_rfl, by kernel_rfl, by kernel_rfl⟩
/- lockkeeper/lockkeeperref15.freed -/
def ac66 : ACode := (.seq (.reg [⟨(some 2), 2, (.box 57 5 (.t 0)), none, []⟩,
    ⟨(some 4), 4, (.mk 57 5 [[.zc, (.s (.pv (.int .i64 0))), .zc, .zc, .zc]]), none, []⟩])
  (.seq (.reg [⟨(some 7), 7, (.fld 3 (.t 2)), none, []⟩,
    ⟨(some 8), 8, (.load false 1 (.t 7)), none, [0]⟩,
    ⟨(some 9), 9, (.mv (.t 1)), none, []⟩,
    ⟨(some 10), 10, (.idx 3 (.t 8) (.t 9)), none, [1, 2]⟩,
    ⟨(some 11), 11, (.fld 0 (.t 10)), none, [3]⟩,
    ⟨(some 12), 12, (.load false 1 (.t 11)), none, [4]⟩,
    ⟨(some 5), 5, (.mv (.t 12)), none, [5, 0, 1, 2, 3, 4, 5]⟩])
  (.seq (.reg [⟨(some 13), 13, (.load true 5 (.t 2)), none, []⟩,
    ⟨(some 14), 14, (.mv (.t 1)), none, []⟩,
    ⟨(some 15), 15, (.build [(.s (.pv (.int .i64 0))), (.s (.pv (.int .i64 0))), (.s (.pv (.bool false)))] []), none, []⟩,
    ⟨(some 16), 16, (.build [(.s (.pv (.int .i64 0))), (.s (.pv (.int .i64 0))), (.s (.pv (.string ⟨#[]⟩)))] []), none, []⟩,
    ⟨(some 17), 17, (.call 67 [(.t 13), (.t 14), (.t 15), (.t 16)]), none, [0, 1, 2, 3]⟩,
    ⟨(some 6), 6, (.mk 57 5 [[.zc, (.s (.pv (.int .i64 0))), .zc, .zc, .zc]]), none, []⟩,
    ⟨none, 38, (.store 5 (.t 6) (.t 17)), none, [5, 4, 4, 0, 1, 2, 3, 4, 5]⟩])
  (.seq (.reg [⟨(some 19), 19, (.fld 2 (.t 2)), none, []⟩,
    ⟨(some 20), 20, (.load true 1 (.t 19)), none, [0]⟩,
    ⟨(some 21), 21, (.mv (.t 5)), none, []⟩,
    ⟨(some 22), 22, (.call 100 [(.t 20), (.t 21)]), none, [1, 2]⟩,
    ⟨(some 18), 18, (.mv (.t 22)), none, [3]⟩,
    ⟨(some 23), 23, (.ext 0 (.t 18)), none, [4]⟩,
    ⟨(some 24), 24, (.ext 1 (.t 18)), none, [4]⟩,
    ⟨(some 25), 25, (.fld 2 (.t 6)), none, [0, 1, 2, 3, 4, 5]⟩,
    ⟨none, 40, (.store 1 (.t 25) (.t 23)), none, [7, 5, 3, 0, 1, 2, 3, 4, 5]⟩])
  (.seq (.reg [⟨(some 26), 26, (.fld 4 (.t 2)), none, []⟩,
    ⟨(some 27), 27, (.load false 1 (.t 26)), none, [0]⟩,
    ⟨(some 28), 28, (.mv (.t 5)), none, []⟩,
    ⟨(some 29), 29, (.call 65 [(.t 27), (.t 28)]), none, [1, 2]⟩,
    ⟨(some 30), 30, (.fld 4 (.t 6)), none, [0, 1, 2, 3]⟩,
    ⟨none, 37, (.store 1 (.t 30) (.t 29)), none, [4, 3, 3, 0, 1, 2, 3]⟩])
  (.seq (.reg [⟨(some 31), 31, (.load true 5 (.t 6)), none, []⟩,
    ⟨none, 33, (.store 5 (.t 4) (.t 31)), none, [0, 0]⟩])
  .ret))))))
theorem fn66 : FnIs Try.prog 66 ac66 [(.cell 4 true 5)] 32 := ⟨Try.f66, Try.func66, by kernel_rfl, by kernel_rfl, by kernel_rfl⟩
/- lockkeeper/lockkeeperref15.with -/
def ac67 : ACode := (.seq (.reg [⟨(some 4), 4, (.box 57 5 (.t 0)), none, []⟩,
    ⟨(some 6), 6, (.box 65 3 (.t 2)), none, []⟩,
    ⟨(some 7), 7, (.box 38 3 (.t 3)), none, []⟩,
    ⟨(some 8), 8, (.mk 57 5 [[.zc, (.s (.pv (.int .i64 0))), .zc, .zc, .zc]]), none, []⟩])
  (.seq (.reg [⟨(some 13), 13, (.fld 2 (.t 4)), none, []⟩,
    ⟨(some 14), 14, (.load true 1 (.t 13)), none, [0]⟩,
    ⟨(some 15), 15, (.fld 4 (.t 4)), none, []⟩,
    ⟨(some 16), 16, (.load false 1 (.t 15)), none, [2]⟩,
    ⟨(some 17), 17, (.build [.zc, (.s (.pv (.int .i64 0))), .zc, .zc, .zc] [(2, 1, (.t 14)), (4, 1, (.t 16))]), none, [1, 3]⟩,
    ⟨(some 9), 9, (.mk 57 5 [[.zc, (.s (.pv (.int .i64 0))), .zc, .zc, .zc]]), none, []⟩,
    ⟨none, 67, (.store 5 (.t 9) (.t 17)), none, [5, 4, 0, 1, 2, 3, 4, 5]⟩])
  (.seq (.reg [⟨(some 18), 18, (.fld 0 (.t 4)), none, []⟩,
    ⟨(some 19), 19, (.fld 1 (.t 18)), none, [0]⟩,
    ⟨(some 20), 20, (.load false 1 (.t 19)), none, [1]⟩,
    ⟨(some 21), 21, (.fld 0 (.t 9)), none, [0, 1, 2]⟩,
    ⟨(some 22), 22, (.fld 1 (.t 21)), none, [3, 0, 1, 2]⟩,
    ⟨none, 66, (.store 1 (.t 22) (.t 20)), none, [4, 2, 0, 1, 2]⟩])
  (.seq (.seq (.reg [⟨(some 10), 10, (.mv (.k (.c (.s (.pv (.int .i64 0)))))), none, []⟩])
  (.block 0 (.loop (.seq (.seq (.reg [⟨(some 23), 23, (.mv (.t 10)), none, []⟩,
    ⟨(some 24), 24, (.fld 3 (.t 4)), none, []⟩,
    ⟨(some 25), 25, (.load false 1 (.t 24)), none, [1]⟩,
    ⟨(some 26), 26, (.len (.t 25)), none, [2]⟩,
    ⟨(some 27), 27, (.bin false .lss (.t 23) (.t 26)), none, [0, 3]⟩])
  (.cond (.t 27) .skip (.exit 0)))
  (.seq (.block 1 (.seq (.draw [⟨(some 30), 30, (.fld 0 (.t 4)), none, []⟩,
    ⟨(some 31), 31, (.fld 0 (.t 30)), none, [0]⟩,
    ⟨(some 32), 32, (.load false 1 (.t 31)), none, [1]⟩,
    ⟨(some 33), 33, (.mv (.t 10)), none, []⟩,
    ⟨(some 34), 34, (.idx 3 (.t 32) (.t 33)), none, [2, 3]⟩,
    ⟨(some 35), 35, (.load true 3 (.t 34)), none, [4]⟩,
    ⟨(some 36), 36, (.fld 3 (.t 4)), none, []⟩,
    ⟨(some 37), 37, (.load false 1 (.t 36)), none, [6]⟩,
    ⟨(some 38), 38, (.mv (.t 10)), none, []⟩,
    ⟨(some 39), 39, (.idx 3 (.t 37) (.t 38)), none, [7, 8]⟩,
    ⟨(some 40), 40, (.load true 3 (.t 39)), none, [9]⟩,
    ⟨(some 11), 11, (.mk 65 3 [[(.s (.pv (.int .i64 0))), (.s (.pv (.int .i64 0))), (.s (.pv (.bool false)))]]), none, []⟩,
    ⟨(some 12), 12, (.mk 38 3 [[(.s (.pv (.int .i64 0))), (.s (.pv (.int .i64 0))), (.s (.pv (.string ⟨#[]⟩)))]]), none, []⟩,
    ⟨none, 74, (.store 3 (.t 11) (.t 35)), none, [11, 5, 0, 1, 2, 3, 4, 5, 11, 12]⟩,
    ⟨none, 75, (.store 3 (.t 12) (.t 40)), none, [12, 10, 13, 0, 1, 2, 3, 4, 5, 6, 7, 8, 9, 10, 11, 12, 13]⟩])
  (.seq (.seq (.reg [⟨(some 41), 41, (.mv (.t 10)), none, []⟩,
    ⟨(some 42), 42, (.mv (.t 1)), none, []⟩,
    ⟨(some 43), 43, (.bin false .eql (.t 41) (.t 42)), none, [0, 1]⟩])
  (.cond (.t 43) (.draw [⟨(some 44), 44, (.load true 3 (.t 6)), none, []⟩,
    ⟨(some 45), 45, (.load true 3 (.t 7)), none, []⟩,
    ⟨none, 63, (.store 3 (.t 11) (.t 44)), none, [0, 0]⟩,
    ⟨none, 64, (.store 3 (.t 12) (.t 45)), none, [1, 2, 0, 1, 2]⟩]) .skip))
  (.seq (.reg [⟨(some 46), 46, (.fld 0 (.t 9)), none, []⟩,
    ⟨(some 47), 47, (.fld 0 (.t 46)), none, [0]⟩,
    ⟨(some 48), 48, (.load false 1 (.t 47)), none, [1]⟩,
    ⟨(some 49), 49, (.load true 3 (.t 11)), none, []⟩,
    ⟨(some 50), 50, (.bslice 65 3 [(.s (.pv (.int .i64 0))), (.s (.pv (.int .i64 0))), (.s (.pv (.bool false)))] 1 [(0, 3, (.t 49))]), none, [3]⟩,
    ⟨(some 51), 51, (.app 65 3 24 (.t 48) (.t 50)), none, [2, 4]⟩,
    ⟨(some 52), 52, (.fld 0 (.t 9)), none, [0, 1, 2, 3, 4, 5]⟩,
    ⟨(some 53), 53, (.fld 0 (.t 52)), none, [6, 0, 1, 2, 3, 4, 5]⟩,
    ⟨none, 69, (.store 1 (.t 53) (.t 51)), none, [7, 5, 5, 0, 1, 2, 3, 4, 5]⟩])
  (.reg [⟨(some 54), 54, (.fld 3 (.t 9)), none, []⟩,
    ⟨(some 55), 55, (.load false 1 (.t 54)), none, [0]⟩,
    ⟨(some 56), 56, (.load true 3 (.t 12)), none, []⟩,
    ⟨(some 57), 57, (.bslice 38 3 [(.s (.pv (.int .i64 0))), (.s (.pv (.int .i64 0))), (.s (.pv (.string ⟨#[]⟩)))] 1 [(0, 3, (.t 56))]), none, [2]⟩,
    ⟨(some 58), 58, (.app 38 3 32 (.t 55) (.t 57)), none, [1, 3]⟩,
    ⟨(some 59), 59, (.fld 3 (.t 9)), none, [0, 1, 2, 3, 4]⟩,
    ⟨none, 67, (.store 1 (.t 59) (.t 58)), none, [5, 4, 4, 0, 1, 2, 3, 4]⟩])))))
  (.reg [⟨(some 28), 28, (.mv (.t 10)), none, []⟩,
    ⟨(some 29), 29, (.bin false .add (.t 28) (.k (.c (.s (.pv (.int .i64 1)))))), none, [0]⟩,
    ⟨(some 10), 10, (.mv (.t 29)), none, [1, 0, 1]⟩]))))))
  (.seq (.reg [⟨(some 60), 60, (.load true 5 (.t 9)), none, []⟩,
    ⟨none, 62, (.store 5 (.t 8) (.t 60)), none, [0, 0]⟩])
  .ret)))))
theorem fn67 : FnIs Try.prog 67 ac67 [(.cell 8 true 5)] 61 := ⟨Try.f67, Try.func67, by kernel_rfl, by kernel_rfl, by kernel_rfl⟩
/- lockkeeper/lockkeeperref09.Same -/
def ac68 : ACode := (.seq (.reg [⟨(some 2), 2, (.box 51 2 (.t 0)), none, []⟩,
    ⟨(some 3), 3, (.box 51 2 (.t 1)), none, []⟩,
    ⟨(some 4), 4, (.mv (.k (.c (.s (.pv (.bool false)))))), none, []⟩])
  (.seq (.seq (.reg [⟨(some 6), 6, (.fld 0 (.t 2)), none, []⟩,
    ⟨(some 7), 7, (.load false 1 (.t 6)), none, [0]⟩,
    ⟨(some 8), 8, (.len (.t 7)), none, [1]⟩,
    ⟨(some 9), 9, (.fld 0 (.t 3)), none, []⟩,
    ⟨(some 10), 10, (.load false 1 (.t 9)), none, [3]⟩,
    ⟨(some 11), 11, (.len (.t 10)), none, [4]⟩,
    ⟨(some 12), 12, (.bin false .neq (.t 8) (.t 11)), none, [2, 5]⟩,
    ⟨(some 13), 13, (.mv (.t 12)), none, [6]⟩,
    ⟨(some 14), 14, (.fld 1 (.t 2)), (some (13, false)), [7]⟩,
    ⟨(some 15), 15, (.load false 1 (.t 14)), (some (13, false)), [8, 7]⟩,
    ⟨(some 16), 16, (.fld 1 (.t 3)), (some (13, false)), [7]⟩,
    ⟨(some 17), 17, (.load false 1 (.t 16)), (some (13, false)), [10, 7]⟩,
    ⟨(some 18), 18, (.bin false .neq (.t 15) (.t 17)), (some (13, false)), [9, 11, 7]⟩,
    ⟨(some 19), 19, (.pick (.t 13) (.k (.c (.s (.pv (.bool true))))) (.t 18)), none, [7, 12]⟩])
  (.cond (.t 19) (.seq (.reg [⟨(some 4), 4, (.mv (.k (.c (.s (.pv (.bool false)))))), none, []⟩])
  .ret) .skip))
  (.seq (.seq (.reg [⟨(some 5), 5, (.mv (.k (.c (.s (.pv (.int .i64 0)))))), none, []⟩])
  (.block 0 (.loop (.seq (.seq (.reg [⟨(some 20), 20, (.mv (.t 5)), none, []⟩,
    ⟨(some 21), 21, (.fld 0 (.t 2)), none, []⟩,
    ⟨(some 22), 22, (.load false 1 (.t 21)), none, [1]⟩,
    ⟨(some 23), 23, (.len (.t 22)), none, [2]⟩,
    ⟨(some 24), 24, (.bin false .lss (.t 20) (.t 23)), none, [0, 3]⟩])
  (.cond (.t 24) .skip (.exit 0)))
  (.seq (.block 1 (.seq (.draw [⟨(some 27), 27, (.fld 0 (.t 2)), none, []⟩,
    ⟨(some 28), 28, (.load false 1 (.t 27)), none, [0]⟩,
    ⟨(some 29), 29, (.mv (.t 5)), none, []⟩,
    ⟨(some 30), 30, (.idx 3 (.t 28) (.t 29)), none, [1, 2]⟩,
    ⟨(some 31), 31, (.load true 3 (.t 30)), none, [3]⟩,
    ⟨(some 32), 32, (.fld 0 (.t 3)), none, []⟩,
    ⟨(some 33), 33, (.load false 1 (.t 32)), none, [5]⟩,
    ⟨(some 34), 34, (.mv (.t 5)), none, []⟩,
    ⟨(some 35), 35, (.idx 3 (.t 33) (.t 34)), none, [6, 7]⟩,
    ⟨(some 36), 36, (.load true 3 (.t 35)), none, [8]⟩,
    ⟨(some 37), 37, (.eqs true 65 (.t 31) (.t 36)), none, [4, 9]⟩])
  (.cond (.t 37) (.seq (.reg [⟨(some 4), 4, (.mv (.k (.c (.s (.pv (.bool false)))))), none, []⟩])
  .ret) .skip)))
  (.reg [⟨(some 25), 25, (.mv (.t 5)), none, []⟩,
    ⟨(some 26), 26, (.bin false .add (.t 25) (.k (.c (.s (.pv (.int .i64 1)))))), none, [0]⟩,
    ⟨(some 5), 5, (.mv (.t 26)), none, [1, 0, 1]⟩]))))))
  (.seq (.reg [⟨(some 4), 4, (.mv (.k (.c (.s (.pv (.bool true)))))), none, []⟩])
  .ret))))
theorem fn68 : FnIs Try.prog 68 ac68 [(.t 4)] 38 := ⟨Try.f68, Try.func68, by kernel_rfl, by kernel_rfl, by kernel_rfl⟩
/- lockkeeper/page.Right -/
def ac69 : ACode := (.seq (.reg [⟨(some 1), 1, (.box 38 3 (.t 0)), none, []⟩,
    ⟨(some 2), 2, (.mv (.k (.c (.s (.pv (.bool false)))))), none, []⟩])
  (.seq (.reg [⟨(some 3), 3, (.fld 0 (.t 1)), none, []⟩,
    ⟨(some 4), 4, (.load false 1 (.t 3)), none, [0]⟩,
    ⟨(some 5), 5, (.bin false .geq (.t 4) (.k (.c (.s (.pv (.int .i64 1)))))), none, [1]⟩,
    ⟨(some 6), 6, (.mv (.t 5)), none, [2]⟩,
    ⟨(some 7), 7, (.fld 0 (.t 1)), (some (6, true)), [3]⟩,
    ⟨(some 8), 8, (.load false 1 (.t 7)), (some (6, true)), [4, 3]⟩,
    ⟨(some 9), 9, (.bin false .leq (.t 8) (.k (.c (.s (.pv (.int .i64 16)))))), (some (6, true)), [5, 3]⟩,
    ⟨(some 10), 10, (.pick (.t 6) (.t 9) (.k (.c (.s (.pv (.bool false)))))), none, [3, 6]⟩,
    ⟨(some 11), 11, (.mv (.t 10)), none, [7, 3]⟩,
    ⟨(some 12), 12, (.fld 1 (.t 1)), (some (11, true)), [8]⟩,
    ⟨(some 13), 13, (.load false 1 (.t 12)), (some (11, true)), [9, 8]⟩,
    ⟨(some 14), 14, (.bin false .geq (.t 13) (.k (.c (.s (.pv (.int .i64 1)))))), (some (11, true)), [10, 8]⟩,
    ⟨(some 15), 15, (.pick (.t 11) (.t 14) (.k (.c (.s (.pv (.bool false)))))), none, [8, 11]⟩,
    ⟨(some 16), 16, (.mv (.t 15)), none, [12, 8]⟩,
    ⟨(some 17), 17, (.fld 1 (.t 1)), (some (16, true)), [13]⟩,
    ⟨(some 18), 18, (.load false 1 (.t 17)), (some (16, true)), [14, 13]⟩,
    ⟨(some 19), 19, (.bin false .leq (.t 18) (.k (.c (.s (.pv (.int .i64 2147483647)))))), (some (16, true)), [15, 13]⟩,
    ⟨(some 20), 20, (.pick (.t 16) (.t 19) (.k (.c (.s (.pv (.bool false)))))), none, [13, 16]⟩,
    ⟨(some 21), 21, (.mv (.t 20)), none, [17, 13]⟩,
    ⟨(some 22), 22, (.fld 2 (.t 1)), (some (21, true)), [18]⟩,
    ⟨(some 23), 23, (.load false 1 (.t 22)), (some (21, true)), [19, 18]⟩,
    ⟨(some 24), 24, (.slen (.t 23)), (some (21, true)), [20, 18]⟩,
    ⟨(some 25), 25, (.bin false .leq (.t 24) (.k (.c (.s (.pv (.int .i64 16)))))), (some (21, true)), [21, 18]⟩,
    ⟨(some 26), 26, (.pick (.t 21) (.t 25) (.k (.c (.s (.pv (.bool false)))))), none, [18, 22]⟩,
    ⟨(some 2), 2, (.mv (.t 26)), none, [23, 18, 0, 1, 2, 3, 4, 5, 6, 7, 8, 9, 10, 11, 12, 13, 14, 15, 16, 17, 18, 19, 20, 21, 22, 23]⟩])
  .ret))
theorem fn69 : FnIs Try.prog 69 ac69 [(.t 2)] 27 := ⟨Try.f69, Try.func69, by kernel_rfl, by kernel_rfl, by kernel_rfl⟩
/- lockkeeper/table.Put -/
def ac70 : ACode := (.seq (.reg [⟨(some 3), 3, (.box 28 1 (.t 0)), none, []⟩,
    ⟨(some 6), 6, (.mk 28 1 [[.zc]]), none, []⟩,
    ⟨(some 7), 7, (.mv (.k (.c (.s (.pv (.int .i64 0)))))), none, []⟩])
  (.seq (.seq (.reg [⟨(some 12), 12, (.load true 1 (.t 3)), none, []⟩,
    ⟨(some 13), 13, (.call 47 [(.t 12)]), none, [0]⟩,
    ⟨(some 14), 14, (.not (.t 13)), none, [1]⟩,
    ⟨(some 15), 15, (.mv (.t 14)), none, [2, 1]⟩,
    ⟨(some 16), 16, (.mv (.t 1)), (some (15, false)), [3]⟩,
    ⟨(some 17), 17, (.call 83 [(.t 16)]), (some (15, false)), [4, 3, 3]⟩,
    ⟨(some 18), 18, (.not (.t 17)), (some (15, false)), [5, 3]⟩,
    ⟨(some 19), 19, (.pick (.t 15) (.k (.c (.s (.pv (.bool true))))) (.t 18)), none, [3, 6]⟩,
    ⟨(some 20), 20, (.mv (.t 19)), none, [7, 5]⟩,
    ⟨(some 21), 21, (.mv (.t 2)), (some (20, false)), [8]⟩,
    ⟨(some 22), 22, (.call 84 [(.t 21)]), (some (20, false)), [9, 8, 8]⟩,
    ⟨(some 23), 23, (.not (.t 22)), (some (20, false)), [10, 8]⟩,
    ⟨(some 24), 24, (.pick (.t 20) (.k (.c (.s (.pv (.bool true))))) (.t 23)), none, [8, 11]⟩])
  (.cond (.t 24) (.seq (.reg [⟨(some 25), 25, (.load true 1 (.t 3)), none, []⟩,
    ⟨none, 52, (.store 1 (.t 6) (.t 25)), none, [0, 0]⟩,
    ⟨(some 7), 7, (.mv (.k (.c (.s (.pv (.int .i64 1)))))), none, [1, 0, 1]⟩])
  .ret) .skip))
  (.seq (.seq (.reg [⟨(some 27), 27, (.load true 1 (.t 3)), none, []⟩,
    ⟨(some 28), 28, (.mv (.t 1)), none, []⟩,
    ⟨(some 29), 29, (.call 89 [(.t 27), (.t 28)]), none, [0, 1]⟩,
    ⟨(some 26), 26, (.mv (.t 29)), none, [2]⟩,
    ⟨(some 30), 30, (.ext 0 (.t 26)), none, [3]⟩,
    ⟨(some 31), 31, (.ext 1 (.t 26)), none, [3]⟩,
    ⟨(some 8), 8, (.mv (.t 30)), none, [4, 2, 0, 1, 2, 3, 4]⟩,
    ⟨(some 9), 9, (.mv (.t 31)), none, [5, 6, 0, 1, 2, 3, 4, 5, 6]⟩])
  (.seq (.reg [⟨(some 32), 32, (.mv (.t 9)), none, []⟩])
  (.cond (.t 32) (.seq (.reg [⟨(some 33), 33, (.load true 1 (.t 3)), none, []⟩,
    ⟨none, 52, (.store 1 (.t 6) (.t 33)), none, [0, 0]⟩,
    ⟨(some 7), 7, (.mv (.k (.c (.s (.pv (.int .i64 4)))))), none, [1, 0, 1]⟩])
  .ret) .skip)))
  (.seq (.reg [⟨(some 34), 34, (.load true 1 (.t 3)), none, []⟩,
    ⟨(some 35), 35, (.mv (.t 1)), none, []⟩,
    ⟨(some 36), 36, (.call 85 [(.t 34), (.t 35)]), none, [0, 1]⟩,
    ⟨(some 10), 10, (.mv (.t 36)), none, [2, 2, 0, 1, 2]⟩])
  (.seq (.seq (.reg [⟨(some 37), 37, (.mv (.t 10)), none, []⟩,
    ⟨(some 38), 38, (.bin false .lss (.t 37) (.k (.c (.s (.pv (.int .i64 0)))))), none, [0]⟩])
  (.cond (.t 38) (.seq (.reg [⟨(some 39), 39, (.load true 1 (.t 3)), none, []⟩,
    ⟨none, 52, (.store 1 (.t 6) (.t 39)), none, [0, 0]⟩,
    ⟨(some 7), 7, (.mv (.k (.c (.s (.pv (.int .i64 7)))))), none, [1, 0, 1]⟩])
  .ret) .skip))
  (.seq (.reg [⟨(some 40), 40, (.fld 0 (.t 3)), none, []⟩,
    ⟨(some 41), 41, (.load false 1 (.t 40)), none, [0]⟩,
    ⟨(some 42), 42, (.call 101 [(.t 41)]), none, [1]⟩,
    ⟨(some 11), 11, (.mv (.t 42)), none, [2, 2, 0, 1, 2]⟩])
  (.seq (.reg [⟨(some 43), 43, (.mv (.t 11)), none, []⟩,
    ⟨(some 44), 44, (.mv (.t 10)), none, []⟩,
    ⟨(some 45), 45, (.mv (.t 1)), none, []⟩,
    ⟨(some 46), 46, (.mv (.t 2)), none, []⟩,
    ⟨(some 47), 47, (.build [(.s (.pv (.int .i64 0))), (.s (.pv (.int .i64 0)))] [(0, 1, (.t 45)), (1, 1, (.t 46))]), none, [2, 3]⟩,
    ⟨(some 48), 48, (.idx 2 (.t 43) (.t 44)), none, [0, 1, 0, 1, 2, 3, 4]⟩,
    ⟨none, 57, (.store 2 (.t 48) (.t 47)), none, [5, 4, 0, 1, 2, 3, 4]⟩])
  (.seq (.reg [⟨(some 49), 49, (.mv (.t 11)), none, []⟩,
    ⟨(some 50), 50, (.build [.zc] [(0, 1, (.t 49))]), none, [0]⟩,
    ⟨none, 53, (.store 1 (.t 6) (.t 50)), none, [1, 0, 1]⟩,
    ⟨(some 7), 7, (.mv (.k (.c (.s (.pv (.int .i64 0)))))), none, [2, 0, 1, 2]⟩])
  .ret))))))))
theorem fn70 : FnIs Try.prog 70 ac70 [(.cell 6 true 1), (.t 7)] 51 := ⟨Try.f70, Try.func70, by kernel_rfl, by kernel_rfl, by kernel_rfl⟩
/- lockkeeper/frames.mark -/
def ac71 : ACode := (.seq (.reg [⟨(some 3), 3, (.box 32 5 (.t 0)), none, []⟩,
    ⟨(some 6), 6, (.mk 32 5 [[.zc, (.s (.pv (.int .i64 0))), .zc, .zc, .zc]]), none, []⟩,
    ⟨(some 7), 7, (.mv (.k (.c (.s (.pv (.int .i64 0)))))), none, []⟩])
  (.seq (.reg [⟨(some 11), 11, (.fld 4 (.t 3)), none, []⟩,
    ⟨(some 12), 12, (.load false 1 (.t 11)), none, [0]⟩,
    ⟨(some 13), 13, (.mv (.t 1)), none, []⟩,
    ⟨(some 14), 14, (.mv (.t 2)), none, []⟩,
    ⟨(some 15), 15, (.call 102 [(.t 12), (.t 13), (.t 14)]), none, [1, 2, 3]⟩,
    ⟨(some 10), 10, (.mv (.t 15)), none, [4]⟩,
    ⟨(some 16), 16, (.ext 0 (.t 10)), none, [5]⟩,
    ⟨(some 17), 17, (.ext 1 (.t 10)), none, [5]⟩,
    ⟨(some 8), 8, (.mv (.t 16)), none, [6, 4, 0, 1, 2, 3, 4, 5, 6]⟩,
    ⟨(some 9), 9, (.mv (.t 17)), none, [7, 8, 0, 1, 2, 3, 4, 5, 6, 7, 8]⟩])
  (.seq (.reg [⟨(some 18), 18, (.mv (.t 8)), none, []⟩,
    ⟨(some 19), 19, (.fld 4 (.t 3)), none, [0]⟩,
    ⟨none, 24, (.store 1 (.t 19) (.t 18)), none, [1, 0, 0]⟩])
  (.seq (.reg [⟨(some 20), 20, (.load true 5 (.t 3)), none, []⟩,
    ⟨(some 21), 21, (.mv (.t 9)), none, []⟩,
    ⟨none, 24, (.store 5 (.t 6) (.t 20)), none, [0, 0]⟩,
    ⟨(some 7), 7, (.mv (.t 21)), none, [1, 2, 0, 1, 2]⟩])
  .ret))))
theorem fn71 : FnIs Try.prog 71 ac71 [(.cell 6 true 5), (.t 7)] 22 := ⟨Try.f71, Try.func71, by kernel_rfl, by kernel_rfl, by kernel_rfl⟩
/- lockkeeper/dirty.Clean -/
def ac80 : ACode := (.seq (.reg [⟨(some 4), 4, (.mv (.k (.c .zc))), none, []⟩,
    ⟨(some 5), 5, (.mv (.k (.c (.s (.pv (.int .i64 0)))))), none, [0]⟩])
  (.seq (.seq (.reg [⟨(some 7), 7, (.mv (.t 0)), none, []⟩,
    ⟨(some 8), 8, (.call 48 [(.t 7)]), none, [0]⟩,
    ⟨(some 9), 9, (.not (.t 8)), none, [1]⟩])
  (.cond (.t 9) (.seq (.reg [⟨(some 10), 10, (.mv (.t 0)), none, []⟩,
    ⟨(some 4), 4, (.mv (.t 10)), none, [0, 0]⟩,
    ⟨(some 5), 5, (.mv (.k (.c (.s (.pv (.int .i64 1)))))), none, [1, 0, 1]⟩])
  .ret) .skip))
  (.seq (.reg [⟨(some 11), 11, (.mv (.t 0)), none, []⟩,
    ⟨(some 12), 12, (.mv (.t 1)), none, []⟩,
    ⟨(some 13), 13, (.call 87 [(.t 11), (.t 12)]), none, [0, 1]⟩,
    ⟨(some 6), 6, (.mv (.t 13)), none, [2, 2, 0, 1, 2]⟩])
  (.seq (.seq (.reg [⟨(some 14), 14, (.mv (.t 6)), none, []⟩,
    ⟨(some 15), 15, (.bin false .lss (.t 14) (.k (.c (.s (.pv (.int .i64 0)))))), none, [0]⟩])
  (.cond (.t 15) (.seq (.reg [⟨(some 16), 16, (.mv (.t 0)), none, []⟩,
    ⟨(some 4), 4, (.mv (.t 16)), none, [0, 0]⟩,
    ⟨(some 5), 5, (.mv (.k (.c (.s (.pv (.int .i64 3)))))), none, [1, 0, 1]⟩])
  .ret) .skip))
  (.seq (.reg [⟨(some 17), 17, (.mv (.t 0)), none, []⟩,
    ⟨(some 18), 18, (.call 113 [(.t 17)]), none, [0]⟩,
    ⟨(some 19), 19, (.mv (.t 6)), none, []⟩,
    ⟨(some 20), 20, (.mv (.t 6)), none, []⟩,
    ⟨(some 21), 21, (.bin false .add (.t 20) (.k (.c (.s (.pv (.int .i64 1)))))), none, [3]⟩,
    ⟨(some 22), 22, (.call 112 [(.t 18), (.t 19), (.t 21)]), none, [1, 2, 4, 1]⟩,
    ⟨(some 4), 4, (.mv (.t 22)), none, [5, 5, 0, 1, 2, 3, 4, 5]⟩,
    ⟨(some 5), 5, (.mv (.k (.c (.s (.pv (.int .i64 0)))))), none, [6, 0, 1, 2, 3, 4, 5, 6]⟩])
  .ret)))))
theorem fn80 : FnIs Try.prog 80 ac80 [(.t 4), (.t 5)] 23 := ⟨Try.f80, Try.func80, by kernel_rfl, by kernel_rfl, by kernel_rfl⟩
/- lockkeeper/clock.has -/
def ac81 : ACode := (.seq (.reg [⟨(some 2), 2, (.box 25 2 (.t 0)), none, []⟩,
    ⟨(some 4), 4, (.mv (.k (.c (.s (.pv (.bool false)))))), none, []⟩])
  (.seq (.reg [⟨(some 5), 5, (.mv (.t 1)), none, []⟩,
    ⟨(some 6), 6, (.bin false .geq (.t 5) (.k (.c (.s (.pv (.int .i64 0)))))), none, [0]⟩,
    ⟨(some 7), 7, (.mv (.t 6)), none, [1]⟩,
    ⟨(some 8), 8, (.mv (.t 1)), (some (7, true)), [2]⟩,
    ⟨(some 9), 9, (.fld 0 (.t 2)), (some (7, true)), [2]⟩,
    ⟨(some 10), 10, (.load false 1 (.t 9)), (some (7, true)), [4, 2]⟩,
    ⟨(some 11), 11, (.len (.t 10)), (some (7, true)), [5, 2]⟩,
    ⟨(some 12), 12, (.bin false .lss (.t 8) (.t 11)), (some (7, true)), [3, 6, 2]⟩,
    ⟨(some 13), 13, (.pick (.t 7) (.t 12) (.k (.c (.s (.pv (.bool false)))))), none, [2, 7]⟩,
    ⟨(some 4), 4, (.mv (.t 13)), none, [8, 2, 0, 1, 2, 3, 4, 5, 6, 7, 8]⟩])
  .ret))
theorem fn81 : FnIs Try.prog 81 ac81 [(.t 4)] 14 := ⟨Try.f81, Try.func81, by kernel_rfl, by kernel_rfl, by kernel_rfl⟩
/- lockkeeper/table.free -/
def ac82 : ACode := (.seq (.reg [⟨(some 1), 1, (.box 120 2 (.t 0)), none, []⟩,
    ⟨(some 2), 2, (.mv (.k (.c (.s (.pv (.bool false)))))), none, []⟩])
  (.seq (.reg [⟨(some 3), 3, (.load true 2 (.t 1)), none, []⟩,
    ⟨(some 4), 4, (.build [(.s (.pv (.int .i64 0))), (.s (.pv (.int .i64 0)))] []), none, []⟩,
    ⟨(some 5), 5, (.eqs false 120 (.t 3) (.t 4)), none, [0, 1]⟩,
    ⟨(some 2), 2, (.mv (.t 5)), none, [2, 0, 1, 2]⟩])
  .ret))
theorem fn82 : FnIs Try.prog 82 ac82 [(.t 2)] 6 := ⟨Try.f82, Try.func82, by kernel_rfl, by kernel_rfl, by kernel_rfl⟩
/- lockkeeper/table.isPage -/
def ac83 : ACode := (.seq (.reg [⟨(some 2), 2, (.mv (.k (.c (.s (.pv (.bool false)))))), none, []⟩])
  (.seq (.reg [⟨(some 3), 3, (.mv (.t 0)), none, []⟩,
    ⟨(some 4), 4, (.bin false .geq (.t 3) (.k (.c (.s (.pv (.int .i64 1)))))), none, [0]⟩,
    ⟨(some 5), 5, (.mv (.t 4)), none, [1]⟩,
    ⟨(some 6), 6, (.mv (.t 0)), (some (5, true)), [2]⟩,
    ⟨(some 7), 7, (.bin false .leq (.t 6) (.k (.c (.s (.pv (.int .i64 2147483647)))))), (some (5, true)), [3, 2]⟩,
    ⟨(some 8), 8, (.pick (.t 5) (.t 7) (.k (.c (.s (.pv (.bool false)))))), none, [2, 4]⟩,
    ⟨(some 2), 2, (.mv (.t 8)), none, [5, 2, 0, 1, 2, 3, 4, 5]⟩])
  .ret))
theorem fn83 : FnIs Try.prog 83 ac83 [(.t 2)] 9 := ⟨Try.f83, Try.func83, by kernel_rfl, by kernel_rfl, by kernel_rfl⟩
/- lockkeeper/table.isFrame -/
def ac84 : ACode := (.seq (.reg [⟨(some 2), 2, (.mv (.k (.c (.s (.pv (.bool false)))))), none, []⟩])
  (.seq (.reg [⟨(some 3), 3, (.mv (.t 0)), none, []⟩,
    ⟨(some 4), 4, (.bin false .geq (.t 3) (.k (.c (.s (.pv (.int .i64 0)))))), none, [0]⟩,
    ⟨(some 5), 5, (.mv (.t 4)), none, [1]⟩,
    ⟨(some 6), 6, (.mv (.t 0)), (some (5, true)), [2]⟩,
    ⟨(some 7), 7, (.bin false .leq (.t 6) (.k (.c (.s (.pv (.int .i64 2147483647)))))), (some (5, true)), [3, 2]⟩,
    ⟨(some 8), 8, (.pick (.t 5) (.t 7) (.k (.c (.s (.pv (.bool false)))))), none, [2, 4]⟩,
    ⟨(some 2), 2, (.mv (.t 8)), none, [5, 2, 0, 1, 2, 3, 4, 5]⟩])
  .ret))
theorem fn84 : FnIs Try.prog 84 ac84 [(.t 2)] 9 := ⟨Try.f84, Try.func84, by kernel_rfl, by kernel_rfl, by kernel_rfl⟩
/- lockkeeper/table.seek -/
def ac85 : ACode := (.seq (.reg [⟨(some 2), 2, (.box 28 1 (.t 0)), none, []⟩,
    ⟨(some 4), 4, (.mv (.k (.c (.s (.pv (.int .i64 0)))))), none, []⟩])
  (.seq (.seq (.reg [⟨(some 8), 8, (.mv (.k (.c (.s (.pv (.int .i64 0)))))), none, []⟩])
  (.block 0 (.loop (.seq (.reg [⟨(some 9), 9, (.bin false .lss (.t 8) (.k (.c (.s (.pv (.int .i64 16)))))), none, []⟩])
  (.seq (.cond (.t 9) .skip (.exit 0))
  (.seq (.block 1 (.seq (.reg [⟨(some 10), 10, (.mv (.t 8)), none, []⟩,
    ⟨(some 5), 5, (.mv (.t 10)), none, [0, 0]⟩])
  (.seq (.reg [⟨(some 11), 11, (.mv (.t 1)), none, []⟩,
    ⟨(some 12), 12, (.mv (.t 5)), none, []⟩,
    ⟨(some 13), 13, (.bin false .add (.t 11) (.t 12)), none, [0, 1]⟩,
    ⟨(some 14), 14, (.bin false .rem (.t 13) (.k (.c (.s (.pv (.int .i64 16)))))), none, [2]⟩,
    ⟨(some 6), 6, (.mv (.t 14)), none, [3, 0, 1, 2, 3]⟩])
  (.seq (.reg [⟨(some 15), 15, (.fld 0 (.t 2)), none, []⟩,
    ⟨(some 16), 16, (.load false 1 (.t 15)), none, [0]⟩,
    ⟨(some 17), 17, (.mv (.t 6)), none, []⟩,
    ⟨(some 18), 18, (.idx 2 (.t 16) (.t 17)), none, [1, 2]⟩,
    ⟨(some 19), 19, (.load true 2 (.t 18)), none, [3]⟩,
    ⟨(some 7), 7, (.mk 120 2 [[(.s (.pv (.int .i64 0))), (.s (.pv (.int .i64 0)))]]), none, []⟩,
    ⟨none, 36, (.store 2 (.t 7) (.t 19)), none, [5, 4, 0, 1, 2, 3, 4, 5]⟩])
  (.seq (.reg [⟨(some 20), 20, (.fld 0 (.t 7)), none, []⟩,
    ⟨(some 21), 21, (.load false 1 (.t 20)), none, [0]⟩,
    ⟨(some 22), 22, (.mv (.t 1)), none, []⟩,
    ⟨(some 23), 23, (.bin false .eql (.t 21) (.t 22)), none, [1, 2]⟩,
    ⟨(some 24), 24, (.mv (.t 23)), none, [3]⟩,
    ⟨(some 25), 25, (.load true 2 (.t 7)), (some (24, false)), [4]⟩,
    ⟨(some 26), 26, (.call 82 [(.t 25)]), (some (24, false)), [5, 4, 4]⟩,
    ⟨(some 27), 27, (.pick (.t 24) (.k (.c (.s (.pv (.bool true))))) (.t 26)), none, [4, 6]⟩])
  (.cond (.t 27) (.seq (.reg [⟨(some 28), 28, (.mv (.t 6)), none, []⟩,
    ⟨(some 4), 4, (.mv (.t 28)), none, [0, 0]⟩])
  .ret) .skip))))))
  (.reg [⟨(some 29), 29, (.bin false .add (.t 8) (.k (.c (.s (.pv (.int .i64 1)))))), none, []⟩,
    ⟨(some 8), 8, (.mv (.t 29)), none, [0]⟩])))))))
  (.seq (.reg [⟨(some 4), 4, (.mv (.k (.c (.s (.pv (.int .i64 (-1))))))), none, []⟩])
  .ret)))
theorem fn85 : FnIs Try.prog 85 ac85 [(.t 4)] 30 := ⟨Try.f85, Try.func85, by kernel_rfl, by kernel_rfl, by kernel_rfl⟩
/- lockkeeper/dirty.isPage -/
def ac86 : ACode := (.seq (.reg [⟨(some 2), 2, (.mv (.k (.c (.s (.pv (.bool false)))))), none, []⟩])
  (.seq (.reg [⟨(some 3), 3, (.mv (.t 0)), none, []⟩,
    ⟨(some 4), 4, (.bin false .geq (.t 3) (.k (.c (.s (.pv (.int .i64 1)))))), none, [0]⟩,
    ⟨(some 5), 5, (.mv (.t 4)), none, [1]⟩,
    ⟨(some 6), 6, (.mv (.t 0)), (some (5, true)), [2]⟩,
    ⟨(some 7), 7, (.bin false .leq (.t 6) (.k (.c (.s (.pv (.int .i64 16)))))), (some (5, true)), [3, 2]⟩,
    ⟨(some 8), 8, (.pick (.t 5) (.t 7) (.k (.c (.s (.pv (.bool false)))))), none, [2, 4]⟩,
    ⟨(some 2), 2, (.mv (.t 8)), none, [5, 2, 0, 1, 2, 3, 4, 5]⟩])
  .ret))
theorem fn86 : FnIs Try.prog 86 ac86 [(.t 2)] 9 := ⟨Try.f86, Try.func86, by kernel_rfl, by kernel_rfl, by kernel_rfl⟩
/- lockkeeper/dirty.place -/
def ac87 : ACode := (.seq (.reg [⟨(some 3), 3, (.box 3 1 (.t 1)), none, []⟩,
    ⟨(some 4), 4, (.mv (.k (.c (.s (.pv (.int .i64 0)))))), none, []⟩])
  (.seq (.reg [⟨(some 5), 5, (.mv (.t 0)), none, []⟩,
    ⟨(some 6), 6, (.clo 115 [(.t 3)]), none, []⟩,
    ⟨(some 7), 7, (.call 114 [(.t 5), (.t 6)]), none, [0, 1]⟩,
    ⟨(some 4), 4, (.mv (.t 7)), none, [2, 2, 0, 1, 2]⟩])
  .ret))
theorem fn87 : FnIs Try.prog 87 ac87 [(.t 4)] 8 := ⟨Try.f87, Try.func87, by kernel_rfl, by kernel_rfl, by kernel_rfl⟩
/- lockkeeper/table.slot -/
def ac89 : ACode := (.seq (.reg [⟨(some 2), 2, (.box 28 1 (.t 0)), none, []⟩,
    ⟨(some 4), 4, (.mv (.k (.c (.s (.pv (.int .i64 0)))))), none, []⟩,
    ⟨(some 5), 5, (.mv (.k (.c (.s (.pv (.bool false)))))), none, [1]⟩])
  (.seq (.seq (.reg [⟨(some 7), 7, (.mv (.t 1)), none, []⟩,
    ⟨(some 8), 8, (.call 83 [(.t 7)]), none, [0]⟩,
    ⟨(some 9), 9, (.not (.t 8)), none, [1]⟩])
  (.cond (.t 9) (.seq (.reg [⟨(some 4), 4, (.mv (.k (.c (.s (.pv (.int .i64 0)))))), none, []⟩,
    ⟨(some 5), 5, (.mv (.k (.c (.s (.pv (.bool false)))))), none, [0, 0]⟩])
  .ret) .skip))
  (.seq (.reg [⟨(some 10), 10, (.load true 1 (.t 2)), none, []⟩,
    ⟨(some 11), 11, (.mv (.t 1)), none, []⟩,
    ⟨(some 12), 12, (.call 85 [(.t 10), (.t 11)]), none, [0, 1]⟩,
    ⟨(some 6), 6, (.mv (.t 12)), none, [2, 2, 0, 1, 2]⟩])
  (.seq (.draw [⟨(some 13), 13, (.mv (.t 6)), none, []⟩,
    ⟨(some 14), 14, (.mv (.t 6)), none, []⟩,
    ⟨(some 15), 15, (.bin false .geq (.t 14) (.k (.c (.s (.pv (.int .i64 0)))))), none, [1]⟩,
    ⟨(some 16), 16, (.mv (.t 15)), none, [2]⟩,
    ⟨(some 17), 17, (.fld 0 (.t 2)), (some (16, true)), [3]⟩,
    ⟨(some 18), 18, (.load false 1 (.t 17)), (some (16, true)), [4, 3]⟩,
    ⟨(some 19), 19, (.mv (.t 6)), (some (16, true)), [3]⟩,
    ⟨(some 20), 20, (.idx 2 (.t 18) (.t 19)), (some (16, true)), [5, 6, 3]⟩,
    ⟨(some 21), 21, (.fld 0 (.t 20)), (some (16, true)), [7, 3]⟩,
    ⟨(some 22), 22, (.load false 1 (.t 21)), (some (16, true)), [8, 3]⟩,
    ⟨(some 23), 23, (.mv (.t 1)), (some (16, true)), [3]⟩,
    ⟨(some 24), 24, (.bin false .eql (.t 22) (.t 23)), (some (16, true)), [9, 10, 3]⟩,
    ⟨(some 25), 25, (.pick (.t 16) (.t 24) (.k (.c (.s (.pv (.bool false)))))), none, [3, 11]⟩,
    ⟨(some 4), 4, (.mv (.t 13)), none, [0, 3, 0]⟩,
    ⟨(some 5), 5, (.mv (.t 25)), none, [12, 13, 0, 1, 2, 3, 4, 5, 6, 7, 8, 9, 10, 11, 12, 13]⟩])
  .ret))))
theorem fn89 : FnIs Try.prog 89 ac89 [(.t 4), (.t 5)] 26 := ⟨Try.f89, Try.func89, by kernel_rfl, by kernel_rfl, by kernel_rfl⟩
/- lockkeeper/lockkeeperref07.there -/
def ac90 : ACode := (.seq (.reg [⟨(some 2), 2, (.box 54 1 (.t 0)), none, []⟩,
    ⟨(some 4), 4, (.mv (.k (.c (.s (.pv (.int .i64 0)))))), none, []⟩])
  (.seq (.reg [⟨(some 5), 5, (.mv (.k (.c (.s (.pv (.int .i64 0)))))), none, []⟩])
  (.seq (.seq (.reg [⟨(some 6), 6, (.mv (.k (.c (.s (.pv (.int .i64 0)))))), none, []⟩])
  (.block 0 (.loop (.seq (.seq (.reg [⟨(some 7), 7, (.mv (.t 6)), none, []⟩,
    ⟨(some 8), 8, (.fld 0 (.t 2)), none, []⟩,
    ⟨(some 9), 9, (.load false 1 (.t 8)), none, [1]⟩,
    ⟨(some 10), 10, (.len (.t 9)), none, [2]⟩,
    ⟨(some 11), 11, (.bin false .lss (.t 7) (.t 10)), none, [0, 3]⟩])
  (.cond (.t 11) .skip (.exit 0)))
  (.seq (.block 1 (.seq (.reg [⟨(some 14), 14, (.fld 0 (.t 2)), none, []⟩,
    ⟨(some 15), 15, (.load false 1 (.t 14)), none, [0]⟩,
    ⟨(some 16), 16, (.mv (.t 6)), none, []⟩,
    ⟨(some 17), 17, (.idx 2 (.t 15) (.t 16)), none, [1, 2]⟩,
    ⟨(some 18), 18, (.fld 0 (.t 17)), none, [3]⟩,
    ⟨(some 19), 19, (.load false 1 (.t 18)), none, [4]⟩,
    ⟨(some 20), 20, (.mv (.t 1)), none, []⟩,
    ⟨(some 21), 21, (.bin false .eql (.t 19) (.t 20)), none, [5, 6]⟩])
  (.cond (.t 21) (.reg [⟨(some 22), 22, (.mv (.t 5)), none, []⟩,
    ⟨(some 23), 23, (.bin false .add (.t 22) (.k (.c (.s (.pv (.int .i64 1)))))), none, [0]⟩,
    ⟨(some 5), 5, (.mv (.t 23)), none, [1, 0, 1]⟩]) .skip)))
  (.reg [⟨(some 12), 12, (.mv (.t 6)), none, []⟩,
    ⟨(some 13), 13, (.bin false .add (.t 12) (.k (.c (.s (.pv (.int .i64 1)))))), none, [0]⟩,
    ⟨(some 6), 6, (.mv (.t 13)), none, [1, 0, 1]⟩]))))))
  (.seq (.reg [⟨(some 24), 24, (.mv (.t 5)), none, []⟩,
    ⟨(some 4), 4, (.mv (.t 24)), none, [0, 0]⟩])
  .ret))))
theorem fn90 : FnIs Try.prog 90 ac90 [(.t 4)] 25 := ⟨Try.f90, Try.func90, by kernel_rfl, by kernel_rfl, by kernel_rfl⟩
/- slices.IndexFunc[[]lockkeeper/clock.Frame,lockkeeper/clock.Frame] -/
def ac91 : ACode := (.seq (.reg [⟨(some 4), 4, (.mv (.k (.c (.s (.pv (.int .i64 0)))))), none, []⟩])
  (.seq (.seq (.reg [⟨(some 6), 6, (.mv (.t 0)), none, []⟩,
    ⟨(some 7), 7, (.len (.t 6)), none, [0]⟩,
    ⟨(some 8), 8, (.mv (.k (.c (.s (.pv (.int .i64 0)))))), none, []⟩])
  (.block 0 (.loop (.seq (.reg [⟨(some 9), 9, (.bin false .lss (.t 8) (.t 7)), none, []⟩])
  (.seq (.cond (.t 9) .skip (.exit 0))
  (.seq (.block 1 (.seq (.reg [⟨(some 10), 10, (.mv (.t 8)), none, []⟩,
    ⟨(some 5), 5, (.mv (.t 10)), none, [0, 0]⟩])
  (.seq (.reg [⟨(some 11), 11, (.mv (.t 1)), none, []⟩,
    ⟨(some 12), 12, (.mv (.t 0)), none, []⟩,
    ⟨(some 13), 13, (.mv (.t 5)), none, []⟩,
    ⟨(some 14), 14, (.idx 3 (.t 12) (.t 13)), none, [1, 2]⟩,
    ⟨(some 15), 15, (.load true 3 (.t 14)), none, [3]⟩,
    ⟨(some 16), 16, (.callv (.t 11) [(.t 15)]), none, [0, 4]⟩])
  (.cond (.t 16) (.seq (.reg [⟨(some 17), 17, (.mv (.t 5)), none, []⟩,
    ⟨(some 4), 4, (.mv (.t 17)), none, [0, 0]⟩])
  .ret) .skip))))
  (.reg [⟨(some 18), 18, (.bin false .add (.t 8) (.k (.c (.s (.pv (.int .i64 1)))))), none, []⟩,
    ⟨(some 8), 8, (.mv (.t 18)), none, [0]⟩])))))))
  (.seq (.reg [⟨(some 4), 4, (.mv (.k (.c (.s (.pv (.int .i64 (-1))))))), none, []⟩])
  .ret)))
theorem fn91 : FnIs Try.prog 91 ac91 [(.t 4)] 19 := ⟨Try.f91, Try.func91, by kernel_rfl, by kernel_rfl, by kernel_rfl⟩
/- lockkeeper/frames.firstFree$1 -/
def ac92 : ACode := (.seq (.reg [⟨(some 1), 1, (.box 46 3 (.t 0)), none, []⟩,
    ⟨(some 2), 2, (.mv (.k (.c (.s (.pv (.bool false)))))), none, []⟩])
  (.seq (.reg [⟨(some 3), 3, (.fld 0 (.t 1)), none, []⟩,
    ⟨(some 4), 4, (.load false 1 (.t 3)), none, [0]⟩,
    ⟨(some 5), 5, (.bin false .eql (.t 4) (.k (.c (.s (.pv (.int .i64 0)))))), none, [1]⟩,
    ⟨(some 2), 2, (.mv (.t 5)), none, [2, 0, 1, 2]⟩])
  .ret))
theorem fn92 : FnIs Try.prog 92 ac92 [(.t 2)] 6 := ⟨Try.f92, Try.func92, by kernel_rfl, by kernel_rfl, by kernel_rfl⟩
/- slices.ContainsFunc[[]lockkeeper/clock.Frame,lockkeeper/clock.Frame] -/
def ac93 : ACode := (.seq (.reg [⟨(some 4), 4, (.mv (.k (.c (.s (.pv (.bool false)))))), none, []⟩])
  (.seq (.reg [⟨(some 5), 5, (.mv (.t 0)), none, []⟩,
    ⟨(some 6), 6, (.mv (.t 1)), none, []⟩,
    ⟨(some 7), 7, (.call 91 [(.t 5), (.t 6)]), none, [0, 1]⟩,
    ⟨(some 8), 8, (.bin false .geq (.t 7) (.k (.c (.s (.pv (.int .i64 0)))))), none, [2]⟩,
    ⟨(some 4), 4, (.mv (.t 8)), none, [3, 2, 0, 1, 2, 3]⟩])
  .ret))
theorem fn93 : FnIs Try.prog 93 ac93 [(.t 4)] 9 := ⟨Try.f93, Try.func93, by kernel_rfl, by kernel_rfl, by kernel_rfl⟩
/- lockkeeper/clock.Sweep$1 -/
def ac94 : ACode := (.seq (.reg [⟨(some 1), 1, (.box 46 3 (.t 0)), none, []⟩,
    ⟨(some 2), 2, (.mv (.k (.c (.s (.pv (.bool false)))))), none, []⟩])
  (.seq (.reg [⟨(some 3), 3, (.load true 3 (.t 1)), none, []⟩,
    ⟨(some 4), 4, (.call 95 [(.t 3)]), none, [0]⟩,
    ⟨(some 5), 5, (.not (.t 4)), none, [1]⟩,
    ⟨(some 2), 2, (.mv (.t 5)), none, [2, 1, 0, 1, 2]⟩])
  .ret))
theorem fn94 : FnIs Try.prog 94 ac94 [(.t 2)] 6 := ⟨Try.f94, Try.func94, by kernel_rfl, by kernel_rfl, by kernel_rfl⟩
/- lockkeeper/clock.pinned -/
def ac95 : ACode := (.seq (.reg [⟨(some 1), 1, (.box 46 3 (.t 0)), none, []⟩,
    ⟨(some 2), 2, (.mv (.k (.c (.s (.pv (.bool false)))))), none, []⟩])
  (.seq (.reg [⟨(some 3), 3, (.fld 1 (.t 1)), none, []⟩,
    ⟨(some 4), 4, (.load false 1 (.t 3)), none, [0]⟩,
    ⟨(some 5), 5, (.bin false .gtr (.t 4) (.k (.c (.s (.pv (.int .i64 0)))))), none, [1]⟩,
    ⟨(some 2), 2, (.mv (.t 5)), none, [2, 0, 1, 2]⟩])
  .ret))
theorem fn95 : FnIs Try.prog 95 ac95 [(.t 2)] 6 := ⟨Try.f95, Try.func95, by kernel_rfl, by kernel_rfl, by kernel_rfl⟩
/- slices.Clone[[]lockkeeper/clock.Frame,lockkeeper/clock.Frame] -/
def ac96 : ACode := (.seq (.reg [⟨(some 2), 2, (.mv (.k (.c .zc))), none, []⟩])
  (.seq (.seq (.reg [⟨(some 3), 3, (.mv (.t 0)), none, []⟩,
    ⟨(some 4), 4, (.isnil (.t 3)), none, [0]⟩])
  (.cond (.t 4) (.seq (.reg [⟨(some 2), 2, (.mv (.k (.c .zc))), none, []⟩])
  .ret) .skip))
  (.seq (.reg [⟨(some 5), 5, (.bslice 46 3 [(.s (.pv (.int .i64 0))), (.s (.pv (.int .i64 0))), (.s (.pv (.bool false)))] 0 []), none, []⟩,
    ⟨(some 6), 6, (.mv (.t 0)), none, []⟩,
    ⟨(some 7), 7, (.app 46 3 24 (.t 5) (.t 6)), none, [0, 1]⟩,
    ⟨(some 2), 2, (.mv (.t 7)), none, [2, 2, 0, 1, 2]⟩])
  .ret)))
theorem fn96 : FnIs Try.prog 96 ac96 [(.t 2)] 8 := ⟨Try.f96, Try.func96, by kernel_rfl, by kernel_rfl, by kernel_rfl⟩
/- lockkeeper/clock.behind -/
def ac97 : ACode := (.seq (.reg [⟨(some 2), 2, (.box 25 2 (.t 0)), none, []⟩,
    ⟨(some 4), 4, (.mv (.k (.c (.s (.pv (.int .i64 0)))))), none, []⟩])
  (.seq (.reg [⟨(some 5), 5, (.mv (.t 1)), none, []⟩,
    ⟨(some 6), 6, (.bin false .add (.t 5) (.k (.c (.s (.pv (.int .i64 1)))))), none, [0]⟩,
    ⟨(some 7), 7, (.fld 0 (.t 2)), none, []⟩,
    ⟨(some 8), 8, (.load false 1 (.t 7)), none, [2]⟩,
    ⟨(some 9), 9, (.len (.t 8)), none, [3]⟩,
    ⟨(some 10), 10, (.bin false .rem (.t 6) (.t 9)), none, [1, 4]⟩,
    ⟨(some 4), 4, (.mv (.t 10)), none, [5, 0, 1, 2, 3, 4, 5]⟩])
  .ret))
theorem fn97 : FnIs Try.prog 97 ac97 [(.t 4)] 11 := ⟨Try.f97, Try.func97, by kernel_rfl, by kernel_rfl, by kernel_rfl⟩
/- lockkeeper/table.Del -/
def ac98 : ACode := (.seq (.reg [⟨(some 2), 2, (.box 28 1 (.t 0)), none, []⟩,
    ⟨(some 4), 4, (.mk 28 1 [[.zc]]), none, []⟩,
    ⟨(some 5), 5, (.mv (.k (.c (.s (.pv (.int .i64 0)))))), none, []⟩])
  (.seq (.seq (.reg [⟨(some 13), 13, (.load true 1 (.t 2)), none, []⟩,
    ⟨(some 14), 14, (.call 47 [(.t 13)]), none, [0]⟩,
    ⟨(some 15), 15, (.not (.t 14)), none, [1]⟩])
  (.cond (.t 15) (.seq (.reg [⟨(some 16), 16, (.load true 1 (.t 2)), none, []⟩,
    ⟨none, 69, (.store 1 (.t 4) (.t 16)), none, [0, 0]⟩,
    ⟨(some 5), 5, (.mv (.k (.c (.s (.pv (.int .i64 1)))))), none, [1, 0, 1]⟩])
  .ret) .skip))
  (.seq (.reg [⟨(some 18), 18, (.load true 1 (.t 2)), none, []⟩,
    ⟨(some 19), 19, (.mv (.t 1)), none, []⟩,
    ⟨(some 20), 20, (.call 89 [(.t 18), (.t 19)]), none, [0, 1]⟩,
    ⟨(some 17), 17, (.mv (.t 20)), none, [2]⟩,
    ⟨(some 21), 21, (.ext 0 (.t 17)), none, [3]⟩,
    ⟨(some 22), 22, (.ext 1 (.t 17)), none, [3]⟩,
    ⟨(some 6), 6, (.mv (.t 21)), none, [4, 2, 0, 1, 2, 3, 4]⟩,
    ⟨(some 7), 7, (.mv (.t 22)), none, [5, 6, 0, 1, 2, 3, 4, 5, 6]⟩])
  (.seq (.seq (.reg [⟨(some 23), 23, (.mv (.t 7)), none, []⟩,
    ⟨(some 24), 24, (.not (.t 23)), none, [0]⟩])
  (.cond (.t 24) (.seq (.reg [⟨(some 25), 25, (.load true 1 (.t 2)), none, []⟩,
    ⟨none, 69, (.store 1 (.t 4) (.t 25)), none, [0, 0]⟩,
    ⟨(some 5), 5, (.mv (.k (.c (.s (.pv (.int .i64 3)))))), none, [1, 0, 1]⟩])
  .ret) .skip))
  (.seq (.reg [⟨(some 26), 26, (.fld 0 (.t 2)), none, []⟩,
    ⟨(some 27), 27, (.load false 1 (.t 26)), none, [0]⟩,
    ⟨(some 28), 28, (.call 101 [(.t 27)]), none, [1]⟩,
    ⟨(some 8), 8, (.mv (.t 28)), none, [2, 2, 0, 1, 2]⟩])
  (.seq (.reg [⟨(some 29), 29, (.mv (.t 8)), none, []⟩,
    ⟨(some 30), 30, (.mv (.t 6)), none, []⟩,
    ⟨(some 31), 31, (.build [(.s (.pv (.int .i64 0))), (.s (.pv (.int .i64 0)))] []), none, []⟩,
    ⟨(some 32), 32, (.idx 2 (.t 29) (.t 30)), none, [0, 1, 0, 1, 2]⟩,
    ⟨none, 72, (.store 2 (.t 32) (.t 31)), none, [3, 2, 0, 1, 2]⟩])
  (.seq (.reg [⟨(some 33), 33, (.mv (.t 6)), none, []⟩,
    ⟨(some 9), 9, (.mv (.t 33)), none, [0, 0]⟩])
  (.seq (.seq (.reg [⟨(some 10), 10, (.mv (.k (.c (.s (.pv (.int .i64 1)))))), none, []⟩])
  (.block 0 (.loop (.seq (.seq (.reg [⟨(some 34), 34, (.mv (.t 10)), none, []⟩,
    ⟨(some 35), 35, (.bin false .lss (.t 34) (.k (.c (.s (.pv (.int .i64 16)))))), none, [0]⟩])
  (.cond (.t 35) .skip (.exit 0)))
  (.seq (.block 1 (.seq (.reg [⟨(some 38), 38, (.mv (.t 9)), none, []⟩,
    ⟨(some 39), 39, (.mv (.t 10)), none, []⟩,
    ⟨(some 40), 40, (.bin false .add (.t 38) (.t 39)), none, [0, 1]⟩,
    ⟨(some 41), 41, (.bin false .rem (.t 40) (.k (.c (.s (.pv (.int .i64 16)))))), none, [2]⟩,
    ⟨(some 11), 11, (.mv (.t 41)), none, [3, 0, 1, 2, 3]⟩])
  (.seq (.reg [⟨(some 42), 42, (.mv (.t 8)), none, []⟩,
    ⟨(some 43), 43, (.mv (.t 11)), none, []⟩,
    ⟨(some 44), 44, (.idx 2 (.t 42) (.t 43)), none, [0, 1]⟩,
    ⟨(some 45), 45, (.load true 2 (.t 44)), none, [2]⟩,
    ⟨(some 12), 12, (.mk 120 2 [[(.s (.pv (.int .i64 0))), (.s (.pv (.int .i64 0)))]]), none, []⟩,
    ⟨none, 73, (.store 2 (.t 12) (.t 45)), none, [4, 3, 0, 1, 2, 3, 4]⟩])
  (.seq (.seq (.reg [⟨(some 46), 46, (.load true 2 (.t 12)), none, []⟩,
    ⟨(some 47), 47, (.call 82 [(.t 46)]), none, [0]⟩])
  (.cond (.t 47) (.exit 0) .skip))
  (.seq (.draw [⟨(some 48), 48, (.fld 0 (.t 12)), none, []⟩,
    ⟨(some 49), 49, (.load false 1 (.t 48)), none, [0]⟩,
    ⟨(some 50), 50, (.mv (.t 6)), none, []⟩,
    ⟨(some 51), 51, (.call 118 [(.t 49), (.t 50)]), none, [1, 2]⟩,
    ⟨(some 52), 52, (.fld 0 (.t 12)), none, []⟩,
    ⟨(some 53), 53, (.load false 1 (.t 52)), none, [4]⟩,
    ⟨(some 54), 54, (.mv (.t 11)), none, []⟩,
    ⟨(some 55), 55, (.call 118 [(.t 53), (.t 54)]), none, [5, 6, 3]⟩,
    ⟨(some 56), 56, (.bin false .lss (.t 51) (.t 55)), none, [3, 7]⟩])
  (.cond (.t 56) (.seq (.reg [⟨(some 57), 57, (.mv (.t 8)), none, []⟩,
    ⟨(some 58), 58, (.mv (.t 6)), none, []⟩,
    ⟨(some 59), 59, (.mv (.t 8)), none, []⟩,
    ⟨(some 60), 60, (.mv (.t 11)), none, []⟩,
    ⟨(some 61), 61, (.load true 2 (.t 12)), none, []⟩,
    ⟨(some 62), 62, (.build [(.s (.pv (.int .i64 0))), (.s (.pv (.int .i64 0)))] []), none, []⟩,
    ⟨(some 63), 63, (.idx 2 (.t 57) (.t 58)), none, [0, 1, 0, 1, 4]⟩,
    ⟨none, 75, (.store 2 (.t 63) (.t 61)), none, [6, 4, 0, 1, 4]⟩,
    ⟨(some 64), 64, (.idx 2 (.t 59) (.t 60)), none, [2, 3, 0, 1, 2, 3, 4, 5, 6, 7]⟩,
    ⟨none, 77, (.store 2 (.t 64) (.t 62)), none, [8, 5, 7, 0, 1, 2, 3, 4, 5, 6, 7]⟩])
  (.reg [⟨(some 65), 65, (.mv (.t 11)), none, []⟩,
    ⟨(some 6), 6, (.mv (.t 65)), none, [0, 0]⟩])) .skip))))))
  (.reg [⟨(some 36), 36, (.mv (.t 10)), none, []⟩,
    ⟨(some 37), 37, (.bin false .add (.t 36) (.k (.c (.s (.pv (.int .i64 1)))))), none, [0]⟩,
    ⟨(some 10), 10, (.mv (.t 37)), none, [1, 0, 1]⟩]))))))
  (.seq (.reg [⟨(some 66), 66, (.mv (.t 8)), none, []⟩,
    ⟨(some 67), 67, (.build [.zc] [(0, 1, (.t 66))]), none, [0]⟩,
    ⟨none, 70, (.store 1 (.t 4) (.t 67)), none, [1, 0, 1]⟩,
    ⟨(some 5), 5, (.mv (.k (.c (.s (.pv (.int .i64 0)))))), none, [2, 0, 1, 2]⟩])
  .ret)))))))))
theorem fn98 : FnIs Try.prog 98 ac98 [(.cell 4 true 1), (.t 5)] 68 := ⟨Try.f98, Try.func98, by kernel_rfl, by kernel_rfl, by kernel_rfl⟩
/- slices.Clone[[]lockkeeper/api.Page,lockkeeper/api.Page] -/
def ac99 : ACode := (.seq (.reg [⟨(some 2), 2, (.mv (.k (.c .zc))), none, []⟩])
  (.seq (.seq (.reg [⟨(some 3), 3, (.mv (.t 0)), none, []⟩,
    ⟨(some 4), 4, (.isnil (.t 3)), none, [0]⟩])
  (.cond (.t 4) (.seq (.reg [⟨(some 2), 2, (.mv (.k (.c .zc))), none, []⟩])
  .ret) .skip))
  (.seq (.reg [⟨(some 5), 5, (.bslice 38 3 [(.s (.pv (.int .i64 0))), (.s (.pv (.int .i64 0))), (.s (.pv (.string ⟨#[]⟩)))] 0 []), none, []⟩,
    ⟨(some 6), 6, (.mv (.t 0)), none, []⟩,
    ⟨(some 7), 7, (.app 38 3 32 (.t 5) (.t 6)), none, [0, 1]⟩,
    ⟨(some 2), 2, (.mv (.t 7)), none, [2, 2, 0, 1, 2]⟩])
  .ret)))
theorem fn99 : FnIs Try.prog 99 ac99 [(.t 2)] 8 := ⟨Try.f99, Try.func99, by kernel_rfl, by kernel_rfl, by kernel_rfl⟩
/- lockkeeper/lockkeeperref07.Del -/
def ac100 : ACode := (.seq (.reg [⟨(some 2), 2, (.box 54 1 (.t 0)), none, []⟩,
    ⟨(some 4), 4, (.mk 54 1 [[.zc]]), none, []⟩,
    ⟨(some 5), 5, (.mv (.k (.c (.s (.pv (.int .i64 0)))))), none, []⟩])
  (.seq (.seq (.reg [⟨(some 13), 13, (.load true 1 (.t 2)), none, []⟩,
    ⟨(some 14), 14, (.call 53 [(.t 13)]), none, [0]⟩,
    ⟨(some 15), 15, (.not (.t 14)), none, [1]⟩])
  (.cond (.t 15) (.seq (.reg [⟨(some 16), 16, (.load true 1 (.t 2)), none, []⟩,
    ⟨none, 81, (.store 1 (.t 4) (.t 16)), none, [0, 0]⟩,
    ⟨(some 5), 5, (.mv (.k (.c (.s (.pv (.int .i64 1)))))), none, [1, 0, 1]⟩])
  .ret) .skip))
  (.seq (.reg [⟨(some 17), 17, (.load true 1 (.t 2)), none, []⟩,
    ⟨(some 18), 18, (.mv (.t 1)), none, []⟩,
    ⟨(some 19), 19, (.call 55 [(.t 17), (.t 18)]), none, [0, 1]⟩,
    ⟨(some 6), 6, (.mv (.t 19)), none, [2, 2, 0, 1, 2]⟩])
  (.seq (.seq (.reg [⟨(some 20), 20, (.mv (.t 6)), none, []⟩,
    ⟨(some 21), 21, (.bin false .lss (.t 20) (.k (.c (.s (.pv (.int .i64 0)))))), none, [0]⟩])
  (.cond (.t 21) (.seq (.reg [⟨(some 22), 22, (.load true 1 (.t 2)), none, []⟩,
    ⟨none, 81, (.store 1 (.t 4) (.t 22)), none, [0, 0]⟩,
    ⟨(some 5), 5, (.mv (.k (.c (.s (.pv (.int .i64 3)))))), none, [1, 0, 1]⟩])
  .ret) .skip))
  (.seq (.reg [⟨(some 7), 7, (.mk 189 2 [[(.s (.pv (.int .i64 0))), (.s (.pv (.int .i64 0)))], [(.s (.pv (.int .i64 0))), (.s (.pv (.int .i64 0)))], [(.s (.pv (.int .i64 0))), (.s (.pv (.int .i64 0)))], [(.s (.pv (.int .i64 0))), (.s (.pv (.int .i64 0)))], [(.s (.pv (.int .i64 0))), (.s (.pv (.int .i64 0)))], [(.s (.pv (.int .i64 0))), (.s (.pv (.int .i64 0)))], [(.s (.pv (.int .i64 0))), (.s (.pv (.int .i64 0)))], [(.s (.pv (.int .i64 0))), (.s (.pv (.int .i64 0)))], [(.s (.pv (.int .i64 0))), (.s (.pv (.int .i64 0)))], [(.s (.pv (.int .i64 0))), (.s (.pv (.int .i64 0)))], [(.s (.pv (.int .i64 0))), (.s (.pv (.int .i64 0)))], [(.s (.pv (.int .i64 0))), (.s (.pv (.int .i64 0)))], [(.s (.pv (.int .i64 0))), (.s (.pv (.int .i64 0)))], [(.s (.pv (.int .i64 0))), (.s (.pv (.int .i64 0)))], [(.s (.pv (.int .i64 0))), (.s (.pv (.int .i64 0)))], [(.s (.pv (.int .i64 0))), (.s (.pv (.int .i64 0)))]]), none, []⟩])
  (.seq (.seq (.reg [⟨(some 8), 8, (.mv (.k (.c (.s (.pv (.int .i64 0)))))), none, []⟩])
  (.block 0 (.loop (.seq (.seq (.reg [⟨(some 23), 23, (.mv (.t 8)), none, []⟩,
    ⟨(some 24), 24, (.bin false .lss (.t 23) (.k (.c (.s (.pv (.int .i64 16)))))), none, [0]⟩])
  (.cond (.t 24) .skip (.exit 0)))
  (.seq (.block 1 (.reg [⟨(some 27), 27, (.mv (.t 8)), none, []⟩,
    ⟨(some 28), 28, (.fld 0 (.t 2)), none, []⟩,
    ⟨(some 29), 29, (.load false 1 (.t 28)), none, [1]⟩,
    ⟨(some 30), 30, (.mv (.t 8)), none, []⟩,
    ⟨(some 31), 31, (.idx 2 (.t 29) (.t 30)), none, [2, 3]⟩,
    ⟨(some 32), 32, (.load true 2 (.t 31)), none, [4]⟩,
    ⟨(some 33), 33, (.aidx 16 2 (.t 7) (.t 27)), none, [0, 0, 1, 2, 3, 4, 5]⟩,
    ⟨none, 87, (.store 2 (.t 33) (.t 32)), none, [6, 5, 0, 1, 2, 3, 4, 5]⟩]))
  (.reg [⟨(some 25), 25, (.mv (.t 8)), none, []⟩,
    ⟨(some 26), 26, (.bin false .add (.t 25) (.k (.c (.s (.pv (.int .i64 1)))))), none, [0]⟩,
    ⟨(some 8), 8, (.mv (.t 26)), none, [1, 0, 1]⟩]))))))
  (.seq (.reg [⟨(some 34), 34, (.mv (.t 6)), none, []⟩,
    ⟨(some 35), 35, (.build [(.s (.pv (.int .i64 0))), (.s (.pv (.int .i64 0)))] []), none, []⟩,
    ⟨(some 36), 36, (.aidx 16 2 (.t 7) (.t 34)), none, [0, 0, 1]⟩,
    ⟨none, 83, (.store 2 (.t 36) (.t 35)), none, [2, 1, 0, 1]⟩])
  (.seq (.reg [⟨(some 37), 37, (.mv (.t 6)), none, []⟩,
    ⟨(some 9), 9, (.mv (.t 37)), none, [0, 0]⟩])
  (.seq (.seq (.reg [⟨(some 10), 10, (.mv (.k (.c (.s (.pv (.int .i64 1)))))), none, []⟩])
  (.block 2 (.loop (.seq (.seq (.reg [⟨(some 38), 38, (.mv (.t 10)), none, []⟩,
    ⟨(some 39), 39, (.bin false .lss (.t 38) (.k (.c (.s (.pv (.int .i64 16)))))), none, [0]⟩])
  (.cond (.t 39) .skip (.exit 2)))
  (.seq (.block 3 (.seq (.reg [⟨(some 42), 42, (.mv (.t 9)), none, []⟩,
    ⟨(some 43), 43, (.bin false .add (.t 42) (.k (.c (.s (.pv (.int .i64 1)))))), none, [0]⟩,
    ⟨(some 44), 44, (.bin false .rem (.t 43) (.k (.c (.s (.pv (.int .i64 16)))))), none, [1]⟩,
    ⟨(some 9), 9, (.mv (.t 44)), none, [2, 0, 1, 2]⟩])
  (.seq (.seq (.reg [⟨(some 45), 45, (.mv (.t 9)), none, []⟩,
    ⟨(some 46), 46, (.aidx 16 2 (.t 7) (.t 45)), none, [0]⟩,
    ⟨(some 47), 47, (.fld 0 (.t 46)), none, [1]⟩,
    ⟨(some 48), 48, (.load false 1 (.t 47)), none, [2]⟩,
    ⟨(some 49), 49, (.bin false .eql (.t 48) (.k (.c (.s (.pv (.int .i64 0)))))), none, [3]⟩])
  (.cond (.t 49) (.exit 2) .skip))
  (.seq (.reg [⟨(some 50), 50, (.mv (.t 9)), none, []⟩,
    ⟨(some 51), 51, (.aidx 16 2 (.t 7) (.t 50)), none, [0]⟩,
    ⟨(some 52), 52, (.fld 0 (.t 51)), none, [1]⟩,
    ⟨(some 53), 53, (.load false 1 (.t 52)), none, [2]⟩,
    ⟨(some 54), 54, (.bin false .rem (.t 53) (.k (.c (.s (.pv (.int .i64 16)))))), none, [3]⟩,
    ⟨(some 55), 55, (.mv (.t 6)), none, []⟩,
    ⟨(some 56), 56, (.mv (.t 9)), none, []⟩,
    ⟨(some 57), 57, (.call 119 [(.t 54), (.t 55), (.t 56)]), none, [4, 5, 6]⟩])
  (.cond (.t 57) (.seq (.reg [⟨(some 58), 58, (.mv (.t 6)), none, []⟩,
    ⟨(some 59), 59, (.mv (.t 9)), none, []⟩,
    ⟨(some 60), 60, (.aidx 16 2 (.t 7) (.t 59)), none, [1]⟩,
    ⟨(some 61), 61, (.load true 2 (.t 60)), none, [2]⟩,
    ⟨(some 62), 62, (.aidx 16 2 (.t 7) (.t 58)), none, [0, 0, 1, 2, 3]⟩,
    ⟨none, 85, (.store 2 (.t 62) (.t 61)), none, [4, 3, 0, 1, 2, 3]⟩])
  (.seq (.reg [⟨(some 63), 63, (.mv (.t 9)), none, []⟩,
    ⟨(some 64), 64, (.build [(.s (.pv (.int .i64 0))), (.s (.pv (.int .i64 0)))] []), none, []⟩,
    ⟨(some 65), 65, (.aidx 16 2 (.t 7) (.t 63)), none, [0, 0, 1]⟩,
    ⟨none, 83, (.store 2 (.t 65) (.t 64)), none, [2, 1, 0, 1]⟩])
  (.reg [⟨(some 66), 66, (.mv (.t 9)), none, []⟩,
    ⟨(some 6), 6, (.mv (.t 66)), none, [0, 0]⟩]))) .skip)))))
  (.reg [⟨(some 40), 40, (.mv (.t 10)), none, []⟩,
    ⟨(some 41), 41, (.bin false .add (.t 40) (.k (.c (.s (.pv (.int .i64 1)))))), none, [0]⟩,
    ⟨(some 10), 10, (.mv (.t 41)), none, [1, 0, 1]⟩]))))))
  (.seq (.reg [⟨(some 11), 11, (.mk 54 1 [[.zc]]), none, []⟩])
  (.seq (.seq (.reg [⟨(some 12), 12, (.mv (.k (.c (.s (.pv (.int .i64 0)))))), none, []⟩])
  (.block 4 (.loop (.seq (.seq (.reg [⟨(some 67), 67, (.mv (.t 12)), none, []⟩,
    ⟨(some 68), 68, (.bin false .lss (.t 67) (.k (.c (.s (.pv (.int .i64 16)))))), none, [0]⟩])
  (.cond (.t 68) .skip (.exit 4)))
  (.seq (.block 5 (.draw [⟨(some 71), 71, (.fld 0 (.t 11)), none, []⟩,
    ⟨(some 72), 72, (.load false 1 (.t 71)), none, [0]⟩,
    ⟨(some 73), 73, (.mv (.t 12)), none, []⟩,
    ⟨(some 74), 74, (.aidx 16 2 (.t 7) (.t 73)), none, [2]⟩,
    ⟨(some 75), 75, (.load true 2 (.t 74)), none, [3]⟩,
    ⟨(some 76), 76, (.bslice 121 2 [(.s (.pv (.int .i64 0))), (.s (.pv (.int .i64 0)))] 1 [(0, 2, (.t 75))]), none, [4]⟩,
    ⟨(some 77), 77, (.app 121 2 16 (.t 72) (.t 76)), none, [1, 5]⟩,
    ⟨(some 78), 78, (.fld 0 (.t 11)), none, [0, 1, 2, 3, 4, 5, 6]⟩,
    ⟨none, 88, (.store 1 (.t 78) (.t 77)), none, [7, 6, 6, 0, 1, 2, 3, 4, 5, 6]⟩]))
  (.reg [⟨(some 69), 69, (.mv (.t 12)), none, []⟩,
    ⟨(some 70), 70, (.bin false .add (.t 69) (.k (.c (.s (.pv (.int .i64 1)))))), none, [0]⟩,
    ⟨(some 12), 12, (.mv (.t 70)), none, [1, 0, 1]⟩]))))))
  (.seq (.reg [⟨(some 79), 79, (.load true 1 (.t 11)), none, []⟩,
    ⟨none, 81, (.store 1 (.t 4) (.t 79)), none, [0, 0]⟩,
    ⟨(some 5), 5, (.mv (.k (.c (.s (.pv (.int .i64 0)))))), none, [1, 0, 1]⟩])
  .ret))))))))))))
theorem fn100 : FnIs Try.prog 100 ac100 [(.cell 4 true 1), (.t 5)] 80 := ⟨Try.f100, Try.func100, by kernel_rfl, by kernel_rfl, by kernel_rfl⟩
/- slices.Clone[[]lockkeeper/table.Slot,lockkeeper/table.Slot] -/
def ac101 : ACode := (.seq (.reg [⟨(some 2), 2, (.mv (.k (.c .zc))), none, []⟩])
  (.seq (.seq (.reg [⟨(some 3), 3, (.mv (.t 0)), none, []⟩,
    ⟨(some 4), 4, (.isnil (.t 3)), none, [0]⟩])
  (.cond (.t 4) (.seq (.reg [⟨(some 2), 2, (.mv (.k (.c .zc))), none, []⟩])
  .ret) .skip))
  (.seq (.reg [⟨(some 5), 5, (.bslice 120 2 [(.s (.pv (.int .i64 0))), (.s (.pv (.int .i64 0)))] 0 []), none, []⟩,
    ⟨(some 6), 6, (.mv (.t 0)), none, []⟩,
    ⟨(some 7), 7, (.app 120 2 16 (.t 5) (.t 6)), none, [0, 1]⟩,
    ⟨(some 2), 2, (.mv (.t 7)), none, [2, 2, 0, 1, 2]⟩])
  .ret)))
theorem fn101 : FnIs Try.prog 101 ac101 [(.t 2)] 8 := ⟨Try.f101, Try.func101, by kernel_rfl, by kernel_rfl, by kernel_rfl⟩
/- lockkeeper/dirty.Mark -/
def ac102 : ACode := (.seq (.reg [⟨(some 6), 6, (.mv (.k (.c .zc))), none, []⟩,
    ⟨(some 7), 7, (.mv (.k (.c (.s (.pv (.int .i64 0)))))), none, [0]⟩])
  (.seq (.seq (.reg [⟨(some 8), 8, (.mv (.t 0)), none, []⟩,
    ⟨(some 9), 9, (.call 48 [(.t 8)]), none, [0]⟩,
    ⟨(some 10), 10, (.not (.t 9)), none, [1]⟩,
    ⟨(some 11), 11, (.mv (.t 10)), none, [2, 1]⟩,
    ⟨(some 12), 12, (.mv (.t 1)), (some (11, false)), [3]⟩,
    ⟨(some 13), 13, (.call 86 [(.t 12)]), (some (11, false)), [4, 3, 3]⟩,
    ⟨(some 14), 14, (.not (.t 13)), (some (11, false)), [5, 3]⟩,
    ⟨(some 15), 15, (.pick (.t 11) (.k (.c (.s (.pv (.bool true))))) (.t 14)), none, [3, 6]⟩,
    ⟨(some 16), 16, (.mv (.t 15)), none, [7, 5]⟩,
    ⟨(some 17), 17, (.mv (.t 2)), (some (16, false)), [8]⟩,
    ⟨(some 18), 18, (.bin false .lss (.t 17) (.k (.c (.s (.pv (.int .i64 0)))))), (some (16, false)), [9, 8]⟩,
    ⟨(some 19), 19, (.pick (.t 16) (.k (.c (.s (.pv (.bool true))))) (.t 18)), none, [8, 10]⟩,
    ⟨(some 20), 20, (.mv (.t 19)), none, [11, 8]⟩,
    ⟨(some 21), 21, (.mv (.t 2)), (some (20, false)), [12]⟩,
    ⟨(some 22), 22, (.bin false .gtr (.t 21) (.k (.c (.s (.pv (.int .i64 2147483647)))))), (some (20, false)), [13, 12]⟩,
    ⟨(some 23), 23, (.pick (.t 20) (.k (.c (.s (.pv (.bool true))))) (.t 22)), none, [12, 14]⟩])
  (.cond (.t 23) (.seq (.reg [⟨(some 24), 24, (.mv (.t 0)), none, []⟩,
    ⟨(some 6), 6, (.mv (.t 24)), none, [0, 0]⟩,
    ⟨(some 7), 7, (.mv (.k (.c (.s (.pv (.int .i64 1)))))), none, [1, 0, 1]⟩])
  .ret) .skip))
  (.seq (.seq (.reg [⟨(some 25), 25, (.mv (.t 0)), none, []⟩,
    ⟨(some 26), 26, (.len (.t 25)), none, [0]⟩,
    ⟨(some 27), 27, (.bin false .gtr (.t 26) (.k (.c (.s (.pv (.int .i64 0)))))), none, [1]⟩,
    ⟨(some 28), 28, (.mv (.t 27)), none, [2]⟩,
    ⟨(some 29), 29, (.mv (.t 2)), (some (28, true)), [3]⟩,
    ⟨(some 30), 30, (.mv (.t 0)), (some (28, true)), [3]⟩,
    ⟨(some 31), 31, (.mv (.t 0)), (some (28, true)), [3]⟩,
    ⟨(some 32), 32, (.len (.t 31)), (some (28, true)), [6, 3]⟩,
    ⟨(some 33), 33, (.bin false .sub (.t 32) (.k (.c (.s (.pv (.int .i64 1)))))), (some (28, true)), [7, 3]⟩,
    ⟨(some 34), 34, (.idx 2 (.t 30) (.t 33)), (some (28, true)), [5, 8, 3]⟩,
    ⟨(some 35), 35, (.fld 1 (.t 34)), (some (28, true)), [9, 3]⟩,
    ⟨(some 36), 36, (.load false 1 (.t 35)), (some (28, true)), [10, 3]⟩,
    ⟨(some 37), 37, (.bin false .lss (.t 29) (.t 36)), (some (28, true)), [4, 11, 3]⟩,
    ⟨(some 38), 38, (.pick (.t 28) (.t 37) (.k (.c (.s (.pv (.bool false)))))), none, [3, 12]⟩])
  (.cond (.t 38) (.seq (.reg [⟨(some 39), 39, (.mv (.t 0)), none, []⟩,
    ⟨(some 6), 6, (.mv (.t 39)), none, [0, 0]⟩,
    ⟨(some 7), 7, (.mv (.k (.c (.s (.pv (.int .i64 1)))))), none, [1, 0, 1]⟩])
  .ret) .skip))
  (.seq (.seq (.reg [⟨(some 40), 40, (.mv (.t 0)), none, []⟩,
    ⟨(some 41), 41, (.mv (.t 1)), none, []⟩,
    ⟨(some 42), 42, (.call 87 [(.t 40), (.t 41)]), none, [0, 1]⟩,
    ⟨(some 43), 43, (.bin false .geq (.t 42) (.k (.c (.s (.pv (.int .i64 0)))))), none, [2]⟩])
  (.cond (.t 43) (.seq (.reg [⟨(some 44), 44, (.mv (.t 0)), none, []⟩,
    ⟨(some 6), 6, (.mv (.t 44)), none, [0, 0]⟩,
    ⟨(some 7), 7, (.mv (.k (.c (.s (.pv (.int .i64 0)))))), none, [1, 0, 1]⟩])
  .ret) .skip))
  (.seq (.reg [⟨(some 45), 45, (.mv (.t 0)), none, []⟩,
    ⟨(some 46), 46, (.call 113 [(.t 45)]), none, [0]⟩,
    ⟨(some 47), 47, (.mv (.t 1)), none, []⟩,
    ⟨(some 48), 48, (.mv (.t 2)), none, []⟩,
    ⟨(some 49), 49, (.build [(.s (.pv (.int .i64 0))), (.s (.pv (.int .i64 0)))] [(0, 1, (.t 47)), (1, 1, (.t 48))]), none, [2, 3]⟩,
    ⟨(some 50), 50, (.bslice 117 2 [(.s (.pv (.int .i64 0))), (.s (.pv (.int .i64 0)))] 1 [(0, 2, (.t 49))]), none, [4]⟩,
    ⟨(some 51), 51, (.app 117 2 16 (.t 46) (.t 50)), none, [1, 5, 1]⟩,
    ⟨(some 6), 6, (.mv (.t 51)), none, [6, 6, 0, 1, 2, 3, 4, 5, 6]⟩,
    ⟨(some 7), 7, (.mv (.k (.c (.s (.pv (.int .i64 0)))))), none, [7, 0, 1, 2, 3, 4, 5, 6, 7]⟩])
  .ret)))))
theorem fn102 : FnIs Try.prog 102 ac102 [(.t 6), (.t 7)] 52 := ⟨Try.f102, Try.func102, by kernel_rfl, by kernel_rfl, by kernel_rfl⟩
/- slices.SortStableFunc[[]lockkeeper/machine.Event,lockkeeper/machine.Event] -/
def ac108 : ACode := (.reg [⟨(some 4), 4, (.mv (.t 0)), none, []⟩,
    ⟨(some 5), 5, (.mv (.t 0)), none, []⟩,
    ⟨(some 6), 6, (.len (.t 5)), none, [1]⟩,
    ⟨(some 7), 7, (.mv (.t 1)), none, []⟩,
    ⟨(some 8), 8, (.call 124 [(.t 4), (.t 6), (.t 7)]), none, [0, 2, 3]⟩])
theorem fn108 : FnIs Try.prog 108 ac108 [] 9 := ⟨Try.f108, Try.func108, by kernel_rfl, by kernel_rfl, by kernel_rfl⟩
/- slices.Clone[[]lockkeeper/dirty.Item,lockkeeper/dirty.Item] -/
def ac113 : ACode := (.seq (.reg [⟨(some 2), 2, (.mv (.k (.c .zc))), none, []⟩])
  (.seq (.seq (.reg [⟨(some 3), 3, (.mv (.t 0)), none, []⟩,
    ⟨(some 4), 4, (.isnil (.t 3)), none, [0]⟩])
  (.cond (.t 4) (.seq (.reg [⟨(some 2), 2, (.mv (.k (.c .zc))), none, []⟩])
  .ret) .skip))
  (.seq (.reg [⟨(some 5), 5, (.bslice 117 2 [(.s (.pv (.int .i64 0))), (.s (.pv (.int .i64 0)))] 0 []), none, []⟩,
    ⟨(some 6), 6, (.mv (.t 0)), none, []⟩,
    ⟨(some 7), 7, (.app 117 2 16 (.t 5) (.t 6)), none, [0, 1]⟩,
    ⟨(some 2), 2, (.mv (.t 7)), none, [2, 2, 0, 1, 2]⟩])
  .ret)))
theorem fn113 : FnIs Try.prog 113 ac113 [(.t 2)] 8 := ⟨Try.f113, Try.func113, by kernel_rfl, by kernel_rfl, by kernel_rfl⟩
/- slices.IndexFunc[[]lockkeeper/dirty.Item,lockkeeper/dirty.Item] -/
def ac114 : ACode := (.seq (.reg [⟨(some 4), 4, (.mv (.k (.c (.s (.pv (.int .i64 0)))))), none, []⟩])
  (.seq (.seq (.reg [⟨(some 6), 6, (.mv (.t 0)), none, []⟩,
    ⟨(some 7), 7, (.len (.t 6)), none, [0]⟩,
    ⟨(some 8), 8, (.mv (.k (.c (.s (.pv (.int .i64 0)))))), none, []⟩])
  (.block 0 (.loop (.seq (.reg [⟨(some 9), 9, (.bin false .lss (.t 8) (.t 7)), none, []⟩])
  (.seq (.cond (.t 9) .skip (.exit 0))
  (.seq (.block 1 (.seq (.reg [⟨(some 10), 10, (.mv (.t 8)), none, []⟩,
    ⟨(some 5), 5, (.mv (.t 10)), none, [0, 0]⟩])
  (.seq (.reg [⟨(some 11), 11, (.mv (.t 1)), none, []⟩,
    ⟨(some 12), 12, (.mv (.t 0)), none, []⟩,
    ⟨(some 13), 13, (.mv (.t 5)), none, []⟩,
    ⟨(some 14), 14, (.idx 2 (.t 12) (.t 13)), none, [1, 2]⟩,
    ⟨(some 15), 15, (.load true 2 (.t 14)), none, [3]⟩,
    ⟨(some 16), 16, (.callv (.t 11) [(.t 15)]), none, [0, 4]⟩])
  (.cond (.t 16) (.seq (.reg [⟨(some 17), 17, (.mv (.t 5)), none, []⟩,
    ⟨(some 4), 4, (.mv (.t 17)), none, [0, 0]⟩])
  .ret) .skip))))
  (.reg [⟨(some 18), 18, (.bin false .add (.t 8) (.k (.c (.s (.pv (.int .i64 1)))))), none, []⟩,
    ⟨(some 8), 8, (.mv (.t 18)), none, [0]⟩])))))))
  (.seq (.reg [⟨(some 4), 4, (.mv (.k (.c (.s (.pv (.int .i64 (-1))))))), none, []⟩])
  .ret)))
theorem fn114 : FnIs Try.prog 114 ac114 [(.t 4)] 19 := ⟨Try.f114, Try.func114, by kernel_rfl, by kernel_rfl, by kernel_rfl⟩
/- lockkeeper/dirty.place$1 -/
def ac115 : ACode := (.seq (.reg [⟨(some 2), 2, (.box 117 2 (.t 0)), none, []⟩,
    ⟨(some 3), 3, (.mv (.k (.c (.s (.pv (.bool false)))))), none, []⟩])
  (.seq (.reg [⟨(some 4), 4, (.fld 0 (.t 2)), none, []⟩,
    ⟨(some 5), 5, (.load false 1 (.t 4)), none, [0]⟩,
    ⟨(some 6), 6, (.load false 1 (.t 1)), none, []⟩,
    ⟨(some 7), 7, (.bin false .eql (.t 5) (.t 6)), none, [1, 2]⟩,
    ⟨(some 3), 3, (.mv (.t 7)), none, [3, 0, 1, 2, 3]⟩])
  .ret))
theorem fn115 : FnIs Try.prog 115 ac115 [(.t 3)] 8 := ⟨Try.f115, Try.func115, by kernel_rfl, by kernel_rfl, by kernel_rfl⟩
/- lockkeeper/table.ahead -/
def ac118 : ACode := (.seq (.reg [⟨(some 4), 4, (.mv (.k (.c (.s (.pv (.int .i64 0)))))), none, []⟩])
  (.seq (.reg [⟨(some 5), 5, (.mv (.t 1)), none, []⟩,
    ⟨(some 6), 6, (.mv (.t 0)), none, []⟩,
    ⟨(some 7), 7, (.bin false .rem (.t 6) (.k (.c (.s (.pv (.int .i64 16)))))), none, [1]⟩,
    ⟨(some 8), 8, (.bin false .sub (.t 5) (.t 7)), none, [0, 2]⟩,
    ⟨(some 9), 9, (.bin false .add (.t 8) (.k (.c (.s (.pv (.int .i64 16)))))), none, [3]⟩,
    ⟨(some 10), 10, (.bin false .rem (.t 9) (.k (.c (.s (.pv (.int .i64 16)))))), none, [4]⟩,
    ⟨(some 4), 4, (.mv (.t 10)), none, [5, 0, 1, 2, 3, 4, 5]⟩])
  .ret))
theorem fn118 : FnIs Try.prog 118 ac118 [(.t 4)] 11 := ⟨Try.f118, Try.func118, by kernel_rfl, by kernel_rfl, by kernel_rfl⟩
/- lockkeeper/lockkeeperref07.between -/
def ac119 : ACode := (.seq (.reg [⟨(some 6), 6, (.mv (.k (.c (.s (.pv (.bool false)))))), none, []⟩])
  (.seq (.seq (.reg [⟨(some 8), 8, (.mv (.t 0)), none, []⟩,
    ⟨(some 7), 7, (.mv (.t 8)), none, [0, 0]⟩])
  (.block 0 (.loop (.seq (.seq (.reg [⟨(some 9), 9, (.mv (.t 7)), none, []⟩,
    ⟨(some 10), 10, (.mv (.t 2)), none, []⟩,
    ⟨(some 11), 11, (.bin false .neq (.t 9) (.t 10)), none, [0, 1]⟩])
  (.cond (.t 11) .skip (.exit 0)))
  (.seq (.block 1 (.seq (.reg [⟨(some 15), 15, (.mv (.t 7)), none, []⟩,
    ⟨(some 16), 16, (.mv (.t 1)), none, []⟩,
    ⟨(some 17), 17, (.bin false .eql (.t 15) (.t 16)), none, [0, 1]⟩])
  (.cond (.t 17) (.seq (.reg [⟨(some 6), 6, (.mv (.k (.c (.s (.pv (.bool true)))))), none, []⟩])
  .ret) .skip)))
  (.reg [⟨(some 12), 12, (.mv (.t 7)), none, []⟩,
    ⟨(some 13), 13, (.bin false .add (.t 12) (.k (.c (.s (.pv (.int .i64 1)))))), none, [0]⟩,
    ⟨(some 14), 14, (.bin false .rem (.t 13) (.k (.c (.s (.pv (.int .i64 16)))))), none, [1]⟩,
    ⟨(some 7), 7, (.mv (.t 14)), none, [2, 0, 1, 2]⟩]))))))
  (.seq (.reg [⟨(some 6), 6, (.mv (.k (.c (.s (.pv (.bool false)))))), none, []⟩])
  .ret)))
theorem fn119 : FnIs Try.prog 119 ac119 [(.t 6)] 18 := ⟨Try.f119, Try.func119, by kernel_rfl, by kernel_rfl, by kernel_rfl⟩
/- slices.BinarySearchFunc[[]lockkeeper/api.Page,lockkeeper/api.Page,int] -/
def ac120 : ACode := (.seq (.reg [⟨(some 6), 6, (.mv (.k (.c (.s (.pv (.int .i64 0)))))), none, []⟩,
    ⟨(some 7), 7, (.mv (.k (.c (.s (.pv (.bool false)))))), none, [0]⟩])
  (.seq (.reg [⟨(some 12), 12, (.mv (.t 0)), none, []⟩,
    ⟨(some 13), 13, (.len (.t 12)), none, [0]⟩,
    ⟨(some 8), 8, (.mv (.t 13)), none, [1, 0, 1]⟩])
  (.seq (.reg [⟨(some 14), 14, (.mv (.t 8)), none, []⟩,
    ⟨(some 9), 9, (.mv (.k (.c (.s (.pv (.int .i64 0)))))), none, []⟩,
    ⟨(some 10), 10, (.mv (.t 14)), none, [0, 1, 0, 1]⟩])
  (.seq (.block 0 (.loop (.seq (.seq (.reg [⟨(some 15), 15, (.mv (.t 9)), none, []⟩,
    ⟨(some 16), 16, (.mv (.t 10)), none, []⟩,
    ⟨(some 17), 17, (.bin false .lss (.t 15) (.t 16)), none, [0, 1]⟩])
  (.cond (.t 17) .skip (.exit 0)))
  (.block 1 (.seq (.reg [⟨(some 18), 18, (.mv (.t 9)), none, []⟩,
    ⟨(some 19), 19, (.mv (.t 10)), none, []⟩,
    ⟨(some 20), 20, (.bin false .add (.t 18) (.t 19)), none, [0, 1]⟩,
    ⟨(some 21), 21, (.conv .u64 (.t 20)), none, [2]⟩,
    ⟨(some 22), 22, (.bin false .shr (.t 21) (.k (.c (.s (.pv (.int .u64 1)))))), none, [3]⟩,
    ⟨(some 23), 23, (.conv .i64 (.t 22)), none, [4]⟩,
    ⟨(some 11), 11, (.mv (.t 23)), none, [5, 0, 1, 2, 3, 4, 5]⟩])
  (.seq (.reg [⟨(some 24), 24, (.mv (.t 2)), none, []⟩,
    ⟨(some 25), 25, (.mv (.t 0)), none, []⟩,
    ⟨(some 26), 26, (.mv (.t 11)), none, []⟩,
    ⟨(some 27), 27, (.idx 3 (.t 25) (.t 26)), none, [1, 2]⟩,
    ⟨(some 28), 28, (.load true 3 (.t 27)), none, [3]⟩,
    ⟨(some 29), 29, (.mv (.t 1)), none, []⟩,
    ⟨(some 30), 30, (.callv (.t 24) [(.t 28), (.t 29)]), none, [0, 4, 5]⟩,
    ⟨(some 31), 31, (.bin false .lss (.t 30) (.k (.c (.s (.pv (.int .i64 0)))))), none, [6]⟩])
  (.cond (.t 31) (.reg [⟨(some 32), 32, (.mv (.t 11)), none, []⟩,
    ⟨(some 33), 33, (.bin false .add (.t 32) (.k (.c (.s (.pv (.int .i64 1)))))), none, [0]⟩,
    ⟨(some 9), 9, (.mv (.t 33)), none, [1, 0, 1]⟩]) (.reg [⟨(some 34), 34, (.mv (.t 11)), none, []⟩,
    ⟨(some 10), 10, (.mv (.t 34)), none, [0, 0]⟩]))))))))
  (.seq (.reg [⟨(some 35), 35, (.mv (.t 9)), none, []⟩,
    ⟨(some 36), 36, (.mv (.t 9)), none, []⟩,
    ⟨(some 37), 37, (.mv (.t 8)), none, []⟩,
    ⟨(some 38), 38, (.bin false .lss (.t 36) (.t 37)), none, [1, 2]⟩,
    ⟨(some 39), 39, (.mv (.t 38)), none, [3]⟩,
    ⟨(some 40), 40, (.mv (.t 2)), (some (39, true)), [4]⟩,
    ⟨(some 41), 41, (.mv (.t 0)), (some (39, true)), [4]⟩,
    ⟨(some 42), 42, (.mv (.t 9)), (some (39, true)), [4]⟩,
    ⟨(some 43), 43, (.idx 3 (.t 41) (.t 42)), (some (39, true)), [6, 7, 4]⟩,
    ⟨(some 44), 44, (.load true 3 (.t 43)), (some (39, true)), [8, 4]⟩,
    ⟨(some 45), 45, (.mv (.t 1)), (some (39, true)), [4]⟩,
    ⟨(some 46), 46, (.callv (.t 40) [(.t 44), (.t 45)]), (some (39, true)), [5, 9, 10, 4, 4]⟩,
    ⟨(some 47), 47, (.bin false .eql (.t 46) (.k (.c (.s (.pv (.int .i64 0)))))), (some (39, true)), [11, 4]⟩,
    ⟨(some 48), 48, (.pick (.t 39) (.t 47) (.k (.c (.s (.pv (.bool false)))))), none, [4, 12]⟩,
    ⟨(some 6), 6, (.mv (.t 35)), none, [0, 11, 0]⟩,
    ⟨(some 7), 7, (.mv (.t 48)), none, [13, 14, 0, 1, 2, 3, 4, 5, 6, 7, 8, 9, 10, 11, 12, 13, 14]⟩])
  .ret)))))
theorem fn120 : FnIs Try.prog 120 ac120 [(.t 6), (.t 7)] 49 := ⟨Try.f120, Try.func120, by kernel_rfl, by kernel_rfl, by kernel_rfl⟩
/- slices.rotateRight[lockkeeper/api.Page] -/
def ac123 : ACode := (.reg [⟨(some 4), 4, (.mv (.t 0)), none, []⟩,
    ⟨(some 5), 5, (.mv (.t 0)), none, []⟩,
    ⟨(some 6), 6, (.len (.t 5)), none, [1]⟩,
    ⟨(some 7), 7, (.mv (.t 1)), none, []⟩,
    ⟨(some 8), 8, (.bin false .sub (.t 6) (.t 7)), none, [2, 3]⟩,
    ⟨(some 9), 9, (.call 136 [(.t 4), (.t 8)]), none, [0, 4]⟩])
theorem fn123 : FnIs Try.prog 123 ac123 [] 10 := ⟨Try.f123, Try.func123, by kernel_rfl, by kernel_rfl, by kernel_rfl⟩
/- slices.stableCmpFunc[lockkeeper/machine.Event] -/
def ac124 : ACode := (.seq (.reg [⟨(some 6), 6, (.mv (.k (.c (.s (.pv (.int .i64 20)))))), none, []⟩])
  (.seq (.reg [⟨(some 10), 10, (.mv (.t 6)), none, []⟩,
    ⟨(some 7), 7, (.mv (.k (.c (.s (.pv (.int .i64 0)))))), none, []⟩,
    ⟨(some 8), 8, (.mv (.t 10)), none, [0, 1, 0, 1]⟩])
  (.seq (.block 0 (.loop (.seq (.seq (.reg [⟨(some 11), 11, (.mv (.t 8)), none, []⟩,
    ⟨(some 12), 12, (.mv (.t 1)), none, []⟩,
    ⟨(some 13), 13, (.bin false .leq (.t 11) (.t 12)), none, [0, 1]⟩])
  (.cond (.t 13) .skip (.exit 0)))
  (.block 1 (.seq (.reg [⟨(some 14), 14, (.mv (.t 0)), none, []⟩,
    ⟨(some 15), 15, (.mv (.t 7)), none, []⟩,
    ⟨(some 16), 16, (.mv (.t 8)), none, []⟩,
    ⟨(some 17), 17, (.mv (.t 2)), none, []⟩,
    ⟨(some 18), 18, (.call 137 [(.t 14), (.t 15), (.t 16), (.t 17)]), none, [0, 1, 2, 3]⟩])
  (.seq (.reg [⟨(some 19), 19, (.mv (.t 8)), none, []⟩,
    ⟨(some 7), 7, (.mv (.t 19)), none, [0, 0]⟩])
  (.reg [⟨(some 20), 20, (.mv (.t 8)), none, []⟩,
    ⟨(some 21), 21, (.mv (.t 6)), none, []⟩,
    ⟨(some 22), 22, (.bin false .add (.t 20) (.t 21)), none, [0, 1]⟩,
    ⟨(some 8), 8, (.mv (.t 22)), none, [2, 0, 1, 2]⟩])))))))
  (.seq (.reg [⟨(some 23), 23, (.mv (.t 0)), none, []⟩,
    ⟨(some 24), 24, (.mv (.t 7)), none, []⟩,
    ⟨(some 25), 25, (.mv (.t 1)), none, []⟩,
    ⟨(some 26), 26, (.mv (.t 2)), none, []⟩,
    ⟨(some 27), 27, (.call 137 [(.t 23), (.t 24), (.t 25), (.t 26)]), none, [0, 1, 2, 3]⟩])
  (.block 2 (.loop (.seq (.seq (.reg [⟨(some 28), 28, (.mv (.t 6)), none, []⟩,
    ⟨(some 29), 29, (.mv (.t 1)), none, []⟩,
    ⟨(some 30), 30, (.bin false .lss (.t 28) (.t 29)), none, [0, 1]⟩])
  (.cond (.t 30) .skip (.exit 2)))
  (.block 3 (.seq (.reg [⟨(some 31), 31, (.mv (.t 6)), none, []⟩,
    ⟨(some 32), 32, (.bin false .mul (.k (.c (.s (.pv (.int .i64 2))))) (.t 31)), none, [0]⟩,
    ⟨(some 7), 7, (.mv (.k (.c (.s (.pv (.int .i64 0)))))), none, []⟩,
    ⟨(some 8), 8, (.mv (.t 32)), none, [1, 2, 0, 1, 2]⟩])
  (.seq (.block 4 (.loop (.seq (.seq (.reg [⟨(some 33), 33, (.mv (.t 8)), none, []⟩,
    ⟨(some 34), 34, (.mv (.t 1)), none, []⟩,
    ⟨(some 35), 35, (.bin false .leq (.t 33) (.t 34)), none, [0, 1]⟩])
  (.cond (.t 35) .skip (.exit 4)))
  (.block 5 (.seq (.reg [⟨(some 36), 36, (.mv (.t 0)), none, []⟩,
    ⟨(some 37), 37, (.mv (.t 7)), none, []⟩,
    ⟨(some 38), 38, (.mv (.t 7)), none, []⟩,
    ⟨(some 39), 39, (.mv (.t 6)), none, []⟩,
    ⟨(some 40), 40, (.bin false .add (.t 38) (.t 39)), none, [2, 3]⟩,
    ⟨(some 41), 41, (.mv (.t 8)), none, []⟩,
    ⟨(some 42), 42, (.mv (.t 2)), none, []⟩,
    ⟨(some 43), 43, (.call 138 [(.t 36), (.t 37), (.t 40), (.t 41), (.t 42)]), none, [0, 1, 4, 5, 6]⟩])
  (.seq (.reg [⟨(some 44), 44, (.mv (.t 8)), none, []⟩,
    ⟨(some 7), 7, (.mv (.t 44)), none, [0, 0]⟩])
  (.reg [⟨(some 45), 45, (.mv (.t 8)), none, []⟩,
    ⟨(some 46), 46, (.mv (.t 6)), none, []⟩,
    ⟨(some 47), 47, (.bin false .mul (.k (.c (.s (.pv (.int .i64 2))))) (.t 46)), none, [1]⟩,
    ⟨(some 48), 48, (.bin false .add (.t 45) (.t 47)), none, [0, 2]⟩,
    ⟨(some 8), 8, (.mv (.t 48)), none, [3, 0, 1, 2, 3]⟩])))))))
  (.seq (.seq (.reg [⟨(some 49), 49, (.mv (.t 7)), none, []⟩,
    ⟨(some 50), 50, (.mv (.t 6)), none, []⟩,
    ⟨(some 51), 51, (.bin false .add (.t 49) (.t 50)), none, [0, 1]⟩,
    ⟨(some 9), 9, (.mv (.t 51)), none, [2, 0, 1, 2]⟩])
  (.seq (.reg [⟨(some 52), 52, (.mv (.t 9)), none, []⟩,
    ⟨(some 53), 53, (.mv (.t 1)), none, []⟩,
    ⟨(some 54), 54, (.bin false .lss (.t 52) (.t 53)), none, [0, 1]⟩])
  (.cond (.t 54) (.reg [⟨(some 55), 55, (.mv (.t 0)), none, []⟩,
    ⟨(some 56), 56, (.mv (.t 7)), none, []⟩,
    ⟨(some 57), 57, (.mv (.t 9)), none, []⟩,
    ⟨(some 58), 58, (.mv (.t 1)), none, []⟩,
    ⟨(some 59), 59, (.mv (.t 2)), none, []⟩,
    ⟨(some 60), 60, (.call 138 [(.t 55), (.t 56), (.t 57), (.t 58), (.t 59)]), none, [0, 1, 2, 3, 4]⟩]) .skip)))
  (.reg [⟨(some 61), 61, (.mv (.t 6)), none, []⟩,
    ⟨(some 62), 62, (.bin false .mul (.t 61) (.k (.c (.s (.pv (.int .i64 2)))))), none, [0]⟩,
    ⟨(some 6), 6, (.mv (.t 62)), none, [1, 0, 1]⟩]))))))))))))
theorem fn124 : FnIs Try.prog 124 ac124 [] 63 := ⟨Try.f124, Try.func124, by kernel_rfl, by kernel_rfl, by kernel_rfl⟩
/- slices.rotateLeft[lockkeeper/api.Page] -/
def ac136 : ACode := (.seq (.reg [⟨(some 4), 4, (.mv (.t 0)), none, []⟩,
    ⟨(some 5), 5, (.mv (.t 1)), none, []⟩,
    ⟨(some 6), 6, (.sub 3 (.t 4) none (some (.t 5))), none, [0, 1]⟩,
    ⟨(some 7), 7, (.call 144 [(.t 6)]), none, [2]⟩])
  (.seq (.reg [⟨(some 8), 8, (.mv (.t 0)), none, []⟩,
    ⟨(some 9), 9, (.mv (.t 1)), none, []⟩,
    ⟨(some 10), 10, (.sub 3 (.t 8) (some (.t 9)) none), none, [0, 1]⟩,
    ⟨(some 11), 11, (.call 144 [(.t 10)]), none, [2]⟩])
  (.reg [⟨(some 12), 12, (.mv (.t 0)), none, []⟩,
    ⟨(some 13), 13, (.call 144 [(.t 12)]), none, [0]⟩])))
theorem fn136 : FnIs Try.prog 136 ac136 [] 14 := ⟨Try.f136, Try.func136, by kernel_rfl, by kernel_rfl, by kernel_rfl⟩
/- slices.Reverse[[]lockkeeper/api.Page,lockkeeper/api.Page] -/
def ac144 : ACode := (.seq (.reg [⟨(some 4), 4, (.mv (.t 0)), none, []⟩,
    ⟨(some 5), 5, (.len (.t 4)), none, [0]⟩,
    ⟨(some 6), 6, (.bin false .sub (.t 5) (.k (.c (.s (.pv (.int .i64 1)))))), none, [1]⟩,
    ⟨(some 2), 2, (.mv (.k (.c (.s (.pv (.int .i64 0)))))), none, []⟩,
    ⟨(some 3), 3, (.mv (.t 6)), none, [2, 3, 0, 1, 2, 3]⟩])
  (.block 0 (.loop (.seq (.seq (.reg [⟨(some 7), 7, (.mv (.t 2)), none, []⟩,
    ⟨(some 8), 8, (.mv (.t 3)), none, []⟩,
    ⟨(some 9), 9, (.bin false .lss (.t 7) (.t 8)), none, [0, 1]⟩])
  (.cond (.t 9) .skip (.exit 0)))
  (.seq (.block 1 (.draw [⟨(some 14), 14, (.mv (.t 0)), none, []⟩,
    ⟨(some 15), 15, (.mv (.t 2)), none, []⟩,
    ⟨(some 16), 16, (.mv (.t 0)), none, []⟩,
    ⟨(some 17), 17, (.mv (.t 3)), none, []⟩,
    ⟨(some 18), 18, (.mv (.t 0)), none, []⟩,
    ⟨(some 19), 19, (.mv (.t 3)), none, []⟩,
    ⟨(some 20), 20, (.idx 3 (.t 18) (.t 19)), none, [4, 5]⟩,
    ⟨(some 21), 21, (.load true 3 (.t 20)), none, [6]⟩,
    ⟨(some 22), 22, (.mv (.t 0)), none, []⟩,
    ⟨(some 23), 23, (.mv (.t 2)), none, []⟩,
    ⟨(some 24), 24, (.idx 3 (.t 22) (.t 23)), none, [8, 9]⟩,
    ⟨(some 25), 25, (.load true 3 (.t 24)), none, [10]⟩,
    ⟨(some 26), 26, (.idx 3 (.t 14) (.t 15)), none, [0, 1, 0, 1, 4, 5, 6, 7, 11]⟩,
    ⟨none, 41, (.store 3 (.t 26) (.t 21)), none, [12, 7, 0, 1, 4, 5, 6, 7, 11]⟩,
    ⟨(some 27), 27, (.idx 3 (.t 16) (.t 17)), none, [2, 3, 0, 1, 2, 3, 4, 5, 6, 7, 8, 9, 10, 11, 12, 13]⟩,
    ⟨none, 43, (.store 3 (.t 27) (.t 25)), none, [14, 11, 13, 0, 1, 2, 3, 4, 5, 6, 7, 8, 9, 10, 11, 12, 13]⟩]))
  (.reg [⟨(some 10), 10, (.mv (.t 2)), none, []⟩,
    ⟨(some 11), 11, (.bin false .add (.t 10) (.k (.c (.s (.pv (.int .i64 1)))))), none, [0]⟩,
    ⟨(some 12), 12, (.mv (.t 3)), none, []⟩,
    ⟨(some 13), 13, (.bin false .sub (.t 12) (.k (.c (.s (.pv (.int .i64 1)))))), none, [2]⟩,
    ⟨(some 2), 2, (.mv (.t 11)), none, [1, 0, 1]⟩,
    ⟨(some 3), 3, (.mv (.t 13)), none, [3, 4, 0, 1, 2, 3, 4]⟩]))))))
theorem fn144 : FnIs Try.prog 144 ac144 [] 28 := ⟨Try.f144, Try.func144, by kernel_rfl, by kernel_rfl, by kernel_rfl⟩

end Go.Proofs.Ytcindpblgbpcoaa
