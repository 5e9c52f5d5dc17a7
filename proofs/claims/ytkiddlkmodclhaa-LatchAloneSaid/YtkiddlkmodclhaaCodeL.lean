/- THE PROGRAM's functions, as the abstract machine's code (printed by wip/tools/code.py out of the translation). No condition. -/
import Derived.Test.YtkiddlkmodclhaaAm22
import Derived.Test.YtkiddlkmodclhaaProg
import Derived.KernelRfl
namespace Go.Proofs.Ytkiddlkmodclhaa
set_option maxRecDepth 100000
/- lockkeeper/lockkeeperlaw08.LatchExact -/
def ac7 : ACode := (.seq (.reg [⟨(some 3), 3, (.box 54 3 (.t 0)), none, []⟩,
    ⟨(some 6), 6, (.mv (.k (.c (.s (.pv (.bool false)))))), none, []⟩])
  (.seq (.reg [⟨(some 26), 26, (.load true 3 (.t 3)), none, []⟩,
    ⟨(some 27), 27, (.call 24 [(.t 26)]), none, [0]⟩,
    ⟨(some 25), 25, (.mv (.t 27)), none, [1]⟩,
    ⟨(some 28), 28, (.ext 0 (.t 25)), none, [2]⟩,
    ⟨(some 29), 29, (.ext 1 (.t 25)), none, [2]⟩,
    ⟨(some 7), 7, (.mk 57 3 [[.zc, (.s (.pv (.bool false))), .zc]]), none, []⟩,
    ⟨none, 214, (.store 3 (.t 7) (.t 28)), none, [5, 3, 1, 0, 1, 2, 3, 5]⟩,
    ⟨(some 8), 8, (.mv (.t 29)), none, [4, 6, 0, 1, 2, 3, 4, 5, 6]⟩])
  (.seq (.seq (.reg [⟨(some 30), 30, (.mv (.t 8)), none, []⟩,
    ⟨(some 31), 31, (.not (.t 30)), none, [0]⟩])
  (.cond (.t 31) (.seq (.reg [⟨(some 32), 32, (.call 25 []), none, []⟩,
    ⟨(some 6), 6, (.mv (.t 32)), none, [0, 0, 0]⟩])
  .ret) .skip))
  (.seq (.reg [⟨(some 33), 33, (.load true 3 (.t 7)), none, []⟩,
    ⟨(some 34), 34, (.call 26 [(.t 33)]), none, [0]⟩,
    ⟨(some 9), 9, (.mv (.t 34)), none, [1, 1, 0, 1]⟩])
  (.seq (.reg [⟨(some 35), 35, (.load true 3 (.t 7)), none, []⟩,
    ⟨(some 36), 36, (.mv (.t 1)), none, []⟩,
    ⟨(some 37), 37, (.call 27 [(.t 35), (.t 36)]), none, [0, 1]⟩,
    ⟨(some 38), 38, (.bin false .gtr (.t 37) (.k (.c (.s (.pv (.int .i64 0)))))), none, [2]⟩,
    ⟨(some 10), 10, (.mv (.t 38)), none, [3, 2, 0, 1, 2, 3]⟩])
  (.seq (.reg [⟨(some 40), 40, (.load true 3 (.t 3)), none, []⟩,
    ⟨(some 41), 41, (.mv (.t 1)), none, []⟩,
    ⟨(some 42), 42, (.mv (.t 2)), none, []⟩,
    ⟨(some 43), 43, (.call 28 [(.t 40), (.t 41), (.t 42)]), none, [0, 1, 2]⟩,
    ⟨(some 39), 39, (.mv (.t 43)), none, [3]⟩,
    ⟨(some 44), 44, (.ext 0 (.t 39)), none, [4]⟩,
    ⟨(some 45), 45, (.ext 1 (.t 39)), none, [4]⟩,
    ⟨(some 46), 46, (.ext 2 (.t 39)), none, [4]⟩,
    ⟨(some 11), 11, (.mk 54 3 [[.zc, (.s (.pv (.bool false))), .zc]]), none, []⟩,
    ⟨none, 217, (.store 3 (.t 11) (.t 44)), none, [8, 5, 3, 0, 1, 2, 3, 4, 5, 8]⟩,
    ⟨(some 12), 12, (.mv (.t 45)), none, [6, 9, 0, 1, 2, 3, 4, 5, 6, 8, 9]⟩,
    ⟨(some 13), 13, (.mv (.t 46)), none, [7, 10, 0, 1, 2, 3, 4, 5, 6, 7, 8, 9, 10]⟩])
  (.seq (.reg [⟨(some 48), 48, (.load true 3 (.t 3)), none, []⟩,
    ⟨(some 49), 49, (.mv (.t 1)), none, []⟩,
    ⟨(some 50), 50, (.call 29 [(.t 48), (.t 49)]), none, [0, 1]⟩,
    ⟨(some 47), 47, (.mv (.t 50)), none, [2]⟩,
    ⟨(some 51), 51, (.ext 0 (.t 47)), none, [3]⟩,
    ⟨(some 52), 52, (.ext 1 (.t 47)), none, [3]⟩,
    ⟨(some 53), 53, (.ext 2 (.t 47)), none, [3]⟩,
    ⟨(some 14), 14, (.mk 54 3 [[.zc, (.s (.pv (.bool false))), .zc]]), none, []⟩,
    ⟨none, 216, (.store 3 (.t 14) (.t 51)), none, [7, 4, 2, 0, 1, 2, 3, 4, 7]⟩,
    ⟨(some 15), 15, (.mv (.t 52)), none, [5, 8, 0, 1, 2, 3, 4, 5, 7, 8]⟩,
    ⟨(some 16), 16, (.mv (.t 53)), none, [6, 9, 0, 1, 2, 3, 4, 5, 6, 7, 8, 9]⟩])
  (.seq (.reg [⟨(some 55), 55, (.load true 3 (.t 11)), none, []⟩,
    ⟨(some 56), 56, (.call 24 [(.t 55)]), none, [0]⟩,
    ⟨(some 54), 54, (.mv (.t 56)), none, [1]⟩,
    ⟨(some 57), 57, (.ext 0 (.t 54)), none, [2]⟩,
    ⟨(some 58), 58, (.ext 1 (.t 54)), none, [2]⟩,
    ⟨(some 17), 17, (.mk 57 3 [[.zc, (.s (.pv (.bool false))), .zc]]), none, []⟩,
    ⟨none, 214, (.store 3 (.t 17) (.t 57)), none, [5, 3, 1, 0, 1, 2, 3, 5]⟩,
    ⟨(some 18), 18, (.mv (.t 58)), none, [4, 6, 0, 1, 2, 3, 4, 5, 6]⟩])
  (.seq (.reg [⟨(some 60), 60, (.load true 3 (.t 14)), none, []⟩,
    ⟨(some 61), 61, (.call 24 [(.t 60)]), none, [0]⟩,
    ⟨(some 59), 59, (.mv (.t 61)), none, [1]⟩,
    ⟨(some 62), 62, (.ext 0 (.t 59)), none, [2]⟩,
    ⟨(some 63), 63, (.ext 1 (.t 59)), none, [2]⟩,
    ⟨(some 19), 19, (.mk 57 3 [[.zc, (.s (.pv (.bool false))), .zc]]), none, []⟩,
    ⟨none, 214, (.store 3 (.t 19) (.t 62)), none, [5, 3, 1, 0, 1, 2, 3, 5]⟩,
    ⟨(some 20), 20, (.mv (.t 63)), none, [4, 6, 0, 1, 2, 3, 4, 5, 6]⟩])
  (.seq (.seq (.reg [⟨(some 64), 64, (.mv (.t 18)), none, []⟩,
    ⟨(some 65), 65, (.not (.t 64)), none, [0]⟩,
    ⟨(some 66), 66, (.mv (.t 65)), none, [1]⟩,
    ⟨(some 67), 67, (.mv (.t 20)), (some (66, false)), [2]⟩,
    ⟨(some 68), 68, (.not (.t 67)), (some (66, false)), [3, 2]⟩,
    ⟨(some 69), 69, (.pick (.t 66) (.k (.c (.s (.pv (.bool true))))) (.t 68)), none, [2, 4]⟩,
    ⟨(some 70), 70, (.mv (.t 69)), none, [5, 2]⟩,
    ⟨(some 71), 71, (.load true 3 (.t 3)), (some (70, false)), [6]⟩,
    ⟨(some 72), 72, (.call 30 [(.t 71)]), (some (70, false)), [7, 6, 6]⟩,
    ⟨(some 73), 73, (.mv (.t 9)), (some (70, false)), [6]⟩,
    ⟨(some 74), 74, (.bin true .neq (.t 72) (.t 73)), (some (70, false)), [8, 9, 6]⟩,
    ⟨(some 75), 75, (.pick (.t 70) (.k (.c (.s (.pv (.bool true))))) (.t 74)), none, [6, 10]⟩])
  (.cond (.t 75) (.seq (.reg [⟨(some 6), 6, (.mv (.k (.c (.s (.pv (.bool false)))))), none, []⟩])
  .ret) .skip))
  (.seq (.block 0 (.seq (.reg [⟨(some 99), 99, (.mv (.t 9)), none, []⟩,
    ⟨(some 100), 100, (.not (.t 99)), none, [0]⟩,
    ⟨(some 101), 101, (.mv (.t 100)), none, [1]⟩,
    ⟨(some 102), 102, (.mv (.t 1)), (some (101, false)), [2]⟩,
    ⟨(some 103), 103, (.bin false .lss (.t 102) (.k (.c (.s (.pv (.int .i64 0)))))), (some (101, false)), [3, 2]⟩,
    ⟨(some 104), 104, (.pick (.t 101) (.k (.c (.s (.pv (.bool true))))) (.t 103)), none, [2, 4]⟩,
    ⟨(some 105), 105, (.mv (.t 104)), none, [5, 2]⟩,
    ⟨(some 106), 106, (.mv (.t 1)), (some (105, false)), [6]⟩,
    ⟨(some 107), 107, (.bin false .gtr (.t 106) (.k (.c (.s (.pv (.int .i64 2147483647)))))), (some (105, false)), [7, 6]⟩,
    ⟨(some 108), 108, (.pick (.t 105) (.k (.c (.s (.pv (.bool true))))) (.t 107)), none, [6, 8]⟩,
    ⟨(some 98), 98, (.mv (.t 108)), none, [9, 6]⟩])
  (.cond (.t 98) (.seq (.reg [⟨(some 109), 109, (.mv (.t 13)), none, []⟩,
    ⟨(some 110), 110, (.bin false .neq (.t 109) (.k (.c (.s (.pv (.int .i64 1)))))), none, [0]⟩,
    ⟨(some 111), 111, (.mv (.t 110)), none, [1]⟩,
    ⟨(some 112), 112, (.mv (.t 12)), (some (111, false)), [2]⟩,
    ⟨(some 113), 113, (.pick (.t 111) (.k (.c (.s (.pv (.bool true))))) (.t 112)), none, [2, 3]⟩,
    ⟨(some 114), 114, (.mv (.t 113)), none, [4, 2]⟩,
    ⟨(some 115), 115, (.load true 3 (.t 7)), (some (114, false)), [5]⟩,
    ⟨(some 116), 116, (.load true 3 (.t 17)), (some (114, false)), [5]⟩,
    ⟨(some 117), 117, (.call 31 [(.t 115), (.t 116)]), (some (114, false)), [6, 7, 5, 5]⟩,
    ⟨(some 118), 118, (.not (.t 117)), (some (114, false)), [8, 5]⟩,
    ⟨(some 119), 119, (.pick (.t 114) (.k (.c (.s (.pv (.bool true))))) (.t 118)), none, [5, 9]⟩])
  (.cond (.t 119) (.seq (.reg [⟨(some 6), 6, (.mv (.k (.c (.s (.pv (.bool false)))))), none, []⟩])
  .ret) .skip)) (.seq (.reg [⟨(some 121), 121, (.mv (.t 10)), none, []⟩,
    ⟨(some 120), 120, (.mv (.t 121)), none, [0]⟩])
  (.cond (.t 120) (.seq (.reg [⟨(some 122), 122, (.mv (.t 13)), none, []⟩,
    ⟨(some 123), 123, (.bin false .neq (.t 122) (.k (.c (.s (.pv (.int .i64 4)))))), none, [0]⟩,
    ⟨(some 124), 124, (.mv (.t 123)), none, [1]⟩,
    ⟨(some 125), 125, (.mv (.t 12)), (some (124, false)), [2]⟩,
    ⟨(some 126), 126, (.pick (.t 124) (.k (.c (.s (.pv (.bool true))))) (.t 125)), none, [2, 3]⟩,
    ⟨(some 127), 127, (.mv (.t 126)), none, [4, 2]⟩,
    ⟨(some 128), 128, (.load true 3 (.t 7)), (some (127, false)), [5]⟩,
    ⟨(some 129), 129, (.load true 3 (.t 17)), (some (127, false)), [5]⟩,
    ⟨(some 130), 130, (.call 31 [(.t 128), (.t 129)]), (some (127, false)), [6, 7, 5, 5]⟩,
    ⟨(some 131), 131, (.not (.t 130)), (some (127, false)), [8, 5]⟩,
    ⟨(some 132), 132, (.pick (.t 127) (.k (.c (.s (.pv (.bool true))))) (.t 131)), none, [5, 9]⟩])
  (.cond (.t 132) (.seq (.reg [⟨(some 6), 6, (.mv (.k (.c (.s (.pv (.bool false)))))), none, []⟩])
  .ret) .skip)) (.seq (.reg [⟨(some 134), 134, (.fld 0 (.t 3)), none, []⟩,
    ⟨(some 135), 135, (.load false 1 (.t 134)), none, [0]⟩,
    ⟨(some 136), 136, (.len (.t 135)), none, [1]⟩,
    ⟨(some 137), 137, (.fld 2 (.t 3)), none, []⟩,
    ⟨(some 138), 138, (.load false 1 (.t 137)), none, [3]⟩,
    ⟨(some 139), 139, (.len (.t 138)), none, [4]⟩,
    ⟨(some 140), 140, (.bin false .add (.t 136) (.t 139)), none, [2, 5]⟩,
    ⟨(some 141), 141, (.bin false .eql (.t 140) (.k (.c (.s (.pv (.int .i64 64)))))), none, [6]⟩,
    ⟨(some 133), 133, (.mv (.t 141)), none, [7]⟩])
  (.cond (.t 133) (.seq (.reg [⟨(some 142), 142, (.mv (.t 13)), none, []⟩,
    ⟨(some 143), 143, (.bin false .neq (.t 142) (.k (.c (.s (.pv (.int .i64 7)))))), none, [0]⟩,
    ⟨(some 144), 144, (.mv (.t 143)), none, [1]⟩,
    ⟨(some 145), 145, (.mv (.t 12)), (some (144, false)), [2]⟩,
    ⟨(some 146), 146, (.pick (.t 144) (.k (.c (.s (.pv (.bool true))))) (.t 145)), none, [2, 3]⟩,
    ⟨(some 147), 147, (.mv (.t 146)), none, [4, 2]⟩,
    ⟨(some 148), 148, (.load true 3 (.t 7)), (some (147, false)), [5]⟩,
    ⟨(some 149), 149, (.load true 3 (.t 17)), (some (147, false)), [5]⟩,
    ⟨(some 150), 150, (.call 31 [(.t 148), (.t 149)]), (some (147, false)), [6, 7, 5, 5]⟩,
    ⟨(some 151), 151, (.not (.t 150)), (some (147, false)), [8, 5]⟩,
    ⟨(some 152), 152, (.pick (.t 147) (.k (.c (.s (.pv (.bool true))))) (.t 151)), none, [5, 9]⟩])
  (.cond (.t 152) (.seq (.reg [⟨(some 6), 6, (.mv (.k (.c (.s (.pv (.bool false)))))), none, []⟩])
  .ret) .skip)) (.seq (.reg [⟨(some 77), 77, (.load true 3 (.t 7)), none, []⟩,
    ⟨(some 78), 78, (.mv (.t 1)), none, []⟩,
    ⟨(some 79), 79, (.mv (.t 2)), none, []⟩,
    ⟨(some 80), 80, (.call 32 [(.t 77), (.t 78), (.t 79)]), none, [0, 1, 2]⟩,
    ⟨(some 76), 76, (.mv (.t 80)), none, [3]⟩,
    ⟨(some 81), 81, (.ext 0 (.t 76)), none, [4]⟩,
    ⟨(some 82), 82, (.ext 1 (.t 76)), none, [4]⟩,
    ⟨(some 21), 21, (.mk 57 3 [[.zc, (.s (.pv (.bool false))), .zc]]), none, []⟩,
    ⟨none, 216, (.store 3 (.t 21) (.t 81)), none, [7, 5, 3, 0, 1, 2, 3, 4, 5, 7]⟩,
    ⟨(some 22), 22, (.mv (.t 82)), none, [6, 8, 0, 1, 2, 3, 4, 5, 6, 7, 8]⟩])
  (.seq (.reg [⟨(some 83), 83, (.mv (.t 13)), none, []⟩,
    ⟨(some 84), 84, (.bin false .neq (.t 83) (.k (.c (.s (.pv (.int .i64 0)))))), none, [0]⟩,
    ⟨(some 85), 85, (.mv (.t 84)), none, [1]⟩,
    ⟨(some 86), 86, (.mv (.t 12)), (some (85, false)), [2]⟩,
    ⟨(some 87), 87, (.mv (.t 22)), (some (85, false)), [2]⟩,
    ⟨(some 88), 88, (.len (.t 87)), (some (85, false)), [4, 2]⟩,
    ⟨(some 89), 89, (.bin false .gtr (.t 88) (.k (.c (.s (.pv (.int .i64 0)))))), (some (85, false)), [5, 2]⟩,
    ⟨(some 90), 90, (.bin true .neq (.t 86) (.t 89)), (some (85, false)), [3, 6, 2]⟩,
    ⟨(some 91), 91, (.pick (.t 85) (.k (.c (.s (.pv (.bool true))))) (.t 90)), none, [2, 7]⟩,
    ⟨(some 92), 92, (.mv (.t 91)), none, [8, 2]⟩,
    ⟨(some 93), 93, (.load true 3 (.t 21)), (some (92, false)), [9]⟩,
    ⟨(some 94), 94, (.load true 3 (.t 17)), (some (92, false)), [9]⟩,
    ⟨(some 95), 95, (.call 31 [(.t 93), (.t 94)]), (some (92, false)), [10, 11, 9, 9]⟩,
    ⟨(some 96), 96, (.not (.t 95)), (some (92, false)), [12, 9]⟩,
    ⟨(some 97), 97, (.pick (.t 92) (.k (.c (.s (.pv (.bool true))))) (.t 96)), none, [9, 13]⟩])
  (.cond (.t 97) (.seq (.reg [⟨(some 6), 6, (.mv (.k (.c (.s (.pv (.bool false)))))), none, []⟩])
  .ret) .skip))))))))))
  (.seq (.seq (.reg [⟨(some 153), 153, (.mv (.t 9)), none, []⟩,
    ⟨(some 154), 154, (.not (.t 153)), none, [0]⟩])
  (.cond (.t 154) (.seq (.reg [⟨(some 155), 155, (.mv (.t 16)), none, []⟩,
    ⟨(some 156), 156, (.bin false .eql (.t 155) (.k (.c (.s (.pv (.int .i64 1)))))), none, [0]⟩,
    ⟨(some 157), 157, (.mv (.t 156)), none, [1]⟩,
    ⟨(some 158), 158, (.mv (.t 15)), (some (157, true)), [2]⟩,
    ⟨(some 159), 159, (.len (.t 158)), (some (157, true)), [3, 2]⟩,
    ⟨(some 160), 160, (.bin false .eql (.t 159) (.k (.c (.s (.pv (.int .i64 0)))))), (some (157, true)), [4, 2]⟩,
    ⟨(some 161), 161, (.pick (.t 157) (.t 160) (.k (.c (.s (.pv (.bool false)))))), none, [2, 5]⟩,
    ⟨(some 162), 162, (.mv (.t 161)), none, [6, 2]⟩,
    ⟨(some 163), 163, (.load true 3 (.t 7)), (some (162, true)), [7]⟩,
    ⟨(some 164), 164, (.load true 3 (.t 19)), (some (162, true)), [7]⟩,
    ⟨(some 165), 165, (.call 31 [(.t 163), (.t 164)]), (some (162, true)), [8, 9, 7, 7]⟩,
    ⟨(some 166), 166, (.pick (.t 162) (.t 165) (.k (.c (.s (.pv (.bool false)))))), none, [7, 10]⟩,
    ⟨(some 167), 167, (.mv (.t 166)), none, [11, 10]⟩,
    ⟨(some 168), 168, (.call 25 []), (some (167, true)), [12, 12]⟩,
    ⟨(some 169), 169, (.pick (.t 167) (.t 168) (.k (.c (.s (.pv (.bool false)))))), none, [12, 13]⟩,
    ⟨(some 6), 6, (.mv (.t 169)), none, [14, 13, 0, 1, 2, 3, 4, 5, 6, 7, 8, 9, 10, 11, 12, 13, 14]⟩])
  .ret) .skip))
  (.seq (.seq (.reg [⟨(some 170), 170, (.mv (.t 10)), none, []⟩,
    ⟨(some 171), 171, (.not (.t 170)), none, [0]⟩])
  (.cond (.t 171) (.seq (.reg [⟨(some 172), 172, (.mv (.t 16)), none, []⟩,
    ⟨(some 173), 173, (.bin false .eql (.t 172) (.k (.c (.s (.pv (.int .i64 3)))))), none, [0]⟩,
    ⟨(some 174), 174, (.mv (.t 173)), none, [1]⟩,
    ⟨(some 175), 175, (.mv (.t 15)), (some (174, true)), [2]⟩,
    ⟨(some 176), 176, (.len (.t 175)), (some (174, true)), [3, 2]⟩,
    ⟨(some 177), 177, (.bin false .eql (.t 176) (.k (.c (.s (.pv (.int .i64 0)))))), (some (174, true)), [4, 2]⟩,
    ⟨(some 178), 178, (.pick (.t 174) (.t 177) (.k (.c (.s (.pv (.bool false)))))), none, [2, 5]⟩,
    ⟨(some 179), 179, (.mv (.t 178)), none, [6, 2]⟩,
    ⟨(some 180), 180, (.load true 3 (.t 7)), (some (179, true)), [7]⟩,
    ⟨(some 181), 181, (.load true 3 (.t 19)), (some (179, true)), [7]⟩,
    ⟨(some 182), 182, (.call 31 [(.t 180), (.t 181)]), (some (179, true)), [8, 9, 7, 7]⟩,
    ⟨(some 183), 183, (.pick (.t 179) (.t 182) (.k (.c (.s (.pv (.bool false)))))), none, [7, 10]⟩,
    ⟨(some 184), 184, (.mv (.t 183)), none, [11, 10]⟩,
    ⟨(some 185), 185, (.call 25 []), (some (184, true)), [12, 12]⟩,
    ⟨(some 186), 186, (.pick (.t 184) (.t 185) (.k (.c (.s (.pv (.bool false)))))), none, [12, 13]⟩,
    ⟨(some 6), 6, (.mv (.t 186)), none, [14, 13, 0, 1, 2, 3, 4, 5, 6, 7, 8, 9, 10, 11, 12, 13, 14]⟩])
  .ret) .skip))
  (.seq (.reg [⟨(some 188), 188, (.load true 3 (.t 7)), none, []⟩,
    ⟨(some 189), 189, (.mv (.t 1)), none, []⟩,
    ⟨(some 190), 190, (.call 33 [(.t 188), (.t 189)]), none, [0, 1]⟩,
    ⟨(some 187), 187, (.mv (.t 190)), none, [2]⟩,
    ⟨(some 191), 191, (.ext 0 (.t 187)), none, [3]⟩,
    ⟨(some 192), 192, (.ext 1 (.t 187)), none, [3]⟩,
    ⟨(some 23), 23, (.mk 57 3 [[.zc, (.s (.pv (.bool false))), .zc]]), none, []⟩,
    ⟨none, 215, (.store 3 (.t 23) (.t 191)), none, [6, 4, 2, 0, 1, 2, 3, 4, 6]⟩,
    ⟨(some 24), 24, (.mv (.t 192)), none, [5, 7, 0, 1, 2, 3, 4, 5, 6, 7]⟩])
  (.seq (.reg [⟨(some 193), 193, (.mv (.t 16)), none, []⟩,
    ⟨(some 194), 194, (.bin false .eql (.t 193) (.k (.c (.s (.pv (.int .i64 0)))))), none, [0]⟩,
    ⟨(some 195), 195, (.mv (.t 194)), none, [1]⟩,
    ⟨(some 196), 196, (.load true 3 (.t 23)), (some (195, true)), [2]⟩,
    ⟨(some 197), 197, (.load true 3 (.t 19)), (some (195, true)), [2]⟩,
    ⟨(some 198), 198, (.call 31 [(.t 196), (.t 197)]), (some (195, true)), [3, 4, 2, 2]⟩,
    ⟨(some 199), 199, (.pick (.t 195) (.t 198) (.k (.c (.s (.pv (.bool false)))))), none, [2, 5]⟩,
    ⟨(some 200), 200, (.mv (.t 199)), none, [6, 5]⟩,
    ⟨(some 201), 201, (.mv (.t 15)), (some (200, true)), [7]⟩,
    ⟨(some 202), 202, (.mv (.t 24)), (some (200, true)), [7]⟩,
    ⟨(some 203), 203, (.call 34 [(.t 201), (.t 202)]), (some (200, true)), [8, 9, 7, 7]⟩,
    ⟨(some 204), 204, (.pick (.t 200) (.t 203) (.k (.c (.s (.pv (.bool false)))))), none, [7, 10]⟩,
    ⟨(some 205), 205, (.mv (.t 204)), none, [11, 10]⟩,
    ⟨(some 206), 206, (.call 25 []), (some (205, true)), [12, 12]⟩,
    ⟨(some 207), 207, (.pick (.t 205) (.t 206) (.k (.c (.s (.pv (.bool false)))))), none, [12, 13]⟩,
    ⟨(some 6), 6, (.mv (.t 207)), none, [14, 13, 0, 1, 2, 3, 4, 5, 6, 7, 8, 9, 10, 11, 12, 13, 14]⟩])
  .ret)))))))))))))))
theorem fn7 : FnIs Try.prog 7 ac7 [(.t 6)] 208 := ⟨Try.f7, Try.func7, by kernel_rfl, by kernel_rfl, by kernel_rfl⟩
/- lockkeeper/lockkeeperlaw08.LatchAlone -/
def ac8 : ACode := (.seq (.reg [⟨(some 2), 2, (.mv (.k (.c (.s (.pv (.bool false)))))), none, []⟩])
  (.seq (.reg [⟨(some 3), 3, (.mk 54 3 [[.zc, (.s (.pv (.bool false))), .zc]]), none, []⟩])
  (.seq (.reg [⟨(some 4), 4, (.mk 73 1 [[(.s (.pv (.int .i64 0)))], [(.s (.pv (.int .i64 0)))], [(.s (.pv (.int .i64 0)))], [(.s (.pv (.int .i64 0)))], [(.s (.pv (.int .i64 0)))], [(.s (.pv (.int .i64 0)))], [(.s (.pv (.int .i64 0)))], [(.s (.pv (.int .i64 0)))], [(.s (.pv (.int .i64 0)))], [(.s (.pv (.int .i64 0)))]]), none, []⟩])
  (.seq (.reg [⟨(some 5), 5, (.mk 74 1 [[(.s (.pv (.bool false)))], [(.s (.pv (.bool false)))], [(.s (.pv (.bool false)))], [(.s (.pv (.bool false)))], [(.s (.pv (.bool false)))], [(.s (.pv (.bool false)))], [(.s (.pv (.bool false)))], [(.s (.pv (.bool false)))], [(.s (.pv (.bool false)))], [(.s (.pv (.bool false)))]]), none, []⟩,
    ⟨(some 6), 6, (.mk 74 1 [[(.s (.pv (.bool false)))], [(.s (.pv (.bool false)))], [(.s (.pv (.bool false)))], [(.s (.pv (.bool false)))], [(.s (.pv (.bool false)))], [(.s (.pv (.bool false)))], [(.s (.pv (.bool false)))], [(.s (.pv (.bool false)))], [(.s (.pv (.bool false)))], [(.s (.pv (.bool false)))]]), none, []⟩])
  (.seq (.reg [⟨(some 7), 7, (.mv (.k (.c (.s (.pv (.int .i64 0)))))), none, []⟩])
  (.seq (.seq (.reg [⟨(some 8), 8, (.mv (.k (.c (.s (.pv (.int .i64 0)))))), none, []⟩])
  (.block 0 (.loop (.seq (.seq (.reg [⟨(some 26), 26, (.mv (.t 8)), none, []⟩,
    ⟨(some 27), 27, (.mv (.t 0)), none, []⟩,
    ⟨(some 28), 28, (.len (.t 27)), none, [1]⟩,
    ⟨(some 29), 29, (.bin false .lss (.t 26) (.t 28)), none, [0, 2]⟩,
    ⟨(some 30), 30, (.mv (.t 29)), none, [3]⟩,
    ⟨(some 31), 31, (.mv (.t 8)), (some (30, true)), [4]⟩,
    ⟨(some 32), 32, (.bin false .lss (.t 31) (.k (.c (.s (.pv (.int .i64 100)))))), (some (30, true)), [5, 4]⟩,
    ⟨(some 33), 33, (.pick (.t 30) (.t 32) (.k (.c (.s (.pv (.bool false)))))), none, [4, 6]⟩])
  (.cond (.t 33) .skip (.exit 0)))
  (.seq (.block 1 (.seq (.draw [⟨(some 36), 36, (.mv (.t 0)), none, []⟩,
    ⟨(some 37), 37, (.mv (.t 8)), none, []⟩,
    ⟨(some 38), 38, (.idx 2 (.t 36) (.t 37)), none, [0, 1]⟩,
    ⟨(some 39), 39, (.aidx 2 1 (.t 38) (.k (.c (.s (.pv (.int .i64 0)))))), none, [2]⟩,
    ⟨(some 40), 40, (.load false 1 (.t 39)), none, [3]⟩,
    ⟨(some 41), 41, (.bin false .rem (.t 40) (.k (.c (.s (.pv (.int .u8 10)))))), none, [4]⟩,
    ⟨(some 42), 42, (.conv .i64 (.t 41)), none, [5]⟩,
    ⟨(some 43), 43, (.mv (.t 0)), none, []⟩,
    ⟨(some 44), 44, (.mv (.t 8)), none, []⟩,
    ⟨(some 45), 45, (.idx 2 (.t 43) (.t 44)), none, [7, 8]⟩,
    ⟨(some 46), 46, (.aidx 2 1 (.t 45) (.k (.c (.s (.pv (.int .i64 1)))))), none, [9]⟩,
    ⟨(some 47), 47, (.load false 1 (.t 46)), none, [10]⟩,
    ⟨(some 48), 48, (.bin false .rem (.t 47) (.k (.c (.s (.pv (.int .u8 4)))))), none, [11]⟩,
    ⟨(some 49), 49, (.bin false .eql (.t 48) (.k (.c (.s (.pv (.int .u8 0)))))), none, [12]⟩,
    ⟨(some 9), 9, (.mv (.t 42)), none, [6, 0, 1, 2, 3, 4, 5, 6]⟩,
    ⟨(some 10), 10, (.mv (.t 49)), none, [13, 14, 0, 1, 2, 3, 4, 5, 6, 7, 8, 9, 10, 11, 12, 13, 14]⟩])
  (.seq (.reg [⟨(some 50), 50, (.mv (.t 7)), none, []⟩,
    ⟨(some 51), 51, (.bin false .add (.t 50) (.k (.c (.s (.pv (.int .i64 1)))))), none, [0]⟩,
    ⟨(some 7), 7, (.mv (.t 51)), none, [1, 0, 1]⟩])
  (.seq (.reg [⟨(some 11), 11, (.mv (.k (.c .zc))), none, []⟩])
  (.seq (.seq (.reg [⟨(some 52), 52, (.mv (.t 0)), none, []⟩,
    ⟨(some 53), 53, (.mv (.t 8)), none, []⟩,
    ⟨(some 54), 54, (.idx 2 (.t 52) (.t 53)), none, [0, 1]⟩,
    ⟨(some 55), 55, (.aidx 2 1 (.t 54) (.k (.c (.s (.pv (.int .i64 1)))))), none, [2]⟩,
    ⟨(some 56), 56, (.load false 1 (.t 55)), none, [3]⟩,
    ⟨(some 57), 57, (.bin false .rem (.t 56) (.k (.c (.s (.pv (.int .u8 8)))))), none, [4]⟩,
    ⟨(some 58), 58, (.bin false .lss (.t 57) (.k (.c (.s (.pv (.int .u8 5)))))), none, [5]⟩])
  (.cond (.t 58) (.seq (.reg [⟨(some 60), 60, (.load true 3 (.t 3)), none, []⟩,
    ⟨(some 61), 61, (.mv (.t 9)), none, []⟩,
    ⟨(some 62), 62, (.mv (.t 10)), none, []⟩,
    ⟨(some 63), 63, (.call 28 [(.t 60), (.t 61), (.t 62)]), none, [0, 1, 2]⟩,
    ⟨(some 59), 59, (.mv (.t 63)), none, [3]⟩,
    ⟨(some 64), 64, (.ext 0 (.t 59)), none, [4]⟩,
    ⟨(some 65), 65, (.ext 1 (.t 59)), none, [4]⟩,
    ⟨(some 66), 66, (.ext 2 (.t 59)), none, [4]⟩,
    ⟨(some 12), 12, (.mk 54 3 [[.zc, (.s (.pv (.bool false))), .zc]]), none, []⟩,
    ⟨none, 222, (.store 3 (.t 12) (.t 64)), none, [8, 5, 3, 0, 1, 2, 3, 4, 5, 8]⟩,
    ⟨(some 13), 13, (.mv (.t 65)), none, [6, 9, 0, 1, 2, 3, 4, 5, 6, 8, 9]⟩,
    ⟨(some 14), 14, (.mv (.t 66)), none, [7, 10, 0, 1, 2, 3, 4, 5, 6, 7, 8, 9, 10]⟩])
  (.seq (.seq (.reg [⟨(some 67), 67, (.mv (.t 14)), none, []⟩,
    ⟨(some 68), 68, (.bin false .eql (.t 67) (.k (.c (.s (.pv (.int .i64 0)))))), none, [0]⟩,
    ⟨(some 69), 69, (.mv (.t 9)), none, []⟩,
    ⟨(some 70), 70, (.aidx 10 1 (.t 4) (.t 69)), none, [2]⟩,
    ⟨(some 71), 71, (.load false 1 (.t 70)), none, [3]⟩,
    ⟨(some 72), 72, (.bin false .eql (.t 71) (.k (.c (.s (.pv (.int .i64 0)))))), none, [4]⟩,
    ⟨(some 73), 73, (.bin true .neq (.t 68) (.t 72)), none, [1, 5]⟩])
  (.cond (.t 73) (.seq (.reg [⟨(some 2), 2, (.mv (.k (.c (.s (.pv (.bool false)))))), none, []⟩])
  .ret) .skip))
  (.seq (.seq (.reg [⟨(some 74), 74, (.mv (.t 14)), none, []⟩,
    ⟨(some 75), 75, (.bin false .eql (.t 74) (.k (.c (.s (.pv (.int .i64 0)))))), none, [0]⟩])
  (.cond (.t 75) (.seq (.reg [⟨(some 76), 76, (.mv (.t 9)), none, []⟩,
    ⟨(some 77), 77, (.mv (.t 9)), none, []⟩,
    ⟨(some 78), 78, (.mv (.t 7)), none, []⟩,
    ⟨(some 79), 79, (.mv (.t 10)), none, []⟩,
    ⟨(some 80), 80, (.aidx 10 1 (.t 4) (.t 76)), none, [0, 0, 2]⟩,
    ⟨none, 218, (.store 1 (.t 80) (.t 78)), none, [4, 2, 0, 2]⟩,
    ⟨(some 81), 81, (.aidx 10 1 (.t 5) (.t 77)), none, [1, 0, 1, 2, 3, 4, 5]⟩,
    ⟨none, 220, (.store 1 (.t 81) (.t 79)), none, [6, 3, 5, 0, 1, 2, 3, 4, 5]⟩])
  (.seq (.reg [⟨(some 82), 82, (.mv (.t 13)), none, []⟩])
  (.cond (.t 82) (.reg [⟨(some 83), 83, (.mv (.t 9)), none, []⟩,
    ⟨(some 84), 84, (.bslice 3 1 [(.s (.pv (.int .i64 0)))] 1 [(0, 1, (.t 83))]), none, [0]⟩,
    ⟨(some 11), 11, (.mv (.t 84)), none, [1, 0, 1]⟩]) .skip))) .skip))
  (.reg [⟨(some 85), 85, (.load true 3 (.t 12)), none, []⟩,
    ⟨none, 214, (.store 3 (.t 3) (.t 85)), none, [0, 0]⟩])))) (.seq (.reg [⟨(some 87), 87, (.load true 3 (.t 3)), none, []⟩,
    ⟨(some 88), 88, (.mv (.t 9)), none, []⟩,
    ⟨(some 89), 89, (.call 29 [(.t 87), (.t 88)]), none, [0, 1]⟩,
    ⟨(some 86), 86, (.mv (.t 89)), none, [2]⟩,
    ⟨(some 90), 90, (.ext 0 (.t 86)), none, [3]⟩,
    ⟨(some 91), 91, (.ext 1 (.t 86)), none, [3]⟩,
    ⟨(some 92), 92, (.ext 2 (.t 86)), none, [3]⟩,
    ⟨(some 15), 15, (.mk 54 3 [[.zc, (.s (.pv (.bool false))), .zc]]), none, []⟩,
    ⟨none, 221, (.store 3 (.t 15) (.t 90)), none, [7, 4, 2, 0, 1, 2, 3, 4, 7]⟩,
    ⟨(some 16), 16, (.mv (.t 91)), none, [5, 8, 0, 1, 2, 3, 4, 5, 7, 8]⟩,
    ⟨(some 17), 17, (.mv (.t 92)), none, [6, 9, 0, 1, 2, 3, 4, 5, 6, 7, 8, 9]⟩])
  (.seq (.seq (.reg [⟨(some 93), 93, (.mv (.t 17)), none, []⟩,
    ⟨(some 94), 94, (.bin false .eql (.t 93) (.k (.c (.s (.pv (.int .i64 0)))))), none, [0]⟩,
    ⟨(some 95), 95, (.mv (.t 9)), none, []⟩,
    ⟨(some 96), 96, (.aidx 10 1 (.t 4) (.t 95)), none, [2]⟩,
    ⟨(some 97), 97, (.load false 1 (.t 96)), none, [3]⟩,
    ⟨(some 98), 98, (.bin false .neq (.t 97) (.k (.c (.s (.pv (.int .i64 0)))))), none, [4]⟩,
    ⟨(some 99), 99, (.bin true .neq (.t 94) (.t 98)), none, [1, 5]⟩])
  (.cond (.t 99) (.seq (.reg [⟨(some 2), 2, (.mv (.k (.c (.s (.pv (.bool false)))))), none, []⟩])
  .ret) .skip))
  (.seq (.reg [⟨(some 100), 100, (.mv (.t 9)), none, []⟩,
    ⟨(some 101), 101, (.mv (.t 9)), none, []⟩,
    ⟨(some 102), 102, (.aidx 10 1 (.t 4) (.t 100)), none, [0, 0]⟩,
    ⟨none, 216, (.store 1 (.t 102) (.k (.c (.s (.pv (.int .i64 0)))))), none, [2, 0]⟩,
    ⟨(some 103), 103, (.aidx 10 1 (.t 6) (.t 101)), none, [1, 0, 1, 2, 3]⟩,
    ⟨none, 218, (.store 1 (.t 103) (.k (.c (.s (.pv (.bool false)))))), none, [4, 3, 0, 1, 2, 3]⟩])
  (.reg [⟨(some 104), 104, (.load true 3 (.t 15)), none, []⟩,
    ⟨(some 105), 105, (.mv (.t 16)), none, []⟩,
    ⟨none, 215, (.store 3 (.t 3) (.t 104)), none, [0, 0]⟩,
    ⟨(some 11), 11, (.mv (.t 105)), none, [1, 2, 0, 1, 2]⟩]))))))
  (.seq (.seq (.reg [⟨(some 106), 106, (.mv (.t 11)), none, []⟩,
    ⟨(some 107), 107, (.len (.t 106)), none, [0]⟩,
    ⟨(some 108), 108, (.mv (.k (.c (.s (.pv (.int .i64 0)))))), none, []⟩])
  (.block 2 (.loop (.seq (.reg [⟨(some 109), 109, (.bin false .lss (.t 108) (.t 107)), none, []⟩])
  (.seq (.cond (.t 109) .skip (.exit 2))
  (.seq (.block 3 (.seq (.reg [⟨(some 110), 110, (.idx 1 (.t 106) (.t 108)), none, []⟩,
    ⟨(some 111), 111, (.load false 1 (.t 110)), none, [0]⟩,
    ⟨(some 19), 19, (.mv (.t 111)), none, [1, 0, 1]⟩])
  (.seq (.seq (.reg [⟨(some 112), 112, (.mv (.t 19)), none, []⟩,
    ⟨(some 113), 113, (.bin false .lss (.t 112) (.k (.c (.s (.pv (.int .i64 0)))))), none, [0]⟩,
    ⟨(some 114), 114, (.mv (.t 113)), none, [1]⟩,
    ⟨(some 115), 115, (.mv (.t 19)), (some (114, false)), [2]⟩,
    ⟨(some 116), 116, (.bin false .gtr (.t 115) (.k (.c (.s (.pv (.int .i64 9)))))), (some (114, false)), [3, 2]⟩,
    ⟨(some 117), 117, (.pick (.t 114) (.k (.c (.s (.pv (.bool true))))) (.t 116)), none, [2, 4]⟩,
    ⟨(some 118), 118, (.mv (.t 117)), none, [5, 2]⟩,
    ⟨(some 119), 119, (.mv (.t 19)), (some (118, false)), [6]⟩,
    ⟨(some 120), 120, (.aidx 10 1 (.t 6) (.t 119)), (some (118, false)), [7, 6]⟩,
    ⟨(some 121), 121, (.load false 1 (.t 120)), (some (118, false)), [8, 6]⟩,
    ⟨(some 122), 122, (.pick (.t 118) (.k (.c (.s (.pv (.bool true))))) (.t 121)), none, [6, 9]⟩,
    ⟨(some 123), 123, (.mv (.t 122)), none, [10, 6]⟩,
    ⟨(some 124), 124, (.mv (.t 19)), (some (123, false)), [11]⟩,
    ⟨(some 125), 125, (.aidx 10 1 (.t 4) (.t 124)), (some (123, false)), [12, 11]⟩,
    ⟨(some 126), 126, (.load false 1 (.t 125)), (some (123, false)), [13, 11]⟩,
    ⟨(some 127), 127, (.bin false .eql (.t 126) (.k (.c (.s (.pv (.int .i64 0)))))), (some (123, false)), [14, 11]⟩,
    ⟨(some 128), 128, (.pick (.t 123) (.k (.c (.s (.pv (.bool true))))) (.t 127)), none, [11, 15]⟩])
  (.cond (.t 128) (.seq (.reg [⟨(some 2), 2, (.mv (.k (.c (.s (.pv (.bool false)))))), none, []⟩])
  .ret) .skip))
  (.seq (.reg [⟨(some 129), 129, (.mv (.t 19)), none, []⟩,
    ⟨(some 130), 130, (.aidx 10 1 (.t 6) (.t 129)), none, [0, 0]⟩,
    ⟨none, 215, (.store 1 (.t 130) (.k (.c (.s (.pv (.bool true)))))), none, [1, 0]⟩])
  (.seq (.reg [⟨(some 131), 131, (.mv (.k (.c (.s (.pv (.int .i64 0)))))), none, []⟩])
  (.block 4 (.loop (.seq (.reg [⟨(some 132), 132, (.bin false .lss (.t 131) (.k (.c (.s (.pv (.int .i64 10)))))), none, []⟩])
  (.seq (.cond (.t 132) .skip (.exit 4))
  (.seq (.block 5 (.seq (.reg [⟨(some 133), 133, (.mv (.t 131)), none, []⟩,
    ⟨(some 20), 20, (.mv (.t 133)), none, [0, 0]⟩])
  (.seq (.draw [⟨(some 134), 134, (.mv (.t 20)), none, []⟩,
    ⟨(some 135), 135, (.aidx 10 1 (.t 4) (.t 134)), none, [0]⟩,
    ⟨(some 136), 136, (.load false 1 (.t 135)), none, [1]⟩,
    ⟨(some 137), 137, (.bin false .neq (.t 136) (.k (.c (.s (.pv (.int .i64 0)))))), none, [2]⟩,
    ⟨(some 138), 138, (.mv (.t 137)), none, [3]⟩,
    ⟨(some 139), 139, (.mv (.t 20)), (some (138, true)), [4]⟩,
    ⟨(some 140), 140, (.aidx 10 1 (.t 4) (.t 139)), (some (138, true)), [5, 4]⟩,
    ⟨(some 141), 141, (.load false 1 (.t 140)), (some (138, true)), [6, 4]⟩,
    ⟨(some 142), 142, (.mv (.t 19)), (some (138, true)), [4]⟩,
    ⟨(some 143), 143, (.aidx 10 1 (.t 4) (.t 142)), (some (138, true)), [8, 4]⟩,
    ⟨(some 144), 144, (.load false 1 (.t 143)), (some (138, true)), [9, 4]⟩,
    ⟨(some 145), 145, (.bin false .lss (.t 141) (.t 144)), (some (138, true)), [7, 10, 4]⟩,
    ⟨(some 146), 146, (.pick (.t 138) (.t 145) (.k (.c (.s (.pv (.bool false)))))), none, [4, 11]⟩,
    ⟨(some 147), 147, (.mv (.t 146)), none, [12, 4]⟩,
    ⟨(some 148), 148, (.mv (.t 20)), (some (147, true)), [13]⟩,
    ⟨(some 149), 149, (.aidx 10 1 (.t 6) (.t 148)), (some (147, true)), [14, 13]⟩,
    ⟨(some 150), 150, (.load false 1 (.t 149)), (some (147, true)), [15, 13]⟩,
    ⟨(some 151), 151, (.not (.t 150)), (some (147, true)), [16, 13]⟩,
    ⟨(some 152), 152, (.pick (.t 147) (.t 151) (.k (.c (.s (.pv (.bool false)))))), none, [13, 17]⟩])
  (.cond (.t 152) (.seq (.reg [⟨(some 2), 2, (.mv (.k (.c (.s (.pv (.bool false)))))), none, []⟩])
  .ret) .skip))))
  (.reg [⟨(some 153), 153, (.bin false .add (.t 131) (.k (.c (.s (.pv (.int .i64 1)))))), none, []⟩,
    ⟨(some 131), 131, (.mv (.t 153)), none, [0]⟩])))))))))))
  (.reg [⟨(some 154), 154, (.bin false .add (.t 108) (.k (.c (.s (.pv (.int .i64 1)))))), none, []⟩,
    ⟨(some 108), 108, (.mv (.t 154)), none, [0]⟩])))))))
  (.seq (.reg [⟨(some 21), 21, (.mv (.k (.c (.s (.pv (.int .i64 0)))))), none, []⟩,
    ⟨(some 22), 22, (.mv (.k (.c (.s (.pv (.int .i64 0)))))), none, [0, 0]⟩])
  (.seq (.seq (.reg [⟨(some 155), 155, (.mv (.k (.c (.s (.pv (.int .i64 0)))))), none, []⟩])
  (.block 6 (.loop (.seq (.reg [⟨(some 156), 156, (.bin false .lss (.t 155) (.k (.c (.s (.pv (.int .i64 10)))))), none, []⟩])
  (.seq (.cond (.t 156) .skip (.exit 6))
  (.seq (.block 7 (.seq (.reg [⟨(some 157), 157, (.mv (.t 155)), none, []⟩,
    ⟨(some 23), 23, (.mv (.t 157)), none, [0, 0]⟩])
  (.seq (.reg [⟨(some 159), 159, (.load true 3 (.t 3)), none, []⟩,
    ⟨(some 160), 160, (.mv (.t 23)), none, []⟩,
    ⟨(some 161), 161, (.call 35 [(.t 159), (.t 160)]), none, [0, 1]⟩,
    ⟨(some 158), 158, (.mv (.t 161)), none, [2]⟩,
    ⟨(some 162), 162, (.ext 0 (.t 158)), none, [3]⟩,
    ⟨(some 163), 163, (.ext 1 (.t 158)), none, [3]⟩,
    ⟨(some 24), 24, (.mv (.t 162)), none, [4, 2, 0, 1, 2, 3, 4]⟩,
    ⟨(some 25), 25, (.mv (.t 163)), none, [5, 6, 0, 1, 2, 3, 4, 5, 6]⟩])
  (.seq (.seq (.reg [⟨(some 164), 164, (.mv (.t 24)), none, []⟩,
    ⟨(some 165), 165, (.mv (.t 23)), none, []⟩,
    ⟨(some 166), 166, (.aidx 10 1 (.t 6) (.t 165)), none, [1]⟩,
    ⟨(some 167), 167, (.load false 1 (.t 166)), none, [2]⟩,
    ⟨(some 168), 168, (.bin true .neq (.t 164) (.t 167)), none, [0, 3]⟩,
    ⟨(some 169), 169, (.mv (.t 168)), none, [4]⟩,
    ⟨(some 170), 170, (.mv (.t 24)), (some (169, false)), [5]⟩,
    ⟨(some 171), 171, (.mv (.t 170)), (some (169, false)), [6, 5, 5]⟩,
    ⟨(some 172), 172, (.mv (.t 25)), (some (171, true)), [7]⟩,
    ⟨(some 173), 173, (.mv (.t 23)), (some (171, true)), [7]⟩,
    ⟨(some 174), 174, (.aidx 10 1 (.t 5) (.t 173)), (some (171, true)), [9, 7]⟩,
    ⟨(some 175), 175, (.load false 1 (.t 174)), (some (171, true)), [10, 7]⟩,
    ⟨(some 176), 176, (.bin true .neq (.t 172) (.t 175)), (some (171, true)), [8, 11, 7]⟩,
    ⟨(some 177), 177, (.pick (.t 171) (.t 176) (.k (.c (.s (.pv (.bool false)))))), (some (169, false)), [7, 12, 5]⟩,
    ⟨(some 178), 178, (.pick (.t 169) (.k (.c (.s (.pv (.bool true))))) (.t 177)), none, [5, 13]⟩])
  (.cond (.t 178) (.seq (.reg [⟨(some 2), 2, (.mv (.k (.c (.s (.pv (.bool false)))))), none, []⟩])
  .ret) .skip))
  (.seq (.seq (.reg [⟨(some 179), 179, (.mv (.t 24)), none, []⟩,
    ⟨(some 180), 180, (.mv (.t 179)), none, [0]⟩,
    ⟨(some 181), 181, (.mv (.t 23)), (some (180, true)), [1]⟩,
    ⟨(some 182), 182, (.aidx 10 1 (.t 5) (.t 181)), (some (180, true)), [2, 1]⟩,
    ⟨(some 183), 183, (.load false 1 (.t 182)), (some (180, true)), [3, 1]⟩,
    ⟨(some 184), 184, (.pick (.t 180) (.t 183) (.k (.c (.s (.pv (.bool false)))))), none, [1, 4]⟩])
  (.cond (.t 184) (.reg [⟨(some 185), 185, (.mv (.t 22)), none, []⟩,
    ⟨(some 186), 186, (.bin false .add (.t 185) (.k (.c (.s (.pv (.int .i64 1)))))), none, [0]⟩,
    ⟨(some 22), 22, (.mv (.t 186)), none, [1, 0, 1]⟩]) .skip))
  (.seq (.reg [⟨(some 187), 187, (.mv (.t 24)), none, []⟩,
    ⟨(some 188), 188, (.mv (.t 187)), none, [0]⟩,
    ⟨(some 189), 189, (.mv (.t 23)), (some (188, true)), [1]⟩,
    ⟨(some 190), 190, (.aidx 10 1 (.t 5) (.t 189)), (some (188, true)), [2, 1]⟩,
    ⟨(some 191), 191, (.load false 1 (.t 190)), (some (188, true)), [3, 1]⟩,
    ⟨(some 192), 192, (.not (.t 191)), (some (188, true)), [4, 1]⟩,
    ⟨(some 193), 193, (.pick (.t 188) (.t 192) (.k (.c (.s (.pv (.bool false)))))), none, [1, 5]⟩])
  (.cond (.t 193) (.reg [⟨(some 194), 194, (.mv (.t 21)), none, []⟩,
    ⟨(some 195), 195, (.bin false .add (.t 194) (.k (.c (.s (.pv (.int .i64 1)))))), none, [0]⟩,
    ⟨(some 21), 21, (.mv (.t 195)), none, [1, 0, 1]⟩]) .skip)))))))
  (.reg [⟨(some 196), 196, (.bin false .add (.t 155) (.k (.c (.s (.pv (.int .i64 1)))))), none, []⟩,
    ⟨(some 155), 155, (.mv (.t 196)), none, [0]⟩])))))))
  (.seq (.reg [⟨(some 197), 197, (.mv (.t 22)), none, []⟩,
    ⟨(some 198), 198, (.bin false .gtr (.t 197) (.k (.c (.s (.pv (.int .i64 1)))))), none, [0]⟩,
    ⟨(some 199), 199, (.mv (.t 198)), none, [1]⟩,
    ⟨(some 200), 200, (.mv (.t 22)), (some (199, false)), [2]⟩,
    ⟨(some 201), 201, (.bin false .eql (.t 200) (.k (.c (.s (.pv (.int .i64 1)))))), (some (199, false)), [3, 2]⟩,
    ⟨(some 202), 202, (.mv (.t 201)), (some (199, false)), [4, 2, 2]⟩,
    ⟨(some 203), 203, (.mv (.t 21)), (some (202, true)), [5]⟩,
    ⟨(some 204), 204, (.bin false .gtr (.t 203) (.k (.c (.s (.pv (.int .i64 0)))))), (some (202, true)), [6, 5]⟩,
    ⟨(some 205), 205, (.pick (.t 202) (.t 204) (.k (.c (.s (.pv (.bool false)))))), (some (199, false)), [5, 7, 2]⟩,
    ⟨(some 206), 206, (.pick (.t 199) (.k (.c (.s (.pv (.bool true))))) (.t 205)), none, [2, 8]⟩,
    ⟨(some 207), 207, (.mv (.t 206)), none, [9, 5]⟩,
    ⟨(some 208), 208, (.load true 3 (.t 3)), (some (207, false)), [10]⟩,
    ⟨(some 209), 209, (.call 30 [(.t 208)]), (some (207, false)), [11, 10, 10]⟩,
    ⟨(some 210), 210, (.not (.t 209)), (some (207, false)), [12, 10]⟩,
    ⟨(some 211), 211, (.pick (.t 207) (.k (.c (.s (.pv (.bool true))))) (.t 210)), none, [10, 13]⟩])
  (.cond (.t 211) (.seq (.reg [⟨(some 2), 2, (.mv (.k (.c (.s (.pv (.bool false)))))), none, []⟩])
  .ret) .skip))))))))))
  (.reg [⟨(some 34), 34, (.mv (.t 8)), none, []⟩,
    ⟨(some 35), 35, (.bin false .add (.t 34) (.k (.c (.s (.pv (.int .i64 1)))))), none, [0]⟩,
    ⟨(some 8), 8, (.mv (.t 35)), none, [1, 0, 1]⟩]))))))
  (.seq (.reg [⟨(some 212), 212, (.call 25 []), none, []⟩,
    ⟨(some 2), 2, (.mv (.t 212)), none, [0, 0, 0]⟩])
  .ret)))))))
theorem fn8 : FnIs Try.prog 8 ac8 [(.t 2)] 213 := ⟨Try.f8, Try.func8, by kernel_rfl, by kernel_rfl, by kernel_rfl⟩
/- lockkeeper/lockkeeperlaw08.LatchEnds -/
def ac9 : ACode := (.seq (.reg [⟨(some 1), 1, (.box 54 3 (.t 0)), none, []⟩,
    ⟨(some 2), 2, (.mv (.k (.c (.s (.pv (.bool false)))))), none, []⟩])
  (.seq (.reg [⟨(some 11), 11, (.load true 3 (.t 1)), none, []⟩,
    ⟨(some 12), 12, (.call 24 [(.t 11)]), none, [0]⟩,
    ⟨(some 10), 10, (.mv (.t 12)), none, [1]⟩,
    ⟨(some 13), 13, (.ext 0 (.t 10)), none, [2]⟩,
    ⟨(some 14), 14, (.ext 1 (.t 10)), none, [2]⟩,
    ⟨(some 3), 3, (.mk 57 3 [[.zc, (.s (.pv (.bool false))), .zc]]), none, []⟩,
    ⟨none, 85, (.store 3 (.t 3) (.t 13)), none, [5, 3, 1, 0, 1, 2, 3, 5]⟩,
    ⟨(some 4), 4, (.mv (.t 14)), none, [4, 6, 0, 1, 2, 3, 4, 5, 6]⟩])
  (.seq (.seq (.reg [⟨(some 15), 15, (.mv (.t 4)), none, []⟩,
    ⟨(some 16), 16, (.not (.t 15)), none, [0]⟩,
    ⟨(some 17), 17, (.mv (.t 16)), none, [1]⟩,
    ⟨(some 18), 18, (.load true 3 (.t 3)), (some (17, false)), [2]⟩,
    ⟨(some 19), 19, (.call 26 [(.t 18)]), (some (17, false)), [3, 2, 2]⟩,
    ⟨(some 20), 20, (.not (.t 19)), (some (17, false)), [4, 2]⟩,
    ⟨(some 21), 21, (.pick (.t 17) (.k (.c (.s (.pv (.bool true))))) (.t 20)), none, [2, 5]⟩])
  (.cond (.t 21) (.seq (.reg [⟨(some 22), 22, (.call 25 []), none, []⟩,
    ⟨(some 2), 2, (.mv (.t 22)), none, [0, 0, 0]⟩])
  .ret) .skip))
  (.seq (.reg [⟨(some 23), 23, (.fld 0 (.t 1)), none, []⟩,
    ⟨(some 24), 24, (.load false 1 (.t 23)), none, [0]⟩,
    ⟨(some 25), 25, (.len (.t 24)), none, [1]⟩,
    ⟨(some 26), 26, (.fld 2 (.t 1)), none, []⟩,
    ⟨(some 27), 27, (.load false 1 (.t 26)), none, [3]⟩,
    ⟨(some 28), 28, (.len (.t 27)), none, [4]⟩,
    ⟨(some 29), 29, (.bin false .add (.t 25) (.t 28)), none, [2, 5]⟩,
    ⟨(some 5), 5, (.mv (.t 29)), none, [6, 0, 1, 2, 3, 4, 5, 6]⟩])
  (.seq (.reg [⟨(some 30), 30, (.fld 0 (.t 1)), none, []⟩,
    ⟨(some 31), 31, (.load false 1 (.t 30)), none, [0]⟩,
    ⟨(some 32), 32, (.len (.t 31)), none, [1]⟩,
    ⟨(some 6), 6, (.mv (.t 32)), none, [2, 0, 1, 2]⟩])
  (.seq (.seq (.reg [⟨(some 33), 33, (.mv (.t 5)), none, []⟩,
    ⟨(some 34), 34, (.mv (.k (.c (.s (.pv (.int .i64 0)))))), none, []⟩])
  (.block 0 (.loop (.seq (.reg [⟨(some 35), 35, (.bin false .lss (.t 34) (.t 33)), none, []⟩])
  (.seq (.cond (.t 35) .skip (.exit 0))
  (.seq (.block 1 (.seq (.seq (.reg [⟨(some 36), 36, (.fld 0 (.t 1)), none, []⟩,
    ⟨(some 37), 37, (.load false 1 (.t 36)), none, [0]⟩,
    ⟨(some 38), 38, (.len (.t 37)), none, [1]⟩,
    ⟨(some 39), 39, (.bin false .eql (.t 38) (.k (.c (.s (.pv (.int .i64 0)))))), none, [2]⟩])
  (.cond (.t 39) (.seq (.reg [⟨(some 2), 2, (.mv (.k (.c (.s (.pv (.bool false)))))), none, []⟩])
  .ret) .skip))
  (.seq (.draw [⟨(some 41), 41, (.load true 3 (.t 1)), none, []⟩,
    ⟨(some 42), 42, (.fld 0 (.t 1)), none, []⟩,
    ⟨(some 43), 43, (.load false 1 (.t 42)), none, [1]⟩,
    ⟨(some 44), 44, (.idx 1 (.t 43) (.k (.c (.s (.pv (.int .i64 0)))))), none, [2]⟩,
    ⟨(some 45), 45, (.load false 1 (.t 44)), none, [3]⟩,
    ⟨(some 46), 46, (.call 29 [(.t 41), (.t 45)]), none, [0, 4]⟩,
    ⟨(some 40), 40, (.mv (.t 46)), none, [5]⟩,
    ⟨(some 47), 47, (.ext 0 (.t 40)), none, [6]⟩,
    ⟨(some 48), 48, (.ext 1 (.t 40)), none, [6]⟩,
    ⟨(some 49), 49, (.ext 2 (.t 40)), none, [6]⟩,
    ⟨(some 7), 7, (.mk 54 3 [[.zc, (.s (.pv (.bool false))), .zc]]), none, []⟩,
    ⟨none, 90, (.store 3 (.t 7) (.t 47)), none, [10, 7, 5, 0, 1, 2, 3, 4, 5, 6, 7, 10]⟩,
    ⟨(some 8), 8, (.mv (.t 48)), none, [8, 11, 0, 1, 2, 3, 4, 5, 6, 7, 8, 10, 11]⟩,
    ⟨(some 9), 9, (.mv (.t 49)), none, [9, 12, 0, 1, 2, 3, 4, 5, 6, 7, 8, 9, 10, 11, 12]⟩])
  (.seq (.seq (.reg [⟨(some 50), 50, (.mv (.t 9)), none, []⟩,
    ⟨(some 51), 51, (.bin false .neq (.t 50) (.k (.c (.s (.pv (.int .i64 0)))))), none, [0]⟩])
  (.cond (.t 51) (.seq (.reg [⟨(some 2), 2, (.mv (.k (.c (.s (.pv (.bool false)))))), none, []⟩])
  .ret) .skip))
  (.seq (.reg [⟨(some 52), 52, (.mv (.t 6)), none, []⟩,
    ⟨(some 53), 53, (.mv (.t 8)), none, []⟩,
    ⟨(some 54), 54, (.len (.t 53)), none, [1]⟩,
    ⟨(some 55), 55, (.bin false .add (.t 52) (.t 54)), none, [0, 2]⟩,
    ⟨(some 6), 6, (.mv (.t 55)), none, [3, 0, 1, 2, 3]⟩])
  (.reg [⟨(some 56), 56, (.load true 3 (.t 7)), none, []⟩,
    ⟨none, 80, (.store 3 (.t 1) (.t 56)), none, [0, 0]⟩]))))))
  (.reg [⟨(some 57), 57, (.bin false .add (.t 34) (.k (.c (.s (.pv (.int .i64 1)))))), none, []⟩,
    ⟨(some 34), 34, (.mv (.t 57)), none, [0]⟩])))))))
  (.seq (.reg [⟨(some 58), 58, (.mv (.t 6)), none, []⟩,
    ⟨(some 59), 59, (.mv (.t 5)), none, []⟩,
    ⟨(some 60), 60, (.bin false .eql (.t 58) (.t 59)), none, [0, 1]⟩,
    ⟨(some 61), 61, (.mv (.t 60)), none, [2]⟩,
    ⟨(some 62), 62, (.fld 0 (.t 1)), (some (61, true)), [3]⟩,
    ⟨(some 63), 63, (.load false 1 (.t 62)), (some (61, true)), [4, 3]⟩,
    ⟨(some 64), 64, (.len (.t 63)), (some (61, true)), [5, 3]⟩,
    ⟨(some 65), 65, (.fld 2 (.t 1)), (some (61, true)), [3]⟩,
    ⟨(some 66), 66, (.load false 1 (.t 65)), (some (61, true)), [7, 3]⟩,
    ⟨(some 67), 67, (.len (.t 66)), (some (61, true)), [8, 3]⟩,
    ⟨(some 68), 68, (.bin false .add (.t 64) (.t 67)), (some (61, true)), [6, 9, 3]⟩,
    ⟨(some 69), 69, (.bin false .eql (.t 68) (.k (.c (.s (.pv (.int .i64 0)))))), (some (61, true)), [10, 3]⟩,
    ⟨(some 70), 70, (.pick (.t 61) (.t 69) (.k (.c (.s (.pv (.bool false)))))), none, [3, 11]⟩,
    ⟨(some 71), 71, (.mv (.t 70)), none, [12, 3]⟩,
    ⟨(some 72), 72, (.fld 1 (.t 1)), (some (71, true)), [13]⟩,
    ⟨(some 73), 73, (.load false 1 (.t 72)), (some (71, true)), [14, 13]⟩,
    ⟨(some 74), 74, (.not (.t 73)), (some (71, true)), [15, 13]⟩,
    ⟨(some 75), 75, (.pick (.t 71) (.t 74) (.k (.c (.s (.pv (.bool false)))))), none, [13, 16]⟩,
    ⟨(some 76), 76, (.mv (.t 75)), none, [17, 13]⟩,
    ⟨(some 77), 77, (.call 25 []), (some (76, true)), [18, 18]⟩,
    ⟨(some 78), 78, (.pick (.t 76) (.t 77) (.k (.c (.s (.pv (.bool false)))))), none, [18, 19]⟩,
    ⟨(some 2), 2, (.mv (.t 78)), none, [20, 19, 0, 1, 2, 3, 4, 5, 6, 7, 8, 9, 10, 11, 12, 13, 14, 15, 16, 17, 18, 19, 20]⟩])
  .ret)))))))
theorem fn9 : FnIs Try.prog 9 ac9 [(.t 2)] 79 := ⟨Try.f9, Try.func9, by kernel_rfl, by kernel_rfl, by kernel_rfl⟩
/- lockkeeper/lockkeeperlaw08.LatchReaders -/
def ac10 : ACode := (.seq (.reg [⟨(some 4), 4, (.mv (.k (.c (.s (.pv (.bool false)))))), none, []⟩])
  (.seq (.reg [⟨(some 25), 25, (.mv (.t 0)), none, []⟩,
    ⟨(some 26), 26, (.bin false .rem (.t 25) (.k (.c (.s (.pv (.int .u8 20)))))), none, [0]⟩,
    ⟨(some 27), 27, (.conv .i64 (.t 26)), none, [1]⟩,
    ⟨(some 28), 28, (.bin false .add (.k (.c (.s (.pv (.int .i64 1))))) (.t 27)), none, [2]⟩,
    ⟨(some 29), 29, (.mv (.t 1)), none, []⟩,
    ⟨(some 30), 30, (.bin false .rem (.t 29) (.k (.c (.s (.pv (.int .u8 20)))))), none, [4]⟩,
    ⟨(some 31), 31, (.conv .i64 (.t 30)), none, [5]⟩,
    ⟨(some 5), 5, (.mv (.t 28)), none, [3, 0, 1, 2, 3]⟩,
    ⟨(some 6), 6, (.mv (.t 31)), none, [6, 7, 0, 1, 2, 3, 4, 5, 6, 7]⟩])
  (.seq (.reg [⟨(some 7), 7, (.mk 54 3 [[.zc, (.s (.pv (.bool false))), .zc]]), none, []⟩])
  (.seq (.seq (.reg [⟨(some 32), 32, (.mv (.t 5)), none, []⟩,
    ⟨(some 33), 33, (.mv (.k (.c (.s (.pv (.int .i64 0)))))), none, []⟩])
  (.block 0 (.loop (.seq (.reg [⟨(some 34), 34, (.bin false .lss (.t 33) (.t 32)), none, []⟩])
  (.seq (.cond (.t 34) .skip (.exit 0))
  (.seq (.block 1 (.seq (.reg [⟨(some 35), 35, (.mv (.t 33)), none, []⟩,
    ⟨(some 8), 8, (.mv (.t 35)), none, [0, 0]⟩])
  (.seq (.reg [⟨(some 37), 37, (.load true 3 (.t 7)), none, []⟩,
    ⟨(some 38), 38, (.mv (.t 8)), none, []⟩,
    ⟨(some 39), 39, (.call 28 [(.t 37), (.t 38), (.k (.c (.s (.pv (.bool false)))))]), none, [0, 1]⟩,
    ⟨(some 36), 36, (.mv (.t 39)), none, [2]⟩,
    ⟨(some 40), 40, (.ext 0 (.t 36)), none, [3]⟩,
    ⟨(some 41), 41, (.ext 1 (.t 36)), none, [3]⟩,
    ⟨(some 42), 42, (.ext 2 (.t 36)), none, [3]⟩,
    ⟨(some 9), 9, (.mk 54 3 [[.zc, (.s (.pv (.bool false))), .zc]]), none, []⟩,
    ⟨none, 158, (.store 3 (.t 9) (.t 40)), none, [7, 4, 2, 0, 1, 2, 3, 4, 7]⟩,
    ⟨(some 10), 10, (.mv (.t 41)), none, [5, 8, 0, 1, 2, 3, 4, 5, 7, 8]⟩,
    ⟨(some 11), 11, (.mv (.t 42)), none, [6, 9, 0, 1, 2, 3, 4, 5, 6, 7, 8, 9]⟩])
  (.seq (.seq (.reg [⟨(some 43), 43, (.mv (.t 10)), none, []⟩,
    ⟨(some 44), 44, (.not (.t 43)), none, [0]⟩,
    ⟨(some 45), 45, (.mv (.t 44)), none, [1]⟩,
    ⟨(some 46), 46, (.mv (.t 11)), (some (45, false)), [2]⟩,
    ⟨(some 47), 47, (.bin false .neq (.t 46) (.k (.c (.s (.pv (.int .i64 0)))))), (some (45, false)), [3, 2]⟩,
    ⟨(some 48), 48, (.pick (.t 45) (.k (.c (.s (.pv (.bool true))))) (.t 47)), none, [2, 4]⟩])
  (.cond (.t 48) (.seq (.reg [⟨(some 4), 4, (.mv (.k (.c (.s (.pv (.bool false)))))), none, []⟩])
  .ret) .skip))
  (.reg [⟨(some 49), 49, (.load true 3 (.t 9)), none, []⟩,
    ⟨none, 151, (.store 3 (.t 7) (.t 49)), none, [0, 0]⟩])))))
  (.reg [⟨(some 50), 50, (.bin false .add (.t 33) (.k (.c (.s (.pv (.int .i64 1)))))), none, []⟩,
    ⟨(some 33), 33, (.mv (.t 50)), none, [0]⟩])))))))
  (.seq (.reg [⟨(some 52), 52, (.load true 3 (.t 7)), none, []⟩,
    ⟨(some 53), 53, (.call 28 [(.t 52), (.k (.c (.s (.pv (.int .i64 100))))), (.k (.c (.s (.pv (.bool true)))))]), none, [0]⟩,
    ⟨(some 51), 51, (.mv (.t 53)), none, [1]⟩,
    ⟨(some 54), 54, (.ext 0 (.t 51)), none, [2]⟩,
    ⟨(some 55), 55, (.ext 1 (.t 51)), none, [2]⟩,
    ⟨(some 56), 56, (.ext 2 (.t 51)), none, [2]⟩,
    ⟨none, 156, (.store 3 (.t 7) (.t 54)), none, [3, 1, 0, 1, 2, 3]⟩,
    ⟨(some 12), 12, (.mv (.t 55)), none, [4, 6, 0, 1, 2, 3, 4, 6]⟩,
    ⟨(some 13), 13, (.mv (.t 56)), none, [5, 7, 0, 1, 2, 3, 4, 5, 6, 7]⟩])
  (.seq (.seq (.reg [⟨(some 57), 57, (.mv (.t 6)), none, []⟩,
    ⟨(some 58), 58, (.mv (.k (.c (.s (.pv (.int .i64 0)))))), none, []⟩])
  (.block 2 (.loop (.seq (.reg [⟨(some 59), 59, (.bin false .lss (.t 58) (.t 57)), none, []⟩])
  (.seq (.cond (.t 59) .skip (.exit 2))
  (.seq (.block 3 (.seq (.reg [⟨(some 60), 60, (.mv (.t 58)), none, []⟩,
    ⟨(some 14), 14, (.mv (.t 60)), none, [0, 0]⟩])
  (.seq (.reg [⟨(some 62), 62, (.load true 3 (.t 7)), none, []⟩,
    ⟨(some 63), 63, (.mv (.t 14)), none, []⟩,
    ⟨(some 64), 64, (.bin false .add (.k (.c (.s (.pv (.int .i64 200))))) (.t 63)), none, [1]⟩,
    ⟨(some 65), 65, (.call 28 [(.t 62), (.t 64), (.k (.c (.s (.pv (.bool false)))))]), none, [0, 2]⟩,
    ⟨(some 61), 61, (.mv (.t 65)), none, [3]⟩,
    ⟨(some 66), 66, (.ext 0 (.t 61)), none, [4]⟩,
    ⟨(some 67), 67, (.ext 1 (.t 61)), none, [4]⟩,
    ⟨(some 68), 68, (.ext 2 (.t 61)), none, [4]⟩,
    ⟨(some 15), 15, (.mk 54 3 [[.zc, (.s (.pv (.bool false))), .zc]]), none, []⟩,
    ⟨none, 159, (.store 3 (.t 15) (.t 66)), none, [8, 5, 3, 0, 1, 2, 3, 4, 5, 8]⟩,
    ⟨(some 16), 16, (.mv (.t 67)), none, [6, 9, 0, 1, 2, 3, 4, 5, 6, 8, 9]⟩,
    ⟨(some 17), 17, (.mv (.t 68)), none, [7, 10, 0, 1, 2, 3, 4, 5, 6, 7, 8, 9, 10]⟩])
  (.seq (.seq (.reg [⟨(some 69), 69, (.mv (.t 16)), none, []⟩,
    ⟨(some 70), 70, (.mv (.t 69)), none, [0]⟩,
    ⟨(some 71), 71, (.mv (.t 17)), (some (70, false)), [1]⟩,
    ⟨(some 72), 72, (.bin false .neq (.t 71) (.k (.c (.s (.pv (.int .i64 0)))))), (some (70, false)), [2, 1]⟩,
    ⟨(some 73), 73, (.pick (.t 70) (.k (.c (.s (.pv (.bool true))))) (.t 72)), none, [1, 3]⟩])
  (.cond (.t 73) (.seq (.reg [⟨(some 4), 4, (.mv (.k (.c (.s (.pv (.bool false)))))), none, []⟩])
  .ret) .skip))
  (.reg [⟨(some 74), 74, (.load true 3 (.t 15)), none, []⟩,
    ⟨none, 151, (.store 3 (.t 7) (.t 74)), none, [0, 0]⟩])))))
  (.reg [⟨(some 75), 75, (.bin false .add (.t 58) (.k (.c (.s (.pv (.int .i64 1)))))), none, []⟩,
    ⟨(some 58), 58, (.mv (.t 75)), none, [0]⟩])))))))
  (.seq (.seq (.reg [⟨(some 76), 76, (.mv (.t 5)), none, []⟩,
    ⟨(some 77), 77, (.mv (.k (.c (.s (.pv (.int .i64 0)))))), none, []⟩])
  (.block 4 (.loop (.seq (.reg [⟨(some 78), 78, (.bin false .lss (.t 77) (.t 76)), none, []⟩])
  (.seq (.cond (.t 78) .skip (.exit 4))
  (.seq (.block 5 (.seq (.reg [⟨(some 79), 79, (.mv (.t 77)), none, []⟩,
    ⟨(some 18), 18, (.mv (.t 79)), none, [0, 0]⟩])
  (.seq (.reg [⟨(some 81), 81, (.load true 3 (.t 7)), none, []⟩,
    ⟨(some 82), 82, (.mv (.t 18)), none, []⟩,
    ⟨(some 83), 83, (.call 29 [(.t 81), (.t 82)]), none, [0, 1]⟩,
    ⟨(some 80), 80, (.mv (.t 83)), none, [2]⟩,
    ⟨(some 84), 84, (.ext 0 (.t 80)), none, [3]⟩,
    ⟨(some 85), 85, (.ext 1 (.t 80)), none, [3]⟩,
    ⟨(some 86), 86, (.ext 2 (.t 80)), none, [3]⟩,
    ⟨(some 19), 19, (.mk 54 3 [[.zc, (.s (.pv (.bool false))), .zc]]), none, []⟩,
    ⟨none, 158, (.store 3 (.t 19) (.t 84)), none, [7, 4, 2, 0, 1, 2, 3, 4, 7]⟩,
    ⟨(some 20), 20, (.mv (.t 85)), none, [5, 8, 0, 1, 2, 3, 4, 5, 7, 8]⟩,
    ⟨(some 21), 21, (.mv (.t 86)), none, [6, 9, 0, 1, 2, 3, 4, 5, 6, 7, 8, 9]⟩])
  (.seq (.seq (.reg [⟨(some 87), 87, (.mv (.t 21)), none, []⟩,
    ⟨(some 88), 88, (.bin false .neq (.t 87) (.k (.c (.s (.pv (.int .i64 0)))))), none, [0]⟩,
    ⟨(some 89), 89, (.mv (.t 88)), none, [1]⟩,
    ⟨(some 90), 90, (.mv (.t 20)), (some (89, false)), [2]⟩,
    ⟨(some 91), 91, (.len (.t 90)), (some (89, false)), [3, 2]⟩,
    ⟨(some 92), 92, (.bin false .gtr (.t 91) (.k (.c (.s (.pv (.int .i64 0)))))), (some (89, false)), [4, 2]⟩,
    ⟨(some 93), 93, (.mv (.t 18)), (some (89, false)), [2]⟩,
    ⟨(some 94), 94, (.mv (.t 5)), (some (89, false)), [2]⟩,
    ⟨(some 95), 95, (.bin false .sub (.t 94) (.k (.c (.s (.pv (.int .i64 1)))))), (some (89, false)), [7, 2]⟩,
    ⟨(some 96), 96, (.bin false .eql (.t 93) (.t 95)), (some (89, false)), [6, 8, 2]⟩,
    ⟨(some 97), 97, (.bin true .neq (.t 92) (.t 96)), (some (89, false)), [5, 9, 2]⟩,
    ⟨(some 98), 98, (.pick (.t 89) (.k (.c (.s (.pv (.bool true))))) (.t 97)), none, [2, 10]⟩,
    ⟨(some 99), 99, (.mv (.t 98)), none, [11, 2]⟩,
    ⟨(some 100), 100, (.mv (.t 20)), (some (99, false)), [12]⟩,
    ⟨(some 101), 101, (.len (.t 100)), (some (99, false)), [13, 12]⟩,
    ⟨(some 102), 102, (.bin false .gtr (.t 101) (.k (.c (.s (.pv (.int .i64 0)))))), (some (99, false)), [14, 12]⟩,
    ⟨(some 103), 103, (.mv (.t 102)), (some (99, false)), [15, 12, 12]⟩,
    ⟨(some 104), 104, (.mv (.t 20)), (some (103, true)), [16]⟩,
    ⟨(some 105), 105, (.idx 1 (.t 104) (.k (.c (.s (.pv (.int .i64 0)))))), (some (103, true)), [17, 16]⟩,
    ⟨(some 106), 106, (.load false 1 (.t 105)), (some (103, true)), [18, 16]⟩,
    ⟨(some 107), 107, (.bin false .neq (.t 106) (.k (.c (.s (.pv (.int .i64 100)))))), (some (103, true)), [19, 16]⟩,
    ⟨(some 108), 108, (.pick (.t 103) (.t 107) (.k (.c (.s (.pv (.bool false)))))), (some (99, false)), [16, 20, 12]⟩,
    ⟨(some 109), 109, (.pick (.t 99) (.k (.c (.s (.pv (.bool true))))) (.t 108)), none, [12, 21]⟩])
  (.cond (.t 109) (.seq (.reg [⟨(some 4), 4, (.mv (.k (.c (.s (.pv (.bool false)))))), none, []⟩])
  .ret) .skip))
  (.reg [⟨(some 110), 110, (.load true 3 (.t 19)), none, []⟩,
    ⟨none, 151, (.store 3 (.t 7) (.t 110)), none, [0, 0]⟩])))))
  (.reg [⟨(some 111), 111, (.bin false .add (.t 77) (.k (.c (.s (.pv (.int .i64 1)))))), none, []⟩,
    ⟨(some 77), 77, (.mv (.t 111)), none, [0]⟩])))))))
  (.seq (.reg [⟨(some 113), 113, (.load true 3 (.t 7)), none, []⟩,
    ⟨(some 114), 114, (.call 29 [(.t 113), (.k (.c (.s (.pv (.int .i64 100)))))]), none, [0]⟩,
    ⟨(some 112), 112, (.mv (.t 114)), none, [1]⟩,
    ⟨(some 115), 115, (.ext 0 (.t 112)), none, [2]⟩,
    ⟨(some 116), 116, (.ext 1 (.t 112)), none, [2]⟩,
    ⟨(some 117), 117, (.ext 2 (.t 112)), none, [2]⟩,
    ⟨(some 22), 22, (.mk 54 3 [[.zc, (.s (.pv (.bool false))), .zc]]), none, []⟩,
    ⟨none, 157, (.store 3 (.t 22) (.t 115)), none, [6, 3, 1, 0, 1, 2, 3, 6]⟩,
    ⟨(some 23), 23, (.mv (.t 116)), none, [4, 7, 0, 1, 2, 3, 4, 6, 7]⟩,
    ⟨(some 24), 24, (.mv (.t 117)), none, [5, 8, 0, 1, 2, 3, 4, 5, 6, 7, 8]⟩])
  (.seq (.reg [⟨(some 118), 118, (.mv (.t 12)), none, []⟩,
    ⟨(some 119), 119, (.not (.t 118)), none, [0]⟩,
    ⟨(some 120), 120, (.mv (.t 119)), none, [1]⟩,
    ⟨(some 121), 121, (.mv (.t 13)), (some (120, true)), [2]⟩,
    ⟨(some 122), 122, (.bin false .eql (.t 121) (.k (.c (.s (.pv (.int .i64 0)))))), (some (120, true)), [3, 2]⟩,
    ⟨(some 123), 123, (.pick (.t 120) (.t 122) (.k (.c (.s (.pv (.bool false)))))), none, [2, 4]⟩,
    ⟨(some 124), 124, (.mv (.t 123)), none, [5, 2]⟩,
    ⟨(some 125), 125, (.mv (.t 24)), (some (124, true)), [6]⟩,
    ⟨(some 126), 126, (.bin false .eql (.t 125) (.k (.c (.s (.pv (.int .i64 0)))))), (some (124, true)), [7, 6]⟩,
    ⟨(some 127), 127, (.pick (.t 124) (.t 126) (.k (.c (.s (.pv (.bool false)))))), none, [6, 8]⟩,
    ⟨(some 128), 128, (.mv (.t 127)), none, [9, 6]⟩,
    ⟨(some 129), 129, (.mv (.t 23)), (some (128, true)), [10]⟩,
    ⟨(some 130), 130, (.len (.t 129)), (some (128, true)), [11, 10]⟩,
    ⟨(some 131), 131, (.mv (.t 6)), (some (128, true)), [10]⟩,
    ⟨(some 132), 132, (.bin false .eql (.t 130) (.t 131)), (some (128, true)), [12, 13, 10]⟩,
    ⟨(some 133), 133, (.pick (.t 128) (.t 132) (.k (.c (.s (.pv (.bool false)))))), none, [10, 14]⟩,
    ⟨(some 134), 134, (.mv (.t 133)), none, [15, 10]⟩,
    ⟨(some 135), 135, (.fld 0 (.t 22)), (some (134, true)), [16]⟩,
    ⟨(some 136), 136, (.load false 1 (.t 135)), (some (134, true)), [17, 16]⟩,
    ⟨(some 137), 137, (.len (.t 136)), (some (134, true)), [18, 16]⟩,
    ⟨(some 138), 138, (.mv (.t 6)), (some (134, true)), [16]⟩,
    ⟨(some 139), 139, (.bin false .eql (.t 137) (.t 138)), (some (134, true)), [19, 20, 16]⟩,
    ⟨(some 140), 140, (.pick (.t 134) (.t 139) (.k (.c (.s (.pv (.bool false)))))), none, [16, 21]⟩,
    ⟨(some 141), 141, (.mv (.t 140)), none, [22, 16]⟩,
    ⟨(some 142), 142, (.fld 2 (.t 22)), (some (141, true)), [23]⟩,
    ⟨(some 143), 143, (.load false 1 (.t 142)), (some (141, true)), [24, 23]⟩,
    ⟨(some 144), 144, (.len (.t 143)), (some (141, true)), [25, 23]⟩,
    ⟨(some 145), 145, (.bin false .eql (.t 144) (.k (.c (.s (.pv (.int .i64 0)))))), (some (141, true)), [26, 23]⟩,
    ⟨(some 146), 146, (.pick (.t 141) (.t 145) (.k (.c (.s (.pv (.bool false)))))), none, [23, 27]⟩,
    ⟨(some 147), 147, (.mv (.t 146)), none, [28, 23]⟩,
    ⟨(some 148), 148, (.call 25 []), (some (147, true)), [29, 29]⟩,
    ⟨(some 149), 149, (.pick (.t 147) (.t 148) (.k (.c (.s (.pv (.bool false)))))), none, [29, 30]⟩,
    ⟨(some 4), 4, (.mv (.t 149)), none, [31, 30, 0, 1, 2, 3, 4, 5, 6, 7, 8, 9, 10, 11, 12, 13, 14, 15, 16, 17, 18, 19, 20, 21, 22, 23, 24, 25, 26, 27, 28, 29, 30, 31]⟩])
  .ret)))))))))
theorem fn10 : FnIs Try.prog 10 ac10 [(.t 4)] 150 := ⟨Try.f10, Try.func10, by kernel_rfl, by kernel_rfl, by kernel_rfl⟩
/- lockkeeper/lockkeeperlaw08.LatchGives -/
def ac11 : ACode := (.seq (.reg [⟨(some 3), 3, (.box 54 3 (.t 0)), none, []⟩,
    ⟨(some 6), 6, (.mv (.k (.c (.s (.pv (.bool false)))))), none, []⟩])
  (.seq (.reg [⟨(some 18), 18, (.load true 3 (.t 3)), none, []⟩,
    ⟨(some 19), 19, (.call 24 [(.t 18)]), none, [0]⟩,
    ⟨(some 17), 17, (.mv (.t 19)), none, [1]⟩,
    ⟨(some 20), 20, (.ext 0 (.t 17)), none, [2]⟩,
    ⟨(some 21), 21, (.ext 1 (.t 17)), none, [2]⟩,
    ⟨(some 7), 7, (.mk 57 3 [[.zc, (.s (.pv (.bool false))), .zc]]), none, []⟩,
    ⟨none, 72, (.store 3 (.t 7) (.t 20)), none, [5, 3, 1, 0, 1, 2, 3, 5]⟩,
    ⟨(some 8), 8, (.mv (.t 21)), none, [4, 6, 0, 1, 2, 3, 4, 5, 6]⟩])
  (.seq (.seq (.reg [⟨(some 22), 22, (.mv (.t 8)), none, []⟩,
    ⟨(some 23), 23, (.not (.t 22)), none, [0]⟩])
  (.cond (.t 23) (.seq (.reg [⟨(some 24), 24, (.call 25 []), none, []⟩,
    ⟨(some 6), 6, (.mv (.t 24)), none, [0, 0, 0]⟩])
  .ret) .skip))
  (.seq (.reg [⟨(some 26), 26, (.load true 3 (.t 3)), none, []⟩,
    ⟨(some 27), 27, (.mv (.t 1)), none, []⟩,
    ⟨(some 28), 28, (.mv (.t 2)), none, []⟩,
    ⟨(some 29), 29, (.call 28 [(.t 26), (.t 27), (.t 28)]), none, [0, 1, 2]⟩,
    ⟨(some 25), 25, (.mv (.t 29)), none, [3]⟩,
    ⟨(some 30), 30, (.ext 0 (.t 25)), none, [4]⟩,
    ⟨(some 31), 31, (.ext 1 (.t 25)), none, [4]⟩,
    ⟨(some 32), 32, (.ext 2 (.t 25)), none, [4]⟩,
    ⟨(some 9), 9, (.mk 54 3 [[.zc, (.s (.pv (.bool false))), .zc]]), none, []⟩,
    ⟨none, 75, (.store 3 (.t 9) (.t 30)), none, [8, 5, 3, 0, 1, 2, 3, 4, 5, 8]⟩,
    ⟨(some 10), 10, (.mv (.t 31)), none, [6, 9, 0, 1, 2, 3, 4, 5, 6, 8, 9]⟩,
    ⟨(some 11), 11, (.mv (.t 32)), none, [7, 10, 0, 1, 2, 3, 4, 5, 6, 7, 8, 9, 10]⟩])
  (.seq (.seq (.reg [⟨(some 33), 33, (.mv (.t 11)), none, []⟩,
    ⟨(some 34), 34, (.bin false .neq (.t 33) (.k (.c (.s (.pv (.int .i64 0)))))), none, [0]⟩])
  (.cond (.t 34) (.seq (.reg [⟨(some 35), 35, (.call 25 []), none, []⟩,
    ⟨(some 6), 6, (.mv (.t 35)), none, [0, 0, 0]⟩])
  .ret) .skip))
  (.seq (.reg [⟨(some 37), 37, (.load true 3 (.t 9)), none, []⟩,
    ⟨(some 38), 38, (.mv (.t 1)), none, []⟩,
    ⟨(some 39), 39, (.call 29 [(.t 37), (.t 38)]), none, [0, 1]⟩,
    ⟨(some 36), 36, (.mv (.t 39)), none, [2]⟩,
    ⟨(some 40), 40, (.ext 0 (.t 36)), none, [3]⟩,
    ⟨(some 41), 41, (.ext 1 (.t 36)), none, [3]⟩,
    ⟨(some 42), 42, (.ext 2 (.t 36)), none, [3]⟩,
    ⟨(some 12), 12, (.mk 54 3 [[.zc, (.s (.pv (.bool false))), .zc]]), none, []⟩,
    ⟨none, 74, (.store 3 (.t 12) (.t 40)), none, [7, 4, 2, 0, 1, 2, 3, 4, 7]⟩,
    ⟨(some 13), 13, (.mv (.t 41)), none, [5, 8, 0, 1, 2, 3, 4, 5, 7, 8]⟩,
    ⟨(some 14), 14, (.mv (.t 42)), none, [6, 9, 0, 1, 2, 3, 4, 5, 6, 7, 8, 9]⟩])
  (.seq (.reg [⟨(some 44), 44, (.load true 3 (.t 12)), none, []⟩,
    ⟨(some 45), 45, (.call 24 [(.t 44)]), none, [0]⟩,
    ⟨(some 43), 43, (.mv (.t 45)), none, [1]⟩,
    ⟨(some 46), 46, (.ext 0 (.t 43)), none, [2]⟩,
    ⟨(some 47), 47, (.ext 1 (.t 43)), none, [2]⟩,
    ⟨(some 15), 15, (.mk 57 3 [[.zc, (.s (.pv (.bool false))), .zc]]), none, []⟩,
    ⟨none, 72, (.store 3 (.t 15) (.t 46)), none, [5, 3, 1, 0, 1, 2, 3, 5]⟩,
    ⟨(some 16), 16, (.mv (.t 47)), none, [4, 6, 0, 1, 2, 3, 4, 5, 6]⟩])
  (.seq (.reg [⟨(some 48), 48, (.mv (.t 14)), none, []⟩,
    ⟨(some 49), 49, (.bin false .eql (.t 48) (.k (.c (.s (.pv (.int .i64 0)))))), none, [0]⟩,
    ⟨(some 50), 50, (.mv (.t 49)), none, [1]⟩,
    ⟨(some 51), 51, (.mv (.t 13)), (some (50, true)), [2]⟩,
    ⟨(some 52), 52, (.len (.t 51)), (some (50, true)), [3, 2]⟩,
    ⟨(some 53), 53, (.bin false .eql (.t 52) (.k (.c (.s (.pv (.int .i64 0)))))), (some (50, true)), [4, 2]⟩,
    ⟨(some 54), 54, (.pick (.t 50) (.t 53) (.k (.c (.s (.pv (.bool false)))))), none, [2, 5]⟩,
    ⟨(some 55), 55, (.mv (.t 54)), none, [6, 2]⟩,
    ⟨(some 56), 56, (.mv (.t 16)), (some (55, true)), [7]⟩,
    ⟨(some 57), 57, (.pick (.t 55) (.t 56) (.k (.c (.s (.pv (.bool false)))))), none, [7, 8]⟩,
    ⟨(some 58), 58, (.mv (.t 57)), none, [9, 7]⟩,
    ⟨(some 59), 59, (.load true 3 (.t 7)), (some (58, true)), [10]⟩,
    ⟨(some 60), 60, (.load true 3 (.t 15)), (some (58, true)), [10]⟩,
    ⟨(some 61), 61, (.call 31 [(.t 59), (.t 60)]), (some (58, true)), [11, 12, 10, 10]⟩,
    ⟨(some 62), 62, (.pick (.t 58) (.t 61) (.k (.c (.s (.pv (.bool false)))))), none, [10, 13]⟩,
    ⟨(some 63), 63, (.mv (.t 62)), none, [14, 13]⟩,
    ⟨(some 64), 64, (.call 25 []), (some (63, true)), [15, 15]⟩,
    ⟨(some 65), 65, (.pick (.t 63) (.t 64) (.k (.c (.s (.pv (.bool false)))))), none, [15, 16]⟩,
    ⟨(some 6), 6, (.mv (.t 65)), none, [17, 16, 0, 1, 2, 3, 4, 5, 6, 7, 8, 9, 10, 11, 12, 13, 14, 15, 16, 17]⟩])
  .ret))))))))
theorem fn11 : FnIs Try.prog 11 ac11 [(.t 6)] 66 := ⟨Try.f11, Try.func11, by kernel_rfl, by kernel_rfl, by kernel_rfl⟩
/- lockkeeper/lockkeeperlaw08.LatchWriters -/
def ac12 : ACode := (.seq (.reg [⟨(some 2), 2, (.mv (.k (.c (.s (.pv (.bool false)))))), none, []⟩])
  (.seq (.reg [⟨(some 3), 3, (.mk 54 3 [[.zc, (.s (.pv (.bool false))), .zc]]), none, []⟩])
  (.seq (.reg [⟨(some 4), 4, (.mv (.k (.c .zc))), none, []⟩])
  (.seq (.reg [⟨(some 5), 5, (.mk 78 1 [[(.s (.pv (.bool false)))], [(.s (.pv (.bool false)))], [(.s (.pv (.bool false)))], [(.s (.pv (.bool false)))], [(.s (.pv (.bool false)))], [(.s (.pv (.bool false)))], [(.s (.pv (.bool false)))], [(.s (.pv (.bool false)))], [(.s (.pv (.bool false)))], [(.s (.pv (.bool false)))], [(.s (.pv (.bool false)))], [(.s (.pv (.bool false)))], [(.s (.pv (.bool false)))], [(.s (.pv (.bool false)))], [(.s (.pv (.bool false)))], [(.s (.pv (.bool false)))], [(.s (.pv (.bool false)))], [(.s (.pv (.bool false)))], [(.s (.pv (.bool false)))], [(.s (.pv (.bool false)))], [(.s (.pv (.bool false)))], [(.s (.pv (.bool false)))], [(.s (.pv (.bool false)))], [(.s (.pv (.bool false)))], [(.s (.pv (.bool false)))], [(.s (.pv (.bool false)))], [(.s (.pv (.bool false)))], [(.s (.pv (.bool false)))], [(.s (.pv (.bool false)))], [(.s (.pv (.bool false)))], [(.s (.pv (.bool false)))], [(.s (.pv (.bool false)))], [(.s (.pv (.bool false)))], [(.s (.pv (.bool false)))], [(.s (.pv (.bool false)))], [(.s (.pv (.bool false)))], [(.s (.pv (.bool false)))], [(.s (.pv (.bool false)))], [(.s (.pv (.bool false)))], [(.s (.pv (.bool false)))], [(.s (.pv (.bool false)))], [(.s (.pv (.bool false)))], [(.s (.pv (.bool false)))], [(.s (.pv (.bool false)))], [(.s (.pv (.bool false)))], [(.s (.pv (.bool false)))], [(.s (.pv (.bool false)))], [(.s (.pv (.bool false)))], [(.s (.pv (.bool false)))], [(.s (.pv (.bool false)))], [(.s (.pv (.bool false)))], [(.s (.pv (.bool false)))], [(.s (.pv (.bool false)))], [(.s (.pv (.bool false)))], [(.s (.pv (.bool false)))], [(.s (.pv (.bool false)))], [(.s (.pv (.bool false)))], [(.s (.pv (.bool false)))], [(.s (.pv (.bool false)))], [(.s (.pv (.bool false)))], [(.s (.pv (.bool false)))], [(.s (.pv (.bool false)))], [(.s (.pv (.bool false)))], [(.s (.pv (.bool false)))], [(.s (.pv (.bool false)))], [(.s (.pv (.bool false)))], [(.s (.pv (.bool false)))], [(.s (.pv (.bool false)))], [(.s (.pv (.bool false)))], [(.s (.pv (.bool false)))], [(.s (.pv (.bool false)))], [(.s (.pv (.bool false)))], [(.s (.pv (.bool false)))], [(.s (.pv (.bool false)))], [(.s (.pv (.bool false)))], [(.s (.pv (.bool false)))], [(.s (.pv (.bool false)))], [(.s (.pv (.bool false)))], [(.s (.pv (.bool false)))], [(.s (.pv (.bool false)))], [(.s (.pv (.bool false)))], [(.s (.pv (.bool false)))], [(.s (.pv (.bool false)))], [(.s (.pv (.bool false)))], [(.s (.pv (.bool false)))], [(.s (.pv (.bool false)))], [(.s (.pv (.bool false)))], [(.s (.pv (.bool false)))], [(.s (.pv (.bool false)))], [(.s (.pv (.bool false)))], [(.s (.pv (.bool false)))], [(.s (.pv (.bool false)))], [(.s (.pv (.bool false)))], [(.s (.pv (.bool false)))], [(.s (.pv (.bool false)))], [(.s (.pv (.bool false)))], [(.s (.pv (.bool false)))], [(.s (.pv (.bool false)))], [(.s (.pv (.bool false)))], [(.s (.pv (.bool false)))], [(.s (.pv (.bool false)))], [(.s (.pv (.bool false)))], [(.s (.pv (.bool false)))], [(.s (.pv (.bool false)))], [(.s (.pv (.bool false)))], [(.s (.pv (.bool false)))], [(.s (.pv (.bool false)))], [(.s (.pv (.bool false)))], [(.s (.pv (.bool false)))], [(.s (.pv (.bool false)))], [(.s (.pv (.bool false)))], [(.s (.pv (.bool false)))], [(.s (.pv (.bool false)))], [(.s (.pv (.bool false)))], [(.s (.pv (.bool false)))], [(.s (.pv (.bool false)))], [(.s (.pv (.bool false)))], [(.s (.pv (.bool false)))], [(.s (.pv (.bool false)))], [(.s (.pv (.bool false)))], [(.s (.pv (.bool false)))], [(.s (.pv (.bool false)))], [(.s (.pv (.bool false)))], [(.s (.pv (.bool false)))], [(.s (.pv (.bool false)))], [(.s (.pv (.bool false)))], [(.s (.pv (.bool false)))], [(.s (.pv (.bool false)))], [(.s (.pv (.bool false)))], [(.s (.pv (.bool false)))], [(.s (.pv (.bool false)))], [(.s (.pv (.bool false)))], [(.s (.pv (.bool false)))], [(.s (.pv (.bool false)))], [(.s (.pv (.bool false)))], [(.s (.pv (.bool false)))], [(.s (.pv (.bool false)))], [(.s (.pv (.bool false)))], [(.s (.pv (.bool false)))], [(.s (.pv (.bool false)))], [(.s (.pv (.bool false)))], [(.s (.pv (.bool false)))], [(.s (.pv (.bool false)))], [(.s (.pv (.bool false)))], [(.s (.pv (.bool false)))], [(.s (.pv (.bool false)))], [(.s (.pv (.bool false)))], [(.s (.pv (.bool false)))], [(.s (.pv (.bool false)))], [(.s (.pv (.bool false)))], [(.s (.pv (.bool false)))], [(.s (.pv (.bool false)))], [(.s (.pv (.bool false)))], [(.s (.pv (.bool false)))], [(.s (.pv (.bool false)))], [(.s (.pv (.bool false)))], [(.s (.pv (.bool false)))], [(.s (.pv (.bool false)))], [(.s (.pv (.bool false)))], [(.s (.pv (.bool false)))], [(.s (.pv (.bool false)))], [(.s (.pv (.bool false)))], [(.s (.pv (.bool false)))], [(.s (.pv (.bool false)))], [(.s (.pv (.bool false)))], [(.s (.pv (.bool false)))], [(.s (.pv (.bool false)))], [(.s (.pv (.bool false)))], [(.s (.pv (.bool false)))], [(.s (.pv (.bool false)))], [(.s (.pv (.bool false)))], [(.s (.pv (.bool false)))], [(.s (.pv (.bool false)))], [(.s (.pv (.bool false)))], [(.s (.pv (.bool false)))], [(.s (.pv (.bool false)))], [(.s (.pv (.bool false)))], [(.s (.pv (.bool false)))], [(.s (.pv (.bool false)))], [(.s (.pv (.bool false)))], [(.s (.pv (.bool false)))], [(.s (.pv (.bool false)))], [(.s (.pv (.bool false)))], [(.s (.pv (.bool false)))], [(.s (.pv (.bool false)))], [(.s (.pv (.bool false)))], [(.s (.pv (.bool false)))], [(.s (.pv (.bool false)))], [(.s (.pv (.bool false)))], [(.s (.pv (.bool false)))], [(.s (.pv (.bool false)))], [(.s (.pv (.bool false)))], [(.s (.pv (.bool false)))], [(.s (.pv (.bool false)))], [(.s (.pv (.bool false)))], [(.s (.pv (.bool false)))], [(.s (.pv (.bool false)))], [(.s (.pv (.bool false)))], [(.s (.pv (.bool false)))], [(.s (.pv (.bool false)))], [(.s (.pv (.bool false)))], [(.s (.pv (.bool false)))], [(.s (.pv (.bool false)))], [(.s (.pv (.bool false)))], [(.s (.pv (.bool false)))], [(.s (.pv (.bool false)))], [(.s (.pv (.bool false)))], [(.s (.pv (.bool false)))], [(.s (.pv (.bool false)))], [(.s (.pv (.bool false)))], [(.s (.pv (.bool false)))], [(.s (.pv (.bool false)))], [(.s (.pv (.bool false)))], [(.s (.pv (.bool false)))], [(.s (.pv (.bool false)))], [(.s (.pv (.bool false)))], [(.s (.pv (.bool false)))], [(.s (.pv (.bool false)))], [(.s (.pv (.bool false)))], [(.s (.pv (.bool false)))], [(.s (.pv (.bool false)))], [(.s (.pv (.bool false)))], [(.s (.pv (.bool false)))], [(.s (.pv (.bool false)))], [(.s (.pv (.bool false)))], [(.s (.pv (.bool false)))], [(.s (.pv (.bool false)))], [(.s (.pv (.bool false)))], [(.s (.pv (.bool false)))], [(.s (.pv (.bool false)))], [(.s (.pv (.bool false)))], [(.s (.pv (.bool false)))], [(.s (.pv (.bool false)))], [(.s (.pv (.bool false)))], [(.s (.pv (.bool false)))], [(.s (.pv (.bool false)))], [(.s (.pv (.bool false)))], [(.s (.pv (.bool false)))], [(.s (.pv (.bool false)))], [(.s (.pv (.bool false)))], [(.s (.pv (.bool false)))], [(.s (.pv (.bool false)))], [(.s (.pv (.bool false)))], [(.s (.pv (.bool false)))], [(.s (.pv (.bool false)))], [(.s (.pv (.bool false)))], [(.s (.pv (.bool false)))], [(.s (.pv (.bool false)))], [(.s (.pv (.bool false)))], [(.s (.pv (.bool false)))], [(.s (.pv (.bool false)))], [(.s (.pv (.bool false)))], [(.s (.pv (.bool false)))], [(.s (.pv (.bool false)))], [(.s (.pv (.bool false)))], [(.s (.pv (.bool false)))]]), none, []⟩])
  (.seq (.seq (.reg [⟨(some 6), 6, (.mv (.k (.c (.s (.pv (.int .i64 0)))))), none, []⟩])
  (.block 0 (.loop (.seq (.seq (.reg [⟨(some 18), 18, (.mv (.t 6)), none, []⟩,
    ⟨(some 19), 19, (.mv (.t 0)), none, []⟩,
    ⟨(some 20), 20, (.len (.t 19)), none, [1]⟩,
    ⟨(some 21), 21, (.bin false .lss (.t 18) (.t 20)), none, [0, 2]⟩,
    ⟨(some 22), 22, (.mv (.t 21)), none, [3]⟩,
    ⟨(some 23), 23, (.mv (.t 6)), (some (22, true)), [4]⟩,
    ⟨(some 24), 24, (.bin false .lss (.t 23) (.k (.c (.s (.pv (.int .i64 20)))))), (some (22, true)), [5, 4]⟩,
    ⟨(some 25), 25, (.pick (.t 22) (.t 24) (.k (.c (.s (.pv (.bool false)))))), none, [4, 6]⟩])
  (.cond (.t 25) .skip (.exit 0)))
  (.seq (.block 1 (.seq (.reg [⟨(some 28), 28, (.mv (.t 0)), none, []⟩,
    ⟨(some 29), 29, (.mv (.t 6)), none, []⟩,
    ⟨(some 30), 30, (.idx 1 (.t 28) (.t 29)), none, [0, 1]⟩,
    ⟨(some 31), 31, (.load false 1 (.t 30)), none, [2]⟩,
    ⟨(some 32), 32, (.conv .i64 (.t 31)), none, [3]⟩,
    ⟨(some 7), 7, (.mv (.t 32)), none, [4, 0, 1, 2, 3, 4]⟩])
  (.seq (.reg [⟨(some 34), 34, (.load true 3 (.t 3)), none, []⟩,
    ⟨(some 35), 35, (.mv (.t 7)), none, []⟩,
    ⟨(some 36), 36, (.call 28 [(.t 34), (.t 35), (.k (.c (.s (.pv (.bool true)))))]), none, [0, 1]⟩,
    ⟨(some 33), 33, (.mv (.t 36)), none, [2]⟩,
    ⟨(some 37), 37, (.ext 0 (.t 33)), none, [3]⟩,
    ⟨(some 38), 38, (.ext 1 (.t 33)), none, [3]⟩,
    ⟨(some 39), 39, (.ext 2 (.t 33)), none, [3]⟩,
    ⟨(some 8), 8, (.mk 54 3 [[.zc, (.s (.pv (.bool false))), .zc]]), none, []⟩,
    ⟨none, 153, (.store 3 (.t 8) (.t 37)), none, [7, 4, 2, 0, 1, 2, 3, 4, 7]⟩,
    ⟨(some 9), 9, (.mv (.t 38)), none, [5, 8, 0, 1, 2, 3, 4, 5, 7, 8]⟩,
    ⟨(some 10), 10, (.mv (.t 39)), none, [6, 9, 0, 1, 2, 3, 4, 5, 6, 7, 8, 9]⟩])
  (.seq (.seq (.reg [⟨(some 40), 40, (.mv (.t 10)), none, []⟩,
    ⟨(some 41), 41, (.bin false .eql (.t 40) (.k (.c (.s (.pv (.int .i64 0)))))), none, [0]⟩,
    ⟨(some 42), 42, (.mv (.t 7)), none, []⟩,
    ⟨(some 43), 43, (.aidx 256 1 (.t 5) (.t 42)), none, [2]⟩,
    ⟨(some 44), 44, (.load false 1 (.t 43)), none, [3]⟩,
    ⟨(some 45), 45, (.bin true .eql (.t 41) (.t 44)), none, [1, 4]⟩,
    ⟨(some 46), 46, (.mv (.t 45)), none, [5]⟩,
    ⟨(some 47), 47, (.mv (.t 10)), (some (46, false)), [6]⟩,
    ⟨(some 48), 48, (.bin false .eql (.t 47) (.k (.c (.s (.pv (.int .i64 0)))))), (some (46, false)), [7, 6]⟩,
    ⟨(some 49), 49, (.mv (.t 48)), (some (46, false)), [8, 6, 6]⟩,
    ⟨(some 50), 50, (.mv (.t 9)), (some (49, true)), [9]⟩,
    ⟨(some 51), 51, (.mv (.t 4)), (some (49, true)), [9]⟩,
    ⟨(some 52), 52, (.len (.t 51)), (some (49, true)), [11, 9]⟩,
    ⟨(some 53), 53, (.bin false .eql (.t 52) (.k (.c (.s (.pv (.int .i64 0)))))), (some (49, true)), [12, 9]⟩,
    ⟨(some 54), 54, (.bin true .neq (.t 50) (.t 53)), (some (49, true)), [10, 13, 9]⟩,
    ⟨(some 55), 55, (.pick (.t 49) (.t 54) (.k (.c (.s (.pv (.bool false)))))), (some (46, false)), [9, 14, 6]⟩,
    ⟨(some 56), 56, (.pick (.t 46) (.k (.c (.s (.pv (.bool true))))) (.t 55)), none, [6, 15]⟩])
  (.cond (.t 56) (.seq (.reg [⟨(some 2), 2, (.mv (.k (.c (.s (.pv (.bool false)))))), none, []⟩])
  .ret) .skip))
  (.seq (.seq (.reg [⟨(some 57), 57, (.mv (.t 10)), none, []⟩,
    ⟨(some 58), 58, (.bin false .eql (.t 57) (.k (.c (.s (.pv (.int .i64 0)))))), none, [0]⟩])
  (.cond (.t 58) (.seq (.reg [⟨(some 59), 59, (.mv (.t 4)), none, []⟩,
    ⟨(some 60), 60, (.mv (.t 7)), none, []⟩,
    ⟨(some 61), 61, (.bslice 3 1 [(.s (.pv (.int .i64 0)))] 1 [(0, 1, (.t 60))]), none, [1]⟩,
    ⟨(some 62), 62, (.app 3 1 8 (.t 59) (.t 61)), none, [0, 2]⟩,
    ⟨(some 4), 4, (.mv (.t 62)), none, [3, 3, 0, 1, 2, 3]⟩])
  (.reg [⟨(some 63), 63, (.mv (.t 7)), none, []⟩,
    ⟨(some 64), 64, (.aidx 256 1 (.t 5) (.t 63)), none, [0, 0]⟩,
    ⟨none, 147, (.store 1 (.t 64) (.k (.c (.s (.pv (.bool true)))))), none, [1, 0]⟩])) .skip))
  (.reg [⟨(some 65), 65, (.load true 3 (.t 8)), none, []⟩,
    ⟨none, 146, (.store 3 (.t 3) (.t 65)), none, [0, 0]⟩]))))))
  (.reg [⟨(some 26), 26, (.mv (.t 6)), none, []⟩,
    ⟨(some 27), 27, (.bin false .add (.t 26) (.k (.c (.s (.pv (.int .i64 1)))))), none, [0]⟩,
    ⟨(some 6), 6, (.mv (.t 27)), none, [1, 0, 1]⟩]))))))
  (.seq (.seq (.reg [⟨(some 66), 66, (.mv (.t 4)), none, []⟩,
    ⟨(some 67), 67, (.len (.t 66)), none, [0]⟩,
    ⟨(some 68), 68, (.mv (.k (.c (.s (.pv (.int .i64 0)))))), none, []⟩])
  (.block 2 (.loop (.seq (.reg [⟨(some 69), 69, (.bin false .lss (.t 68) (.t 67)), none, []⟩])
  (.seq (.cond (.t 69) .skip (.exit 2))
  (.seq (.block 3 (.seq (.reg [⟨(some 70), 70, (.mv (.t 68)), none, []⟩,
    ⟨(some 71), 71, (.idx 1 (.t 66) (.t 68)), none, []⟩,
    ⟨(some 72), 72, (.load false 1 (.t 71)), none, [1]⟩,
    ⟨(some 11), 11, (.mv (.t 70)), none, [0, 0, 1, 2]⟩,
    ⟨(some 12), 12, (.mv (.t 72)), none, [2, 3, 0, 1, 2, 3]⟩])
  (.seq (.reg [⟨(some 74), 74, (.load true 3 (.t 3)), none, []⟩,
    ⟨(some 75), 75, (.mv (.t 12)), none, []⟩,
    ⟨(some 76), 76, (.call 35 [(.t 74), (.t 75)]), none, [0, 1]⟩,
    ⟨(some 73), 73, (.mv (.t 76)), none, [2]⟩,
    ⟨(some 77), 77, (.ext 0 (.t 73)), none, [3]⟩,
    ⟨(some 78), 78, (.ext 1 (.t 73)), none, [3]⟩,
    ⟨(some 13), 13, (.mv (.t 77)), none, [4, 2, 0, 1, 2, 3, 4]⟩,
    ⟨(some 14), 14, (.mv (.t 78)), none, [5, 6, 0, 1, 2, 3, 4, 5, 6]⟩])
  (.seq (.reg [⟨(some 80), 80, (.load true 3 (.t 3)), none, []⟩,
    ⟨(some 81), 81, (.mv (.t 12)), none, []⟩,
    ⟨(some 82), 82, (.call 29 [(.t 80), (.t 81)]), none, [0, 1]⟩,
    ⟨(some 79), 79, (.mv (.t 82)), none, [2]⟩,
    ⟨(some 83), 83, (.ext 0 (.t 79)), none, [3]⟩,
    ⟨(some 84), 84, (.ext 1 (.t 79)), none, [3]⟩,
    ⟨(some 85), 85, (.ext 2 (.t 79)), none, [3]⟩,
    ⟨(some 15), 15, (.mk 54 3 [[.zc, (.s (.pv (.bool false))), .zc]]), none, []⟩,
    ⟨none, 153, (.store 3 (.t 15) (.t 83)), none, [7, 4, 2, 0, 1, 2, 3, 4, 7]⟩,
    ⟨(some 16), 16, (.mv (.t 84)), none, [5, 8, 0, 1, 2, 3, 4, 5, 7, 8]⟩,
    ⟨(some 17), 17, (.mv (.t 85)), none, [6, 9, 0, 1, 2, 3, 4, 5, 6, 7, 8, 9]⟩])
  (.seq (.seq (.draw [⟨(some 86), 86, (.mv (.t 13)), none, []⟩,
    ⟨(some 87), 87, (.not (.t 86)), none, [0]⟩,
    ⟨(some 88), 88, (.mv (.t 87)), none, [1]⟩,
    ⟨(some 89), 89, (.mv (.t 14)), (some (88, false)), [2]⟩,
    ⟨(some 90), 90, (.not (.t 89)), (some (88, false)), [3, 2]⟩,
    ⟨(some 91), 91, (.pick (.t 88) (.k (.c (.s (.pv (.bool true))))) (.t 90)), none, [2, 4]⟩,
    ⟨(some 92), 92, (.mv (.t 91)), none, [5, 2]⟩,
    ⟨(some 93), 93, (.mv (.t 17)), (some (92, false)), [6]⟩,
    ⟨(some 94), 94, (.bin false .neq (.t 93) (.k (.c (.s (.pv (.int .i64 0)))))), (some (92, false)), [7, 6]⟩,
    ⟨(some 95), 95, (.pick (.t 92) (.k (.c (.s (.pv (.bool true))))) (.t 94)), none, [6, 8]⟩,
    ⟨(some 96), 96, (.mv (.t 95)), none, [9, 6]⟩,
    ⟨(some 97), 97, (.mv (.t 16)), (some (96, false)), [10]⟩,
    ⟨(some 98), 98, (.len (.t 97)), (some (96, false)), [11, 10]⟩,
    ⟨(some 99), 99, (.bin false .eql (.t 98) (.k (.c (.s (.pv (.int .i64 1)))))), (some (96, false)), [12, 10]⟩,
    ⟨(some 100), 100, (.mv (.t 11)), (some (96, false)), [10]⟩,
    ⟨(some 101), 101, (.bin false .add (.t 100) (.k (.c (.s (.pv (.int .i64 1)))))), (some (96, false)), [14, 10]⟩,
    ⟨(some 102), 102, (.mv (.t 4)), (some (96, false)), [10]⟩,
    ⟨(some 103), 103, (.len (.t 102)), (some (96, false)), [16, 10]⟩,
    ⟨(some 104), 104, (.bin false .lss (.t 101) (.t 103)), (some (96, false)), [15, 17, 10]⟩,
    ⟨(some 105), 105, (.bin true .neq (.t 99) (.t 104)), (some (96, false)), [13, 18, 10]⟩,
    ⟨(some 106), 106, (.pick (.t 96) (.k (.c (.s (.pv (.bool true))))) (.t 105)), none, [10, 19]⟩,
    ⟨(some 107), 107, (.mv (.t 106)), none, [20, 10]⟩,
    ⟨(some 108), 108, (.mv (.t 16)), (some (107, false)), [21]⟩,
    ⟨(some 109), 109, (.len (.t 108)), (some (107, false)), [22, 21]⟩,
    ⟨(some 110), 110, (.bin false .gtr (.t 109) (.k (.c (.s (.pv (.int .i64 1)))))), (some (107, false)), [23, 21]⟩,
    ⟨(some 111), 111, (.pick (.t 107) (.k (.c (.s (.pv (.bool true))))) (.t 110)), none, [21, 24]⟩,
    ⟨(some 112), 112, (.mv (.t 111)), none, [25, 21]⟩,
    ⟨(some 113), 113, (.mv (.t 16)), (some (112, false)), [26]⟩,
    ⟨(some 114), 114, (.len (.t 113)), (some (112, false)), [27, 26]⟩,
    ⟨(some 115), 115, (.bin false .eql (.t 114) (.k (.c (.s (.pv (.int .i64 1)))))), (some (112, false)), [28, 26]⟩,
    ⟨(some 116), 116, (.mv (.t 115)), (some (112, false)), [29, 26, 26]⟩,
    ⟨(some 117), 117, (.mv (.t 16)), (some (116, true)), [30]⟩,
    ⟨(some 118), 118, (.idx 1 (.t 117) (.k (.c (.s (.pv (.int .i64 0)))))), (some (116, true)), [31, 30]⟩,
    ⟨(some 119), 119, (.load false 1 (.t 118)), (some (116, true)), [32, 30]⟩,
    ⟨(some 120), 120, (.mv (.t 4)), (some (116, true)), [30]⟩,
    ⟨(some 121), 121, (.mv (.t 11)), (some (116, true)), [30]⟩,
    ⟨(some 122), 122, (.bin false .add (.t 121) (.k (.c (.s (.pv (.int .i64 1)))))), (some (116, true)), [35, 30]⟩,
    ⟨(some 123), 123, (.mv (.t 4)), (some (116, true)), [30]⟩,
    ⟨(some 124), 124, (.len (.t 123)), (some (116, true)), [37, 30]⟩,
    ⟨(some 125), 125, (.bin false .sub (.t 124) (.k (.c (.s (.pv (.int .i64 1)))))), (some (116, true)), [38, 30]⟩,
    ⟨(some 126), 126, (.mm false (.t 122) (.t 125)), (some (116, true)), [36, 39, 30]⟩,
    ⟨(some 127), 127, (.idx 1 (.t 120) (.t 126)), (some (116, true)), [34, 40, 30]⟩,
    ⟨(some 128), 128, (.load false 1 (.t 127)), (some (116, true)), [41, 30]⟩,
    ⟨(some 129), 129, (.bin false .neq (.t 119) (.t 128)), (some (116, true)), [33, 42, 30]⟩,
    ⟨(some 130), 130, (.pick (.t 116) (.t 129) (.k (.c (.s (.pv (.bool false)))))), (some (112, false)), [30, 43, 26]⟩,
    ⟨(some 131), 131, (.pick (.t 112) (.k (.c (.s (.pv (.bool true))))) (.t 130)), none, [26, 44]⟩])
  (.cond (.t 131) (.seq (.reg [⟨(some 2), 2, (.mv (.k (.c (.s (.pv (.bool false)))))), none, []⟩])
  .ret) .skip))
  (.reg [⟨(some 132), 132, (.load true 3 (.t 15)), none, []⟩,
    ⟨none, 146, (.store 3 (.t 3) (.t 132)), none, [0, 0]⟩]))))))
  (.reg [⟨(some 133), 133, (.bin false .add (.t 68) (.k (.c (.s (.pv (.int .i64 1)))))), none, []⟩,
    ⟨(some 68), 68, (.mv (.t 133)), none, [0]⟩])))))))
  (.seq (.reg [⟨(some 134), 134, (.fld 0 (.t 3)), none, []⟩,
    ⟨(some 135), 135, (.load false 1 (.t 134)), none, [0]⟩,
    ⟨(some 136), 136, (.len (.t 135)), none, [1]⟩,
    ⟨(some 137), 137, (.fld 2 (.t 3)), none, []⟩,
    ⟨(some 138), 138, (.load false 1 (.t 137)), none, [3]⟩,
    ⟨(some 139), 139, (.len (.t 138)), none, [4]⟩,
    ⟨(some 140), 140, (.bin false .add (.t 136) (.t 139)), none, [2, 5]⟩,
    ⟨(some 141), 141, (.bin false .eql (.t 140) (.k (.c (.s (.pv (.int .i64 0)))))), none, [6]⟩,
    ⟨(some 142), 142, (.mv (.t 141)), none, [7]⟩,
    ⟨(some 143), 143, (.call 25 []), (some (142, true)), [8, 8]⟩,
    ⟨(some 144), 144, (.pick (.t 142) (.t 143) (.k (.c (.s (.pv (.bool false)))))), none, [8, 9]⟩,
    ⟨(some 2), 2, (.mv (.t 144)), none, [10, 9, 0, 1, 2, 3, 4, 5, 6, 7, 8, 9, 10]⟩])
  .ret)))))))
theorem fn12 : FnIs Try.prog 12 ac12 [(.t 2)] 145 := ⟨Try.f12, Try.func12, by kernel_rfl, by kernel_rfl, by kernel_rfl⟩
/- lockkeeper/lockkeeperlaw08.ref -/
def ac24 : ACode := (.seq (.reg [⟨(some 1), 1, (.box 54 3 (.t 0)), none, []⟩,
    ⟨(some 2), 2, (.mk 57 3 [[.zc, (.s (.pv (.bool false))), .zc]]), none, []⟩,
    ⟨(some 3), 3, (.mv (.k (.c (.s (.pv (.bool false)))))), none, []⟩])
  (.seq (.reg [⟨(some 8), 8, (.fld 0 (.t 1)), none, []⟩,
    ⟨(some 9), 9, (.load false 1 (.t 8)), none, [0]⟩,
    ⟨(some 10), 10, (.fld 1 (.t 1)), none, []⟩,
    ⟨(some 11), 11, (.load false 1 (.t 10)), none, [2]⟩,
    ⟨(some 12), 12, (.build [.zc, (.s (.pv (.bool false))), .zc] [(0, 1, (.t 9)), (1, 1, (.t 11))]), none, [1, 3]⟩,
    ⟨(some 4), 4, (.mk 57 3 [[.zc, (.s (.pv (.bool false))), .zc]]), none, []⟩,
    ⟨none, 45, (.store 3 (.t 4) (.t 12)), none, [5, 4, 0, 1, 2, 3, 4, 5]⟩])
  (.seq (.seq (.reg [⟨(some 13), 13, (.fld 0 (.t 1)), none, []⟩,
    ⟨(some 14), 14, (.load false 1 (.t 13)), none, [0]⟩,
    ⟨(some 15), 15, (.len (.t 14)), none, [1]⟩,
    ⟨(some 16), 16, (.bin false .gtr (.t 15) (.k (.c (.s (.pv (.int .i64 80)))))), none, [2]⟩,
    ⟨(some 17), 17, (.mv (.t 16)), none, [3]⟩,
    ⟨(some 18), 18, (.fld 2 (.t 1)), (some (17, false)), [4]⟩,
    ⟨(some 19), 19, (.load false 1 (.t 18)), (some (17, false)), [5, 4]⟩,
    ⟨(some 20), 20, (.len (.t 19)), (some (17, false)), [6, 4]⟩,
    ⟨(some 21), 21, (.bin false .gtr (.t 20) (.k (.c (.s (.pv (.int .i64 80)))))), (some (17, false)), [7, 4]⟩,
    ⟨(some 22), 22, (.pick (.t 17) (.k (.c (.s (.pv (.bool true))))) (.t 21)), none, [4, 8]⟩])
  (.cond (.t 22) (.seq (.reg [⟨(some 23), 23, (.load true 3 (.t 4)), none, []⟩,
    ⟨none, 40, (.store 3 (.t 2) (.t 23)), none, [0, 0]⟩,
    ⟨(some 3), 3, (.mv (.k (.c (.s (.pv (.bool false)))))), none, [1, 0, 1]⟩])
  .ret) .skip))
  (.seq (.reg [⟨(some 5), 5, (.mv (.k (.c .zc))), none, []⟩])
  (.seq (.seq (.reg [⟨(some 24), 24, (.fld 2 (.t 1)), none, []⟩,
    ⟨(some 25), 25, (.load false 1 (.t 24)), none, [0]⟩,
    ⟨(some 26), 26, (.len (.t 25)), none, [1]⟩,
    ⟨(some 27), 27, (.mv (.k (.c (.s (.pv (.int .i64 0)))))), none, []⟩])
  (.block 0 (.loop (.seq (.reg [⟨(some 28), 28, (.bin false .lss (.t 27) (.t 26)), none, []⟩])
  (.seq (.cond (.t 28) .skip (.exit 0))
  (.seq (.block 1 (.seq (.reg [⟨(some 29), 29, (.idx 2 (.t 25) (.t 27)), none, []⟩,
    ⟨(some 30), 30, (.load true 2 (.t 29)), none, [0]⟩,
    ⟨(some 7), 7, (.mk 88 2 [[(.s (.pv (.int .i64 0))), (.s (.pv (.bool false)))]]), none, []⟩,
    ⟨none, 42, (.store 2 (.t 7) (.t 30)), none, [2, 1, 0, 1, 2]⟩])
  (.reg [⟨(some 31), 31, (.mv (.t 5)), none, []⟩,
    ⟨(some 32), 32, (.load true 2 (.t 7)), none, []⟩,
    ⟨(some 33), 33, (.bslice 89 2 [(.s (.pv (.int .i64 0))), (.s (.pv (.bool false)))] 1 [(0, 2, (.t 32))]), none, [1]⟩,
    ⟨(some 34), 34, (.app 89 2 16 (.t 31) (.t 33)), none, [0, 2]⟩,
    ⟨(some 5), 5, (.mv (.t 34)), none, [3, 3, 0, 1, 2, 3]⟩])))
  (.reg [⟨(some 35), 35, (.bin false .add (.t 27) (.k (.c (.s (.pv (.int .i64 1)))))), none, []⟩,
    ⟨(some 27), 27, (.mv (.t 35)), none, [0]⟩])))))))
  (.seq (.reg [⟨(some 36), 36, (.mv (.t 5)), none, []⟩,
    ⟨(some 37), 37, (.fld 2 (.t 4)), none, [0]⟩,
    ⟨none, 41, (.store 1 (.t 37) (.t 36)), none, [1, 0, 0]⟩])
  (.seq (.reg [⟨(some 38), 38, (.load true 3 (.t 4)), none, []⟩,
    ⟨none, 40, (.store 3 (.t 2) (.t 38)), none, [0, 0]⟩,
    ⟨(some 3), 3, (.mv (.k (.c (.s (.pv (.bool true)))))), none, [1, 0, 1]⟩])
  .ret)))))))
theorem fn24 : FnIs Try.prog 24 ac24 [(.cell 2 true 3), (.t 3)] 39 := ⟨Try.f24, Try.func24, by kernel_rfl, by kernel_rfl, by kernel_rfl⟩
/- lockkeeper/lockkeeperlaw08.awake -/
def ac25 : ACode := (.seq (.reg [⟨(some 0), 0, (.mv (.k (.c (.s (.pv (.bool false)))))), none, []⟩])
  (.seq (.reg [⟨(some 14), 14, (.build [.zc, (.s (.pv (.bool false))), .zc] []), none, []⟩,
    ⟨(some 15), 15, (.call 28 [(.t 14), (.k (.c (.s (.pv (.int .i64 1))))), (.k (.c (.s (.pv (.bool false)))))]), none, [0]⟩,
    ⟨(some 13), 13, (.mv (.t 15)), none, [1]⟩,
    ⟨(some 16), 16, (.ext 0 (.t 13)), none, [2]⟩,
    ⟨(some 17), 17, (.ext 1 (.t 13)), none, [2]⟩,
    ⟨(some 18), 18, (.ext 2 (.t 13)), none, [2]⟩,
    ⟨(some 1), 1, (.mk 54 3 [[.zc, (.s (.pv (.bool false))), .zc]]), none, []⟩,
    ⟨none, 91, (.store 3 (.t 1) (.t 16)), none, [6, 3, 1, 0, 1, 2, 3, 6]⟩,
    ⟨(some 2), 2, (.mv (.t 17)), none, [4, 7, 0, 1, 2, 3, 4, 6, 7]⟩,
    ⟨(some 3), 3, (.mv (.t 18)), none, [5, 8, 0, 1, 2, 3, 4, 5, 6, 7, 8]⟩])
  (.seq (.reg [⟨(some 20), 20, (.load true 3 (.t 1)), none, []⟩,
    ⟨(some 21), 21, (.call 28 [(.t 20), (.k (.c (.s (.pv (.int .i64 3))))), (.k (.c (.s (.pv (.bool true)))))]), none, [0]⟩,
    ⟨(some 19), 19, (.mv (.t 21)), none, [1]⟩,
    ⟨(some 22), 22, (.ext 0 (.t 19)), none, [2]⟩,
    ⟨(some 23), 23, (.ext 1 (.t 19)), none, [2]⟩,
    ⟨(some 24), 24, (.ext 2 (.t 19)), none, [2]⟩,
    ⟨none, 90, (.store 3 (.t 1) (.t 22)), none, [3, 1, 0, 1, 2, 3]⟩,
    ⟨(some 4), 4, (.mv (.t 23)), none, [4, 6, 0, 1, 2, 3, 4, 6]⟩,
    ⟨(some 5), 5, (.mv (.t 24)), none, [5, 7, 0, 1, 2, 3, 4, 5, 6, 7]⟩])
  (.seq (.reg [⟨(some 26), 26, (.load true 3 (.t 1)), none, []⟩,
    ⟨(some 27), 27, (.call 28 [(.t 26), (.k (.c (.s (.pv (.int .i64 4))))), (.k (.c (.s (.pv (.bool false)))))]), none, [0]⟩,
    ⟨(some 25), 25, (.mv (.t 27)), none, [1]⟩,
    ⟨(some 28), 28, (.ext 0 (.t 25)), none, [2]⟩,
    ⟨(some 29), 29, (.ext 1 (.t 25)), none, [2]⟩,
    ⟨(some 30), 30, (.ext 2 (.t 25)), none, [2]⟩,
    ⟨none, 90, (.store 3 (.t 1) (.t 28)), none, [3, 1, 0, 1, 2, 3]⟩,
    ⟨(some 6), 6, (.mv (.t 29)), none, [4, 6, 0, 1, 2, 3, 4, 6]⟩,
    ⟨(some 7), 7, (.mv (.t 30)), none, [5, 7, 0, 1, 2, 3, 4, 5, 6, 7]⟩])
  (.seq (.reg [⟨(some 32), 32, (.load true 3 (.t 1)), none, []⟩,
    ⟨(some 33), 33, (.call 29 [(.t 32), (.k (.c (.s (.pv (.int .i64 1)))))]), none, [0]⟩,
    ⟨(some 31), 31, (.mv (.t 33)), none, [1]⟩,
    ⟨(some 34), 34, (.ext 0 (.t 31)), none, [2]⟩,
    ⟨(some 35), 35, (.ext 1 (.t 31)), none, [2]⟩,
    ⟨(some 36), 36, (.ext 2 (.t 31)), none, [2]⟩,
    ⟨(some 8), 8, (.mk 54 3 [[.zc, (.s (.pv (.bool false))), .zc]]), none, []⟩,
    ⟨none, 91, (.store 3 (.t 8) (.t 34)), none, [6, 3, 1, 0, 1, 2, 3, 6]⟩,
    ⟨(some 9), 9, (.mv (.t 35)), none, [4, 7, 0, 1, 2, 3, 4, 6, 7]⟩,
    ⟨(some 10), 10, (.mv (.t 36)), none, [5, 8, 0, 1, 2, 3, 4, 5, 6, 7, 8]⟩])
  (.seq (.reg [⟨(some 38), 38, (.load true 3 (.t 8)), none, []⟩,
    ⟨(some 39), 39, (.call 35 [(.t 38), (.k (.c (.s (.pv (.int .i64 3)))))]), none, [0]⟩,
    ⟨(some 37), 37, (.mv (.t 39)), none, [1]⟩,
    ⟨(some 40), 40, (.ext 0 (.t 37)), none, [2]⟩,
    ⟨(some 41), 41, (.ext 1 (.t 37)), none, [2]⟩,
    ⟨(some 11), 11, (.mv (.t 40)), none, [3, 1, 0, 1, 2, 3]⟩,
    ⟨(some 12), 12, (.mv (.t 41)), none, [4, 5, 0, 1, 2, 3, 4, 5]⟩])
  (.seq (.reg [⟨(some 42), 42, (.mv (.t 2)), none, []⟩,
    ⟨(some 43), 43, (.mv (.t 42)), none, [0]⟩,
    ⟨(some 44), 44, (.mv (.t 3)), (some (43, true)), [1]⟩,
    ⟨(some 45), 45, (.bin false .eql (.t 44) (.k (.c (.s (.pv (.int .i64 0)))))), (some (43, true)), [2, 1]⟩,
    ⟨(some 46), 46, (.pick (.t 43) (.t 45) (.k (.c (.s (.pv (.bool false)))))), none, [1, 3]⟩,
    ⟨(some 47), 47, (.mv (.t 46)), none, [4, 1]⟩,
    ⟨(some 48), 48, (.mv (.t 4)), (some (47, true)), [5]⟩,
    ⟨(some 49), 49, (.not (.t 48)), (some (47, true)), [6, 5]⟩,
    ⟨(some 50), 50, (.pick (.t 47) (.t 49) (.k (.c (.s (.pv (.bool false)))))), none, [5, 7]⟩,
    ⟨(some 51), 51, (.mv (.t 50)), none, [8, 5]⟩,
    ⟨(some 52), 52, (.mv (.t 5)), (some (51, true)), [9]⟩,
    ⟨(some 53), 53, (.bin false .eql (.t 52) (.k (.c (.s (.pv (.int .i64 0)))))), (some (51, true)), [10, 9]⟩,
    ⟨(some 54), 54, (.pick (.t 51) (.t 53) (.k (.c (.s (.pv (.bool false)))))), none, [9, 11]⟩,
    ⟨(some 55), 55, (.mv (.t 54)), none, [12, 9]⟩,
    ⟨(some 56), 56, (.mv (.t 6)), (some (55, true)), [13]⟩,
    ⟨(some 57), 57, (.not (.t 56)), (some (55, true)), [14, 13]⟩,
    ⟨(some 58), 58, (.pick (.t 55) (.t 57) (.k (.c (.s (.pv (.bool false)))))), none, [13, 15]⟩,
    ⟨(some 59), 59, (.mv (.t 58)), none, [16, 13]⟩,
    ⟨(some 60), 60, (.mv (.t 7)), (some (59, true)), [17]⟩,
    ⟨(some 61), 61, (.bin false .eql (.t 60) (.k (.c (.s (.pv (.int .i64 0)))))), (some (59, true)), [18, 17]⟩,
    ⟨(some 62), 62, (.pick (.t 59) (.t 61) (.k (.c (.s (.pv (.bool false)))))), none, [17, 19]⟩,
    ⟨(some 63), 63, (.mv (.t 62)), none, [20, 17]⟩,
    ⟨(some 64), 64, (.mv (.t 9)), (some (63, true)), [21]⟩,
    ⟨(some 65), 65, (.len (.t 64)), (some (63, true)), [22, 21]⟩,
    ⟨(some 66), 66, (.bin false .eql (.t 65) (.k (.c (.s (.pv (.int .i64 1)))))), (some (63, true)), [23, 21]⟩,
    ⟨(some 67), 67, (.pick (.t 63) (.t 66) (.k (.c (.s (.pv (.bool false)))))), none, [21, 24]⟩,
    ⟨(some 68), 68, (.mv (.t 67)), none, [25, 21]⟩,
    ⟨(some 69), 69, (.mv (.t 9)), (some (68, true)), [26]⟩,
    ⟨(some 70), 70, (.idx 1 (.t 69) (.k (.c (.s (.pv (.int .i64 0)))))), (some (68, true)), [27, 26]⟩,
    ⟨(some 71), 71, (.load false 1 (.t 70)), (some (68, true)), [28, 26]⟩,
    ⟨(some 72), 72, (.bin false .eql (.t 71) (.k (.c (.s (.pv (.int .i64 3)))))), (some (68, true)), [29, 26]⟩,
    ⟨(some 73), 73, (.pick (.t 68) (.t 72) (.k (.c (.s (.pv (.bool false)))))), none, [26, 30]⟩,
    ⟨(some 74), 74, (.mv (.t 73)), none, [31, 26]⟩,
    ⟨(some 75), 75, (.mv (.t 10)), (some (74, true)), [32]⟩,
    ⟨(some 76), 76, (.bin false .eql (.t 75) (.k (.c (.s (.pv (.int .i64 0)))))), (some (74, true)), [33, 32]⟩,
    ⟨(some 77), 77, (.pick (.t 74) (.t 76) (.k (.c (.s (.pv (.bool false)))))), none, [32, 34]⟩,
    ⟨(some 78), 78, (.mv (.t 77)), none, [35, 32]⟩,
    ⟨(some 79), 79, (.mv (.t 11)), (some (78, true)), [36]⟩,
    ⟨(some 80), 80, (.pick (.t 78) (.t 79) (.k (.c (.s (.pv (.bool false)))))), none, [36, 37]⟩,
    ⟨(some 81), 81, (.mv (.t 80)), none, [38, 36]⟩,
    ⟨(some 82), 82, (.mv (.t 12)), (some (81, true)), [39]⟩,
    ⟨(some 83), 83, (.pick (.t 81) (.t 82) (.k (.c (.s (.pv (.bool false)))))), none, [39, 40]⟩,
    ⟨(some 0), 0, (.mv (.t 83)), none, [41, 39, 0, 1, 2, 3, 4, 5, 6, 7, 8, 9, 10, 11, 12, 13, 14, 15, 16, 17, 18, 19, 20, 21, 22, 23, 24, 25, 26, 27, 28, 29, 30, 31, 32, 33, 34, 35, 36, 37, 38, 39, 40, 41]⟩])
  .ret)))))))
theorem fn25 : FnIs Try.prog 25 ac25 [(.t 0)] 84 := ⟨Try.f25, Try.func25, by kernel_rfl, by kernel_rfl, by kernel_rfl⟩
/- lockkeeper/lockkeeperref08.Right -/
def ac26 : ACode := (.seq (.reg [⟨(some 1), 1, (.box 57 3 (.t 0)), none, []⟩,
    ⟨(some 2), 2, (.mv (.k (.c (.s (.pv (.bool false)))))), none, []⟩])
  (.seq (.seq (.reg [⟨(some 7), 7, (.fld 0 (.t 1)), none, []⟩,
    ⟨(some 8), 8, (.load false 1 (.t 7)), none, [0]⟩,
    ⟨(some 9), 9, (.len (.t 8)), none, [1]⟩,
    ⟨(some 10), 10, (.fld 2 (.t 1)), none, []⟩,
    ⟨(some 11), 11, (.load false 1 (.t 10)), none, [3]⟩,
    ⟨(some 12), 12, (.len (.t 11)), none, [4]⟩,
    ⟨(some 13), 13, (.bin false .add (.t 9) (.t 12)), none, [2, 5]⟩,
    ⟨(some 14), 14, (.bin false .gtr (.t 13) (.k (.c (.s (.pv (.int .i64 64)))))), none, [6]⟩,
    ⟨(some 15), 15, (.mv (.t 14)), none, [7]⟩,
    ⟨(some 16), 16, (.fld 1 (.t 1)), (some (15, false)), [8]⟩,
    ⟨(some 17), 17, (.load false 1 (.t 16)), (some (15, false)), [9, 8]⟩,
    ⟨(some 18), 18, (.mv (.t 17)), (some (15, false)), [10, 8, 8]⟩,
    ⟨(some 19), 19, (.fld 0 (.t 1)), (some (18, true)), [11]⟩,
    ⟨(some 20), 20, (.load false 1 (.t 19)), (some (18, true)), [12, 11]⟩,
    ⟨(some 21), 21, (.len (.t 20)), (some (18, true)), [13, 11]⟩,
    ⟨(some 22), 22, (.bin false .neq (.t 21) (.k (.c (.s (.pv (.int .i64 1)))))), (some (18, true)), [14, 11]⟩,
    ⟨(some 23), 23, (.pick (.t 18) (.t 22) (.k (.c (.s (.pv (.bool false)))))), (some (15, false)), [11, 15, 8]⟩,
    ⟨(some 24), 24, (.pick (.t 15) (.k (.c (.s (.pv (.bool true))))) (.t 23)), none, [8, 16]⟩,
    ⟨(some 25), 25, (.mv (.t 24)), none, [17, 11]⟩,
    ⟨(some 26), 26, (.load true 3 (.t 1)), (some (25, false)), [18]⟩,
    ⟨(some 27), 27, (.call 45 [(.t 26)]), (some (25, false)), [19, 18, 18]⟩,
    ⟨(some 28), 28, (.pick (.t 25) (.k (.c (.s (.pv (.bool true))))) (.t 27)), none, [18, 20]⟩])
  (.cond (.t 28) (.seq (.reg [⟨(some 2), 2, (.mv (.k (.c (.s (.pv (.bool false)))))), none, []⟩])
  .ret) .skip))
  (.seq (.seq (.reg [⟨(some 3), 3, (.mv (.k (.c (.s (.pv (.int .i64 0)))))), none, []⟩])
  (.block 0 (.loop (.seq (.seq (.reg [⟨(some 29), 29, (.mv (.t 3)), none, []⟩,
    ⟨(some 30), 30, (.fld 0 (.t 1)), none, []⟩,
    ⟨(some 31), 31, (.load false 1 (.t 30)), none, [1]⟩,
    ⟨(some 32), 32, (.len (.t 31)), none, [2]⟩,
    ⟨(some 33), 33, (.bin false .lss (.t 29) (.t 32)), none, [0, 3]⟩])
  (.cond (.t 33) .skip (.exit 0)))
  (.seq (.block 1 (.seq (.reg [⟨(some 36), 36, (.fld 0 (.t 1)), none, []⟩,
    ⟨(some 37), 37, (.load false 1 (.t 36)), none, [0]⟩,
    ⟨(some 38), 38, (.mv (.t 3)), none, []⟩,
    ⟨(some 39), 39, (.idx 1 (.t 37) (.t 38)), none, [1, 2]⟩,
    ⟨(some 40), 40, (.load false 1 (.t 39)), none, [3]⟩,
    ⟨(some 4), 4, (.mv (.t 40)), none, [4, 0, 1, 2, 3, 4]⟩])
  (.seq (.reg [⟨(some 41), 41, (.mv (.t 4)), none, []⟩,
    ⟨(some 42), 42, (.bin false .lss (.t 41) (.k (.c (.s (.pv (.int .i64 0)))))), none, [0]⟩,
    ⟨(some 43), 43, (.mv (.t 42)), none, [1]⟩,
    ⟨(some 44), 44, (.mv (.t 4)), (some (43, false)), [2]⟩,
    ⟨(some 45), 45, (.bin false .gtr (.t 44) (.k (.c (.s (.pv (.int .i64 2147483647)))))), (some (43, false)), [3, 2]⟩,
    ⟨(some 46), 46, (.pick (.t 43) (.k (.c (.s (.pv (.bool true))))) (.t 45)), none, [2, 4]⟩,
    ⟨(some 47), 47, (.mv (.t 46)), none, [5, 2]⟩,
    ⟨(some 48), 48, (.load true 3 (.t 1)), (some (47, false)), [6]⟩,
    ⟨(some 49), 49, (.mv (.t 4)), (some (47, false)), [6]⟩,
    ⟨(some 50), 50, (.call 27 [(.t 48), (.t 49)]), (some (47, false)), [7, 8, 6, 6]⟩,
    ⟨(some 51), 51, (.bin false .neq (.t 50) (.k (.c (.s (.pv (.int .i64 1)))))), (some (47, false)), [9, 6]⟩,
    ⟨(some 52), 52, (.pick (.t 47) (.k (.c (.s (.pv (.bool true))))) (.t 51)), none, [6, 10]⟩,
    ⟨(some 53), 53, (.mv (.t 52)), none, [11, 9]⟩,
    ⟨(some 54), 54, (.mv (.t 3)), (some (53, false)), [12]⟩,
    ⟨(some 55), 55, (.bin false .gtr (.t 54) (.k (.c (.s (.pv (.int .i64 0)))))), (some (53, false)), [13, 12]⟩,
    ⟨(some 56), 56, (.mv (.t 55)), (some (53, false)), [14, 12, 12]⟩,
    ⟨(some 57), 57, (.fld 0 (.t 1)), (some (56, true)), [15]⟩,
    ⟨(some 58), 58, (.load false 1 (.t 57)), (some (56, true)), [16, 15]⟩,
    ⟨(some 59), 59, (.mv (.t 3)), (some (56, true)), [15]⟩,
    ⟨(some 60), 60, (.bin false .sub (.t 59) (.k (.c (.s (.pv (.int .i64 1)))))), (some (56, true)), [18, 15]⟩,
    ⟨(some 61), 61, (.idx 1 (.t 58) (.t 60)), (some (56, true)), [17, 19, 15]⟩,
    ⟨(some 62), 62, (.load false 1 (.t 61)), (some (56, true)), [20, 15]⟩,
    ⟨(some 63), 63, (.mv (.t 4)), (some (56, true)), [15]⟩,
    ⟨(some 64), 64, (.bin false .gtr (.t 62) (.t 63)), (some (56, true)), [21, 22, 15]⟩,
    ⟨(some 65), 65, (.pick (.t 56) (.t 64) (.k (.c (.s (.pv (.bool false)))))), (some (53, false)), [15, 23, 12]⟩,
    ⟨(some 66), 66, (.pick (.t 53) (.k (.c (.s (.pv (.bool true))))) (.t 65)), none, [12, 24]⟩])
  (.cond (.t 66) (.seq (.reg [⟨(some 2), 2, (.mv (.k (.c (.s (.pv (.bool false)))))), none, []⟩])
  .ret) .skip))))
  (.reg [⟨(some 34), 34, (.mv (.t 3)), none, []⟩,
    ⟨(some 35), 35, (.bin false .add (.t 34) (.k (.c (.s (.pv (.int .i64 1)))))), none, [0]⟩,
    ⟨(some 3), 3, (.mv (.t 35)), none, [1, 0, 1]⟩]))))))
  (.seq (.seq (.reg [⟨(some 5), 5, (.mv (.k (.c (.s (.pv (.int .i64 0)))))), none, []⟩])
  (.block 2 (.loop (.seq (.seq (.reg [⟨(some 67), 67, (.mv (.t 5)), none, []⟩,
    ⟨(some 68), 68, (.fld 2 (.t 1)), none, []⟩,
    ⟨(some 69), 69, (.load false 1 (.t 68)), none, [1]⟩,
    ⟨(some 70), 70, (.len (.t 69)), none, [2]⟩,
    ⟨(some 71), 71, (.bin false .lss (.t 67) (.t 70)), none, [0, 3]⟩])
  (.cond (.t 71) .skip (.exit 2)))
  (.seq (.block 3 (.seq (.reg [⟨(some 74), 74, (.fld 2 (.t 1)), none, []⟩,
    ⟨(some 75), 75, (.load false 1 (.t 74)), none, [0]⟩,
    ⟨(some 76), 76, (.mv (.t 5)), none, []⟩,
    ⟨(some 77), 77, (.idx 2 (.t 75) (.t 76)), none, [1, 2]⟩,
    ⟨(some 78), 78, (.fld 0 (.t 77)), none, [3]⟩,
    ⟨(some 79), 79, (.load false 1 (.t 78)), none, [4]⟩,
    ⟨(some 6), 6, (.mv (.t 79)), none, [5, 0, 1, 2, 3, 4, 5]⟩])
  (.seq (.reg [⟨(some 80), 80, (.mv (.t 6)), none, []⟩,
    ⟨(some 81), 81, (.bin false .lss (.t 80) (.k (.c (.s (.pv (.int .i64 0)))))), none, [0]⟩,
    ⟨(some 82), 82, (.mv (.t 81)), none, [1]⟩,
    ⟨(some 83), 83, (.mv (.t 6)), (some (82, false)), [2]⟩,
    ⟨(some 84), 84, (.bin false .gtr (.t 83) (.k (.c (.s (.pv (.int .i64 2147483647)))))), (some (82, false)), [3, 2]⟩,
    ⟨(some 85), 85, (.pick (.t 82) (.k (.c (.s (.pv (.bool true))))) (.t 84)), none, [2, 4]⟩,
    ⟨(some 86), 86, (.mv (.t 85)), none, [5, 2]⟩,
    ⟨(some 87), 87, (.load true 3 (.t 1)), (some (86, false)), [6]⟩,
    ⟨(some 88), 88, (.mv (.t 6)), (some (86, false)), [6]⟩,
    ⟨(some 89), 89, (.call 27 [(.t 87), (.t 88)]), (some (86, false)), [7, 8, 6, 6]⟩,
    ⟨(some 90), 90, (.bin false .neq (.t 89) (.k (.c (.s (.pv (.int .i64 1)))))), (some (86, false)), [9, 6]⟩,
    ⟨(some 91), 91, (.pick (.t 86) (.k (.c (.s (.pv (.bool true))))) (.t 90)), none, [6, 10]⟩])
  (.cond (.t 91) (.seq (.reg [⟨(some 2), 2, (.mv (.k (.c (.s (.pv (.bool false)))))), none, []⟩])
  .ret) .skip))))
  (.reg [⟨(some 72), 72, (.mv (.t 5)), none, []⟩,
    ⟨(some 73), 73, (.bin false .add (.t 72) (.k (.c (.s (.pv (.int .i64 1)))))), none, [0]⟩,
    ⟨(some 5), 5, (.mv (.t 73)), none, [1, 0, 1]⟩]))))))
  (.seq (.reg [⟨(some 2), 2, (.mv (.k (.c (.s (.pv (.bool true)))))), none, []⟩])
  .ret)))))
theorem fn26 : FnIs Try.prog 26 ac26 [(.t 2)] 92 := ⟨Try.f26, Try.func26, by kernel_rfl, by kernel_rfl, by kernel_rfl⟩
/- lockkeeper/lockkeeperref08.In -/
def ac27 : ACode := (.seq (.reg [⟨(some 2), 2, (.box 57 3 (.t 0)), none, []⟩,
    ⟨(some 4), 4, (.mv (.k (.c (.s (.pv (.int .i64 0)))))), none, []⟩])
  (.seq (.reg [⟨(some 5), 5, (.mv (.k (.c (.s (.pv (.int .i64 0)))))), none, []⟩])
  (.seq (.seq (.reg [⟨(some 6), 6, (.mv (.k (.c (.s (.pv (.int .i64 0)))))), none, []⟩])
  (.block 0 (.loop (.seq (.seq (.reg [⟨(some 8), 8, (.mv (.t 6)), none, []⟩,
    ⟨(some 9), 9, (.fld 0 (.t 2)), none, []⟩,
    ⟨(some 10), 10, (.load false 1 (.t 9)), none, [1]⟩,
    ⟨(some 11), 11, (.len (.t 10)), none, [2]⟩,
    ⟨(some 12), 12, (.bin false .lss (.t 8) (.t 11)), none, [0, 3]⟩])
  (.cond (.t 12) .skip (.exit 0)))
  (.seq (.block 1 (.seq (.reg [⟨(some 15), 15, (.fld 0 (.t 2)), none, []⟩,
    ⟨(some 16), 16, (.load false 1 (.t 15)), none, [0]⟩,
    ⟨(some 17), 17, (.mv (.t 6)), none, []⟩,
    ⟨(some 18), 18, (.idx 1 (.t 16) (.t 17)), none, [1, 2]⟩,
    ⟨(some 19), 19, (.load false 1 (.t 18)), none, [3]⟩,
    ⟨(some 20), 20, (.mv (.t 1)), none, []⟩,
    ⟨(some 21), 21, (.bin false .eql (.t 19) (.t 20)), none, [4, 5]⟩])
  (.cond (.t 21) (.reg [⟨(some 22), 22, (.mv (.t 5)), none, []⟩,
    ⟨(some 23), 23, (.bin false .add (.t 22) (.k (.c (.s (.pv (.int .i64 1)))))), none, [0]⟩,
    ⟨(some 5), 5, (.mv (.t 23)), none, [1, 0, 1]⟩]) .skip)))
  (.reg [⟨(some 13), 13, (.mv (.t 6)), none, []⟩,
    ⟨(some 14), 14, (.bin false .add (.t 13) (.k (.c (.s (.pv (.int .i64 1)))))), none, [0]⟩,
    ⟨(some 6), 6, (.mv (.t 14)), none, [1, 0, 1]⟩]))))))
  (.seq (.seq (.reg [⟨(some 7), 7, (.mv (.k (.c (.s (.pv (.int .i64 0)))))), none, []⟩])
  (.block 2 (.loop (.seq (.seq (.reg [⟨(some 24), 24, (.mv (.t 7)), none, []⟩,
    ⟨(some 25), 25, (.fld 2 (.t 2)), none, []⟩,
    ⟨(some 26), 26, (.load false 1 (.t 25)), none, [1]⟩,
    ⟨(some 27), 27, (.len (.t 26)), none, [2]⟩,
    ⟨(some 28), 28, (.bin false .lss (.t 24) (.t 27)), none, [0, 3]⟩])
  (.cond (.t 28) .skip (.exit 2)))
  (.seq (.block 3 (.seq (.reg [⟨(some 31), 31, (.fld 2 (.t 2)), none, []⟩,
    ⟨(some 32), 32, (.load false 1 (.t 31)), none, [0]⟩,
    ⟨(some 33), 33, (.mv (.t 7)), none, []⟩,
    ⟨(some 34), 34, (.idx 2 (.t 32) (.t 33)), none, [1, 2]⟩,
    ⟨(some 35), 35, (.fld 0 (.t 34)), none, [3]⟩,
    ⟨(some 36), 36, (.load false 1 (.t 35)), none, [4]⟩,
    ⟨(some 37), 37, (.mv (.t 1)), none, []⟩,
    ⟨(some 38), 38, (.bin false .eql (.t 36) (.t 37)), none, [5, 6]⟩])
  (.cond (.t 38) (.reg [⟨(some 39), 39, (.mv (.t 5)), none, []⟩,
    ⟨(some 40), 40, (.bin false .add (.t 39) (.k (.c (.s (.pv (.int .i64 1)))))), none, [0]⟩,
    ⟨(some 5), 5, (.mv (.t 40)), none, [1, 0, 1]⟩]) .skip)))
  (.reg [⟨(some 29), 29, (.mv (.t 7)), none, []⟩,
    ⟨(some 30), 30, (.bin false .add (.t 29) (.k (.c (.s (.pv (.int .i64 1)))))), none, [0]⟩,
    ⟨(some 7), 7, (.mv (.t 30)), none, [1, 0, 1]⟩]))))))
  (.seq (.reg [⟨(some 41), 41, (.mv (.t 5)), none, []⟩,
    ⟨(some 4), 4, (.mv (.t 41)), none, [0, 0]⟩])
  .ret)))))
theorem fn27 : FnIs Try.prog 27 ac27 [(.t 4)] 42 := ⟨Try.f27, Try.func27, by kernel_rfl, by kernel_rfl, by kernel_rfl⟩
/- lockkeeper/latch.Ask -/
def ac28 : ACode := (.seq (.reg [⟨(some 3), 3, (.box 54 3 (.t 0)), none, []⟩,
    ⟨(some 6), 6, (.mk 54 3 [[.zc, (.s (.pv (.bool false))), .zc]]), none, []⟩,
    ⟨(some 7), 7, (.mv (.k (.c (.s (.pv (.bool false)))))), none, []⟩,
    ⟨(some 8), 8, (.mv (.k (.c (.s (.pv (.int .i64 0)))))), none, [2]⟩])
  (.seq (.seq (.reg [⟨(some 9), 9, (.load true 3 (.t 3)), none, []⟩,
    ⟨(some 10), 10, (.call 30 [(.t 9)]), none, [0]⟩,
    ⟨(some 11), 11, (.not (.t 10)), none, [1]⟩,
    ⟨(some 12), 12, (.mv (.t 11)), none, [2, 1]⟩,
    ⟨(some 13), 13, (.mv (.t 1)), (some (12, false)), [3]⟩,
    ⟨(some 14), 14, (.call 46 [(.t 13)]), (some (12, false)), [4, 3, 3]⟩,
    ⟨(some 15), 15, (.not (.t 14)), (some (12, false)), [5, 3]⟩,
    ⟨(some 16), 16, (.pick (.t 12) (.k (.c (.s (.pv (.bool true))))) (.t 15)), none, [3, 6]⟩])
  (.cond (.t 16) (.seq (.reg [⟨(some 17), 17, (.load true 3 (.t 3)), none, []⟩,
    ⟨none, 56, (.store 3 (.t 6) (.t 17)), none, [0, 0]⟩,
    ⟨(some 7), 7, (.mv (.k (.c (.s (.pv (.bool false)))))), none, [1, 0, 1]⟩,
    ⟨(some 8), 8, (.mv (.k (.c (.s (.pv (.int .i64 1)))))), none, [2, 0, 1, 2]⟩])
  .ret) .skip))
  (.seq (.seq (.reg [⟨(some 18), 18, (.load true 3 (.t 3)), none, []⟩,
    ⟨(some 19), 19, (.mv (.t 1)), none, []⟩,
    ⟨(some 20), 20, (.call 47 [(.t 18), (.t 19)]), none, [0, 1]⟩,
    ⟨(some 21), 21, (.mv (.t 20)), none, [2, 2]⟩,
    ⟨(some 22), 22, (.load true 3 (.t 3)), (some (21, false)), [3]⟩,
    ⟨(some 23), 23, (.mv (.t 1)), (some (21, false)), [3]⟩,
    ⟨(some 24), 24, (.call 48 [(.t 22), (.t 23)]), (some (21, false)), [4, 5, 3, 3]⟩,
    ⟨(some 25), 25, (.bin false .geq (.t 24) (.k (.c (.s (.pv (.int .i64 0)))))), (some (21, false)), [6, 3]⟩,
    ⟨(some 26), 26, (.pick (.t 21) (.k (.c (.s (.pv (.bool true))))) (.t 25)), none, [3, 7]⟩])
  (.cond (.t 26) (.seq (.reg [⟨(some 27), 27, (.load true 3 (.t 3)), none, []⟩,
    ⟨none, 56, (.store 3 (.t 6) (.t 27)), none, [0, 0]⟩,
    ⟨(some 7), 7, (.mv (.k (.c (.s (.pv (.bool false)))))), none, [1, 0, 1]⟩,
    ⟨(some 8), 8, (.mv (.k (.c (.s (.pv (.int .i64 4)))))), none, [2, 0, 1, 2]⟩])
  .ret) .skip))
  (.seq (.seq (.reg [⟨(some 28), 28, (.fld 0 (.t 3)), none, []⟩,
    ⟨(some 29), 29, (.load false 1 (.t 28)), none, [0]⟩,
    ⟨(some 30), 30, (.len (.t 29)), none, [1]⟩,
    ⟨(some 31), 31, (.fld 2 (.t 3)), none, []⟩,
    ⟨(some 32), 32, (.load false 1 (.t 31)), none, [3]⟩,
    ⟨(some 33), 33, (.len (.t 32)), none, [4]⟩,
    ⟨(some 34), 34, (.bin false .add (.t 30) (.t 33)), none, [2, 5]⟩,
    ⟨(some 35), 35, (.bin false .eql (.t 34) (.k (.c (.s (.pv (.int .i64 64)))))), none, [6]⟩])
  (.cond (.t 35) (.seq (.reg [⟨(some 36), 36, (.load true 3 (.t 3)), none, []⟩,
    ⟨none, 56, (.store 3 (.t 6) (.t 36)), none, [0, 0]⟩,
    ⟨(some 7), 7, (.mv (.k (.c (.s (.pv (.bool false)))))), none, [1, 0, 1]⟩,
    ⟨(some 8), 8, (.mv (.k (.c (.s (.pv (.int .i64 7)))))), none, [2, 0, 1, 2]⟩])
  .ret) .skip))
  (.seq (.reg [⟨(some 37), 37, (.fld 2 (.t 3)), none, []⟩,
    ⟨(some 38), 38, (.load false 1 (.t 37)), none, [0]⟩,
    ⟨(some 39), 39, (.call 49 [(.t 38)]), none, [1]⟩,
    ⟨(some 40), 40, (.mv (.t 1)), none, []⟩,
    ⟨(some 41), 41, (.mv (.t 2)), none, []⟩,
    ⟨(some 42), 42, (.build [(.s (.pv (.int .i64 0))), (.s (.pv (.bool false)))] [(0, 1, (.t 40)), (1, 1, (.t 41))]), none, [3, 4]⟩,
    ⟨(some 43), 43, (.bslice 88 2 [(.s (.pv (.int .i64 0))), (.s (.pv (.bool false)))] 1 [(0, 2, (.t 42))]), none, [5]⟩,
    ⟨(some 44), 44, (.app 88 2 16 (.t 39) (.t 43)), none, [2, 6, 2]⟩,
    ⟨(some 45), 45, (.fld 2 (.t 3)), none, [0, 1, 2, 3, 4, 5, 6, 7]⟩,
    ⟨none, 64, (.store 1 (.t 45) (.t 44)), none, [8, 7, 7, 0, 1, 2, 3, 4, 5, 6, 7]⟩])
  (.seq (.reg [⟨(some 47), 47, (.load true 3 (.t 3)), none, []⟩,
    ⟨(some 48), 48, (.call 50 [(.t 47)]), none, [0]⟩,
    ⟨(some 46), 46, (.mv (.t 48)), none, [1]⟩,
    ⟨(some 49), 49, (.ext 0 (.t 46)), none, [2]⟩,
    ⟨(some 50), 50, (.ext 1 (.t 46)), none, [2]⟩,
    ⟨none, 60, (.store 3 (.t 3) (.t 49)), none, [3, 1, 0, 1, 2, 3]⟩])
  (.seq (.draw [⟨(some 51), 51, (.load true 3 (.t 3)), none, []⟩,
    ⟨(some 52), 52, (.load true 3 (.t 3)), none, []⟩,
    ⟨(some 53), 53, (.mv (.t 1)), none, []⟩,
    ⟨(some 54), 54, (.call 47 [(.t 52), (.t 53)]), none, [1, 2]⟩,
    ⟨none, 59, (.store 3 (.t 6) (.t 51)), none, [0, 3, 0]⟩,
    ⟨(some 7), 7, (.mv (.t 54)), none, [3, 4, 0, 1, 2, 3, 4]⟩,
    ⟨(some 8), 8, (.mv (.k (.c (.s (.pv (.int .i64 0)))))), none, [5, 0, 1, 2, 3, 4, 5]⟩])
  .ret)))))))
theorem fn28 : FnIs Try.prog 28 ac28 [(.cell 6 true 3), (.t 7), (.t 8)] 55 := ⟨Try.f28, Try.func28, by kernel_rfl, by kernel_rfl, by kernel_rfl⟩
/- lockkeeper/latch.Drop -/
def ac29 : ACode := (.seq (.reg [⟨(some 2), 2, (.box 54 3 (.t 0)), none, []⟩,
    ⟨(some 4), 4, (.mk 54 3 [[.zc, (.s (.pv (.bool false))), .zc]]), none, []⟩,
    ⟨(some 5), 5, (.mv (.k (.c .zc))), none, []⟩,
    ⟨(some 6), 6, (.mv (.k (.c (.s (.pv (.int .i64 0)))))), none, [2]⟩])
  (.seq (.seq (.reg [⟨(some 11), 11, (.load true 3 (.t 2)), none, []⟩,
    ⟨(some 12), 12, (.call 30 [(.t 11)]), none, [0]⟩,
    ⟨(some 13), 13, (.not (.t 12)), none, [1]⟩])
  (.cond (.t 13) (.seq (.reg [⟨(some 14), 14, (.load true 3 (.t 2)), none, []⟩,
    ⟨none, 54, (.store 3 (.t 4) (.t 14)), none, [0, 0]⟩,
    ⟨(some 5), 5, (.mv (.k (.c .zc))), none, [1, 0, 1]⟩,
    ⟨(some 6), 6, (.mv (.k (.c (.s (.pv (.int .i64 1)))))), none, [2, 0, 1, 2]⟩])
  .ret) .skip))
  (.seq (.seq (.reg [⟨(some 16), 16, (.fld 0 (.t 2)), none, []⟩,
    ⟨(some 17), 17, (.load false 1 (.t 16)), none, [0]⟩,
    ⟨(some 18), 18, (.mv (.t 1)), none, []⟩,
    ⟨(some 19), 19, (.call 51 [(.t 17), (.t 18)]), none, [1, 2]⟩,
    ⟨(some 15), 15, (.mv (.t 19)), none, [3]⟩,
    ⟨(some 20), 20, (.ext 0 (.t 15)), none, [4]⟩,
    ⟨(some 21), 21, (.ext 1 (.t 15)), none, [4]⟩,
    ⟨(some 7), 7, (.mv (.t 20)), none, [5, 3, 0, 1, 2, 3, 4, 5]⟩,
    ⟨(some 8), 8, (.mv (.t 21)), none, [6, 7, 0, 1, 2, 3, 4, 5, 6, 7]⟩])
  (.seq (.reg [⟨(some 22), 22, (.mv (.t 8)), none, []⟩])
  (.cond (.t 22) (.seq (.reg [⟨(some 23), 23, (.fld 0 (.t 2)), none, []⟩,
    ⟨(some 24), 24, (.load false 1 (.t 23)), none, [0]⟩,
    ⟨(some 25), 25, (.call 53 [(.t 24)]), none, [1]⟩,
    ⟨(some 26), 26, (.mv (.t 7)), none, []⟩,
    ⟨(some 27), 27, (.mv (.t 7)), none, []⟩,
    ⟨(some 28), 28, (.bin false .add (.t 27) (.k (.c (.s (.pv (.int .i64 1)))))), none, [4]⟩,
    ⟨(some 29), 29, (.call 52 [(.t 25), (.t 26), (.t 28)]), none, [2, 3, 5, 2]⟩,
    ⟨(some 30), 30, (.fld 0 (.t 2)), none, [0, 1, 2, 3, 4, 5, 6]⟩,
    ⟨none, 61, (.store 1 (.t 30) (.t 29)), none, [7, 6, 6, 0, 1, 2, 3, 4, 5, 6]⟩])
  (.reg [⟨(some 31), 31, (.fld 1 (.t 2)), none, []⟩,
    ⟨none, 54, (.store 1 (.t 31) (.k (.c (.s (.pv (.bool false)))))), none, [0]⟩])) (.seq (.reg [⟨(some 32), 32, (.load true 3 (.t 2)), none, []⟩,
    ⟨(some 33), 33, (.mv (.t 1)), none, []⟩,
    ⟨(some 34), 34, (.call 48 [(.t 32), (.t 33)]), none, [0, 1]⟩,
    ⟨(some 9), 9, (.mv (.t 34)), none, [2, 2, 0, 1, 2]⟩])
  (.seq (.reg [⟨(some 35), 35, (.mv (.t 9)), none, []⟩,
    ⟨(some 36), 36, (.bin false .geq (.t 35) (.k (.c (.s (.pv (.int .i64 0)))))), none, [0]⟩])
  (.cond (.t 36) (.reg [⟨(some 37), 37, (.fld 2 (.t 2)), none, []⟩,
    ⟨(some 38), 38, (.load false 1 (.t 37)), none, [0]⟩,
    ⟨(some 39), 39, (.call 49 [(.t 38)]), none, [1]⟩,
    ⟨(some 40), 40, (.mv (.t 9)), none, []⟩,
    ⟨(some 41), 41, (.mv (.t 9)), none, []⟩,
    ⟨(some 42), 42, (.bin false .add (.t 41) (.k (.c (.s (.pv (.int .i64 1)))))), none, [4]⟩,
    ⟨(some 43), 43, (.call 54 [(.t 39), (.t 40), (.t 42)]), none, [2, 3, 5, 2]⟩,
    ⟨(some 44), 44, (.fld 2 (.t 2)), none, [0, 1, 2, 3, 4, 5, 6]⟩,
    ⟨none, 61, (.store 1 (.t 44) (.t 43)), none, [7, 6, 6, 0, 1, 2, 3, 4, 5, 6]⟩]) (.seq (.reg [⟨(some 45), 45, (.load true 3 (.t 2)), none, []⟩,
    ⟨none, 54, (.store 3 (.t 4) (.t 45)), none, [0, 0]⟩,
    ⟨(some 5), 5, (.mv (.k (.c .zc))), none, [1, 0, 1]⟩,
    ⟨(some 6), 6, (.mv (.k (.c (.s (.pv (.int .i64 3)))))), none, [2, 0, 1, 2]⟩])
  .ret)))))))
  (.seq (.reg [⟨(some 47), 47, (.load true 3 (.t 2)), none, []⟩,
    ⟨(some 48), 48, (.call 50 [(.t 47)]), none, [0]⟩,
    ⟨(some 46), 46, (.mv (.t 48)), none, [1]⟩,
    ⟨(some 49), 49, (.ext 0 (.t 46)), none, [2]⟩,
    ⟨(some 50), 50, (.ext 1 (.t 46)), none, [2]⟩,
    ⟨none, 58, (.store 3 (.t 2) (.t 49)), none, [3, 1, 0, 1, 2, 3]⟩,
    ⟨(some 10), 10, (.mv (.t 50)), none, [4, 5, 0, 1, 2, 3, 4, 5]⟩])
  (.seq (.reg [⟨(some 51), 51, (.load true 3 (.t 2)), none, []⟩,
    ⟨(some 52), 52, (.mv (.t 10)), none, []⟩,
    ⟨none, 55, (.store 3 (.t 4) (.t 51)), none, [0, 0]⟩,
    ⟨(some 5), 5, (.mv (.t 52)), none, [1, 2, 0, 1, 2]⟩,
    ⟨(some 6), 6, (.mv (.k (.c (.s (.pv (.int .i64 0)))))), none, [3, 0, 1, 2, 3]⟩])
  .ret)))))
theorem fn29 : FnIs Try.prog 29 ac29 [(.cell 4 true 3), (.t 5), (.t 6)] 53 := ⟨Try.f29, Try.func29, by kernel_rfl, by kernel_rfl, by kernel_rfl⟩
/- lockkeeper/latch.Right -/
def ac30 : ACode := (.seq (.reg [⟨(some 1), 1, (.box 54 3 (.t 0)), none, []⟩,
    ⟨(some 2), 2, (.mv (.k (.c (.s (.pv (.bool false)))))), none, []⟩])
  (.seq (.seq (.reg [⟨(some 3), 3, (.fld 0 (.t 1)), none, []⟩,
    ⟨(some 4), 4, (.load false 1 (.t 3)), none, [0]⟩,
    ⟨(some 5), 5, (.len (.t 4)), none, [1]⟩,
    ⟨(some 6), 6, (.fld 2 (.t 1)), none, []⟩,
    ⟨(some 7), 7, (.load false 1 (.t 6)), none, [3]⟩,
    ⟨(some 8), 8, (.len (.t 7)), none, [4]⟩,
    ⟨(some 9), 9, (.bin false .add (.t 5) (.t 8)), none, [2, 5]⟩,
    ⟨(some 10), 10, (.bin false .gtr (.t 9) (.k (.c (.s (.pv (.int .i64 64)))))), none, [6]⟩,
    ⟨(some 11), 11, (.mv (.t 10)), none, [7]⟩,
    ⟨(some 12), 12, (.fld 1 (.t 1)), (some (11, false)), [8]⟩,
    ⟨(some 13), 13, (.load false 1 (.t 12)), (some (11, false)), [9, 8]⟩,
    ⟨(some 14), 14, (.mv (.t 13)), (some (11, false)), [10, 8, 8]⟩,
    ⟨(some 15), 15, (.fld 0 (.t 1)), (some (14, true)), [11]⟩,
    ⟨(some 16), 16, (.load false 1 (.t 15)), (some (14, true)), [12, 11]⟩,
    ⟨(some 17), 17, (.len (.t 16)), (some (14, true)), [13, 11]⟩,
    ⟨(some 18), 18, (.bin false .neq (.t 17) (.k (.c (.s (.pv (.int .i64 1)))))), (some (14, true)), [14, 11]⟩,
    ⟨(some 19), 19, (.pick (.t 14) (.t 18) (.k (.c (.s (.pv (.bool false)))))), (some (11, false)), [11, 15, 8]⟩,
    ⟨(some 20), 20, (.pick (.t 11) (.k (.c (.s (.pv (.bool true))))) (.t 19)), none, [8, 16]⟩])
  (.cond (.t 20) (.seq (.reg [⟨(some 2), 2, (.mv (.k (.c (.s (.pv (.bool false)))))), none, []⟩])
  .ret) .skip))
  (.seq (.reg [⟨(some 21), 21, (.load true 3 (.t 1)), none, []⟩,
    ⟨(some 22), 22, (.call 55 [(.t 21)]), none, [0]⟩,
    ⟨(some 23), 23, (.mv (.t 22)), none, [1, 1]⟩,
    ⟨(some 24), 24, (.load true 3 (.t 1)), (some (23, true)), [2]⟩,
    ⟨(some 25), 25, (.call 56 [(.t 24)]), (some (23, true)), [3, 2, 2]⟩,
    ⟨(some 26), 26, (.not (.t 25)), (some (23, true)), [4, 2]⟩,
    ⟨(some 27), 27, (.pick (.t 23) (.t 26) (.k (.c (.s (.pv (.bool false)))))), none, [2, 5]⟩,
    ⟨(some 2), 2, (.mv (.t 27)), none, [6, 4, 0, 1, 2, 3, 4, 5, 6]⟩])
  .ret)))
theorem fn30 : FnIs Try.prog 30 ac30 [(.t 2)] 28 := ⟨Try.f30, Try.func30, by kernel_rfl, by kernel_rfl, by kernel_rfl⟩
/- lockkeeper/lockkeeperref08.Same -/
def ac31 : ACode := (.seq (.reg [⟨(some 2), 2, (.box 57 3 (.t 0)), none, []⟩,
    ⟨(some 3), 3, (.box 57 3 (.t 1)), none, []⟩,
    ⟨(some 4), 4, (.mv (.k (.c (.s (.pv (.bool false)))))), none, []⟩])
  (.seq (.seq (.reg [⟨(some 7), 7, (.fld 0 (.t 2)), none, []⟩,
    ⟨(some 8), 8, (.load false 1 (.t 7)), none, [0]⟩,
    ⟨(some 9), 9, (.len (.t 8)), none, [1]⟩,
    ⟨(some 10), 10, (.fld 0 (.t 3)), none, []⟩,
    ⟨(some 11), 11, (.load false 1 (.t 10)), none, [3]⟩,
    ⟨(some 12), 12, (.len (.t 11)), none, [4]⟩,
    ⟨(some 13), 13, (.bin false .neq (.t 9) (.t 12)), none, [2, 5]⟩,
    ⟨(some 14), 14, (.mv (.t 13)), none, [6]⟩,
    ⟨(some 15), 15, (.fld 2 (.t 2)), (some (14, false)), [7]⟩,
    ⟨(some 16), 16, (.load false 1 (.t 15)), (some (14, false)), [8, 7]⟩,
    ⟨(some 17), 17, (.len (.t 16)), (some (14, false)), [9, 7]⟩,
    ⟨(some 18), 18, (.fld 2 (.t 3)), (some (14, false)), [7]⟩,
    ⟨(some 19), 19, (.load false 1 (.t 18)), (some (14, false)), [11, 7]⟩,
    ⟨(some 20), 20, (.len (.t 19)), (some (14, false)), [12, 7]⟩,
    ⟨(some 21), 21, (.bin false .neq (.t 17) (.t 20)), (some (14, false)), [10, 13, 7]⟩,
    ⟨(some 22), 22, (.pick (.t 14) (.k (.c (.s (.pv (.bool true))))) (.t 21)), none, [7, 14]⟩,
    ⟨(some 23), 23, (.mv (.t 22)), none, [15, 7]⟩,
    ⟨(some 24), 24, (.fld 1 (.t 2)), (some (23, false)), [16]⟩,
    ⟨(some 25), 25, (.load false 1 (.t 24)), (some (23, false)), [17, 16]⟩,
    ⟨(some 26), 26, (.fld 1 (.t 3)), (some (23, false)), [16]⟩,
    ⟨(some 27), 27, (.load false 1 (.t 26)), (some (23, false)), [19, 16]⟩,
    ⟨(some 28), 28, (.bin true .neq (.t 25) (.t 27)), (some (23, false)), [18, 20, 16]⟩,
    ⟨(some 29), 29, (.pick (.t 23) (.k (.c (.s (.pv (.bool true))))) (.t 28)), none, [16, 21]⟩])
  (.cond (.t 29) (.seq (.reg [⟨(some 4), 4, (.mv (.k (.c (.s (.pv (.bool false)))))), none, []⟩])
  .ret) .skip))
  (.seq (.seq (.reg [⟨(some 5), 5, (.mv (.k (.c (.s (.pv (.int .i64 0)))))), none, []⟩])
  (.block 0 (.loop (.seq (.seq (.reg [⟨(some 30), 30, (.mv (.t 5)), none, []⟩,
    ⟨(some 31), 31, (.fld 0 (.t 2)), none, []⟩,
    ⟨(some 32), 32, (.load false 1 (.t 31)), none, [1]⟩,
    ⟨(some 33), 33, (.len (.t 32)), none, [2]⟩,
    ⟨(some 34), 34, (.bin false .lss (.t 30) (.t 33)), none, [0, 3]⟩])
  (.cond (.t 34) .skip (.exit 0)))
  (.seq (.block 1 (.seq (.draw [⟨(some 37), 37, (.fld 0 (.t 2)), none, []⟩,
    ⟨(some 38), 38, (.load false 1 (.t 37)), none, [0]⟩,
    ⟨(some 39), 39, (.mv (.t 5)), none, []⟩,
    ⟨(some 40), 40, (.idx 1 (.t 38) (.t 39)), none, [1, 2]⟩,
    ⟨(some 41), 41, (.load false 1 (.t 40)), none, [3]⟩,
    ⟨(some 42), 42, (.fld 0 (.t 3)), none, []⟩,
    ⟨(some 43), 43, (.load false 1 (.t 42)), none, [5]⟩,
    ⟨(some 44), 44, (.mv (.t 5)), none, []⟩,
    ⟨(some 45), 45, (.idx 1 (.t 43) (.t 44)), none, [6, 7]⟩,
    ⟨(some 46), 46, (.load false 1 (.t 45)), none, [8]⟩,
    ⟨(some 47), 47, (.bin false .neq (.t 41) (.t 46)), none, [4, 9]⟩])
  (.cond (.t 47) (.seq (.reg [⟨(some 4), 4, (.mv (.k (.c (.s (.pv (.bool false)))))), none, []⟩])
  .ret) .skip)))
  (.reg [⟨(some 35), 35, (.mv (.t 5)), none, []⟩,
    ⟨(some 36), 36, (.bin false .add (.t 35) (.k (.c (.s (.pv (.int .i64 1)))))), none, [0]⟩,
    ⟨(some 5), 5, (.mv (.t 36)), none, [1, 0, 1]⟩]))))))
  (.seq (.seq (.reg [⟨(some 6), 6, (.mv (.k (.c (.s (.pv (.int .i64 0)))))), none, []⟩])
  (.block 2 (.loop (.seq (.seq (.reg [⟨(some 48), 48, (.mv (.t 6)), none, []⟩,
    ⟨(some 49), 49, (.fld 2 (.t 2)), none, []⟩,
    ⟨(some 50), 50, (.load false 1 (.t 49)), none, [1]⟩,
    ⟨(some 51), 51, (.len (.t 50)), none, [2]⟩,
    ⟨(some 52), 52, (.bin false .lss (.t 48) (.t 51)), none, [0, 3]⟩])
  (.cond (.t 52) .skip (.exit 2)))
  (.seq (.block 3 (.seq (.draw [⟨(some 55), 55, (.fld 2 (.t 2)), none, []⟩,
    ⟨(some 56), 56, (.load false 1 (.t 55)), none, [0]⟩,
    ⟨(some 57), 57, (.mv (.t 6)), none, []⟩,
    ⟨(some 58), 58, (.idx 2 (.t 56) (.t 57)), none, [1, 2]⟩,
    ⟨(some 59), 59, (.load true 2 (.t 58)), none, [3]⟩,
    ⟨(some 60), 60, (.fld 2 (.t 3)), none, []⟩,
    ⟨(some 61), 61, (.load false 1 (.t 60)), none, [5]⟩,
    ⟨(some 62), 62, (.mv (.t 6)), none, []⟩,
    ⟨(some 63), 63, (.idx 2 (.t 61) (.t 62)), none, [6, 7]⟩,
    ⟨(some 64), 64, (.load true 2 (.t 63)), none, [8]⟩,
    ⟨(some 65), 65, (.eqs true 89 (.t 59) (.t 64)), none, [4, 9]⟩])
  (.cond (.t 65) (.seq (.reg [⟨(some 4), 4, (.mv (.k (.c (.s (.pv (.bool false)))))), none, []⟩])
  .ret) .skip)))
  (.reg [⟨(some 53), 53, (.mv (.t 6)), none, []⟩,
    ⟨(some 54), 54, (.bin false .add (.t 53) (.k (.c (.s (.pv (.int .i64 1)))))), none, [0]⟩,
    ⟨(some 6), 6, (.mv (.t 54)), none, [1, 0, 1]⟩]))))))
  (.seq (.reg [⟨(some 4), 4, (.mv (.k (.c (.s (.pv (.bool true)))))), none, []⟩])
  .ret)))))
theorem fn31 : FnIs Try.prog 31 ac31 [(.t 4)] 66 := ⟨Try.f31, Try.func31, by kernel_rfl, by kernel_rfl, by kernel_rfl⟩
/- lockkeeper/lockkeeperref08.Ask -/
def ac32 : ACode := (.seq (.reg [⟨(some 3), 3, (.box 57 3 (.t 0)), none, []⟩,
    ⟨(some 6), 6, (.mk 57 3 [[.zc, (.s (.pv (.bool false))), .zc]]), none, []⟩,
    ⟨(some 7), 7, (.mv (.k (.c .zc))), none, []⟩])
  (.seq (.reg [⟨(some 8), 8, (.mv (.k (.c .zc))), none, []⟩])
  (.seq (.reg [⟨(some 9), 9, (.mv (.t 8)), none, []⟩,
    ⟨(some 10), 10, (.fld 2 (.t 3)), none, []⟩,
    ⟨(some 11), 11, (.load false 1 (.t 10)), none, [1]⟩,
    ⟨(some 12), 12, (.app 89 2 16 (.t 9) (.t 11)), none, [0, 2]⟩,
    ⟨(some 8), 8, (.mv (.t 12)), none, [3, 3, 0, 1, 2, 3]⟩])
  (.seq (.draw [⟨(some 13), 13, (.fld 0 (.t 3)), none, []⟩,
    ⟨(some 14), 14, (.load false 1 (.t 13)), none, [0]⟩,
    ⟨(some 15), 15, (.fld 1 (.t 3)), none, []⟩,
    ⟨(some 16), 16, (.load false 1 (.t 15)), none, [2]⟩,
    ⟨(some 17), 17, (.mv (.t 8)), none, []⟩,
    ⟨(some 18), 18, (.mv (.t 1)), none, []⟩,
    ⟨(some 19), 19, (.mv (.t 2)), none, []⟩,
    ⟨(some 20), 20, (.build [(.s (.pv (.int .i64 0))), (.s (.pv (.bool false)))] [(0, 1, (.t 18)), (1, 1, (.t 19))]), none, [5, 6]⟩,
    ⟨(some 21), 21, (.bslice 89 2 [(.s (.pv (.int .i64 0))), (.s (.pv (.bool false)))] 1 [(0, 2, (.t 20))]), none, [7]⟩,
    ⟨(some 22), 22, (.app 89 2 16 (.t 17) (.t 21)), none, [4, 8]⟩,
    ⟨(some 23), 23, (.build [.zc, (.s (.pv (.bool false))), .zc] [(0, 1, (.t 14)), (1, 1, (.t 16)), (2, 1, (.t 22))]), none, [1, 3, 9]⟩,
    ⟨(some 24), 24, (.call 57 [(.t 23)]), none, [10, 9]⟩,
    ⟨(some 25), 25, (.ext 0 (.t 24)), none, [11]⟩,
    ⟨(some 26), 26, (.ext 1 (.t 24)), none, [11]⟩,
    ⟨none, 41, (.store 3 (.t 6) (.t 25)), none, [12, 11, 0, 1, 2, 3, 4, 5, 6, 7, 8, 9, 10, 11, 12, 13]⟩,
    ⟨(some 7), 7, (.mv (.t 26)), none, [13, 14, 0, 1, 2, 3, 4, 5, 6, 7, 8, 9, 10, 11, 12, 13, 14]⟩])
  .ret))))
theorem fn32 : FnIs Try.prog 32 ac32 [(.cell 6 true 3), (.t 7)] 27 := ⟨Try.f32, Try.func32, by kernel_rfl, by kernel_rfl, by kernel_rfl⟩
/- lockkeeper/lockkeeperref08.Drop -/
def ac33 : ACode := (.seq (.reg [⟨(some 2), 2, (.box 57 3 (.t 0)), none, []⟩,
    ⟨(some 4), 4, (.mk 57 3 [[.zc, (.s (.pv (.bool false))), .zc]]), none, []⟩,
    ⟨(some 5), 5, (.mv (.k (.c .zc))), none, []⟩])
  (.seq (.reg [⟨(some 6), 6, (.mk 57 3 [[.zc, (.s (.pv (.bool false))), .zc]]), none, []⟩])
  (.seq (.seq (.reg [⟨(some 7), 7, (.mv (.k (.c (.s (.pv (.int .i64 0)))))), none, []⟩])
  (.block 0 (.loop (.seq (.seq (.reg [⟨(some 9), 9, (.mv (.t 7)), none, []⟩,
    ⟨(some 10), 10, (.fld 0 (.t 2)), none, []⟩,
    ⟨(some 11), 11, (.load false 1 (.t 10)), none, [1]⟩,
    ⟨(some 12), 12, (.len (.t 11)), none, [2]⟩,
    ⟨(some 13), 13, (.bin false .lss (.t 9) (.t 12)), none, [0, 3]⟩])
  (.cond (.t 13) .skip (.exit 0)))
  (.seq (.block 1 (.seq (.reg [⟨(some 16), 16, (.fld 0 (.t 2)), none, []⟩,
    ⟨(some 17), 17, (.load false 1 (.t 16)), none, [0]⟩,
    ⟨(some 18), 18, (.mv (.t 7)), none, []⟩,
    ⟨(some 19), 19, (.idx 1 (.t 17) (.t 18)), none, [1, 2]⟩,
    ⟨(some 20), 20, (.load false 1 (.t 19)), none, [3]⟩,
    ⟨(some 21), 21, (.mv (.t 1)), none, []⟩,
    ⟨(some 22), 22, (.bin false .neq (.t 20) (.t 21)), none, [4, 5]⟩])
  (.cond (.t 22) (.seq (.draw [⟨(some 23), 23, (.fld 0 (.t 6)), none, []⟩,
    ⟨(some 24), 24, (.load false 1 (.t 23)), none, [0]⟩,
    ⟨(some 25), 25, (.fld 0 (.t 2)), none, []⟩,
    ⟨(some 26), 26, (.load false 1 (.t 25)), none, [2]⟩,
    ⟨(some 27), 27, (.mv (.t 7)), none, []⟩,
    ⟨(some 28), 28, (.idx 1 (.t 26) (.t 27)), none, [3, 4]⟩,
    ⟨(some 29), 29, (.load false 1 (.t 28)), none, [5]⟩,
    ⟨(some 30), 30, (.bslice 3 1 [(.s (.pv (.int .i64 0)))] 1 [(0, 1, (.t 29))]), none, [6]⟩,
    ⟨(some 31), 31, (.app 3 1 8 (.t 24) (.t 30)), none, [1, 7]⟩,
    ⟨(some 32), 32, (.fld 0 (.t 6)), none, [0, 1, 2, 3, 4, 5, 6, 7, 8]⟩,
    ⟨none, 75, (.store 1 (.t 32) (.t 31)), none, [9, 8, 8, 0, 1, 2, 3, 4, 5, 6, 7, 8]⟩])
  (.reg [⟨(some 33), 33, (.fld 1 (.t 2)), none, []⟩,
    ⟨(some 34), 34, (.load false 1 (.t 33)), none, [0]⟩,
    ⟨(some 35), 35, (.fld 1 (.t 6)), none, [0, 1]⟩,
    ⟨none, 68, (.store 1 (.t 35) (.t 34)), none, [2, 1, 0, 1]⟩])) .skip)))
  (.reg [⟨(some 14), 14, (.mv (.t 7)), none, []⟩,
    ⟨(some 15), 15, (.bin false .add (.t 14) (.k (.c (.s (.pv (.int .i64 1)))))), none, [0]⟩,
    ⟨(some 7), 7, (.mv (.t 15)), none, [1, 0, 1]⟩]))))))
  (.seq (.seq (.reg [⟨(some 8), 8, (.mv (.k (.c (.s (.pv (.int .i64 0)))))), none, []⟩])
  (.block 2 (.loop (.seq (.seq (.reg [⟨(some 36), 36, (.mv (.t 8)), none, []⟩,
    ⟨(some 37), 37, (.fld 2 (.t 2)), none, []⟩,
    ⟨(some 38), 38, (.load false 1 (.t 37)), none, [1]⟩,
    ⟨(some 39), 39, (.len (.t 38)), none, [2]⟩,
    ⟨(some 40), 40, (.bin false .lss (.t 36) (.t 39)), none, [0, 3]⟩])
  (.cond (.t 40) .skip (.exit 2)))
  (.seq (.block 3 (.seq (.reg [⟨(some 43), 43, (.fld 2 (.t 2)), none, []⟩,
    ⟨(some 44), 44, (.load false 1 (.t 43)), none, [0]⟩,
    ⟨(some 45), 45, (.mv (.t 8)), none, []⟩,
    ⟨(some 46), 46, (.idx 2 (.t 44) (.t 45)), none, [1, 2]⟩,
    ⟨(some 47), 47, (.fld 0 (.t 46)), none, [3]⟩,
    ⟨(some 48), 48, (.load false 1 (.t 47)), none, [4]⟩,
    ⟨(some 49), 49, (.mv (.t 1)), none, []⟩,
    ⟨(some 50), 50, (.bin false .neq (.t 48) (.t 49)), none, [5, 6]⟩])
  (.cond (.t 50) (.draw [⟨(some 51), 51, (.fld 2 (.t 6)), none, []⟩,
    ⟨(some 52), 52, (.load false 1 (.t 51)), none, [0]⟩,
    ⟨(some 53), 53, (.fld 2 (.t 2)), none, []⟩,
    ⟨(some 54), 54, (.load false 1 (.t 53)), none, [2]⟩,
    ⟨(some 55), 55, (.mv (.t 8)), none, []⟩,
    ⟨(some 56), 56, (.idx 2 (.t 54) (.t 55)), none, [3, 4]⟩,
    ⟨(some 57), 57, (.load true 2 (.t 56)), none, [5]⟩,
    ⟨(some 58), 58, (.bslice 89 2 [(.s (.pv (.int .i64 0))), (.s (.pv (.bool false)))] 1 [(0, 2, (.t 57))]), none, [6]⟩,
    ⟨(some 59), 59, (.app 89 2 16 (.t 52) (.t 58)), none, [1, 7]⟩,
    ⟨(some 60), 60, (.fld 2 (.t 6)), none, [0, 1, 2, 3, 4, 5, 6, 7, 8]⟩,
    ⟨none, 75, (.store 1 (.t 60) (.t 59)), none, [9, 8, 8, 0, 1, 2, 3, 4, 5, 6, 7, 8]⟩]) .skip)))
  (.reg [⟨(some 41), 41, (.mv (.t 8)), none, []⟩,
    ⟨(some 42), 42, (.bin false .add (.t 41) (.k (.c (.s (.pv (.int .i64 1)))))), none, [0]⟩,
    ⟨(some 8), 8, (.mv (.t 42)), none, [1, 0, 1]⟩]))))))
  (.seq (.reg [⟨(some 61), 61, (.load true 3 (.t 6)), none, []⟩,
    ⟨(some 62), 62, (.call 57 [(.t 61)]), none, [0]⟩,
    ⟨(some 63), 63, (.ext 0 (.t 62)), none, [1]⟩,
    ⟨(some 64), 64, (.ext 1 (.t 62)), none, [1]⟩,
    ⟨none, 69, (.store 3 (.t 4) (.t 63)), none, [2, 1, 0, 1, 2, 3]⟩,
    ⟨(some 5), 5, (.mv (.t 64)), none, [3, 4, 0, 1, 2, 3, 4]⟩])
  .ret)))))
theorem fn33 : FnIs Try.prog 33 ac33 [(.cell 4 true 3), (.t 5)] 65 := ⟨Try.f33, Try.func33, by kernel_rfl, by kernel_rfl, by kernel_rfl⟩
/- lockkeeper/lockkeeperref08.Equal -/
def ac34 : ACode := (.seq (.reg [⟨(some 4), 4, (.mv (.k (.c (.s (.pv (.bool false)))))), none, []⟩])
  (.seq (.seq (.reg [⟨(some 6), 6, (.mv (.t 0)), none, []⟩,
    ⟨(some 7), 7, (.len (.t 6)), none, [0]⟩,
    ⟨(some 8), 8, (.mv (.t 1)), none, []⟩,
    ⟨(some 9), 9, (.len (.t 8)), none, [2]⟩,
    ⟨(some 10), 10, (.bin false .neq (.t 7) (.t 9)), none, [1, 3]⟩])
  (.cond (.t 10) (.seq (.reg [⟨(some 4), 4, (.mv (.k (.c (.s (.pv (.bool false)))))), none, []⟩])
  .ret) .skip))
  (.seq (.seq (.reg [⟨(some 5), 5, (.mv (.k (.c (.s (.pv (.int .i64 0)))))), none, []⟩])
  (.block 0 (.loop (.seq (.seq (.reg [⟨(some 11), 11, (.mv (.t 5)), none, []⟩,
    ⟨(some 12), 12, (.mv (.t 0)), none, []⟩,
    ⟨(some 13), 13, (.len (.t 12)), none, [1]⟩,
    ⟨(some 14), 14, (.bin false .lss (.t 11) (.t 13)), none, [0, 2]⟩])
  (.cond (.t 14) .skip (.exit 0)))
  (.seq (.block 1 (.seq (.draw [⟨(some 17), 17, (.mv (.t 0)), none, []⟩,
    ⟨(some 18), 18, (.mv (.t 5)), none, []⟩,
    ⟨(some 19), 19, (.idx 1 (.t 17) (.t 18)), none, [0, 1]⟩,
    ⟨(some 20), 20, (.load false 1 (.t 19)), none, [2]⟩,
    ⟨(some 21), 21, (.mv (.t 1)), none, []⟩,
    ⟨(some 22), 22, (.mv (.t 5)), none, []⟩,
    ⟨(some 23), 23, (.idx 1 (.t 21) (.t 22)), none, [4, 5]⟩,
    ⟨(some 24), 24, (.load false 1 (.t 23)), none, [6]⟩,
    ⟨(some 25), 25, (.bin false .neq (.t 20) (.t 24)), none, [3, 7]⟩])
  (.cond (.t 25) (.seq (.reg [⟨(some 4), 4, (.mv (.k (.c (.s (.pv (.bool false)))))), none, []⟩])
  .ret) .skip)))
  (.reg [⟨(some 15), 15, (.mv (.t 5)), none, []⟩,
    ⟨(some 16), 16, (.bin false .add (.t 15) (.k (.c (.s (.pv (.int .i64 1)))))), none, [0]⟩,
    ⟨(some 5), 5, (.mv (.t 16)), none, [1, 0, 1]⟩]))))))
  (.seq (.reg [⟨(some 4), 4, (.mv (.k (.c (.s (.pv (.bool true)))))), none, []⟩])
  .ret))))
theorem fn34 : FnIs Try.prog 34 ac34 [(.t 4)] 26 := ⟨Try.f34, Try.func34, by kernel_rfl, by kernel_rfl, by kernel_rfl⟩
/- lockkeeper/latch.Holds -/
def ac35 : ACode := (.seq (.reg [⟨(some 2), 2, (.box 54 3 (.t 0)), none, []⟩,
    ⟨(some 4), 4, (.mv (.k (.c (.s (.pv (.bool false)))))), none, []⟩,
    ⟨(some 5), 5, (.mv (.k (.c (.s (.pv (.bool false)))))), none, [1]⟩])
  (.seq (.seq (.reg [⟨(some 6), 6, (.load true 3 (.t 2)), none, []⟩,
    ⟨(some 7), 7, (.call 30 [(.t 6)]), none, [0]⟩,
    ⟨(some 8), 8, (.not (.t 7)), none, [1]⟩,
    ⟨(some 9), 9, (.mv (.t 8)), none, [2, 1]⟩,
    ⟨(some 10), 10, (.load true 3 (.t 2)), (some (9, false)), [3]⟩,
    ⟨(some 11), 11, (.mv (.t 1)), (some (9, false)), [3]⟩,
    ⟨(some 12), 12, (.call 47 [(.t 10), (.t 11)]), (some (9, false)), [4, 5, 3, 3]⟩,
    ⟨(some 13), 13, (.not (.t 12)), (some (9, false)), [6, 3]⟩,
    ⟨(some 14), 14, (.pick (.t 9) (.k (.c (.s (.pv (.bool true))))) (.t 13)), none, [3, 7]⟩])
  (.cond (.t 14) (.seq (.reg [⟨(some 4), 4, (.mv (.k (.c (.s (.pv (.bool false)))))), none, []⟩,
    ⟨(some 5), 5, (.mv (.k (.c (.s (.pv (.bool false)))))), none, [0, 0]⟩])
  .ret) .skip))
  (.seq (.draw [⟨(some 15), 15, (.fld 1 (.t 2)), none, []⟩,
    ⟨(some 16), 16, (.load false 1 (.t 15)), none, [0]⟩,
    ⟨(some 4), 4, (.mv (.k (.c (.s (.pv (.bool true)))))), none, []⟩,
    ⟨(some 5), 5, (.mv (.t 16)), none, [1, 2, 0, 1, 2]⟩])
  .ret)))
theorem fn35 : FnIs Try.prog 35 ac35 [(.t 4), (.t 5)] 17 := ⟨Try.f35, Try.func35, by kernel_rfl, by kernel_rfl, by kernel_rfl⟩
/- slices.Clone[[]lockkeeper/table.Slot,lockkeeper/table.Slot] -/
def ac43 : ACode := (.seq (.reg [⟨(some 2), 2, (.mv (.k (.c .zc))), none, []⟩])
  (.seq (.seq (.reg [⟨(some 3), 3, (.mv (.t 0)), none, []⟩,
    ⟨(some 4), 4, (.isnil (.t 3)), none, [0]⟩])
  (.cond (.t 4) (.seq (.reg [⟨(some 2), 2, (.mv (.k (.c .zc))), none, []⟩])
  .ret) .skip))
  (.seq (.reg [⟨(some 5), 5, (.bslice 80 2 [(.s (.pv (.int .i64 0))), (.s (.pv (.int .i64 0)))] 0 []), none, []⟩,
    ⟨(some 6), 6, (.mv (.t 0)), none, []⟩,
    ⟨(some 7), 7, (.app 80 2 16 (.t 5) (.t 6)), none, [0, 1]⟩,
    ⟨(some 2), 2, (.mv (.t 7)), none, [2, 2, 0, 1, 2]⟩])
  .ret)))
theorem fn43 : FnIs Try.prog 43 ac43 [(.t 2)] 8 := ⟨Try.f43, Try.func43, by kernel_rfl, by kernel_rfl, by kernel_rfl⟩
/- lockkeeper/lockkeeperref08.may -/
def ac45 : ACode := (.seq (.reg [⟨(some 1), 1, (.box 57 3 (.t 0)), none, []⟩,
    ⟨(some 2), 2, (.mv (.k (.c (.s (.pv (.bool false)))))), none, []⟩])
  (.seq (.seq (.reg [⟨(some 3), 3, (.fld 2 (.t 1)), none, []⟩,
    ⟨(some 4), 4, (.load false 1 (.t 3)), none, [0]⟩,
    ⟨(some 5), 5, (.len (.t 4)), none, [1]⟩,
    ⟨(some 6), 6, (.bin false .eql (.t 5) (.k (.c (.s (.pv (.int .i64 0)))))), none, [2]⟩])
  (.cond (.t 6) (.seq (.reg [⟨(some 2), 2, (.mv (.k (.c (.s (.pv (.bool false)))))), none, []⟩])
  .ret) .skip))
  (.seq (.reg [⟨(some 7), 7, (.fld 0 (.t 1)), none, []⟩,
    ⟨(some 8), 8, (.load false 1 (.t 7)), none, [0]⟩,
    ⟨(some 9), 9, (.len (.t 8)), none, [1]⟩,
    ⟨(some 10), 10, (.bin false .eql (.t 9) (.k (.c (.s (.pv (.int .i64 0)))))), none, [2]⟩,
    ⟨(some 11), 11, (.mv (.t 10)), none, [3]⟩,
    ⟨(some 12), 12, (.fld 1 (.t 1)), (some (11, false)), [4]⟩,
    ⟨(some 13), 13, (.load false 1 (.t 12)), (some (11, false)), [5, 4]⟩,
    ⟨(some 14), 14, (.not (.t 13)), (some (11, false)), [6, 4]⟩,
    ⟨(some 15), 15, (.mv (.t 14)), (some (11, false)), [7, 4, 4]⟩,
    ⟨(some 16), 16, (.fld 2 (.t 1)), (some (15, true)), [8]⟩,
    ⟨(some 17), 17, (.load false 1 (.t 16)), (some (15, true)), [9, 8]⟩,
    ⟨(some 18), 18, (.idx 2 (.t 17) (.k (.c (.s (.pv (.int .i64 0)))))), (some (15, true)), [10, 8]⟩,
    ⟨(some 19), 19, (.fld 1 (.t 18)), (some (15, true)), [11, 8]⟩,
    ⟨(some 20), 20, (.load false 1 (.t 19)), (some (15, true)), [12, 8]⟩,
    ⟨(some 21), 21, (.not (.t 20)), (some (15, true)), [13, 8]⟩,
    ⟨(some 22), 22, (.pick (.t 15) (.t 21) (.k (.c (.s (.pv (.bool false)))))), (some (11, false)), [8, 14, 4]⟩,
    ⟨(some 23), 23, (.pick (.t 11) (.k (.c (.s (.pv (.bool true))))) (.t 22)), none, [4, 15]⟩,
    ⟨(some 2), 2, (.mv (.t 23)), none, [16, 8, 0, 1, 2, 3, 4, 5, 6, 7, 8, 9, 10, 11, 12, 13, 14, 15, 16]⟩])
  .ret)))
theorem fn45 : FnIs Try.prog 45 ac45 [(.t 2)] 24 := ⟨Try.f45, Try.func45, by kernel_rfl, by kernel_rfl, by kernel_rfl⟩
/- lockkeeper/latch.isWho -/
def ac46 : ACode := (.seq (.reg [⟨(some 2), 2, (.mv (.k (.c (.s (.pv (.bool false)))))), none, []⟩])
  (.seq (.reg [⟨(some 3), 3, (.mv (.t 0)), none, []⟩,
    ⟨(some 4), 4, (.bin false .geq (.t 3) (.k (.c (.s (.pv (.int .i64 0)))))), none, [0]⟩,
    ⟨(some 5), 5, (.mv (.t 4)), none, [1]⟩,
    ⟨(some 6), 6, (.mv (.t 0)), (some (5, true)), [2]⟩,
    ⟨(some 7), 7, (.bin false .leq (.t 6) (.k (.c (.s (.pv (.int .i64 2147483647)))))), (some (5, true)), [3, 2]⟩,
    ⟨(some 8), 8, (.pick (.t 5) (.t 7) (.k (.c (.s (.pv (.bool false)))))), none, [2, 4]⟩,
    ⟨(some 2), 2, (.mv (.t 8)), none, [5, 2, 0, 1, 2, 3, 4, 5]⟩])
  .ret))
theorem fn46 : FnIs Try.prog 46 ac46 [(.t 2)] 9 := ⟨Try.f46, Try.func46, by kernel_rfl, by kernel_rfl, by kernel_rfl⟩
/- lockkeeper/latch.holds -/
def ac47 : ACode := (.seq (.reg [⟨(some 2), 2, (.box 54 3 (.t 0)), none, []⟩,
    ⟨(some 4), 4, (.mv (.k (.c (.s (.pv (.bool false)))))), none, []⟩])
  (.seq (.reg [⟨(some 5), 5, (.fld 0 (.t 2)), none, []⟩,
    ⟨(some 6), 6, (.load false 1 (.t 5)), none, [0]⟩,
    ⟨(some 7), 7, (.mv (.t 1)), none, []⟩,
    ⟨(some 8), 8, (.call 60 [(.t 6), (.t 7)]), none, [1, 2]⟩,
    ⟨(some 4), 4, (.mv (.t 8)), none, [3, 3, 0, 1, 2, 3]⟩])
  .ret))
theorem fn47 : FnIs Try.prog 47 ac47 [(.t 4)] 9 := ⟨Try.f47, Try.func47, by kernel_rfl, by kernel_rfl, by kernel_rfl⟩
/- lockkeeper/latch.place -/
def ac48 : ACode := (.seq (.reg [⟨(some 2), 2, (.box 54 3 (.t 0)), none, []⟩,
    ⟨(some 3), 3, (.box 3 1 (.t 1)), none, []⟩,
    ⟨(some 4), 4, (.mv (.k (.c (.s (.pv (.int .i64 0)))))), none, []⟩])
  (.seq (.reg [⟨(some 5), 5, (.fld 2 (.t 2)), none, []⟩,
    ⟨(some 6), 6, (.load false 1 (.t 5)), none, [0]⟩,
    ⟨(some 7), 7, (.clo 62 [(.t 3)]), none, []⟩,
    ⟨(some 8), 8, (.call 61 [(.t 6), (.t 7)]), none, [1, 2]⟩,
    ⟨(some 4), 4, (.mv (.t 8)), none, [3, 3, 0, 1, 2, 3]⟩])
  .ret))
theorem fn48 : FnIs Try.prog 48 ac48 [(.t 4)] 9 := ⟨Try.f48, Try.func48, by kernel_rfl, by kernel_rfl, by kernel_rfl⟩
/- slices.Clone[[]lockkeeper/latch.Wait,lockkeeper/latch.Wait] -/
def ac49 : ACode := (.seq (.reg [⟨(some 2), 2, (.mv (.k (.c .zc))), none, []⟩])
  (.seq (.seq (.reg [⟨(some 3), 3, (.mv (.t 0)), none, []⟩,
    ⟨(some 4), 4, (.isnil (.t 3)), none, [0]⟩])
  (.cond (.t 4) (.seq (.reg [⟨(some 2), 2, (.mv (.k (.c .zc))), none, []⟩])
  .ret) .skip))
  (.seq (.reg [⟨(some 5), 5, (.bslice 88 2 [(.s (.pv (.int .i64 0))), (.s (.pv (.bool false)))] 0 []), none, []⟩,
    ⟨(some 6), 6, (.mv (.t 0)), none, []⟩,
    ⟨(some 7), 7, (.app 88 2 16 (.t 5) (.t 6)), none, [0, 1]⟩,
    ⟨(some 2), 2, (.mv (.t 7)), none, [2, 2, 0, 1, 2]⟩])
  .ret)))
theorem fn49 : FnIs Try.prog 49 ac49 [(.t 2)] 8 := ⟨Try.f49, Try.func49, by kernel_rfl, by kernel_rfl, by kernel_rfl⟩
/- lockkeeper/latch.enter -/
def ac50 : ACode := (.seq (.reg [⟨(some 1), 1, (.box 54 3 (.t 0)), none, []⟩,
    ⟨(some 2), 2, (.mk 54 3 [[.zc, (.s (.pv (.bool false))), .zc]]), none, []⟩,
    ⟨(some 3), 3, (.mv (.k (.c .zc))), none, []⟩])
  (.seq (.reg [⟨(some 4), 4, (.mv (.k (.c .zc))), none, []⟩])
  (.seq (.block 0 (.loop (.seq (.seq (.reg [⟨(some 8), 8, (.load true 3 (.t 1)), none, []⟩,
    ⟨(some 9), 9, (.call 56 [(.t 8)]), none, [0]⟩])
  (.cond (.t 9) .skip (.exit 0)))
  (.block 1 (.seq (.reg [⟨(some 10), 10, (.fld 2 (.t 1)), none, []⟩,
    ⟨(some 11), 11, (.load false 1 (.t 10)), none, [0]⟩,
    ⟨(some 12), 12, (.idx 2 (.t 11) (.k (.c (.s (.pv (.int .i64 0)))))), none, [1]⟩,
    ⟨(some 13), 13, (.load true 2 (.t 12)), none, [2]⟩,
    ⟨(some 5), 5, (.mk 88 2 [[(.s (.pv (.int .i64 0))), (.s (.pv (.bool false)))]]), none, []⟩,
    ⟨none, 51, (.store 2 (.t 5) (.t 13)), none, [4, 3, 0, 1, 2, 3, 4]⟩])
  (.seq (.reg [⟨(some 14), 14, (.fld 2 (.t 1)), none, []⟩,
    ⟨(some 15), 15, (.load false 1 (.t 14)), none, [0]⟩,
    ⟨(some 16), 16, (.sub 2 (.t 15) (some (.k (.c (.s (.pv (.int .i64 1)))))) none), none, [1]⟩,
    ⟨(some 17), 17, (.call 49 [(.t 16)]), none, [2]⟩,
    ⟨(some 18), 18, (.fld 2 (.t 1)), none, [0, 1, 2, 3]⟩,
    ⟨none, 51, (.store 1 (.t 18) (.t 17)), none, [4, 3, 3, 0, 1, 2, 3]⟩])
  (.seq (.reg [⟨(some 19), 19, (.fld 1 (.t 5)), none, []⟩,
    ⟨(some 20), 20, (.load false 1 (.t 19)), none, [0]⟩,
    ⟨(some 21), 21, (.fld 1 (.t 1)), none, [0, 1]⟩,
    ⟨none, 49, (.store 1 (.t 21) (.t 20)), none, [2, 1, 0, 1]⟩])
  (.seq (.reg [⟨(some 23), 23, (.fld 0 (.t 1)), none, []⟩,
    ⟨(some 24), 24, (.load false 1 (.t 23)), none, [0]⟩,
    ⟨(some 25), 25, (.fld 0 (.t 5)), none, []⟩,
    ⟨(some 26), 26, (.load false 1 (.t 25)), none, [2]⟩,
    ⟨(some 27), 27, (.call 51 [(.t 24), (.t 26)]), none, [1, 3]⟩,
    ⟨(some 22), 22, (.mv (.t 27)), none, [4]⟩,
    ⟨(some 28), 28, (.ext 0 (.t 22)), none, [5]⟩,
    ⟨(some 29), 29, (.ext 1 (.t 22)), none, [5]⟩,
    ⟨(some 6), 6, (.mv (.t 28)), none, [6, 4, 0, 1, 2, 3, 4, 5, 6]⟩,
    ⟨(some 7), 7, (.mv (.t 29)), none, [7, 8, 0, 1, 2, 3, 4, 5, 6, 7, 8]⟩])
  (.seq (.draw [⟨(some 30), 30, (.fld 0 (.t 1)), none, []⟩,
    ⟨(some 31), 31, (.load false 1 (.t 30)), none, [0]⟩,
    ⟨(some 32), 32, (.call 53 [(.t 31)]), none, [1]⟩,
    ⟨(some 33), 33, (.mv (.t 6)), none, []⟩,
    ⟨(some 34), 34, (.fld 0 (.t 5)), none, []⟩,
    ⟨(some 35), 35, (.load false 1 (.t 34)), none, [4]⟩,
    ⟨(some 36), 36, (.bslice 3 1 [(.s (.pv (.int .i64 0)))] 1 [(0, 1, (.t 35))]), none, [5]⟩,
    ⟨(some 37), 37, (.call 63 [(.t 32), (.t 33), (.t 36)]), none, [2, 3, 6, 2]⟩,
    ⟨(some 38), 38, (.fld 0 (.t 1)), none, [0, 1, 2, 3, 4, 5, 6, 7]⟩,
    ⟨none, 55, (.store 1 (.t 38) (.t 37)), none, [8, 7, 7, 0, 1, 2, 3, 4, 5, 6, 7]⟩])
  (.reg [⟨(some 39), 39, (.mv (.t 4)), none, []⟩,
    ⟨(some 40), 40, (.fld 0 (.t 5)), none, []⟩,
    ⟨(some 41), 41, (.load false 1 (.t 40)), none, [1]⟩,
    ⟨(some 42), 42, (.bslice 3 1 [(.s (.pv (.int .i64 0)))] 1 [(0, 1, (.t 41))]), none, [2]⟩,
    ⟨(some 43), 43, (.app 3 1 8 (.t 39) (.t 42)), none, [0, 3]⟩,
    ⟨(some 4), 4, (.mv (.t 43)), none, [4, 4, 0, 1, 2, 3, 4]⟩]))))))))))
  (.seq (.reg [⟨(some 44), 44, (.load true 3 (.t 1)), none, []⟩,
    ⟨(some 45), 45, (.mv (.t 4)), none, []⟩,
    ⟨none, 48, (.store 3 (.t 2) (.t 44)), none, [0, 0]⟩,
    ⟨(some 3), 3, (.mv (.t 45)), none, [1, 2, 0, 1, 2]⟩])
  .ret))))
theorem fn50 : FnIs Try.prog 50 ac50 [(.cell 2 true 3), (.t 3)] 46 := ⟨Try.f50, Try.func50, by kernel_rfl, by kernel_rfl, by kernel_rfl⟩
/- slices.BinarySearch[[]int,int] -/
def ac51 : ACode := (.seq (.reg [⟨(some 4), 4, (.mv (.k (.c (.s (.pv (.int .i64 0)))))), none, []⟩,
    ⟨(some 5), 5, (.mv (.k (.c (.s (.pv (.bool false)))))), none, [0]⟩])
  (.seq (.reg [⟨(some 10), 10, (.mv (.t 0)), none, []⟩,
    ⟨(some 11), 11, (.len (.t 10)), none, [0]⟩,
    ⟨(some 6), 6, (.mv (.t 11)), none, [1, 0, 1]⟩])
  (.seq (.reg [⟨(some 12), 12, (.mv (.t 6)), none, []⟩,
    ⟨(some 7), 7, (.mv (.k (.c (.s (.pv (.int .i64 0)))))), none, []⟩,
    ⟨(some 8), 8, (.mv (.t 12)), none, [0, 1, 0, 1]⟩])
  (.seq (.block 0 (.loop (.seq (.seq (.reg [⟨(some 13), 13, (.mv (.t 7)), none, []⟩,
    ⟨(some 14), 14, (.mv (.t 8)), none, []⟩,
    ⟨(some 15), 15, (.bin false .lss (.t 13) (.t 14)), none, [0, 1]⟩])
  (.cond (.t 15) .skip (.exit 0)))
  (.block 1 (.seq (.reg [⟨(some 16), 16, (.mv (.t 7)), none, []⟩,
    ⟨(some 17), 17, (.mv (.t 8)), none, []⟩,
    ⟨(some 18), 18, (.bin false .add (.t 16) (.t 17)), none, [0, 1]⟩,
    ⟨(some 19), 19, (.conv .u64 (.t 18)), none, [2]⟩,
    ⟨(some 20), 20, (.bin false .shr (.t 19) (.k (.c (.s (.pv (.int .u64 1)))))), none, [3]⟩,
    ⟨(some 21), 21, (.conv .i64 (.t 20)), none, [4]⟩,
    ⟨(some 9), 9, (.mv (.t 21)), none, [5, 0, 1, 2, 3, 4, 5]⟩])
  (.seq (.reg [⟨(some 22), 22, (.mv (.t 0)), none, []⟩,
    ⟨(some 23), 23, (.mv (.t 9)), none, []⟩,
    ⟨(some 24), 24, (.idx 1 (.t 22) (.t 23)), none, [0, 1]⟩,
    ⟨(some 25), 25, (.load false 1 (.t 24)), none, [2]⟩,
    ⟨(some 26), 26, (.mv (.t 1)), none, []⟩,
    ⟨(some 27), 27, (.call 64 [(.t 25), (.t 26)]), none, [3, 4]⟩])
  (.cond (.t 27) (.reg [⟨(some 28), 28, (.mv (.t 9)), none, []⟩,
    ⟨(some 29), 29, (.bin false .add (.t 28) (.k (.c (.s (.pv (.int .i64 1)))))), none, [0]⟩,
    ⟨(some 7), 7, (.mv (.t 29)), none, [1, 0, 1]⟩]) (.reg [⟨(some 30), 30, (.mv (.t 9)), none, []⟩,
    ⟨(some 8), 8, (.mv (.t 30)), none, [0, 0]⟩]))))))))
  (.seq (.reg [⟨(some 31), 31, (.mv (.t 7)), none, []⟩,
    ⟨(some 32), 32, (.mv (.t 7)), none, []⟩,
    ⟨(some 33), 33, (.mv (.t 6)), none, []⟩,
    ⟨(some 34), 34, (.bin false .lss (.t 32) (.t 33)), none, [1, 2]⟩,
    ⟨(some 35), 35, (.mv (.t 34)), none, [3]⟩,
    ⟨(some 36), 36, (.mv (.t 0)), (some (35, true)), [4]⟩,
    ⟨(some 37), 37, (.mv (.t 7)), (some (35, true)), [4]⟩,
    ⟨(some 38), 38, (.idx 1 (.t 36) (.t 37)), (some (35, true)), [5, 6, 4]⟩,
    ⟨(some 39), 39, (.load false 1 (.t 38)), (some (35, true)), [7, 4]⟩,
    ⟨(some 40), 40, (.mv (.t 1)), (some (35, true)), [4]⟩,
    ⟨(some 41), 41, (.bin false .eql (.t 39) (.t 40)), (some (35, true)), [8, 9, 4]⟩,
    ⟨(some 42), 42, (.mv (.t 41)), (some (35, true)), [10, 4, 4]⟩,
    ⟨(some 43), 43, (.mv (.t 0)), (some (42, false)), [11]⟩,
    ⟨(some 44), 44, (.mv (.t 7)), (some (42, false)), [11]⟩,
    ⟨(some 45), 45, (.idx 1 (.t 43) (.t 44)), (some (42, false)), [12, 13, 11]⟩,
    ⟨(some 46), 46, (.load false 1 (.t 45)), (some (42, false)), [14, 11]⟩,
    ⟨(some 47), 47, (.call 65 [(.t 46)]), (some (42, false)), [15, 11, 11]⟩,
    ⟨(some 48), 48, (.mv (.t 47)), (some (42, false)), [16, 16, 11]⟩,
    ⟨(some 49), 49, (.mv (.t 1)), (some (48, true)), [17]⟩,
    ⟨(some 50), 50, (.call 65 [(.t 49)]), (some (48, true)), [18, 17, 17]⟩,
    ⟨(some 51), 51, (.pick (.t 48) (.t 50) (.k (.c (.s (.pv (.bool false)))))), (some (42, false)), [17, 19, 11]⟩,
    ⟨(some 52), 52, (.pick (.t 42) (.k (.c (.s (.pv (.bool true))))) (.t 51)), (some (35, true)), [11, 20, 4]⟩,
    ⟨(some 53), 53, (.pick (.t 35) (.t 52) (.k (.c (.s (.pv (.bool false)))))), none, [4, 21]⟩,
    ⟨(some 4), 4, (.mv (.t 31)), none, [0, 19, 0]⟩,
    ⟨(some 5), 5, (.mv (.t 53)), none, [22, 23, 0, 1, 2, 3, 4, 5, 6, 7, 8, 9, 10, 11, 12, 13, 14, 15, 16, 17, 18, 19, 20, 21, 22, 23]⟩])
  .ret)))))
theorem fn51 : FnIs Try.prog 51 ac51 [(.t 4), (.t 5)] 54 := ⟨Try.f51, Try.func51, by kernel_rfl, by kernel_rfl, by kernel_rfl⟩
/- slices.Clone[[]int,int] -/
def ac53 : ACode := (.seq (.reg [⟨(some 2), 2, (.mv (.k (.c .zc))), none, []⟩])
  (.seq (.seq (.reg [⟨(some 3), 3, (.mv (.t 0)), none, []⟩,
    ⟨(some 4), 4, (.isnil (.t 3)), none, [0]⟩])
  (.cond (.t 4) (.seq (.reg [⟨(some 2), 2, (.mv (.k (.c .zc))), none, []⟩])
  .ret) .skip))
  (.seq (.reg [⟨(some 5), 5, (.bslice 3 1 [(.s (.pv (.int .i64 0)))] 0 []), none, []⟩,
    ⟨(some 6), 6, (.mv (.t 0)), none, []⟩,
    ⟨(some 7), 7, (.app 3 1 8 (.t 5) (.t 6)), none, [0, 1]⟩,
    ⟨(some 2), 2, (.mv (.t 7)), none, [2, 2, 0, 1, 2]⟩])
  .ret)))
theorem fn53 : FnIs Try.prog 53 ac53 [(.t 2)] 8 := ⟨Try.f53, Try.func53, by kernel_rfl, by kernel_rfl, by kernel_rfl⟩
/- lockkeeper/latch.people -/
def ac55 : ACode := (.seq (.reg [⟨(some 1), 1, (.box 54 3 (.t 0)), none, []⟩,
    ⟨(some 2), 2, (.mv (.k (.c (.s (.pv (.bool false)))))), none, []⟩])
  (.seq (.reg [⟨(some 8), 8, (.fld 0 (.t 1)), none, []⟩,
    ⟨(some 9), 9, (.load false 1 (.t 8)), none, [0]⟩,
    ⟨(some 10), 10, (.call 53 [(.t 9)]), none, [1]⟩,
    ⟨(some 3), 3, (.mv (.t 10)), none, [2, 2, 0, 1, 2]⟩])
  (.seq (.seq (.reg [⟨(some 11), 11, (.mv (.t 3)), none, []⟩,
    ⟨(some 12), 12, (.call 66 [(.t 11)]), none, [0]⟩,
    ⟨(some 13), 13, (.not (.t 12)), none, [1]⟩])
  (.cond (.t 13) (.seq (.reg [⟨(some 2), 2, (.mv (.k (.c (.s (.pv (.bool false)))))), none, []⟩])
  .ret) .skip))
  (.seq (.seq (.reg [⟨(some 14), 14, (.fld 2 (.t 1)), none, []⟩,
    ⟨(some 15), 15, (.load false 1 (.t 14)), none, [0]⟩,
    ⟨(some 16), 16, (.len (.t 15)), none, [1]⟩,
    ⟨(some 17), 17, (.mv (.k (.c (.s (.pv (.int .i64 0)))))), none, []⟩])
  (.block 0 (.loop (.seq (.reg [⟨(some 18), 18, (.bin false .lss (.t 17) (.t 16)), none, []⟩])
  (.seq (.cond (.t 18) .skip (.exit 0))
  (.seq (.block 1 (.seq (.reg [⟨(some 19), 19, (.idx 2 (.t 15) (.t 17)), none, []⟩,
    ⟨(some 20), 20, (.load true 2 (.t 19)), none, [0]⟩,
    ⟨(some 5), 5, (.mk 88 2 [[(.s (.pv (.int .i64 0))), (.s (.pv (.bool false)))]]), none, []⟩,
    ⟨none, 56, (.store 2 (.t 5) (.t 20)), none, [2, 1, 0, 1, 2]⟩])
  (.reg [⟨(some 21), 21, (.mv (.t 3)), none, []⟩,
    ⟨(some 22), 22, (.fld 0 (.t 5)), none, []⟩,
    ⟨(some 23), 23, (.load false 1 (.t 22)), none, [1]⟩,
    ⟨(some 24), 24, (.bslice 3 1 [(.s (.pv (.int .i64 0)))] 1 [(0, 1, (.t 23))]), none, [2]⟩,
    ⟨(some 25), 25, (.app 3 1 8 (.t 21) (.t 24)), none, [0, 3]⟩,
    ⟨(some 3), 3, (.mv (.t 25)), none, [4, 4, 0, 1, 2, 3, 4]⟩])))
  (.reg [⟨(some 26), 26, (.bin false .add (.t 17) (.k (.c (.s (.pv (.int .i64 1)))))), none, []⟩,
    ⟨(some 17), 17, (.mv (.t 26)), none, [0]⟩])))))))
  (.seq (.reg [⟨(some 27), 27, (.mv (.t 3)), none, []⟩,
    ⟨(some 28), 28, (.call 37 [(.t 27)]), none, [0]⟩])
  (.seq (.seq (.reg [⟨(some 29), 29, (.mv (.t 3)), none, []⟩,
    ⟨(some 30), 30, (.len (.t 29)), none, [0]⟩,
    ⟨(some 31), 31, (.mv (.k (.c (.s (.pv (.int .i64 0)))))), none, []⟩])
  (.block 2 (.loop (.seq (.reg [⟨(some 32), 32, (.bin false .lss (.t 31) (.t 30)), none, []⟩])
  (.seq (.cond (.t 32) .skip (.exit 2))
  (.seq (.block 3 (.seq (.reg [⟨(some 33), 33, (.mv (.t 31)), none, []⟩,
    ⟨(some 34), 34, (.idx 1 (.t 29) (.t 31)), none, []⟩,
    ⟨(some 35), 35, (.load false 1 (.t 34)), none, [1]⟩,
    ⟨(some 6), 6, (.mv (.t 33)), none, [0, 0, 1, 2]⟩,
    ⟨(some 7), 7, (.mv (.t 35)), none, [2, 3, 0, 1, 2, 3]⟩])
  (.seq (.reg [⟨(some 36), 36, (.mv (.t 7)), none, []⟩,
    ⟨(some 37), 37, (.call 46 [(.t 36)]), none, [0]⟩,
    ⟨(some 38), 38, (.not (.t 37)), none, [1]⟩,
    ⟨(some 39), 39, (.mv (.t 38)), none, [2, 1]⟩,
    ⟨(some 40), 40, (.mv (.t 6)), (some (39, false)), [3]⟩,
    ⟨(some 41), 41, (.bin false .gtr (.t 40) (.k (.c (.s (.pv (.int .i64 0)))))), (some (39, false)), [4, 3]⟩,
    ⟨(some 42), 42, (.mv (.t 41)), (some (39, false)), [5, 3, 3]⟩,
    ⟨(some 43), 43, (.mv (.t 3)), (some (42, true)), [6]⟩,
    ⟨(some 44), 44, (.mv (.t 6)), (some (42, true)), [6]⟩,
    ⟨(some 45), 45, (.bin false .sub (.t 44) (.k (.c (.s (.pv (.int .i64 1)))))), (some (42, true)), [8, 6]⟩,
    ⟨(some 46), 46, (.idx 1 (.t 43) (.t 45)), (some (42, true)), [7, 9, 6]⟩,
    ⟨(some 47), 47, (.load false 1 (.t 46)), (some (42, true)), [10, 6]⟩,
    ⟨(some 48), 48, (.mv (.t 7)), (some (42, true)), [6]⟩,
    ⟨(some 49), 49, (.bin false .eql (.t 47) (.t 48)), (some (42, true)), [11, 12, 6]⟩,
    ⟨(some 50), 50, (.pick (.t 42) (.t 49) (.k (.c (.s (.pv (.bool false)))))), (some (39, false)), [6, 13, 3]⟩,
    ⟨(some 51), 51, (.pick (.t 39) (.k (.c (.s (.pv (.bool true))))) (.t 50)), none, [3, 14]⟩])
  (.cond (.t 51) (.seq (.reg [⟨(some 2), 2, (.mv (.k (.c (.s (.pv (.bool false)))))), none, []⟩])
  .ret) .skip))))
  (.reg [⟨(some 52), 52, (.bin false .add (.t 31) (.k (.c (.s (.pv (.int .i64 1)))))), none, []⟩,
    ⟨(some 31), 31, (.mv (.t 52)), none, [0]⟩])))))))
  (.seq (.reg [⟨(some 2), 2, (.mv (.k (.c (.s (.pv (.bool true)))))), none, []⟩])
  .ret)))))))
theorem fn55 : FnIs Try.prog 55 ac55 [(.t 2)] 53 := ⟨Try.f55, Try.func55, by kernel_rfl, by kernel_rfl, by kernel_rfl⟩
/- lockkeeper/latch.mayEnter -/
def ac56 : ACode := (.seq (.reg [⟨(some 1), 1, (.box 54 3 (.t 0)), none, []⟩,
    ⟨(some 2), 2, (.mv (.k (.c (.s (.pv (.bool false)))))), none, []⟩])
  (.seq (.seq (.reg [⟨(some 3), 3, (.fld 2 (.t 1)), none, []⟩,
    ⟨(some 4), 4, (.load false 1 (.t 3)), none, [0]⟩,
    ⟨(some 5), 5, (.len (.t 4)), none, [1]⟩,
    ⟨(some 6), 6, (.bin false .eql (.t 5) (.k (.c (.s (.pv (.int .i64 0)))))), none, [2]⟩])
  (.cond (.t 6) (.seq (.reg [⟨(some 2), 2, (.mv (.k (.c (.s (.pv (.bool false)))))), none, []⟩])
  .ret) .skip))
  (.seq (.reg [⟨(some 7), 7, (.fld 0 (.t 1)), none, []⟩,
    ⟨(some 8), 8, (.load false 1 (.t 7)), none, [0]⟩,
    ⟨(some 9), 9, (.len (.t 8)), none, [1]⟩,
    ⟨(some 10), 10, (.bin false .eql (.t 9) (.k (.c (.s (.pv (.int .i64 0)))))), none, [2]⟩,
    ⟨(some 11), 11, (.mv (.t 10)), none, [3]⟩,
    ⟨(some 12), 12, (.fld 1 (.t 1)), (some (11, false)), [4]⟩,
    ⟨(some 13), 13, (.load false 1 (.t 12)), (some (11, false)), [5, 4]⟩,
    ⟨(some 14), 14, (.not (.t 13)), (some (11, false)), [6, 4]⟩,
    ⟨(some 15), 15, (.mv (.t 14)), (some (11, false)), [7, 4, 4]⟩,
    ⟨(some 16), 16, (.fld 2 (.t 1)), (some (15, true)), [8]⟩,
    ⟨(some 17), 17, (.load false 1 (.t 16)), (some (15, true)), [9, 8]⟩,
    ⟨(some 18), 18, (.idx 2 (.t 17) (.k (.c (.s (.pv (.int .i64 0)))))), (some (15, true)), [10, 8]⟩,
    ⟨(some 19), 19, (.fld 1 (.t 18)), (some (15, true)), [11, 8]⟩,
    ⟨(some 20), 20, (.load false 1 (.t 19)), (some (15, true)), [12, 8]⟩,
    ⟨(some 21), 21, (.not (.t 20)), (some (15, true)), [13, 8]⟩,
    ⟨(some 22), 22, (.pick (.t 15) (.t 21) (.k (.c (.s (.pv (.bool false)))))), (some (11, false)), [8, 14, 4]⟩,
    ⟨(some 23), 23, (.pick (.t 11) (.k (.c (.s (.pv (.bool true))))) (.t 22)), none, [4, 15]⟩,
    ⟨(some 2), 2, (.mv (.t 23)), none, [16, 8, 0, 1, 2, 3, 4, 5, 6, 7, 8, 9, 10, 11, 12, 13, 14, 15, 16]⟩])
  .ret)))
theorem fn56 : FnIs Try.prog 56 ac56 [(.t 2)] 24 := ⟨Try.f56, Try.func56, by kernel_rfl, by kernel_rfl, by kernel_rfl⟩
/- lockkeeper/lockkeeperref08.let -/
def ac57 : ACode := (.seq (.reg [⟨(some 1), 1, (.box 57 3 (.t 0)), none, []⟩,
    ⟨(some 2), 2, (.mk 57 3 [[.zc, (.s (.pv (.bool false))), .zc]]), none, []⟩,
    ⟨(some 3), 3, (.mv (.k (.c .zc))), none, []⟩])
  (.seq (.reg [⟨(some 4), 4, (.mv (.k (.c .zc))), none, []⟩])
  (.seq (.block 0 (.loop (.seq (.seq (.reg [⟨(some 6), 6, (.load true 3 (.t 1)), none, []⟩,
    ⟨(some 7), 7, (.call 45 [(.t 6)]), none, [0]⟩])
  (.cond (.t 7) .skip (.exit 0)))
  (.block 1 (.seq (.reg [⟨(some 8), 8, (.fld 2 (.t 1)), none, []⟩,
    ⟨(some 9), 9, (.load false 1 (.t 8)), none, [0]⟩,
    ⟨(some 10), 10, (.idx 2 (.t 9) (.k (.c (.s (.pv (.int .i64 0)))))), none, [1]⟩,
    ⟨(some 11), 11, (.load true 2 (.t 10)), none, [2]⟩,
    ⟨(some 5), 5, (.mk 89 2 [[(.s (.pv (.int .i64 0))), (.s (.pv (.bool false)))]]), none, []⟩,
    ⟨none, 35, (.store 2 (.t 5) (.t 11)), none, [4, 3, 0, 1, 2, 3, 4]⟩])
  (.seq (.reg [⟨(some 12), 12, (.mv (.t 4)), none, []⟩,
    ⟨(some 13), 13, (.fld 0 (.t 5)), none, []⟩,
    ⟨(some 14), 14, (.load false 1 (.t 13)), none, [1]⟩,
    ⟨(some 15), 15, (.bslice 3 1 [(.s (.pv (.int .i64 0)))] 1 [(0, 1, (.t 14))]), none, [2]⟩,
    ⟨(some 16), 16, (.app 3 1 8 (.t 12) (.t 15)), none, [0, 3]⟩,
    ⟨(some 4), 4, (.mv (.t 16)), none, [4, 4, 0, 1, 2, 3, 4]⟩])
  (.draw [⟨(some 17), 17, (.fld 0 (.t 1)), none, []⟩,
    ⟨(some 18), 18, (.load false 1 (.t 17)), none, [0]⟩,
    ⟨(some 19), 19, (.fld 0 (.t 5)), none, []⟩,
    ⟨(some 20), 20, (.load false 1 (.t 19)), none, [2]⟩,
    ⟨(some 21), 21, (.call 67 [(.t 18), (.t 20)]), none, [1, 3]⟩,
    ⟨(some 22), 22, (.fld 1 (.t 5)), none, []⟩,
    ⟨(some 23), 23, (.load false 1 (.t 22)), none, [5]⟩,
    ⟨(some 24), 24, (.fld 2 (.t 1)), none, []⟩,
    ⟨(some 25), 25, (.load false 1 (.t 24)), none, [7]⟩,
    ⟨(some 26), 26, (.sub 2 (.t 25) (some (.k (.c (.s (.pv (.int .i64 1)))))) none), none, [8]⟩,
    ⟨(some 27), 27, (.build [.zc, (.s (.pv (.bool false))), .zc] [(0, 1, (.t 21)), (1, 1, (.t 23)), (2, 1, (.t 26))]), none, [4, 6, 9]⟩,
    ⟨none, 41, (.store 3 (.t 1) (.t 27)), none, [10, 4, 0, 1, 2, 3, 4, 5, 6, 7, 8, 9, 10]⟩])))))))
  (.seq (.reg [⟨(some 28), 28, (.load true 3 (.t 1)), none, []⟩,
    ⟨(some 29), 29, (.mv (.t 4)), none, []⟩,
    ⟨none, 32, (.store 3 (.t 2) (.t 28)), none, [0, 0]⟩,
    ⟨(some 3), 3, (.mv (.t 29)), none, [1, 2, 0, 1, 2]⟩])
  .ret))))
theorem fn57 : FnIs Try.prog 57 ac57 [(.cell 2 true 3), (.t 3)] 30 := ⟨Try.f57, Try.func57, by kernel_rfl, by kernel_rfl, by kernel_rfl⟩
/- slices.Contains[[]int,int] -/
def ac60 : ACode := (.seq (.reg [⟨(some 4), 4, (.mv (.k (.c (.s (.pv (.bool false)))))), none, []⟩])
  (.seq (.reg [⟨(some 5), 5, (.mv (.t 0)), none, []⟩,
    ⟨(some 6), 6, (.mv (.t 1)), none, []⟩,
    ⟨(some 7), 7, (.call 78 [(.t 5), (.t 6)]), none, [0, 1]⟩,
    ⟨(some 8), 8, (.bin false .geq (.t 7) (.k (.c (.s (.pv (.int .i64 0)))))), none, [2]⟩,
    ⟨(some 4), 4, (.mv (.t 8)), none, [3, 2, 0, 1, 2, 3]⟩])
  .ret))
theorem fn60 : FnIs Try.prog 60 ac60 [(.t 4)] 9 := ⟨Try.f60, Try.func60, by kernel_rfl, by kernel_rfl, by kernel_rfl⟩
/- slices.IndexFunc[[]lockkeeper/latch.Wait,lockkeeper/latch.Wait] -/
def ac61 : ACode := (.seq (.reg [⟨(some 4), 4, (.mv (.k (.c (.s (.pv (.int .i64 0)))))), none, []⟩])
  (.seq (.seq (.reg [⟨(some 6), 6, (.mv (.t 0)), none, []⟩,
    ⟨(some 7), 7, (.len (.t 6)), none, [0]⟩,
    ⟨(some 8), 8, (.mv (.k (.c (.s (.pv (.int .i64 0)))))), none, []⟩])
  (.block 0 (.loop (.seq (.reg [⟨(some 9), 9, (.bin false .lss (.t 8) (.t 7)), none, []⟩])
  (.seq (.cond (.t 9) .skip (.exit 0))
  (.seq (.block 1 (.seq (.reg [⟨(some 10), 10, (.mv (.t 8)), none, []⟩,
    ⟨(some 5), 5, (.mv (.t 10)), none, [0, 0]⟩])
  (.seq (.reg [⟨(some 11), 11, (.mv (.t 1)), none, []⟩,
    ⟨(some 12), 12, (.mv (.t 0)), none, []⟩,
    ⟨(some 13), 13, (.mv (.t 5)), none, []⟩,
    ⟨(some 14), 14, (.idx 2 (.t 12) (.t 13)), none, [1, 2]⟩,
    ⟨(some 15), 15, (.load true 2 (.t 14)), none, [3]⟩,
    ⟨(some 16), 16, (.callv (.t 11) [(.t 15)]), none, [0, 4]⟩])
  (.cond (.t 16) (.seq (.reg [⟨(some 17), 17, (.mv (.t 5)), none, []⟩,
    ⟨(some 4), 4, (.mv (.t 17)), none, [0, 0]⟩])
  .ret) .skip))))
  (.reg [⟨(some 18), 18, (.bin false .add (.t 8) (.k (.c (.s (.pv (.int .i64 1)))))), none, []⟩,
    ⟨(some 8), 8, (.mv (.t 18)), none, [0]⟩])))))))
  (.seq (.reg [⟨(some 4), 4, (.mv (.k (.c (.s (.pv (.int .i64 (-1))))))), none, []⟩])
  .ret)))
theorem fn61 : FnIs Try.prog 61 ac61 [(.t 4)] 19 := ⟨Try.f61, Try.func61, by kernel_rfl, by kernel_rfl, by kernel_rfl⟩
/- lockkeeper/latch.place$1 -/
def ac62 : ACode := (.seq (.reg [⟨(some 2), 2, (.box 88 2 (.t 0)), none, []⟩,
    ⟨(some 3), 3, (.mv (.k (.c (.s (.pv (.bool false)))))), none, []⟩])
  (.seq (.reg [⟨(some 4), 4, (.fld 0 (.t 2)), none, []⟩,
    ⟨(some 5), 5, (.load false 1 (.t 4)), none, [0]⟩,
    ⟨(some 6), 6, (.load false 1 (.t 1)), none, []⟩,
    ⟨(some 7), 7, (.bin false .eql (.t 5) (.t 6)), none, [1, 2]⟩,
    ⟨(some 3), 3, (.mv (.t 7)), none, [3, 0, 1, 2, 3]⟩])
  .ret))
theorem fn62 : FnIs Try.prog 62 ac62 [(.t 3)] 8 := ⟨Try.f62, Try.func62, by kernel_rfl, by kernel_rfl, by kernel_rfl⟩
/- cmp.Less[int] -/
def ac64 : ACode := (.seq (.reg [⟨(some 4), 4, (.mv (.k (.c (.s (.pv (.bool false)))))), none, []⟩])
  (.seq (.reg [⟨(some 5), 5, (.mv (.t 0)), none, []⟩,
    ⟨(some 6), 6, (.call 81 [(.t 5)]), none, [0]⟩,
    ⟨(some 7), 7, (.mv (.t 6)), none, [1, 1]⟩,
    ⟨(some 8), 8, (.mv (.t 1)), (some (7, true)), [2]⟩,
    ⟨(some 9), 9, (.call 81 [(.t 8)]), (some (7, true)), [3, 2, 2]⟩,
    ⟨(some 10), 10, (.not (.t 9)), (some (7, true)), [4, 2]⟩,
    ⟨(some 11), 11, (.pick (.t 7) (.t 10) (.k (.c (.s (.pv (.bool false)))))), none, [2, 5]⟩,
    ⟨(some 12), 12, (.mv (.t 11)), none, [6, 4]⟩,
    ⟨(some 13), 13, (.mv (.t 0)), (some (12, false)), [7]⟩,
    ⟨(some 14), 14, (.mv (.t 1)), (some (12, false)), [7]⟩,
    ⟨(some 15), 15, (.bin false .lss (.t 13) (.t 14)), (some (12, false)), [8, 9, 7]⟩,
    ⟨(some 16), 16, (.pick (.t 12) (.k (.c (.s (.pv (.bool true))))) (.t 15)), none, [7, 10]⟩,
    ⟨(some 4), 4, (.mv (.t 16)), none, [11, 7, 0, 1, 2, 3, 4, 5, 6, 7, 8, 9, 10, 11]⟩])
  .ret))
theorem fn64 : FnIs Try.prog 64 ac64 [(.t 4)] 17 := ⟨Try.f64, Try.func64, by kernel_rfl, by kernel_rfl, by kernel_rfl⟩
/- slices.isNaN[int] -/
def ac65 : ACode := (.seq (.reg [⟨(some 2), 2, (.mv (.k (.c (.s (.pv (.bool false)))))), none, []⟩])
  (.seq (.reg [⟨(some 3), 3, (.mv (.t 0)), none, []⟩,
    ⟨(some 4), 4, (.mv (.t 0)), none, []⟩,
    ⟨(some 5), 5, (.bin false .neq (.t 3) (.t 4)), none, [0, 1]⟩,
    ⟨(some 2), 2, (.mv (.t 5)), none, [2, 0, 1, 2]⟩])
  .ret))
theorem fn65 : FnIs Try.prog 65 ac65 [(.t 2)] 6 := ⟨Try.f65, Try.func65, by kernel_rfl, by kernel_rfl, by kernel_rfl⟩
/- slices.IsSorted[[]int,int] -/
def ac66 : ACode := (.seq (.reg [⟨(some 2), 2, (.mv (.k (.c (.s (.pv (.bool false)))))), none, []⟩])
  (.seq (.seq (.reg [⟨(some 4), 4, (.mv (.t 0)), none, []⟩,
    ⟨(some 5), 5, (.len (.t 4)), none, [0]⟩,
    ⟨(some 6), 6, (.bin false .sub (.t 5) (.k (.c (.s (.pv (.int .i64 1)))))), none, [1]⟩,
    ⟨(some 3), 3, (.mv (.t 6)), none, [2, 0, 1, 2]⟩])
  (.block 0 (.loop (.seq (.seq (.reg [⟨(some 7), 7, (.mv (.t 3)), none, []⟩,
    ⟨(some 8), 8, (.bin false .gtr (.t 7) (.k (.c (.s (.pv (.int .i64 0)))))), none, [0]⟩])
  (.cond (.t 8) .skip (.exit 0)))
  (.seq (.block 1 (.seq (.draw [⟨(some 11), 11, (.mv (.t 0)), none, []⟩,
    ⟨(some 12), 12, (.mv (.t 3)), none, []⟩,
    ⟨(some 13), 13, (.idx 1 (.t 11) (.t 12)), none, [0, 1]⟩,
    ⟨(some 14), 14, (.load false 1 (.t 13)), none, [2]⟩,
    ⟨(some 15), 15, (.mv (.t 0)), none, []⟩,
    ⟨(some 16), 16, (.mv (.t 3)), none, []⟩,
    ⟨(some 17), 17, (.bin false .sub (.t 16) (.k (.c (.s (.pv (.int .i64 1)))))), none, [5]⟩,
    ⟨(some 18), 18, (.idx 1 (.t 15) (.t 17)), none, [4, 6]⟩,
    ⟨(some 19), 19, (.load false 1 (.t 18)), none, [7]⟩,
    ⟨(some 20), 20, (.call 64 [(.t 14), (.t 19)]), none, [3, 8]⟩])
  (.cond (.t 20) (.seq (.reg [⟨(some 2), 2, (.mv (.k (.c (.s (.pv (.bool false)))))), none, []⟩])
  .ret) .skip)))
  (.reg [⟨(some 9), 9, (.mv (.t 3)), none, []⟩,
    ⟨(some 10), 10, (.bin false .sub (.t 9) (.k (.c (.s (.pv (.int .i64 1)))))), none, [0]⟩,
    ⟨(some 3), 3, (.mv (.t 10)), none, [1, 0, 1]⟩]))))))
  (.seq (.reg [⟨(some 2), 2, (.mv (.k (.c (.s (.pv (.bool true)))))), none, []⟩])
  .ret)))
theorem fn66 : FnIs Try.prog 66 ac66 [(.t 2)] 21 := ⟨Try.f66, Try.func66, by kernel_rfl, by kernel_rfl, by kernel_rfl⟩
/- lockkeeper/lockkeeperref08.with -/
def ac67 : ACode := (.seq (.reg [⟨(some 4), 4, (.mv (.k (.c .zc))), none, []⟩])
  (.seq (.reg [⟨(some 5), 5, (.mv (.k (.c .zc))), none, []⟩])
  (.seq (.reg [⟨(some 6), 6, (.mv (.k (.c (.s (.pv (.bool false)))))), none, []⟩])
  (.seq (.seq (.reg [⟨(some 7), 7, (.mv (.k (.c (.s (.pv (.int .i64 0)))))), none, []⟩])
  (.block 0 (.loop (.seq (.seq (.reg [⟨(some 8), 8, (.mv (.t 7)), none, []⟩,
    ⟨(some 9), 9, (.mv (.t 0)), none, []⟩,
    ⟨(some 10), 10, (.len (.t 9)), none, [1]⟩,
    ⟨(some 11), 11, (.bin false .lss (.t 8) (.t 10)), none, [0, 2]⟩])
  (.cond (.t 11) .skip (.exit 0)))
  (.seq (.block 1 (.seq (.seq (.reg [⟨(some 14), 14, (.mv (.t 6)), none, []⟩,
    ⟨(some 15), 15, (.not (.t 14)), none, [0]⟩,
    ⟨(some 16), 16, (.mv (.t 15)), none, [1]⟩,
    ⟨(some 17), 17, (.mv (.t 0)), (some (16, true)), [2]⟩,
    ⟨(some 18), 18, (.mv (.t 7)), (some (16, true)), [2]⟩,
    ⟨(some 19), 19, (.idx 1 (.t 17) (.t 18)), (some (16, true)), [3, 4, 2]⟩,
    ⟨(some 20), 20, (.load false 1 (.t 19)), (some (16, true)), [5, 2]⟩,
    ⟨(some 21), 21, (.mv (.t 1)), (some (16, true)), [2]⟩,
    ⟨(some 22), 22, (.bin false .gtr (.t 20) (.t 21)), (some (16, true)), [6, 7, 2]⟩,
    ⟨(some 23), 23, (.pick (.t 16) (.t 22) (.k (.c (.s (.pv (.bool false)))))), none, [2, 8]⟩])
  (.cond (.t 23) (.seq (.reg [⟨(some 24), 24, (.mv (.t 5)), none, []⟩,
    ⟨(some 25), 25, (.mv (.t 1)), none, []⟩,
    ⟨(some 26), 26, (.bslice 3 1 [(.s (.pv (.int .i64 0)))] 1 [(0, 1, (.t 25))]), none, [1]⟩,
    ⟨(some 27), 27, (.app 3 1 8 (.t 24) (.t 26)), none, [0, 2]⟩,
    ⟨(some 5), 5, (.mv (.t 27)), none, [3, 3, 0, 1, 2, 3]⟩])
  (.reg [⟨(some 6), 6, (.mv (.k (.c (.s (.pv (.bool true)))))), none, []⟩])) .skip))
  (.reg [⟨(some 28), 28, (.mv (.t 5)), none, []⟩,
    ⟨(some 29), 29, (.mv (.t 0)), none, []⟩,
    ⟨(some 30), 30, (.mv (.t 7)), none, []⟩,
    ⟨(some 31), 31, (.idx 1 (.t 29) (.t 30)), none, [1, 2]⟩,
    ⟨(some 32), 32, (.load false 1 (.t 31)), none, [3]⟩,
    ⟨(some 33), 33, (.bslice 3 1 [(.s (.pv (.int .i64 0)))] 1 [(0, 1, (.t 32))]), none, [4]⟩,
    ⟨(some 34), 34, (.app 3 1 8 (.t 28) (.t 33)), none, [0, 5]⟩,
    ⟨(some 5), 5, (.mv (.t 34)), none, [6, 6, 0, 1, 2, 3, 4, 5, 6]⟩])))
  (.reg [⟨(some 12), 12, (.mv (.t 7)), none, []⟩,
    ⟨(some 13), 13, (.bin false .add (.t 12) (.k (.c (.s (.pv (.int .i64 1)))))), none, [0]⟩,
    ⟨(some 7), 7, (.mv (.t 13)), none, [1, 0, 1]⟩]))))))
  (.seq (.seq (.reg [⟨(some 35), 35, (.mv (.t 6)), none, []⟩,
    ⟨(some 36), 36, (.not (.t 35)), none, [0]⟩])
  (.cond (.t 36) (.reg [⟨(some 37), 37, (.mv (.t 5)), none, []⟩,
    ⟨(some 38), 38, (.mv (.t 1)), none, []⟩,
    ⟨(some 39), 39, (.bslice 3 1 [(.s (.pv (.int .i64 0)))] 1 [(0, 1, (.t 38))]), none, [1]⟩,
    ⟨(some 40), 40, (.app 3 1 8 (.t 37) (.t 39)), none, [0, 2]⟩,
    ⟨(some 5), 5, (.mv (.t 40)), none, [3, 3, 0, 1, 2, 3]⟩]) .skip))
  (.seq (.reg [⟨(some 41), 41, (.mv (.t 5)), none, []⟩,
    ⟨(some 4), 4, (.mv (.t 41)), none, [0, 0]⟩])
  .ret))))))
theorem fn67 : FnIs Try.prog 67 ac67 [(.t 4)] 42 := ⟨Try.f67, Try.func67, by kernel_rfl, by kernel_rfl, by kernel_rfl⟩
/- slices.Index[[]int,int] -/
def ac78 : ACode := (.seq (.reg [⟨(some 4), 4, (.mv (.k (.c (.s (.pv (.int .i64 0)))))), none, []⟩])
  (.seq (.seq (.reg [⟨(some 6), 6, (.mv (.t 0)), none, []⟩,
    ⟨(some 7), 7, (.len (.t 6)), none, [0]⟩,
    ⟨(some 8), 8, (.mv (.k (.c (.s (.pv (.int .i64 0)))))), none, []⟩])
  (.block 0 (.loop (.seq (.reg [⟨(some 9), 9, (.bin false .lss (.t 8) (.t 7)), none, []⟩])
  (.seq (.cond (.t 9) .skip (.exit 0))
  (.seq (.block 1 (.seq (.reg [⟨(some 10), 10, (.mv (.t 8)), none, []⟩,
    ⟨(some 5), 5, (.mv (.t 10)), none, [0, 0]⟩])
  (.seq (.reg [⟨(some 11), 11, (.mv (.t 1)), none, []⟩,
    ⟨(some 12), 12, (.mv (.t 0)), none, []⟩,
    ⟨(some 13), 13, (.mv (.t 5)), none, []⟩,
    ⟨(some 14), 14, (.idx 1 (.t 12) (.t 13)), none, [1, 2]⟩,
    ⟨(some 15), 15, (.load false 1 (.t 14)), none, [3]⟩,
    ⟨(some 16), 16, (.bin false .eql (.t 11) (.t 15)), none, [0, 4]⟩])
  (.cond (.t 16) (.seq (.reg [⟨(some 17), 17, (.mv (.t 5)), none, []⟩,
    ⟨(some 4), 4, (.mv (.t 17)), none, [0, 0]⟩])
  .ret) .skip))))
  (.reg [⟨(some 18), 18, (.bin false .add (.t 8) (.k (.c (.s (.pv (.int .i64 1)))))), none, []⟩,
    ⟨(some 8), 8, (.mv (.t 18)), none, [0]⟩])))))))
  (.seq (.reg [⟨(some 4), 4, (.mv (.k (.c (.s (.pv (.int .i64 (-1))))))), none, []⟩])
  .ret)))
theorem fn78 : FnIs Try.prog 78 ac78 [(.t 4)] 19 := ⟨Try.f78, Try.func78, by kernel_rfl, by kernel_rfl, by kernel_rfl⟩
/- cmp.isNaN[int] -/
def ac81 : ACode := (.seq (.reg [⟨(some 2), 2, (.mv (.k (.c (.s (.pv (.bool false)))))), none, []⟩])
  (.seq (.reg [⟨(some 3), 3, (.mv (.t 0)), none, []⟩,
    ⟨(some 4), 4, (.mv (.t 0)), none, []⟩,
    ⟨(some 5), 5, (.bin false .neq (.t 3) (.t 4)), none, [0, 1]⟩,
    ⟨(some 2), 2, (.mv (.t 5)), none, [2, 0, 1, 2]⟩])
  .ret))
theorem fn81 : FnIs Try.prog 81 ac81 [(.t 2)] 6 := ⟨Try.f81, Try.func81, by kernel_rfl, by kernel_rfl, by kernel_rfl⟩

end Go.Proofs.Ytkiddlkmodclhaa
