/- THE PROGRAM's functions, as the abstract machine's code (printed by wip/tools/code.py out of the translation). No condition. -/
import Derived.Test.YtfmbfgoofiojcaaAm22
import Derived.Test.YtfmbfgoofiojcaaProg
import Derived.KernelRfl
namespace Go.Proofs.Ytfmbfgoofiojcaa
set_option maxRecDepth 100000
/- lockkeeper/lockkeeperlaw05.LanesPush -/
def ac3 : ACode := (.seq (.reg [⟨(some 5), 5, (.box 25 3 (.t 1)), none, []⟩,
    ⟨(some 8), 8, (.mv (.k (.c (.s (.pv (.bool false)))))), none, []⟩])
  (.seq (.reg [⟨(some 27), 27, (.load true 3 (.t 5)), none, []⟩,
    ⟨(some 28), 28, (.call 15 [(.t 27)]), none, [0]⟩,
    ⟨(some 26), 26, (.mv (.t 28)), none, [1]⟩,
    ⟨(some 29), 29, (.ext 0 (.t 26)), none, [2]⟩,
    ⟨(some 30), 30, (.ext 1 (.t 26)), none, [2]⟩,
    ⟨(some 9), 9, (.mk 28 3 [[.zc, (.s (.pv (.int .i64 0))), (.s (.pv (.bool false)))]]), none, []⟩,
    ⟨none, 211, (.store 3 (.t 9) (.t 29)), none, [5, 3, 1, 0, 1, 2, 3, 5]⟩,
    ⟨(some 10), 10, (.mv (.t 30)), none, [4, 6, 0, 1, 2, 3, 4, 5, 6]⟩])
  (.seq (.seq (.reg [⟨(some 31), 31, (.mv (.t 10)), none, []⟩,
    ⟨(some 32), 32, (.not (.t 31)), none, [0]⟩,
    ⟨(some 33), 33, (.mv (.t 32)), none, [1]⟩,
    ⟨(some 34), 34, (.mv (.t 0)), (some (33, false)), [2]⟩,
    ⟨(some 35), 35, (.len (.t 34)), (some (33, false)), [3, 2]⟩,
    ⟨(some 36), 36, (.bin false .gtr (.t 35) (.k (.c (.s (.pv (.int .i64 40)))))), (some (33, false)), [4, 2]⟩,
    ⟨(some 37), 37, (.pick (.t 33) (.k (.c (.s (.pv (.bool true))))) (.t 36)), none, [2, 5]⟩])
  (.cond (.t 37) (.seq (.reg [⟨(some 38), 38, (.call 16 []), none, []⟩,
    ⟨(some 8), 8, (.mv (.t 38)), none, [0, 0, 0]⟩])
  .ret) .skip))
  (.seq (.reg [⟨(some 40), 40, (.mv (.t 0)), none, []⟩,
    ⟨(some 41), 41, (.call 17 [(.t 40)]), none, [0]⟩,
    ⟨(some 39), 39, (.mv (.t 41)), none, [1]⟩,
    ⟨(some 42), 42, (.ext 0 (.t 39)), none, [2]⟩,
    ⟨(some 43), 43, (.ext 1 (.t 39)), none, [2]⟩,
    ⟨(some 11), 11, (.mk 25 3 [[.zc, (.s (.pv (.int .i64 0))), (.s (.pv (.bool false)))]]), none, []⟩,
    ⟨none, 211, (.store 3 (.t 11) (.t 42)), none, [5, 3, 1, 0, 1, 2, 3, 5]⟩,
    ⟨(some 12), 12, (.mv (.t 43)), none, [4, 6, 0, 1, 2, 3, 4, 5, 6]⟩])
  (.seq (.reg [⟨(some 45), 45, (.load true 3 (.t 11)), none, []⟩,
    ⟨(some 46), 46, (.call 15 [(.t 45)]), none, [0]⟩,
    ⟨(some 44), 44, (.mv (.t 46)), none, [1]⟩,
    ⟨(some 47), 47, (.ext 0 (.t 44)), none, [2]⟩,
    ⟨(some 48), 48, (.ext 1 (.t 44)), none, [2]⟩,
    ⟨(some 13), 13, (.mk 28 3 [[.zc, (.s (.pv (.int .i64 0))), (.s (.pv (.bool false)))]]), none, []⟩,
    ⟨none, 211, (.store 3 (.t 13) (.t 47)), none, [5, 3, 1, 0, 1, 2, 3, 5]⟩,
    ⟨(some 14), 14, (.mv (.t 48)), none, [4, 6, 0, 1, 2, 3, 4, 5, 6]⟩])
  (.seq (.reg [⟨(some 49), 49, (.build [.zc, (.s (.pv (.int .i64 0))), (.s (.pv (.bool false)))] []), none, []⟩,
    ⟨(some 15), 15, (.mk 28 3 [[.zc, (.s (.pv (.int .i64 0))), (.s (.pv (.bool false)))]]), none, []⟩,
    ⟨none, 207, (.store 3 (.t 15) (.t 49)), none, [1, 0, 0, 1]⟩])
  (.seq (.seq (.reg [⟨(some 50), 50, (.mv (.t 0)), none, []⟩,
    ⟨(some 51), 51, (.len (.t 50)), none, [0]⟩,
    ⟨(some 52), 52, (.mv (.k (.c (.s (.pv (.int .i64 0)))))), none, []⟩])
  (.block 0 (.loop (.seq (.reg [⟨(some 53), 53, (.bin false .lss (.t 52) (.t 51)), none, []⟩])
  (.seq (.cond (.t 53) .skip (.exit 0))
  (.seq (.block 1 (.seq (.reg [⟨(some 54), 54, (.idx 1 (.t 50) (.t 52)), none, []⟩,
    ⟨(some 55), 55, (.load false 1 (.t 54)), none, [0]⟩,
    ⟨(some 17), 17, (.mv (.t 55)), none, [1, 0, 1]⟩])
  (.reg [⟨(some 56), 56, (.fld 0 (.t 15)), none, []⟩,
    ⟨(some 57), 57, (.load false 1 (.t 56)), none, [0]⟩,
    ⟨(some 58), 58, (.mv (.t 17)), none, []⟩,
    ⟨(some 59), 59, (.build [(.s (.pv (.int .i64 0))), (.s (.pv (.int .i64 0))), .zc] [(0, 1, (.t 58))]), none, [2]⟩,
    ⟨(some 60), 60, (.bslice 36 3 [(.s (.pv (.int .i64 0))), (.s (.pv (.int .i64 0))), .zc] 1 [(0, 3, (.t 59))]), none, [3]⟩,
    ⟨(some 61), 61, (.app 36 3 40 (.t 57) (.t 60)), none, [1, 4]⟩,
    ⟨(some 62), 62, (.fld 0 (.t 15)), none, [0, 1, 2, 3, 4, 5]⟩,
    ⟨none, 212, (.store 1 (.t 62) (.t 61)), none, [6, 5, 5, 0, 1, 2, 3, 4, 5]⟩])))
  (.reg [⟨(some 63), 63, (.bin false .add (.t 52) (.k (.c (.s (.pv (.int .i64 1)))))), none, []⟩,
    ⟨(some 52), 52, (.mv (.t 63)), none, [0]⟩])))))))
  (.seq (.seq (.reg [⟨(some 64), 64, (.load true 3 (.t 15)), none, []⟩,
    ⟨(some 65), 65, (.call 18 [(.t 64)]), none, [0]⟩,
    ⟨(some 66), 66, (.mv (.t 12)), none, []⟩,
    ⟨(some 67), 67, (.bin false .eql (.t 66) (.k (.c (.s (.pv (.int .i64 0)))))), none, [2]⟩,
    ⟨(some 68), 68, (.bin true .neq (.t 65) (.t 67)), none, [1, 3]⟩,
    ⟨(some 69), 69, (.mv (.t 68)), none, [4, 1]⟩,
    ⟨(some 70), 70, (.mv (.t 12)), (some (69, false)), [5]⟩,
    ⟨(some 71), 71, (.bin false .eql (.t 70) (.k (.c (.s (.pv (.int .i64 0)))))), (some (69, false)), [6, 5]⟩,
    ⟨(some 72), 72, (.mv (.t 71)), (some (69, false)), [7, 5, 5]⟩,
    ⟨(some 73), 73, (.load true 3 (.t 13)), (some (72, true)), [8]⟩,
    ⟨(some 74), 74, (.load true 3 (.t 15)), (some (72, true)), [8]⟩,
    ⟨(some 75), 75, (.call 19 [(.t 73), (.t 74)]), (some (72, true)), [9, 10, 8, 8]⟩,
    ⟨(some 76), 76, (.not (.t 75)), (some (72, true)), [11, 8]⟩,
    ⟨(some 77), 77, (.pick (.t 72) (.t 76) (.k (.c (.s (.pv (.bool false)))))), (some (69, false)), [8, 12, 5]⟩,
    ⟨(some 78), 78, (.pick (.t 69) (.k (.c (.s (.pv (.bool true))))) (.t 77)), none, [5, 13]⟩,
    ⟨(some 79), 79, (.mv (.t 78)), none, [14, 11]⟩,
    ⟨(some 80), 80, (.mv (.t 12)), (some (79, false)), [15]⟩,
    ⟨(some 81), 81, (.bin false .neq (.t 80) (.k (.c (.s (.pv (.int .i64 0)))))), (some (79, false)), [16, 15]⟩,
    ⟨(some 82), 82, (.mv (.t 81)), (some (79, false)), [17, 15, 15]⟩,
    ⟨(some 83), 83, (.mv (.t 12)), (some (82, true)), [18]⟩,
    ⟨(some 84), 84, (.bin false .neq (.t 83) (.k (.c (.s (.pv (.int .i64 1)))))), (some (82, true)), [19, 18]⟩,
    ⟨(some 85), 85, (.mv (.t 84)), (some (82, true)), [20, 18, 18]⟩,
    ⟨(some 86), 86, (.fld 0 (.t 11)), (some (85, false)), [21]⟩,
    ⟨(some 87), 87, (.load false 1 (.t 86)), (some (85, false)), [22, 21]⟩,
    ⟨(some 88), 88, (.len (.t 87)), (some (85, false)), [23, 21]⟩,
    ⟨(some 89), 89, (.bin false .neq (.t 88) (.k (.c (.s (.pv (.int .i64 0)))))), (some (85, false)), [24, 21]⟩,
    ⟨(some 90), 90, (.pick (.t 85) (.k (.c (.s (.pv (.bool true))))) (.t 89)), (some (82, true)), [21, 25, 18]⟩,
    ⟨(some 91), 91, (.pick (.t 82) (.t 90) (.k (.c (.s (.pv (.bool false)))))), (some (79, false)), [18, 26, 15]⟩,
    ⟨(some 92), 92, (.pick (.t 79) (.k (.c (.s (.pv (.bool true))))) (.t 91)), none, [15, 27]⟩])
  (.cond (.t 92) (.seq (.reg [⟨(some 8), 8, (.mv (.k (.c (.s (.pv (.bool false)))))), none, []⟩])
  .ret) .skip))
  (.seq (.reg [⟨(some 94), 94, (.load true 3 (.t 5)), none, []⟩,
    ⟨(some 95), 95, (.mv (.t 2)), none, []⟩,
    ⟨(some 96), 96, (.mv (.t 3)), none, []⟩,
    ⟨(some 97), 97, (.call 20 [(.t 94), (.t 95), (.t 96)]), none, [0, 1, 2]⟩,
    ⟨(some 93), 93, (.mv (.t 97)), none, [3]⟩,
    ⟨(some 98), 98, (.ext 0 (.t 93)), none, [4]⟩,
    ⟨(some 99), 99, (.ext 1 (.t 93)), none, [4]⟩,
    ⟨(some 18), 18, (.mk 25 3 [[.zc, (.s (.pv (.int .i64 0))), (.s (.pv (.bool false)))]]), none, []⟩,
    ⟨none, 213, (.store 3 (.t 18) (.t 98)), none, [7, 5, 3, 0, 1, 2, 3, 4, 5, 7]⟩,
    ⟨(some 19), 19, (.mv (.t 99)), none, [6, 8, 0, 1, 2, 3, 4, 5, 6, 7, 8]⟩])
  (.seq (.reg [⟨(some 101), 101, (.load true 3 (.t 18)), none, []⟩,
    ⟨(some 102), 102, (.call 15 [(.t 101)]), none, [0]⟩,
    ⟨(some 100), 100, (.mv (.t 102)), none, [1]⟩,
    ⟨(some 103), 103, (.ext 0 (.t 100)), none, [2]⟩,
    ⟨(some 104), 104, (.ext 1 (.t 100)), none, [2]⟩,
    ⟨(some 20), 20, (.mk 28 3 [[.zc, (.s (.pv (.int .i64 0))), (.s (.pv (.bool false)))]]), none, []⟩,
    ⟨none, 211, (.store 3 (.t 20) (.t 103)), none, [5, 3, 1, 0, 1, 2, 3, 5]⟩,
    ⟨(some 21), 21, (.mv (.t 104)), none, [4, 6, 0, 1, 2, 3, 4, 5, 6]⟩])
  (.seq (.reg [⟨(some 105), 105, (.load true 3 (.t 9)), none, []⟩,
    ⟨(some 106), 106, (.call 18 [(.t 105)]), none, [0]⟩,
    ⟨(some 22), 22, (.mv (.t 106)), none, [1, 1, 0, 1]⟩])
  (.seq (.seq (.reg [⟨(some 107), 107, (.mv (.t 21)), none, []⟩,
    ⟨(some 108), 108, (.not (.t 107)), none, [0]⟩,
    ⟨(some 109), 109, (.mv (.t 108)), none, [1]⟩,
    ⟨(some 110), 110, (.load true 3 (.t 5)), (some (109, false)), [2]⟩,
    ⟨(some 111), 111, (.call 21 [(.t 110)]), (some (109, false)), [3, 2, 2]⟩,
    ⟨(some 112), 112, (.mv (.t 22)), (some (109, false)), [2]⟩,
    ⟨(some 113), 113, (.bin true .neq (.t 111) (.t 112)), (some (109, false)), [4, 5, 2]⟩,
    ⟨(some 114), 114, (.pick (.t 109) (.k (.c (.s (.pv (.bool true))))) (.t 113)), none, [2, 6]⟩])
  (.cond (.t 114) (.seq (.reg [⟨(some 8), 8, (.mv (.k (.c (.s (.pv (.bool false)))))), none, []⟩])
  .ret) .skip))
  (.seq (.seq (.reg [⟨(some 115), 115, (.mv (.t 22)), none, []⟩,
    ⟨(some 116), 116, (.not (.t 115)), none, [0]⟩,
    ⟨(some 117), 117, (.mv (.t 116)), none, [1]⟩,
    ⟨(some 118), 118, (.mv (.t 2)), (some (117, false)), [2]⟩,
    ⟨(some 119), 119, (.bin false .lss (.t 118) (.k (.c (.s (.pv (.int .i64 0)))))), (some (117, false)), [3, 2]⟩,
    ⟨(some 120), 120, (.pick (.t 117) (.k (.c (.s (.pv (.bool true))))) (.t 119)), none, [2, 4]⟩,
    ⟨(some 121), 121, (.mv (.t 120)), none, [5, 2]⟩,
    ⟨(some 122), 122, (.mv (.t 2)), (some (121, false)), [6]⟩,
    ⟨(some 123), 123, (.fld 0 (.t 9)), (some (121, false)), [6]⟩,
    ⟨(some 124), 124, (.load false 1 (.t 123)), (some (121, false)), [8, 6]⟩,
    ⟨(some 125), 125, (.len (.t 124)), (some (121, false)), [9, 6]⟩,
    ⟨(some 126), 126, (.bin false .geq (.t 122) (.t 125)), (some (121, false)), [7, 10, 6]⟩,
    ⟨(some 127), 127, (.pick (.t 121) (.k (.c (.s (.pv (.bool true))))) (.t 126)), none, [6, 11]⟩,
    ⟨(some 128), 128, (.mv (.t 127)), none, [12, 6]⟩,
    ⟨(some 129), 129, (.mv (.t 3)), (some (128, false)), [13]⟩,
    ⟨(some 130), 130, (.bin false .lss (.t 129) (.k (.c (.s (.pv (.int .i64 1)))))), (some (128, false)), [14, 13]⟩,
    ⟨(some 131), 131, (.pick (.t 128) (.k (.c (.s (.pv (.bool true))))) (.t 130)), none, [13, 15]⟩,
    ⟨(some 132), 132, (.mv (.t 131)), none, [16, 13]⟩,
    ⟨(some 133), 133, (.mv (.t 3)), (some (132, false)), [17]⟩,
    ⟨(some 134), 134, (.bin false .gtr (.t 133) (.k (.c (.s (.pv (.int .i64 8)))))), (some (132, false)), [18, 17]⟩,
    ⟨(some 135), 135, (.pick (.t 132) (.k (.c (.s (.pv (.bool true))))) (.t 134)), none, [17, 19]⟩])
  (.cond (.t 135) (.seq (.reg [⟨(some 136), 136, (.mv (.t 19)), none, []⟩,
    ⟨(some 137), 137, (.bin false .eql (.t 136) (.k (.c (.s (.pv (.int .i64 1)))))), none, [0]⟩,
    ⟨(some 138), 138, (.mv (.t 137)), none, [1]⟩,
    ⟨(some 139), 139, (.load true 3 (.t 9)), (some (138, true)), [2]⟩,
    ⟨(some 140), 140, (.load true 3 (.t 20)), (some (138, true)), [2]⟩,
    ⟨(some 141), 141, (.call 19 [(.t 139), (.t 140)]), (some (138, true)), [3, 4, 2, 2]⟩,
    ⟨(some 142), 142, (.pick (.t 138) (.t 141) (.k (.c (.s (.pv (.bool false)))))), none, [2, 5]⟩,
    ⟨(some 143), 143, (.mv (.t 142)), none, [6, 5]⟩,
    ⟨(some 144), 144, (.call 16 []), (some (143, true)), [7, 7]⟩,
    ⟨(some 145), 145, (.pick (.t 143) (.t 144) (.k (.c (.s (.pv (.bool false)))))), none, [7, 8]⟩,
    ⟨(some 8), 8, (.mv (.t 145)), none, [9, 8, 0, 1, 2, 3, 4, 5, 6, 7, 8, 9]⟩])
  .ret) .skip))
  (.seq (.seq (.reg [⟨(some 146), 146, (.fld 0 (.t 9)), none, []⟩,
    ⟨(some 147), 147, (.load false 1 (.t 146)), none, [0]⟩,
    ⟨(some 148), 148, (.mv (.t 2)), none, []⟩,
    ⟨(some 149), 149, (.idx 3 (.t 147) (.t 148)), none, [1, 2]⟩,
    ⟨(some 150), 150, (.fld 2 (.t 149)), none, [3]⟩,
    ⟨(some 151), 151, (.load false 1 (.t 150)), none, [4]⟩,
    ⟨(some 152), 152, (.len (.t 151)), none, [5]⟩,
    ⟨(some 153), 153, (.bin false .eql (.t 152) (.k (.c (.s (.pv (.int .i64 200)))))), none, [6]⟩])
  (.cond (.t 153) (.seq (.reg [⟨(some 154), 154, (.mv (.t 19)), none, []⟩,
    ⟨(some 155), 155, (.bin false .eql (.t 154) (.k (.c (.s (.pv (.int .i64 7)))))), none, [0]⟩,
    ⟨(some 156), 156, (.mv (.t 155)), none, [1]⟩,
    ⟨(some 157), 157, (.load true 3 (.t 9)), (some (156, true)), [2]⟩,
    ⟨(some 158), 158, (.load true 3 (.t 20)), (some (156, true)), [2]⟩,
    ⟨(some 159), 159, (.call 19 [(.t 157), (.t 158)]), (some (156, true)), [3, 4, 2, 2]⟩,
    ⟨(some 160), 160, (.pick (.t 156) (.t 159) (.k (.c (.s (.pv (.bool false)))))), none, [2, 5]⟩,
    ⟨(some 161), 161, (.mv (.t 160)), none, [6, 5]⟩,
    ⟨(some 162), 162, (.call 16 []), (some (161, true)), [7, 7]⟩,
    ⟨(some 163), 163, (.pick (.t 161) (.t 162) (.k (.c (.s (.pv (.bool false)))))), none, [7, 8]⟩,
    ⟨(some 8), 8, (.mv (.t 163)), none, [9, 8, 0, 1, 2, 3, 4, 5, 6, 7, 8, 9]⟩])
  .ret) .skip))
  (.seq (.reg [⟨(some 164), 164, (.fld 1 (.t 9)), none, []⟩,
    ⟨(some 165), 165, (.load false 1 (.t 164)), none, [0]⟩,
    ⟨(some 166), 166, (.fld 2 (.t 9)), none, []⟩,
    ⟨(some 167), 167, (.load false 1 (.t 166)), none, [2]⟩,
    ⟨(some 168), 168, (.build [.zc, (.s (.pv (.int .i64 0))), (.s (.pv (.bool false)))] [(1, 1, (.t 165)), (2, 1, (.t 167))]), none, [1, 3]⟩,
    ⟨(some 23), 23, (.mk 28 3 [[.zc, (.s (.pv (.int .i64 0))), (.s (.pv (.bool false)))]]), none, []⟩,
    ⟨none, 211, (.store 3 (.t 23) (.t 168)), none, [5, 4, 0, 1, 2, 3, 4, 5]⟩])
  (.seq (.seq (.reg [⟨(some 169), 169, (.fld 0 (.t 9)), none, []⟩,
    ⟨(some 170), 170, (.load false 1 (.t 169)), none, [0]⟩,
    ⟨(some 171), 171, (.len (.t 170)), none, [1]⟩,
    ⟨(some 172), 172, (.mv (.k (.c (.s (.pv (.int .i64 0)))))), none, []⟩])
  (.block 2 (.loop (.seq (.reg [⟨(some 173), 173, (.bin false .lss (.t 172) (.t 171)), none, []⟩])
  (.seq (.cond (.t 173) .skip (.exit 2))
  (.seq (.block 3 (.seq (.reg [⟨(some 174), 174, (.mv (.t 172)), none, []⟩,
    ⟨(some 175), 175, (.idx 3 (.t 170) (.t 172)), none, []⟩,
    ⟨(some 176), 176, (.load true 3 (.t 175)), none, [1]⟩,
    ⟨(some 25), 25, (.mk 36 3 [[(.s (.pv (.int .i64 0))), (.s (.pv (.int .i64 0))), .zc]]), none, []⟩,
    ⟨(some 24), 24, (.mv (.t 174)), none, [0, 0, 1, 2, 3]⟩,
    ⟨none, 210, (.store 3 (.t 25) (.t 176)), none, [3, 2, 4, 0, 1, 2, 3, 4]⟩])
  (.seq (.seq (.reg [⟨(some 177), 177, (.mv (.t 24)), none, []⟩,
    ⟨(some 178), 178, (.mv (.t 2)), none, []⟩,
    ⟨(some 179), 179, (.bin false .eql (.t 177) (.t 178)), none, [0, 1]⟩])
  (.cond (.t 179) (.reg [⟨(some 180), 180, (.bslice 3 1 [(.s (.pv (.int .i64 0)))] 0 []), none, []⟩,
    ⟨(some 181), 181, (.fld 2 (.t 25)), none, []⟩,
    ⟨(some 182), 182, (.load false 1 (.t 181)), none, [1]⟩,
    ⟨(some 183), 183, (.app 3 1 8 (.t 180) (.t 182)), none, [0, 2]⟩,
    ⟨(some 184), 184, (.mv (.t 3)), none, []⟩,
    ⟨(some 185), 185, (.bslice 3 1 [(.s (.pv (.int .i64 0)))] 1 [(0, 1, (.t 184))]), none, [4]⟩,
    ⟨(some 186), 186, (.app 3 1 8 (.t 183) (.t 185)), none, [3, 5, 3]⟩,
    ⟨(some 187), 187, (.fld 2 (.t 25)), none, [0, 1, 2, 3, 4, 5, 6]⟩,
    ⟨none, 213, (.store 1 (.t 187) (.t 186)), none, [7, 6, 6, 0, 1, 2, 3, 4, 5, 6]⟩]) .skip))
  (.reg [⟨(some 188), 188, (.fld 0 (.t 23)), none, []⟩,
    ⟨(some 189), 189, (.load false 1 (.t 188)), none, [0]⟩,
    ⟨(some 190), 190, (.load true 3 (.t 25)), none, []⟩,
    ⟨(some 191), 191, (.bslice 36 3 [(.s (.pv (.int .i64 0))), (.s (.pv (.int .i64 0))), .zc] 1 [(0, 3, (.t 190))]), none, [2]⟩,
    ⟨(some 192), 192, (.app 36 3 40 (.t 189) (.t 191)), none, [1, 3]⟩,
    ⟨(some 193), 193, (.fld 0 (.t 23)), none, [0, 1, 2, 3, 4]⟩,
    ⟨none, 211, (.store 1 (.t 193) (.t 192)), none, [5, 4, 4, 0, 1, 2, 3, 4]⟩]))))
  (.reg [⟨(some 194), 194, (.bin false .add (.t 172) (.k (.c (.s (.pv (.int .i64 1)))))), none, []⟩,
    ⟨(some 172), 172, (.mv (.t 194)), none, [0]⟩])))))))
  (.seq (.reg [⟨(some 195), 195, (.mv (.t 19)), none, []⟩,
    ⟨(some 196), 196, (.bin false .eql (.t 195) (.k (.c (.s (.pv (.int .i64 0)))))), none, [0]⟩,
    ⟨(some 197), 197, (.mv (.t 196)), none, [1]⟩,
    ⟨(some 198), 198, (.load true 3 (.t 23)), (some (197, true)), [2]⟩,
    ⟨(some 199), 199, (.load true 3 (.t 20)), (some (197, true)), [2]⟩,
    ⟨(some 200), 200, (.call 19 [(.t 198), (.t 199)]), (some (197, true)), [3, 4, 2, 2]⟩,
    ⟨(some 201), 201, (.pick (.t 197) (.t 200) (.k (.c (.s (.pv (.bool false)))))), none, [2, 5]⟩,
    ⟨(some 202), 202, (.mv (.t 201)), none, [6, 5]⟩,
    ⟨(some 203), 203, (.call 16 []), (some (202, true)), [7, 7]⟩,
    ⟨(some 204), 204, (.pick (.t 202) (.t 203) (.k (.c (.s (.pv (.bool false)))))), none, [7, 8]⟩,
    ⟨(some 8), 8, (.mv (.t 204)), none, [9, 8, 0, 1, 2, 3, 4, 5, 6, 7, 8, 9]⟩])
  .ret)))))))))))))))))
theorem fn3 : FnIs Try.prog 3 ac3 [(.t 8)] 205 := ⟨Try.f3, Try.func3, by kernel_rfl, by kernel_rfl, by kernel_rfl⟩
/- lockkeeper/lockkeeperlaw05.LanesFair -/
def ac4 : ACode := (.seq (.reg [⟨(some 6), 6, (.mv (.k (.c (.s (.pv (.bool false)))))), none, []⟩])
  (.seq (.reg [⟨(some 18), 18, (.mv (.t 0)), none, []⟩,
    ⟨(some 19), 19, (.mv (.t 1)), none, []⟩,
    ⟨(some 20), 20, (.call 22 [(.t 18), (.t 19)]), none, [0, 1]⟩,
    ⟨(some 17), 17, (.mv (.t 20)), none, [2]⟩,
    ⟨(some 21), 21, (.ext 0 (.t 17)), none, [3]⟩,
    ⟨(some 22), 22, (.ext 1 (.t 17)), none, [3]⟩,
    ⟨(some 23), 23, (.ext 2 (.t 17)), none, [3]⟩,
    ⟨(some 7), 7, (.mk 25 3 [[.zc, (.s (.pv (.int .i64 0))), (.s (.pv (.bool false)))]]), none, []⟩,
    ⟨none, 126, (.store 3 (.t 7) (.t 21)), none, [7, 4, 2, 0, 1, 2, 3, 4, 7]⟩,
    ⟨(some 8), 8, (.mv (.t 22)), none, [5, 8, 0, 1, 2, 3, 4, 5, 7, 8]⟩,
    ⟨(some 9), 9, (.mv (.t 23)), none, [6, 9, 0, 1, 2, 3, 4, 5, 6, 7, 8, 9]⟩])
  (.seq (.seq (.reg [⟨(some 24), 24, (.mv (.t 9)), none, []⟩,
    ⟨(some 25), 25, (.not (.t 24)), none, [0]⟩])
  (.cond (.t 25) (.seq (.reg [⟨(some 6), 6, (.mv (.k (.c (.s (.pv (.bool false)))))), none, []⟩])
  .ret) .skip))
  (.seq (.reg [⟨(some 26), 26, (.mv (.t 8)), none, []⟩,
    ⟨(some 27), 27, (.len (.t 26)), none, [0]⟩,
    ⟨(some 28), 28, (.mkSlice 3 1 8 [(.pv (.int .i64 0))] (.t 27) (.t 27)), none, [1, 1]⟩,
    ⟨(some 10), 10, (.mv (.t 28)), none, [2, 0, 1, 2]⟩])
  (.seq (.seq (.reg [⟨(some 29), 29, (.mv (.t 2)), none, []⟩,
    ⟨(some 30), 30, (.bin false .rem (.t 29) (.k (.c (.s (.pv (.int .u8 101)))))), none, [0]⟩,
    ⟨(some 31), 31, (.mv (.k (.c (.s (.pv (.int .u8 0)))))), none, []⟩])
  (.block 0 (.loop (.seq (.reg [⟨(some 32), 32, (.bin false .lss (.t 31) (.t 30)), none, []⟩])
  (.seq (.cond (.t 32) .skip (.exit 0))
  (.seq (.block 1 (.seq (.reg [⟨(some 34), 34, (.load true 3 (.t 7)), none, []⟩,
    ⟨(some 35), 35, (.call 23 [(.t 34)]), none, [0]⟩,
    ⟨(some 33), 33, (.mv (.t 35)), none, [1]⟩,
    ⟨(some 36), 36, (.ext 0 (.t 33)), none, [2]⟩,
    ⟨(some 37), 37, (.ext 1 (.t 33)), none, [2]⟩,
    ⟨(some 38), 38, (.ext 2 (.t 33)), none, [2]⟩,
    ⟨(some 39), 39, (.ext 3 (.t 33)), none, [2]⟩,
    ⟨(some 11), 11, (.mk 25 3 [[.zc, (.s (.pv (.int .i64 0))), (.s (.pv (.bool false)))]]), none, []⟩,
    ⟨none, 126, (.store 3 (.t 11) (.t 36)), none, [7, 3, 1, 0, 1, 2, 3, 7]⟩,
    ⟨(some 12), 12, (.mv (.t 37)), none, [4, 8, 0, 1, 2, 3, 4, 7, 8]⟩,
    ⟨(some 13), 13, (.mv (.t 38)), none, [5, 9, 0, 1, 2, 3, 4, 5, 7, 8, 9]⟩,
    ⟨(some 14), 14, (.mv (.t 39)), none, [6, 10, 0, 1, 2, 3, 4, 5, 6, 7, 8, 9, 10]⟩])
  (.seq (.seq (.reg [⟨(some 40), 40, (.mv (.t 14)), none, []⟩,
    ⟨(some 41), 41, (.not (.t 40)), none, [0]⟩,
    ⟨(some 42), 42, (.mv (.t 41)), none, [1]⟩,
    ⟨(some 43), 43, (.mv (.t 12)), (some (42, false)), [2]⟩,
    ⟨(some 44), 44, (.bin false .lss (.t 43) (.k (.c (.s (.pv (.int .i64 0)))))), (some (42, false)), [3, 2]⟩,
    ⟨(some 45), 45, (.pick (.t 42) (.k (.c (.s (.pv (.bool true))))) (.t 44)), none, [2, 4]⟩,
    ⟨(some 46), 46, (.mv (.t 45)), none, [5, 2]⟩,
    ⟨(some 47), 47, (.mv (.t 12)), (some (46, false)), [6]⟩,
    ⟨(some 48), 48, (.mv (.t 8)), (some (46, false)), [6]⟩,
    ⟨(some 49), 49, (.len (.t 48)), (some (46, false)), [8, 6]⟩,
    ⟨(some 50), 50, (.bin false .geq (.t 47) (.t 49)), (some (46, false)), [7, 9, 6]⟩,
    ⟨(some 51), 51, (.pick (.t 46) (.k (.c (.s (.pv (.bool true))))) (.t 50)), none, [6, 10]⟩,
    ⟨(some 52), 52, (.mv (.t 51)), none, [11, 6]⟩,
    ⟨(some 53), 53, (.mv (.t 13)), (some (52, false)), [12]⟩,
    ⟨(some 54), 54, (.bin false .lss (.t 53) (.k (.c (.s (.pv (.int .i64 1)))))), (some (52, false)), [13, 12]⟩,
    ⟨(some 55), 55, (.pick (.t 52) (.k (.c (.s (.pv (.bool true))))) (.t 54)), none, [12, 14]⟩,
    ⟨(some 56), 56, (.mv (.t 55)), none, [15, 12]⟩,
    ⟨(some 57), 57, (.mv (.t 13)), (some (56, false)), [16]⟩,
    ⟨(some 58), 58, (.bin false .gtr (.t 57) (.k (.c (.s (.pv (.int .i64 8)))))), (some (56, false)), [17, 16]⟩,
    ⟨(some 59), 59, (.pick (.t 56) (.k (.c (.s (.pv (.bool true))))) (.t 58)), none, [16, 18]⟩])
  (.cond (.t 59) (.seq (.reg [⟨(some 6), 6, (.mv (.k (.c (.s (.pv (.bool false)))))), none, []⟩])
  .ret) .skip))
  (.seq (.reg [⟨(some 60), 60, (.mv (.t 10)), none, []⟩,
    ⟨(some 61), 61, (.mv (.t 12)), none, []⟩,
    ⟨(some 62), 62, (.idx 1 (.t 60) (.t 61)), none, [0, 1]⟩,
    ⟨(some 63), 63, (.load false 1 (.t 62)), none, [2]⟩,
    ⟨(some 64), 64, (.mv (.t 13)), none, []⟩,
    ⟨(some 65), 65, (.bin false .add (.t 63) (.t 64)), none, [3, 4]⟩,
    ⟨(some 66), 66, (.idx 1 (.t 60) (.t 61)), none, [0, 1, 0, 1, 2, 3, 4, 5]⟩,
    ⟨none, 125, (.store 1 (.t 66) (.t 65)), none, [6, 5, 0, 1, 2, 3, 4, 5]⟩])
  (.seq (.reg [⟨(some 67), 67, (.load true 3 (.t 11)), none, []⟩,
    ⟨none, 119, (.store 3 (.t 7) (.t 67)), none, [0, 0]⟩])
  (.seq (.reg [⟨(some 68), 68, (.mv (.t 8)), none, []⟩,
    ⟨(some 69), 69, (.len (.t 68)), none, [0]⟩,
    ⟨(some 70), 70, (.mv (.k (.c (.s (.pv (.int .i64 0)))))), none, []⟩])
  (.block 2 (.loop (.seq (.reg [⟨(some 71), 71, (.bin false .lss (.t 70) (.t 69)), none, []⟩])
  (.seq (.cond (.t 71) .skip (.exit 2))
  (.seq (.block 3 (.seq (.reg [⟨(some 72), 72, (.mv (.t 70)), none, []⟩,
    ⟨(some 15), 15, (.mv (.t 72)), none, [0, 0]⟩])
  (.seq (.reg [⟨(some 73), 73, (.mv (.t 8)), none, []⟩,
    ⟨(some 74), 74, (.len (.t 73)), none, [0]⟩,
    ⟨(some 75), 75, (.mv (.k (.c (.s (.pv (.int .i64 0)))))), none, []⟩])
  (.block 4 (.loop (.seq (.reg [⟨(some 76), 76, (.bin false .lss (.t 75) (.t 74)), none, []⟩])
  (.seq (.cond (.t 76) .skip (.exit 4))
  (.seq (.block 5 (.seq (.reg [⟨(some 77), 77, (.mv (.t 75)), none, []⟩,
    ⟨(some 16), 16, (.mv (.t 77)), none, [0, 0]⟩])
  (.seq (.draw [⟨(some 78), 78, (.mv (.t 10)), none, []⟩,
    ⟨(some 79), 79, (.mv (.t 15)), none, []⟩,
    ⟨(some 80), 80, (.idx 1 (.t 78) (.t 79)), none, [0, 1]⟩,
    ⟨(some 81), 81, (.load false 1 (.t 80)), none, [2]⟩,
    ⟨(some 82), 82, (.mv (.t 8)), none, []⟩,
    ⟨(some 83), 83, (.mv (.t 16)), none, []⟩,
    ⟨(some 84), 84, (.idx 1 (.t 82) (.t 83)), none, [4, 5]⟩,
    ⟨(some 85), 85, (.load false 1 (.t 84)), none, [6]⟩,
    ⟨(some 86), 86, (.bin false .mul (.t 81) (.t 85)), none, [3, 7]⟩,
    ⟨(some 87), 87, (.mv (.t 10)), none, []⟩,
    ⟨(some 88), 88, (.mv (.t 16)), none, []⟩,
    ⟨(some 89), 89, (.idx 1 (.t 87) (.t 88)), none, [9, 10]⟩,
    ⟨(some 90), 90, (.load false 1 (.t 89)), none, [11]⟩,
    ⟨(some 91), 91, (.mv (.t 8)), none, []⟩,
    ⟨(some 92), 92, (.mv (.t 15)), none, []⟩,
    ⟨(some 93), 93, (.idx 1 (.t 91) (.t 92)), none, [13, 14]⟩,
    ⟨(some 94), 94, (.load false 1 (.t 93)), none, [15]⟩,
    ⟨(some 95), 95, (.bin false .mul (.t 90) (.t 94)), none, [12, 16]⟩,
    ⟨(some 96), 96, (.bin false .sub (.t 86) (.t 95)), none, [8, 17]⟩,
    ⟨(some 97), 97, (.mv (.t 8)), none, []⟩,
    ⟨(some 98), 98, (.mv (.t 15)), none, []⟩,
    ⟨(some 99), 99, (.idx 1 (.t 97) (.t 98)), none, [19, 20]⟩,
    ⟨(some 100), 100, (.load false 1 (.t 99)), none, [21]⟩,
    ⟨(some 101), 101, (.mv (.t 8)), none, []⟩,
    ⟨(some 102), 102, (.mv (.t 16)), none, []⟩,
    ⟨(some 103), 103, (.idx 1 (.t 101) (.t 102)), none, [23, 24]⟩,
    ⟨(some 104), 104, (.load false 1 (.t 103)), none, [25]⟩,
    ⟨(some 105), 105, (.bin false .mul (.t 100) (.t 104)), none, [22, 26]⟩,
    ⟨(some 106), 106, (.bin false .mul (.t 105) (.k (.c (.s (.pv (.int .i64 4)))))), none, [27]⟩,
    ⟨(some 107), 107, (.mv (.t 8)), none, []⟩,
    ⟨(some 108), 108, (.mv (.t 15)), none, []⟩,
    ⟨(some 109), 109, (.idx 1 (.t 107) (.t 108)), none, [29, 30]⟩,
    ⟨(some 110), 110, (.load false 1 (.t 109)), none, [31]⟩,
    ⟨(some 111), 111, (.bin false .mul (.k (.c (.s (.pv (.int .i64 7))))) (.t 110)), none, [32]⟩,
    ⟨(some 112), 112, (.bin false .add (.t 106) (.t 111)), none, [28, 33]⟩,
    ⟨(some 113), 113, (.bin false .gtr (.t 96) (.t 112)), none, [18, 34]⟩])
  (.cond (.t 113) (.seq (.reg [⟨(some 6), 6, (.mv (.k (.c (.s (.pv (.bool false)))))), none, []⟩])
  .ret) .skip))))
  (.reg [⟨(some 114), 114, (.bin false .add (.t 75) (.k (.c (.s (.pv (.int .i64 1)))))), none, []⟩,
    ⟨(some 75), 75, (.mv (.t 114)), none, [0]⟩])))))))))
  (.reg [⟨(some 115), 115, (.bin false .add (.t 70) (.k (.c (.s (.pv (.int .i64 1)))))), none, []⟩,
    ⟨(some 70), 70, (.mv (.t 115)), none, [0]⟩]))))))))))))
  (.reg [⟨(some 116), 116, (.bin false .add (.t 31) (.k (.c (.s (.pv (.int .u8 1)))))), none, []⟩,
    ⟨(some 31), 31, (.mv (.t 116)), none, [0]⟩])))))))
  (.seq (.reg [⟨(some 117), 117, (.call 16 []), none, []⟩,
    ⟨(some 6), 6, (.mv (.t 117)), none, [0, 0, 0]⟩])
  .ret))))))
theorem fn4 : FnIs Try.prog 4 ac4 [(.t 6)] 118 := ⟨Try.f4, Try.func4, by kernel_rfl, by kernel_rfl, by kernel_rfl⟩
/- lockkeeper/lockkeeperlaw05.LanesStretch -/
def ac5 : ACode := (.seq (.reg [⟨(some 8), 8, (.mv (.k (.c (.s (.pv (.bool false)))))), none, []⟩])
  (.seq (.reg [⟨(some 24), 24, (.mv (.t 0)), none, []⟩,
    ⟨(some 25), 25, (.mv (.t 1)), none, []⟩,
    ⟨(some 26), 26, (.call 22 [(.t 24), (.t 25)]), none, [0, 1]⟩,
    ⟨(some 23), 23, (.mv (.t 26)), none, [2]⟩,
    ⟨(some 27), 27, (.ext 0 (.t 23)), none, [3]⟩,
    ⟨(some 28), 28, (.ext 1 (.t 23)), none, [3]⟩,
    ⟨(some 29), 29, (.ext 2 (.t 23)), none, [3]⟩,
    ⟨(some 9), 9, (.mk 25 3 [[.zc, (.s (.pv (.int .i64 0))), (.s (.pv (.bool false)))]]), none, []⟩,
    ⟨none, 158, (.store 3 (.t 9) (.t 27)), none, [7, 4, 2, 0, 1, 2, 3, 4, 7]⟩,
    ⟨(some 10), 10, (.mv (.t 28)), none, [5, 8, 0, 1, 2, 3, 4, 5, 7, 8]⟩,
    ⟨(some 11), 11, (.mv (.t 29)), none, [6, 9, 0, 1, 2, 3, 4, 5, 6, 7, 8, 9]⟩])
  (.seq (.seq (.reg [⟨(some 30), 30, (.mv (.t 11)), none, []⟩,
    ⟨(some 31), 31, (.not (.t 30)), none, [0]⟩])
  (.cond (.t 31) (.seq (.reg [⟨(some 8), 8, (.mv (.k (.c (.s (.pv (.bool false)))))), none, []⟩])
  .ret) .skip))
  (.seq (.seq (.reg [⟨(some 32), 32, (.mv (.t 2)), none, []⟩,
    ⟨(some 33), 33, (.bin false .rem (.t 32) (.k (.c (.s (.pv (.int .u8 61)))))), none, [0]⟩,
    ⟨(some 34), 34, (.mv (.k (.c (.s (.pv (.int .u8 0)))))), none, []⟩])
  (.block 0 (.loop (.seq (.reg [⟨(some 35), 35, (.bin false .lss (.t 34) (.t 33)), none, []⟩])
  (.seq (.cond (.t 35) .skip (.exit 0))
  (.seq (.block 1 (.seq (.reg [⟨(some 37), 37, (.load true 3 (.t 9)), none, []⟩,
    ⟨(some 38), 38, (.call 23 [(.t 37)]), none, [0]⟩,
    ⟨(some 36), 36, (.mv (.t 38)), none, [1]⟩,
    ⟨(some 39), 39, (.ext 0 (.t 36)), none, [2]⟩,
    ⟨(some 40), 40, (.ext 1 (.t 36)), none, [2]⟩,
    ⟨(some 41), 41, (.ext 2 (.t 36)), none, [2]⟩,
    ⟨(some 42), 42, (.ext 3 (.t 36)), none, [2]⟩,
    ⟨(some 12), 12, (.mk 25 3 [[.zc, (.s (.pv (.int .i64 0))), (.s (.pv (.bool false)))]]), none, []⟩,
    ⟨none, 158, (.store 3 (.t 12) (.t 39)), none, [7, 3, 1, 0, 1, 2, 3, 7]⟩,
    ⟨(some 13), 13, (.mv (.t 40)), none, [4, 8, 0, 1, 2, 3, 4, 7, 8]⟩,
    ⟨(some 14), 14, (.mv (.t 41)), none, [5, 9, 0, 1, 2, 3, 4, 5, 7, 8, 9]⟩,
    ⟨(some 15), 15, (.mv (.t 42)), none, [6, 10, 0, 1, 2, 3, 4, 5, 6, 7, 8, 9, 10]⟩])
  (.seq (.seq (.reg [⟨(some 43), 43, (.mv (.t 15)), none, []⟩,
    ⟨(some 44), 44, (.not (.t 43)), none, [0]⟩])
  (.cond (.t 44) (.seq (.reg [⟨(some 8), 8, (.mv (.k (.c (.s (.pv (.bool false)))))), none, []⟩])
  .ret) .skip))
  (.reg [⟨(some 45), 45, (.load true 3 (.t 12)), none, []⟩,
    ⟨none, 151, (.store 3 (.t 9) (.t 45)), none, [0, 0]⟩]))))
  (.reg [⟨(some 46), 46, (.bin false .add (.t 34) (.k (.c (.s (.pv (.int .u8 1)))))), none, []⟩,
    ⟨(some 34), 34, (.mv (.t 46)), none, [0]⟩])))))))
  (.seq (.reg [⟨(some 47), 47, (.mv (.t 10)), none, []⟩,
    ⟨(some 48), 48, (.len (.t 47)), none, [0]⟩,
    ⟨(some 49), 49, (.mkSlice 3 1 8 [(.pv (.int .i64 0))] (.t 48) (.t 48)), none, [1, 1]⟩,
    ⟨(some 16), 16, (.mv (.t 49)), none, [2, 0, 1, 2]⟩])
  (.seq (.seq (.reg [⟨(some 50), 50, (.mv (.t 3)), none, []⟩,
    ⟨(some 51), 51, (.bin false .rem (.t 50) (.k (.c (.s (.pv (.int .u8 61)))))), none, [0]⟩,
    ⟨(some 52), 52, (.mv (.k (.c (.s (.pv (.int .u8 0)))))), none, []⟩])
  (.block 2 (.loop (.seq (.reg [⟨(some 53), 53, (.bin false .lss (.t 52) (.t 51)), none, []⟩])
  (.seq (.cond (.t 53) .skip (.exit 2))
  (.seq (.block 3 (.seq (.reg [⟨(some 55), 55, (.load true 3 (.t 9)), none, []⟩,
    ⟨(some 56), 56, (.call 23 [(.t 55)]), none, [0]⟩,
    ⟨(some 54), 54, (.mv (.t 56)), none, [1]⟩,
    ⟨(some 57), 57, (.ext 0 (.t 54)), none, [2]⟩,
    ⟨(some 58), 58, (.ext 1 (.t 54)), none, [2]⟩,
    ⟨(some 59), 59, (.ext 2 (.t 54)), none, [2]⟩,
    ⟨(some 60), 60, (.ext 3 (.t 54)), none, [2]⟩,
    ⟨(some 17), 17, (.mk 25 3 [[.zc, (.s (.pv (.int .i64 0))), (.s (.pv (.bool false)))]]), none, []⟩,
    ⟨none, 158, (.store 3 (.t 17) (.t 57)), none, [7, 3, 1, 0, 1, 2, 3, 7]⟩,
    ⟨(some 18), 18, (.mv (.t 58)), none, [4, 8, 0, 1, 2, 3, 4, 7, 8]⟩,
    ⟨(some 19), 19, (.mv (.t 59)), none, [5, 9, 0, 1, 2, 3, 4, 5, 7, 8, 9]⟩,
    ⟨(some 20), 20, (.mv (.t 60)), none, [6, 10, 0, 1, 2, 3, 4, 5, 6, 7, 8, 9, 10]⟩])
  (.seq (.seq (.reg [⟨(some 61), 61, (.mv (.t 20)), none, []⟩,
    ⟨(some 62), 62, (.not (.t 61)), none, [0]⟩,
    ⟨(some 63), 63, (.mv (.t 62)), none, [1]⟩,
    ⟨(some 64), 64, (.mv (.t 18)), (some (63, false)), [2]⟩,
    ⟨(some 65), 65, (.bin false .lss (.t 64) (.k (.c (.s (.pv (.int .i64 0)))))), (some (63, false)), [3, 2]⟩,
    ⟨(some 66), 66, (.pick (.t 63) (.k (.c (.s (.pv (.bool true))))) (.t 65)), none, [2, 4]⟩,
    ⟨(some 67), 67, (.mv (.t 66)), none, [5, 2]⟩,
    ⟨(some 68), 68, (.mv (.t 18)), (some (67, false)), [6]⟩,
    ⟨(some 69), 69, (.mv (.t 10)), (some (67, false)), [6]⟩,
    ⟨(some 70), 70, (.len (.t 69)), (some (67, false)), [8, 6]⟩,
    ⟨(some 71), 71, (.bin false .geq (.t 68) (.t 70)), (some (67, false)), [7, 9, 6]⟩,
    ⟨(some 72), 72, (.pick (.t 67) (.k (.c (.s (.pv (.bool true))))) (.t 71)), none, [6, 10]⟩])
  (.cond (.t 72) (.seq (.reg [⟨(some 8), 8, (.mv (.k (.c (.s (.pv (.bool false)))))), none, []⟩])
  .ret) .skip))
  (.seq (.reg [⟨(some 73), 73, (.mv (.t 16)), none, []⟩,
    ⟨(some 74), 74, (.mv (.t 18)), none, []⟩,
    ⟨(some 75), 75, (.idx 1 (.t 73) (.t 74)), none, [0, 1]⟩,
    ⟨(some 76), 76, (.load false 1 (.t 75)), none, [2]⟩,
    ⟨(some 77), 77, (.mv (.t 19)), none, []⟩,
    ⟨(some 78), 78, (.bin false .add (.t 76) (.t 77)), none, [3, 4]⟩,
    ⟨(some 79), 79, (.idx 1 (.t 73) (.t 74)), none, [0, 1, 0, 1, 2, 3, 4, 5]⟩,
    ⟨none, 157, (.store 1 (.t 79) (.t 78)), none, [6, 5, 0, 1, 2, 3, 4, 5]⟩])
  (.seq (.reg [⟨(some 80), 80, (.load true 3 (.t 17)), none, []⟩,
    ⟨none, 151, (.store 3 (.t 9) (.t 80)), none, [0, 0]⟩])
  (.seq (.reg [⟨(some 81), 81, (.mv (.t 10)), none, []⟩,
    ⟨(some 82), 82, (.len (.t 81)), none, [0]⟩,
    ⟨(some 83), 83, (.mv (.k (.c (.s (.pv (.int .i64 0)))))), none, []⟩])
  (.block 4 (.loop (.seq (.reg [⟨(some 84), 84, (.bin false .lss (.t 83) (.t 82)), none, []⟩])
  (.seq (.cond (.t 84) .skip (.exit 4))
  (.seq (.block 5 (.seq (.reg [⟨(some 85), 85, (.mv (.t 83)), none, []⟩,
    ⟨(some 21), 21, (.mv (.t 85)), none, [0, 0]⟩])
  (.seq (.reg [⟨(some 86), 86, (.mv (.t 10)), none, []⟩,
    ⟨(some 87), 87, (.len (.t 86)), none, [0]⟩,
    ⟨(some 88), 88, (.mv (.k (.c (.s (.pv (.int .i64 0)))))), none, []⟩])
  (.block 6 (.loop (.seq (.reg [⟨(some 89), 89, (.bin false .lss (.t 88) (.t 87)), none, []⟩])
  (.seq (.cond (.t 89) .skip (.exit 6))
  (.seq (.block 7 (.seq (.reg [⟨(some 90), 90, (.mv (.t 88)), none, []⟩,
    ⟨(some 22), 22, (.mv (.t 90)), none, [0, 0]⟩])
  (.seq (.draw [⟨(some 91), 91, (.mv (.t 16)), none, []⟩,
    ⟨(some 92), 92, (.mv (.t 21)), none, []⟩,
    ⟨(some 93), 93, (.idx 1 (.t 91) (.t 92)), none, [0, 1]⟩,
    ⟨(some 94), 94, (.load false 1 (.t 93)), none, [2]⟩,
    ⟨(some 95), 95, (.mv (.t 10)), none, []⟩,
    ⟨(some 96), 96, (.mv (.t 22)), none, []⟩,
    ⟨(some 97), 97, (.idx 1 (.t 95) (.t 96)), none, [4, 5]⟩,
    ⟨(some 98), 98, (.load false 1 (.t 97)), none, [6]⟩,
    ⟨(some 99), 99, (.bin false .mul (.t 94) (.t 98)), none, [3, 7]⟩,
    ⟨(some 100), 100, (.mv (.t 16)), none, []⟩,
    ⟨(some 101), 101, (.mv (.t 22)), none, []⟩,
    ⟨(some 102), 102, (.idx 1 (.t 100) (.t 101)), none, [9, 10]⟩,
    ⟨(some 103), 103, (.load false 1 (.t 102)), none, [11]⟩,
    ⟨(some 104), 104, (.mv (.t 10)), none, []⟩,
    ⟨(some 105), 105, (.mv (.t 21)), none, []⟩,
    ⟨(some 106), 106, (.idx 1 (.t 104) (.t 105)), none, [13, 14]⟩,
    ⟨(some 107), 107, (.load false 1 (.t 106)), none, [15]⟩,
    ⟨(some 108), 108, (.bin false .mul (.t 103) (.t 107)), none, [12, 16]⟩,
    ⟨(some 109), 109, (.bin false .sub (.t 99) (.t 108)), none, [8, 17]⟩,
    ⟨(some 110), 110, (.mv (.t 10)), none, []⟩,
    ⟨(some 111), 111, (.mv (.t 21)), none, []⟩,
    ⟨(some 112), 112, (.idx 1 (.t 110) (.t 111)), none, [19, 20]⟩,
    ⟨(some 113), 113, (.load false 1 (.t 112)), none, [21]⟩,
    ⟨(some 114), 114, (.mv (.t 10)), none, []⟩,
    ⟨(some 115), 115, (.mv (.t 22)), none, []⟩,
    ⟨(some 116), 116, (.idx 1 (.t 114) (.t 115)), none, [23, 24]⟩,
    ⟨(some 117), 117, (.load false 1 (.t 116)), none, [25]⟩,
    ⟨(some 118), 118, (.bin false .mul (.t 113) (.t 117)), none, [22, 26]⟩,
    ⟨(some 119), 119, (.bin false .mul (.t 118) (.k (.c (.s (.pv (.int .i64 4)))))), none, [27]⟩,
    ⟨(some 120), 120, (.mv (.t 10)), none, []⟩,
    ⟨(some 121), 121, (.mv (.t 21)), none, []⟩,
    ⟨(some 122), 122, (.idx 1 (.t 120) (.t 121)), none, [29, 30]⟩,
    ⟨(some 123), 123, (.load false 1 (.t 122)), none, [31]⟩,
    ⟨(some 124), 124, (.bin false .mul (.k (.c (.s (.pv (.int .i64 7))))) (.t 123)), none, [32]⟩,
    ⟨(some 125), 125, (.bin false .add (.t 119) (.t 124)), none, [28, 33]⟩,
    ⟨(some 126), 126, (.bin false .mul (.k (.c (.s (.pv (.int .i64 3))))) (.t 125)), none, [34]⟩,
    ⟨(some 127), 127, (.mv (.t 10)), none, []⟩,
    ⟨(some 128), 128, (.mv (.t 21)), none, []⟩,
    ⟨(some 129), 129, (.idx 1 (.t 127) (.t 128)), none, [36, 37]⟩,
    ⟨(some 130), 130, (.load false 1 (.t 129)), none, [38]⟩,
    ⟨(some 131), 131, (.mv (.t 10)), none, []⟩,
    ⟨(some 132), 132, (.mv (.t 22)), none, []⟩,
    ⟨(some 133), 133, (.idx 1 (.t 131) (.t 132)), none, [40, 41]⟩,
    ⟨(some 134), 134, (.load false 1 (.t 133)), none, [42]⟩,
    ⟨(some 135), 135, (.bin false .mul (.t 130) (.t 134)), none, [39, 43]⟩,
    ⟨(some 136), 136, (.bin false .mul (.t 135) (.k (.c (.s (.pv (.int .i64 4)))))), none, [44]⟩,
    ⟨(some 137), 137, (.mv (.t 10)), none, []⟩,
    ⟨(some 138), 138, (.mv (.t 22)), none, []⟩,
    ⟨(some 139), 139, (.idx 1 (.t 137) (.t 138)), none, [46, 47]⟩,
    ⟨(some 140), 140, (.load false 1 (.t 139)), none, [48]⟩,
    ⟨(some 141), 141, (.bin false .mul (.k (.c (.s (.pv (.int .i64 7))))) (.t 140)), none, [49]⟩,
    ⟨(some 142), 142, (.bin false .add (.t 136) (.t 141)), none, [45, 50]⟩,
    ⟨(some 143), 143, (.bin false .mul (.k (.c (.s (.pv (.int .i64 3))))) (.t 142)), none, [51]⟩,
    ⟨(some 144), 144, (.bin false .add (.t 126) (.t 143)), none, [35, 52]⟩,
    ⟨(some 145), 145, (.bin false .gtr (.t 109) (.t 144)), none, [18, 53]⟩])
  (.cond (.t 145) (.seq (.reg [⟨(some 8), 8, (.mv (.k (.c (.s (.pv (.bool false)))))), none, []⟩])
  .ret) .skip))))
  (.reg [⟨(some 146), 146, (.bin false .add (.t 88) (.k (.c (.s (.pv (.int .i64 1)))))), none, []⟩,
    ⟨(some 88), 88, (.mv (.t 146)), none, [0]⟩])))))))))
  (.reg [⟨(some 147), 147, (.bin false .add (.t 83) (.k (.c (.s (.pv (.int .i64 1)))))), none, []⟩,
    ⟨(some 83), 83, (.mv (.t 147)), none, [0]⟩]))))))))))))
  (.reg [⟨(some 148), 148, (.bin false .add (.t 52) (.k (.c (.s (.pv (.int .u8 1)))))), none, []⟩,
    ⟨(some 52), 52, (.mv (.t 148)), none, [0]⟩])))))))
  (.seq (.reg [⟨(some 149), 149, (.call 16 []), none, []⟩,
    ⟨(some 8), 8, (.mv (.t 149)), none, [0, 0, 0]⟩])
  .ret)))))))
theorem fn5 : FnIs Try.prog 5 ac5 [(.t 8)] 150 := ⟨Try.f5, Try.func5, by kernel_rfl, by kernel_rfl, by kernel_rfl⟩
/- lockkeeper/lockkeeperlaw05.LanesAll -/
def ac6 : ACode := (.seq (.reg [⟨(some 4), 4, (.mv (.k (.c (.s (.pv (.bool false)))))), none, []⟩])
  (.seq (.reg [⟨(some 5), 5, (.mv (.k (.c .zc))), none, []⟩])
  (.seq (.seq (.reg [⟨(some 6), 6, (.mv (.k (.c (.s (.pv (.int .i64 0)))))), none, []⟩])
  (.block 0 (.loop (.seq (.seq (.reg [⟨(some 25), 25, (.mv (.t 6)), none, []⟩,
    ⟨(some 26), 26, (.mv (.t 0)), none, []⟩,
    ⟨(some 27), 27, (.len (.t 26)), none, [1]⟩,
    ⟨(some 28), 28, (.bin false .lss (.t 25) (.t 27)), none, [0, 2]⟩,
    ⟨(some 29), 29, (.mv (.t 28)), none, [3]⟩,
    ⟨(some 30), 30, (.mv (.t 6)), (some (29, true)), [4]⟩,
    ⟨(some 31), 31, (.bin false .lss (.t 30) (.k (.c (.s (.pv (.int .i64 6)))))), (some (29, true)), [5, 4]⟩,
    ⟨(some 32), 32, (.pick (.t 29) (.t 31) (.k (.c (.s (.pv (.bool false)))))), none, [4, 6]⟩])
  (.cond (.t 32) .skip (.exit 0)))
  (.seq (.block 1 (.reg [⟨(some 35), 35, (.mv (.t 5)), none, []⟩,
    ⟨(some 36), 36, (.mv (.t 0)), none, []⟩,
    ⟨(some 37), 37, (.mv (.t 6)), none, []⟩,
    ⟨(some 38), 38, (.idx 1 (.t 36) (.t 37)), none, [1, 2]⟩,
    ⟨(some 39), 39, (.load false 1 (.t 38)), none, [3]⟩,
    ⟨(some 40), 40, (.bin false .rem (.t 39) (.k (.c (.s (.pv (.int .u8 8)))))), none, [4]⟩,
    ⟨(some 41), 41, (.conv .i64 (.t 40)), none, [5]⟩,
    ⟨(some 42), 42, (.bin false .add (.k (.c (.s (.pv (.int .i64 1))))) (.t 41)), none, [6]⟩,
    ⟨(some 43), 43, (.bslice 3 1 [(.s (.pv (.int .i64 0)))] 1 [(0, 1, (.t 42))]), none, [7]⟩,
    ⟨(some 44), 44, (.app 3 1 8 (.t 35) (.t 43)), none, [0, 8]⟩,
    ⟨(some 5), 5, (.mv (.t 44)), none, [9, 9, 0, 1, 2, 3, 4, 5, 6, 7, 8, 9]⟩]))
  (.reg [⟨(some 33), 33, (.mv (.t 6)), none, []⟩,
    ⟨(some 34), 34, (.bin false .add (.t 33) (.k (.c (.s (.pv (.int .i64 1)))))), none, [0]⟩,
    ⟨(some 6), 6, (.mv (.t 34)), none, [1, 0, 1]⟩]))))))
  (.seq (.reg [⟨(some 46), 46, (.mv (.t 5)), none, []⟩,
    ⟨(some 47), 47, (.call 17 [(.t 46)]), none, [0]⟩,
    ⟨(some 45), 45, (.mv (.t 47)), none, [1]⟩,
    ⟨(some 48), 48, (.ext 0 (.t 45)), none, [2]⟩,
    ⟨(some 49), 49, (.ext 1 (.t 45)), none, [2]⟩,
    ⟨(some 7), 7, (.mk 25 3 [[.zc, (.s (.pv (.int .i64 0))), (.s (.pv (.bool false)))]]), none, []⟩,
    ⟨none, 176, (.store 3 (.t 7) (.t 48)), none, [5, 3, 1, 0, 1, 2, 3, 5]⟩,
    ⟨(some 8), 8, (.mv (.t 49)), none, [4, 6, 0, 1, 2, 3, 4, 5, 6]⟩])
  (.seq (.seq (.reg [⟨(some 50), 50, (.mv (.t 8)), none, []⟩,
    ⟨(some 51), 51, (.bin false .neq (.t 50) (.k (.c (.s (.pv (.int .i64 0)))))), none, [0]⟩])
  (.cond (.t 51) (.seq (.reg [⟨(some 52), 52, (.mv (.t 5)), none, []⟩,
    ⟨(some 53), 53, (.len (.t 52)), none, [0]⟩,
    ⟨(some 54), 54, (.bin false .eql (.t 53) (.k (.c (.s (.pv (.int .i64 0)))))), none, [1]⟩,
    ⟨(some 55), 55, (.mv (.t 54)), none, [2]⟩,
    ⟨(some 56), 56, (.mv (.t 8)), (some (55, true)), [3]⟩,
    ⟨(some 57), 57, (.bin false .eql (.t 56) (.k (.c (.s (.pv (.int .i64 1)))))), (some (55, true)), [4, 3]⟩,
    ⟨(some 58), 58, (.pick (.t 55) (.t 57) (.k (.c (.s (.pv (.bool false)))))), none, [3, 5]⟩,
    ⟨(some 59), 59, (.mv (.t 58)), none, [6, 3]⟩,
    ⟨(some 60), 60, (.call 16 []), (some (59, true)), [7, 7]⟩,
    ⟨(some 61), 61, (.pick (.t 59) (.t 60) (.k (.c (.s (.pv (.bool false)))))), none, [7, 8]⟩,
    ⟨(some 4), 4, (.mv (.t 61)), none, [9, 8, 0, 1, 2, 3, 4, 5, 6, 7, 8, 9]⟩])
  .ret) .skip))
  (.seq (.reg [⟨(some 62), 62, (.mv (.t 5)), none, []⟩,
    ⟨(some 63), 63, (.len (.t 62)), none, [0]⟩,
    ⟨(some 64), 64, (.mkSlice 22 1 24 [(.sl 1 [])] (.t 63) (.t 63)), none, [1, 1]⟩,
    ⟨(some 9), 9, (.mv (.t 64)), none, [2, 0, 1, 2]⟩])
  (.seq (.reg [⟨(some 65), 65, (.mv (.t 1)), none, []⟩,
    ⟨(some 66), 66, (.len (.t 65)), none, [0]⟩,
    ⟨(some 67), 67, (.mm false (.t 66) (.k (.c (.s (.pv (.int .i64 150)))))), none, [1]⟩,
    ⟨(some 10), 10, (.mv (.t 67)), none, [2, 0, 1, 2]⟩])
  (.seq (.seq (.reg [⟨(some 68), 68, (.mv (.t 1)), none, []⟩,
    ⟨(some 69), 69, (.mv (.t 10)), none, []⟩,
    ⟨(some 70), 70, (.sub 2 (.t 68) none (some (.t 69))), none, [0, 1]⟩,
    ⟨(some 71), 71, (.len (.t 70)), none, [2]⟩,
    ⟨(some 72), 72, (.mv (.k (.c (.s (.pv (.int .i64 0)))))), none, []⟩])
  (.block 2 (.loop (.seq (.reg [⟨(some 73), 73, (.bin false .lss (.t 72) (.t 71)), none, []⟩])
  (.seq (.cond (.t 73) .skip (.exit 2))
  (.seq (.block 3 (.seq (.reg [⟨(some 74), 74, (.idx 2 (.t 70) (.t 72)), none, []⟩,
    ⟨(some 75), 75, (.load true 2 (.t 74)), none, [0]⟩,
    ⟨(some 12), 12, (.mk 52 1 [[(.s (.pv (.int .u8 0)))], [(.s (.pv (.int .u8 0)))]]), none, []⟩,
    ⟨none, 173, (.store 2 (.t 12) (.t 75)), none, [2, 1, 0, 1, 2]⟩])
  (.seq (.draw [⟨(some 76), 76, (.aidx 2 1 (.t 12) (.k (.c (.s (.pv (.int .i64 0)))))), none, []⟩,
    ⟨(some 77), 77, (.load false 1 (.t 76)), none, [0]⟩,
    ⟨(some 78), 78, (.conv .i64 (.t 77)), none, [1]⟩,
    ⟨(some 79), 79, (.mv (.t 5)), none, []⟩,
    ⟨(some 80), 80, (.len (.t 79)), none, [3]⟩,
    ⟨(some 81), 81, (.bin false .rem (.t 78) (.t 80)), none, [2, 4]⟩,
    ⟨(some 82), 82, (.aidx 2 1 (.t 12) (.k (.c (.s (.pv (.int .i64 1)))))), none, []⟩,
    ⟨(some 83), 83, (.load false 1 (.t 82)), none, [6]⟩,
    ⟨(some 84), 84, (.bin false .rem (.t 83) (.k (.c (.s (.pv (.int .u8 8)))))), none, [7]⟩,
    ⟨(some 85), 85, (.conv .i64 (.t 84)), none, [8]⟩,
    ⟨(some 86), 86, (.bin false .add (.k (.c (.s (.pv (.int .i64 1))))) (.t 85)), none, [9]⟩,
    ⟨(some 13), 13, (.mv (.t 81)), none, [5, 0, 1, 2, 3, 4, 5]⟩,
    ⟨(some 14), 14, (.mv (.t 86)), none, [10, 11, 0, 1, 2, 3, 4, 5, 6, 7, 8, 9, 10, 11]⟩])
  (.seq (.reg [⟨(some 88), 88, (.load true 3 (.t 7)), none, []⟩,
    ⟨(some 89), 89, (.mv (.t 13)), none, []⟩,
    ⟨(some 90), 90, (.mv (.t 14)), none, []⟩,
    ⟨(some 91), 91, (.call 20 [(.t 88), (.t 89), (.t 90)]), none, [0, 1, 2]⟩,
    ⟨(some 87), 87, (.mv (.t 91)), none, [3]⟩,
    ⟨(some 92), 92, (.ext 0 (.t 87)), none, [4]⟩,
    ⟨(some 93), 93, (.ext 1 (.t 87)), none, [4]⟩,
    ⟨(some 15), 15, (.mk 25 3 [[.zc, (.s (.pv (.int .i64 0))), (.s (.pv (.bool false)))]]), none, []⟩,
    ⟨none, 178, (.store 3 (.t 15) (.t 92)), none, [7, 5, 3, 0, 1, 2, 3, 4, 5, 7]⟩,
    ⟨(some 16), 16, (.mv (.t 93)), none, [6, 8, 0, 1, 2, 3, 4, 5, 6, 7, 8]⟩])
  (.seq (.seq (.reg [⟨(some 94), 94, (.mv (.t 16)), none, []⟩,
    ⟨(some 95), 95, (.bin false .neq (.t 94) (.k (.c (.s (.pv (.int .i64 0)))))), none, [0]⟩])
  (.cond (.t 95) (.seq (.reg [⟨(some 4), 4, (.mv (.k (.c (.s (.pv (.bool false)))))), none, []⟩])
  .ret) .skip))
  (.seq (.reg [⟨(some 96), 96, (.mv (.t 9)), none, []⟩,
    ⟨(some 97), 97, (.mv (.t 13)), none, []⟩,
    ⟨(some 98), 98, (.mv (.t 9)), none, []⟩,
    ⟨(some 99), 99, (.mv (.t 13)), none, []⟩,
    ⟨(some 100), 100, (.idx 1 (.t 98) (.t 99)), none, [2, 3]⟩,
    ⟨(some 101), 101, (.load false 1 (.t 100)), none, [4]⟩,
    ⟨(some 102), 102, (.mv (.t 14)), none, []⟩,
    ⟨(some 103), 103, (.bslice 3 1 [(.s (.pv (.int .i64 0)))] 1 [(0, 1, (.t 102))]), none, [6]⟩,
    ⟨(some 104), 104, (.app 3 1 8 (.t 101) (.t 103)), none, [5, 7]⟩,
    ⟨(some 105), 105, (.idx 1 (.t 96) (.t 97)), none, [0, 1, 0, 1, 2, 3, 4, 5, 6, 7, 8]⟩,
    ⟨none, 180, (.store 1 (.t 105) (.t 104)), none, [9, 8, 8, 0, 1, 2, 3, 4, 5, 6, 7, 8]⟩])
  (.reg [⟨(some 106), 106, (.load true 3 (.t 15)), none, []⟩,
    ⟨none, 171, (.store 3 (.t 7) (.t 106)), none, [0, 0]⟩])))))))
  (.reg [⟨(some 107), 107, (.bin false .add (.t 72) (.k (.c (.s (.pv (.int .i64 1)))))), none, []⟩,
    ⟨(some 72), 72, (.mv (.t 107)), none, [0]⟩])))))))
  (.seq (.seq (.reg [⟨(some 108), 108, (.mv (.t 10)), none, []⟩,
    ⟨(some 109), 109, (.mv (.k (.c (.s (.pv (.int .i64 0)))))), none, []⟩])
  (.block 4 (.loop (.seq (.reg [⟨(some 110), 110, (.bin false .lss (.t 109) (.t 108)), none, []⟩])
  (.seq (.cond (.t 110) .skip (.exit 4))
  (.seq (.block 5 (.seq (.reg [⟨(some 112), 112, (.load true 3 (.t 7)), none, []⟩,
    ⟨(some 113), 113, (.call 23 [(.t 112)]), none, [0]⟩,
    ⟨(some 111), 111, (.mv (.t 113)), none, [1]⟩,
    ⟨(some 114), 114, (.ext 0 (.t 111)), none, [2]⟩,
    ⟨(some 115), 115, (.ext 1 (.t 111)), none, [2]⟩,
    ⟨(some 116), 116, (.ext 2 (.t 111)), none, [2]⟩,
    ⟨(some 117), 117, (.ext 3 (.t 111)), none, [2]⟩,
    ⟨(some 17), 17, (.mk 25 3 [[.zc, (.s (.pv (.int .i64 0))), (.s (.pv (.bool false)))]]), none, []⟩,
    ⟨none, 178, (.store 3 (.t 17) (.t 114)), none, [7, 3, 1, 0, 1, 2, 3, 7]⟩,
    ⟨(some 18), 18, (.mv (.t 115)), none, [4, 8, 0, 1, 2, 3, 4, 7, 8]⟩,
    ⟨(some 19), 19, (.mv (.t 116)), none, [5, 9, 0, 1, 2, 3, 4, 5, 7, 8, 9]⟩,
    ⟨(some 20), 20, (.mv (.t 117)), none, [6, 10, 0, 1, 2, 3, 4, 5, 6, 7, 8, 9, 10]⟩])
  (.seq (.seq (.reg [⟨(some 118), 118, (.mv (.t 20)), none, []⟩,
    ⟨(some 119), 119, (.not (.t 118)), none, [0]⟩,
    ⟨(some 120), 120, (.mv (.t 119)), none, [1]⟩,
    ⟨(some 121), 121, (.mv (.t 18)), (some (120, false)), [2]⟩,
    ⟨(some 122), 122, (.bin false .lss (.t 121) (.k (.c (.s (.pv (.int .i64 0)))))), (some (120, false)), [3, 2]⟩,
    ⟨(some 123), 123, (.pick (.t 120) (.k (.c (.s (.pv (.bool true))))) (.t 122)), none, [2, 4]⟩,
    ⟨(some 124), 124, (.mv (.t 123)), none, [5, 2]⟩,
    ⟨(some 125), 125, (.mv (.t 18)), (some (124, false)), [6]⟩,
    ⟨(some 126), 126, (.mv (.t 5)), (some (124, false)), [6]⟩,
    ⟨(some 127), 127, (.len (.t 126)), (some (124, false)), [8, 6]⟩,
    ⟨(some 128), 128, (.bin false .geq (.t 125) (.t 127)), (some (124, false)), [7, 9, 6]⟩,
    ⟨(some 129), 129, (.pick (.t 124) (.k (.c (.s (.pv (.bool true))))) (.t 128)), none, [6, 10]⟩,
    ⟨(some 130), 130, (.mv (.t 129)), none, [11, 6]⟩,
    ⟨(some 131), 131, (.mv (.t 9)), (some (130, false)), [12]⟩,
    ⟨(some 132), 132, (.mv (.t 18)), (some (130, false)), [12]⟩,
    ⟨(some 133), 133, (.idx 1 (.t 131) (.t 132)), (some (130, false)), [13, 14, 12]⟩,
    ⟨(some 134), 134, (.load false 1 (.t 133)), (some (130, false)), [15, 12]⟩,
    ⟨(some 135), 135, (.len (.t 134)), (some (130, false)), [16, 12]⟩,
    ⟨(some 136), 136, (.bin false .eql (.t 135) (.k (.c (.s (.pv (.int .i64 0)))))), (some (130, false)), [17, 12]⟩,
    ⟨(some 137), 137, (.pick (.t 130) (.k (.c (.s (.pv (.bool true))))) (.t 136)), none, [12, 18]⟩,
    ⟨(some 138), 138, (.mv (.t 137)), none, [19, 12]⟩,
    ⟨(some 139), 139, (.mv (.t 9)), (some (138, false)), [20]⟩,
    ⟨(some 140), 140, (.mv (.t 18)), (some (138, false)), [20]⟩,
    ⟨(some 141), 141, (.idx 1 (.t 139) (.t 140)), (some (138, false)), [21, 22, 20]⟩,
    ⟨(some 142), 142, (.load false 1 (.t 141)), (some (138, false)), [23, 20]⟩,
    ⟨(some 143), 143, (.idx 1 (.t 142) (.k (.c (.s (.pv (.int .i64 0)))))), (some (138, false)), [24, 20]⟩,
    ⟨(some 144), 144, (.load false 1 (.t 143)), (some (138, false)), [25, 20]⟩,
    ⟨(some 145), 145, (.mv (.t 19)), (some (138, false)), [20]⟩,
    ⟨(some 146), 146, (.bin false .neq (.t 144) (.t 145)), (some (138, false)), [26, 27, 20]⟩,
    ⟨(some 147), 147, (.pick (.t 138) (.k (.c (.s (.pv (.bool true))))) (.t 146)), none, [20, 28]⟩])
  (.cond (.t 147) (.seq (.reg [⟨(some 4), 4, (.mv (.k (.c (.s (.pv (.bool false)))))), none, []⟩])
  .ret) .skip))
  (.seq (.reg [⟨(some 148), 148, (.mv (.t 9)), none, []⟩,
    ⟨(some 149), 149, (.mv (.t 18)), none, []⟩,
    ⟨(some 150), 150, (.mv (.t 9)), none, []⟩,
    ⟨(some 151), 151, (.mv (.t 18)), none, []⟩,
    ⟨(some 152), 152, (.idx 1 (.t 150) (.t 151)), none, [2, 3]⟩,
    ⟨(some 153), 153, (.load false 1 (.t 152)), none, [4]⟩,
    ⟨(some 154), 154, (.sub 1 (.t 153) (some (.k (.c (.s (.pv (.int .i64 1)))))) none), none, [5]⟩,
    ⟨(some 155), 155, (.idx 1 (.t 148) (.t 149)), none, [0, 1, 0, 1, 2, 3, 4, 5, 6]⟩,
    ⟨none, 178, (.store 1 (.t 155) (.t 154)), none, [7, 6, 0, 1, 2, 3, 4, 5, 6]⟩])
  (.reg [⟨(some 156), 156, (.load true 3 (.t 17)), none, []⟩,
    ⟨none, 171, (.store 3 (.t 7) (.t 156)), none, [0, 0]⟩])))))
  (.reg [⟨(some 157), 157, (.bin false .add (.t 109) (.k (.c (.s (.pv (.int .i64 1)))))), none, []⟩,
    ⟨(some 109), 109, (.mv (.t 157)), none, [0]⟩])))))))
  (.seq (.reg [⟨(some 159), 159, (.load true 3 (.t 7)), none, []⟩,
    ⟨(some 160), 160, (.call 23 [(.t 159)]), none, [0]⟩,
    ⟨(some 158), 158, (.mv (.t 160)), none, [1]⟩,
    ⟨(some 161), 161, (.ext 0 (.t 158)), none, [2]⟩,
    ⟨(some 162), 162, (.ext 1 (.t 158)), none, [2]⟩,
    ⟨(some 163), 163, (.ext 2 (.t 158)), none, [2]⟩,
    ⟨(some 164), 164, (.ext 3 (.t 158)), none, [2]⟩,
    ⟨(some 21), 21, (.mk 25 3 [[.zc, (.s (.pv (.int .i64 0))), (.s (.pv (.bool false)))]]), none, []⟩,
    ⟨none, 178, (.store 3 (.t 21) (.t 161)), none, [7, 3, 1, 0, 1, 2, 3, 7]⟩,
    ⟨(some 22), 22, (.mv (.t 162)), none, [4, 8, 0, 1, 2, 3, 4, 7, 8]⟩,
    ⟨(some 23), 23, (.mv (.t 163)), none, [5, 9, 0, 1, 2, 3, 4, 5, 7, 8, 9]⟩,
    ⟨(some 24), 24, (.mv (.t 164)), none, [6, 10, 0, 1, 2, 3, 4, 5, 6, 7, 8, 9, 10]⟩])
  (.seq (.reg [⟨(some 165), 165, (.mv (.t 24)), none, []⟩,
    ⟨(some 166), 166, (.not (.t 165)), none, [0]⟩,
    ⟨(some 167), 167, (.mv (.t 166)), none, [1]⟩,
    ⟨(some 168), 168, (.call 16 []), (some (167, true)), [2, 2]⟩,
    ⟨(some 169), 169, (.pick (.t 167) (.t 168) (.k (.c (.s (.pv (.bool false)))))), none, [2, 3]⟩,
    ⟨(some 4), 4, (.mv (.t 169)), none, [4, 3, 0, 1, 2, 3, 4]⟩])
  .ret)))))))))))
theorem fn6 : FnIs Try.prog 6 ac6 [(.t 4)] 170 := ⟨Try.f6, Try.func6, by kernel_rfl, by kernel_rfl, by kernel_rfl⟩
/- lockkeeper/lockkeeperlaw05.LanesAlone -/
def ac7 : ACode := (.seq (.reg [⟨(some 6), 6, (.mv (.k (.c (.s (.pv (.bool false)))))), none, []⟩])
  (.seq (.reg [⟨(some 7), 7, (.mv (.k (.c .zc))), none, []⟩])
  (.seq (.seq (.reg [⟨(some 8), 8, (.mv (.k (.c (.s (.pv (.int .i64 0)))))), none, []⟩])
  (.block 0 (.loop (.seq (.seq (.reg [⟨(some 26), 26, (.mv (.t 8)), none, []⟩,
    ⟨(some 27), 27, (.mv (.t 0)), none, []⟩,
    ⟨(some 28), 28, (.len (.t 27)), none, [1]⟩,
    ⟨(some 29), 29, (.bin false .lss (.t 26) (.t 28)), none, [0, 2]⟩,
    ⟨(some 30), 30, (.mv (.t 29)), none, [3]⟩,
    ⟨(some 31), 31, (.mv (.t 8)), (some (30, true)), [4]⟩,
    ⟨(some 32), 32, (.bin false .lss (.t 31) (.k (.c (.s (.pv (.int .i64 6)))))), (some (30, true)), [5, 4]⟩,
    ⟨(some 33), 33, (.pick (.t 30) (.t 32) (.k (.c (.s (.pv (.bool false)))))), none, [4, 6]⟩])
  (.cond (.t 33) .skip (.exit 0)))
  (.seq (.block 1 (.reg [⟨(some 36), 36, (.mv (.t 7)), none, []⟩,
    ⟨(some 37), 37, (.mv (.t 0)), none, []⟩,
    ⟨(some 38), 38, (.mv (.t 8)), none, []⟩,
    ⟨(some 39), 39, (.idx 1 (.t 37) (.t 38)), none, [1, 2]⟩,
    ⟨(some 40), 40, (.load false 1 (.t 39)), none, [3]⟩,
    ⟨(some 41), 41, (.bin false .rem (.t 40) (.k (.c (.s (.pv (.int .u8 8)))))), none, [4]⟩,
    ⟨(some 42), 42, (.conv .i64 (.t 41)), none, [5]⟩,
    ⟨(some 43), 43, (.bin false .add (.k (.c (.s (.pv (.int .i64 1))))) (.t 42)), none, [6]⟩,
    ⟨(some 44), 44, (.bslice 3 1 [(.s (.pv (.int .i64 0)))] 1 [(0, 1, (.t 43))]), none, [7]⟩,
    ⟨(some 45), 45, (.app 3 1 8 (.t 36) (.t 44)), none, [0, 8]⟩,
    ⟨(some 7), 7, (.mv (.t 45)), none, [9, 9, 0, 1, 2, 3, 4, 5, 6, 7, 8, 9]⟩]))
  (.reg [⟨(some 34), 34, (.mv (.t 8)), none, []⟩,
    ⟨(some 35), 35, (.bin false .add (.t 34) (.k (.c (.s (.pv (.int .i64 1)))))), none, [0]⟩,
    ⟨(some 8), 8, (.mv (.t 35)), none, [1, 0, 1]⟩]))))))
  (.seq (.reg [⟨(some 47), 47, (.mv (.t 7)), none, []⟩,
    ⟨(some 48), 48, (.call 17 [(.t 47)]), none, [0]⟩,
    ⟨(some 46), 46, (.mv (.t 48)), none, [1]⟩,
    ⟨(some 49), 49, (.ext 0 (.t 46)), none, [2]⟩,
    ⟨(some 50), 50, (.ext 1 (.t 46)), none, [2]⟩,
    ⟨(some 9), 9, (.mk 25 3 [[.zc, (.s (.pv (.int .i64 0))), (.s (.pv (.bool false)))]]), none, []⟩,
    ⟨none, 142, (.store 3 (.t 9) (.t 49)), none, [5, 3, 1, 0, 1, 2, 3, 5]⟩,
    ⟨(some 10), 10, (.mv (.t 50)), none, [4, 6, 0, 1, 2, 3, 4, 5, 6]⟩])
  (.seq (.seq (.reg [⟨(some 51), 51, (.mv (.t 10)), none, []⟩,
    ⟨(some 52), 52, (.bin false .neq (.t 51) (.k (.c (.s (.pv (.int .i64 0)))))), none, [0]⟩,
    ⟨(some 53), 53, (.mv (.t 52)), none, [1]⟩,
    ⟨(some 54), 54, (.mv (.t 2)), (some (53, false)), [2]⟩,
    ⟨(some 55), 55, (.len (.t 54)), (some (53, false)), [3, 2]⟩,
    ⟨(some 56), 56, (.bin false .gtr (.t 55) (.k (.c (.s (.pv (.int .i64 100)))))), (some (53, false)), [4, 2]⟩,
    ⟨(some 57), 57, (.pick (.t 53) (.k (.c (.s (.pv (.bool true))))) (.t 56)), none, [2, 5]⟩])
  (.cond (.t 57) (.seq (.reg [⟨(some 58), 58, (.mv (.t 2)), none, []⟩,
    ⟨(some 59), 59, (.len (.t 58)), none, [0]⟩,
    ⟨(some 60), 60, (.bin false .gtr (.t 59) (.k (.c (.s (.pv (.int .i64 100)))))), none, [1]⟩,
    ⟨(some 61), 61, (.mv (.t 60)), none, [2]⟩,
    ⟨(some 62), 62, (.mv (.t 7)), (some (61, false)), [3]⟩,
    ⟨(some 63), 63, (.len (.t 62)), (some (61, false)), [4, 3]⟩,
    ⟨(some 64), 64, (.bin false .eql (.t 63) (.k (.c (.s (.pv (.int .i64 0)))))), (some (61, false)), [5, 3]⟩,
    ⟨(some 65), 65, (.pick (.t 61) (.k (.c (.s (.pv (.bool true))))) (.t 64)), none, [3, 6]⟩,
    ⟨(some 66), 66, (.mv (.t 65)), none, [7, 3]⟩,
    ⟨(some 67), 67, (.call 16 []), (some (66, true)), [8, 8]⟩,
    ⟨(some 68), 68, (.pick (.t 66) (.t 67) (.k (.c (.s (.pv (.bool false)))))), none, [8, 9]⟩,
    ⟨(some 6), 6, (.mv (.t 68)), none, [10, 9, 0, 1, 2, 3, 4, 5, 6, 7, 8, 9, 10]⟩])
  .ret) .skip))
  (.seq (.reg [⟨(some 69), 69, (.mv (.t 1)), none, []⟩,
    ⟨(some 70), 70, (.conv .i64 (.t 69)), none, [0]⟩,
    ⟨(some 71), 71, (.mv (.t 7)), none, []⟩,
    ⟨(some 72), 72, (.len (.t 71)), none, [2]⟩,
    ⟨(some 73), 73, (.bin false .rem (.t 70) (.t 72)), none, [1, 3]⟩,
    ⟨(some 11), 11, (.mv (.t 73)), none, [4, 0, 1, 2, 3, 4]⟩])
  (.seq (.seq (.reg [⟨(some 74), 74, (.mv (.t 2)), none, []⟩,
    ⟨(some 75), 75, (.len (.t 74)), none, [0]⟩,
    ⟨(some 76), 76, (.mv (.k (.c (.s (.pv (.int .i64 0)))))), none, []⟩])
  (.block 2 (.loop (.seq (.reg [⟨(some 77), 77, (.bin false .lss (.t 76) (.t 75)), none, []⟩])
  (.seq (.cond (.t 77) .skip (.exit 2))
  (.seq (.block 3 (.seq (.reg [⟨(some 78), 78, (.idx 1 (.t 74) (.t 76)), none, []⟩,
    ⟨(some 79), 79, (.load false 1 (.t 78)), none, [0]⟩,
    ⟨(some 13), 13, (.mv (.t 79)), none, [1, 0, 1]⟩])
  (.seq (.reg [⟨(some 81), 81, (.load true 3 (.t 9)), none, []⟩,
    ⟨(some 82), 82, (.mv (.t 11)), none, []⟩,
    ⟨(some 83), 83, (.mv (.t 13)), none, []⟩,
    ⟨(some 84), 84, (.bin false .rem (.t 83) (.k (.c (.s (.pv (.int .u8 8)))))), none, [2]⟩,
    ⟨(some 85), 85, (.conv .i64 (.t 84)), none, [3]⟩,
    ⟨(some 86), 86, (.bin false .add (.k (.c (.s (.pv (.int .i64 1))))) (.t 85)), none, [4]⟩,
    ⟨(some 87), 87, (.call 20 [(.t 81), (.t 82), (.t 86)]), none, [0, 1, 5]⟩,
    ⟨(some 80), 80, (.mv (.t 87)), none, [6]⟩,
    ⟨(some 88), 88, (.ext 0 (.t 80)), none, [7]⟩,
    ⟨(some 89), 89, (.ext 1 (.t 80)), none, [7]⟩,
    ⟨(some 14), 14, (.mk 25 3 [[.zc, (.s (.pv (.int .i64 0))), (.s (.pv (.bool false)))]]), none, []⟩,
    ⟨none, 147, (.store 3 (.t 14) (.t 88)), none, [10, 8, 6, 0, 1, 2, 3, 4, 5, 6, 7, 8, 10]⟩,
    ⟨(some 15), 15, (.mv (.t 89)), none, [9, 11, 0, 1, 2, 3, 4, 5, 6, 7, 8, 9, 10, 11]⟩])
  (.seq (.seq (.reg [⟨(some 90), 90, (.mv (.t 15)), none, []⟩,
    ⟨(some 91), 91, (.bin false .neq (.t 90) (.k (.c (.s (.pv (.int .i64 0)))))), none, [0]⟩])
  (.cond (.t 91) (.seq (.reg [⟨(some 6), 6, (.mv (.k (.c (.s (.pv (.bool false)))))), none, []⟩])
  .ret) .skip))
  (.reg [⟨(some 92), 92, (.load true 3 (.t 14)), none, []⟩,
    ⟨none, 137, (.store 3 (.t 9) (.t 92)), none, [0, 0]⟩])))))
  (.reg [⟨(some 93), 93, (.bin false .add (.t 76) (.k (.c (.s (.pv (.int .i64 1)))))), none, []⟩,
    ⟨(some 76), 76, (.mv (.t 93)), none, [0]⟩])))))))
  (.seq (.seq (.reg [⟨(some 94), 94, (.mv (.t 2)), none, []⟩,
    ⟨(some 95), 95, (.len (.t 94)), none, [0]⟩,
    ⟨(some 96), 96, (.mv (.k (.c (.s (.pv (.int .i64 0)))))), none, []⟩])
  (.block 4 (.loop (.seq (.reg [⟨(some 97), 97, (.bin false .lss (.t 96) (.t 95)), none, []⟩])
  (.seq (.cond (.t 97) .skip (.exit 4))
  (.seq (.block 5 (.seq (.reg [⟨(some 98), 98, (.idx 1 (.t 94) (.t 96)), none, []⟩,
    ⟨(some 99), 99, (.load false 1 (.t 98)), none, [0]⟩,
    ⟨(some 17), 17, (.mv (.t 99)), none, [1, 0, 1]⟩])
  (.seq (.reg [⟨(some 101), 101, (.load true 3 (.t 9)), none, []⟩,
    ⟨(some 102), 102, (.call 23 [(.t 101)]), none, [0]⟩,
    ⟨(some 100), 100, (.mv (.t 102)), none, [1]⟩,
    ⟨(some 103), 103, (.ext 0 (.t 100)), none, [2]⟩,
    ⟨(some 104), 104, (.ext 1 (.t 100)), none, [2]⟩,
    ⟨(some 105), 105, (.ext 2 (.t 100)), none, [2]⟩,
    ⟨(some 106), 106, (.ext 3 (.t 100)), none, [2]⟩,
    ⟨(some 18), 18, (.mk 25 3 [[.zc, (.s (.pv (.int .i64 0))), (.s (.pv (.bool false)))]]), none, []⟩,
    ⟨none, 144, (.store 3 (.t 18) (.t 103)), none, [7, 3, 1, 0, 1, 2, 3, 7]⟩,
    ⟨(some 19), 19, (.mv (.t 104)), none, [4, 8, 0, 1, 2, 3, 4, 7, 8]⟩,
    ⟨(some 20), 20, (.mv (.t 105)), none, [5, 9, 0, 1, 2, 3, 4, 5, 7, 8, 9]⟩,
    ⟨(some 21), 21, (.mv (.t 106)), none, [6, 10, 0, 1, 2, 3, 4, 5, 6, 7, 8, 9, 10]⟩])
  (.seq (.seq (.reg [⟨(some 107), 107, (.mv (.t 21)), none, []⟩,
    ⟨(some 108), 108, (.not (.t 107)), none, [0]⟩,
    ⟨(some 109), 109, (.mv (.t 108)), none, [1]⟩,
    ⟨(some 110), 110, (.mv (.t 19)), (some (109, false)), [2]⟩,
    ⟨(some 111), 111, (.mv (.t 11)), (some (109, false)), [2]⟩,
    ⟨(some 112), 112, (.bin false .neq (.t 110) (.t 111)), (some (109, false)), [3, 4, 2]⟩,
    ⟨(some 113), 113, (.pick (.t 109) (.k (.c (.s (.pv (.bool true))))) (.t 112)), none, [2, 5]⟩,
    ⟨(some 114), 114, (.mv (.t 113)), none, [6, 2]⟩,
    ⟨(some 115), 115, (.mv (.t 20)), (some (114, false)), [7]⟩,
    ⟨(some 116), 116, (.mv (.t 17)), (some (114, false)), [7]⟩,
    ⟨(some 117), 117, (.bin false .rem (.t 116) (.k (.c (.s (.pv (.int .u8 8)))))), (some (114, false)), [9, 7]⟩,
    ⟨(some 118), 118, (.conv .i64 (.t 117)), (some (114, false)), [10, 7]⟩,
    ⟨(some 119), 119, (.bin false .add (.k (.c (.s (.pv (.int .i64 1))))) (.t 118)), (some (114, false)), [11, 7]⟩,
    ⟨(some 120), 120, (.bin false .neq (.t 115) (.t 119)), (some (114, false)), [8, 12, 7]⟩,
    ⟨(some 121), 121, (.pick (.t 114) (.k (.c (.s (.pv (.bool true))))) (.t 120)), none, [7, 13]⟩])
  (.cond (.t 121) (.seq (.reg [⟨(some 6), 6, (.mv (.k (.c (.s (.pv (.bool false)))))), none, []⟩])
  .ret) .skip))
  (.reg [⟨(some 122), 122, (.load true 3 (.t 18)), none, []⟩,
    ⟨none, 137, (.store 3 (.t 9) (.t 122)), none, [0, 0]⟩])))))
  (.reg [⟨(some 123), 123, (.bin false .add (.t 96) (.k (.c (.s (.pv (.int .i64 1)))))), none, []⟩,
    ⟨(some 96), 96, (.mv (.t 123)), none, [0]⟩])))))))
  (.seq (.reg [⟨(some 125), 125, (.load true 3 (.t 9)), none, []⟩,
    ⟨(some 126), 126, (.call 23 [(.t 125)]), none, [0]⟩,
    ⟨(some 124), 124, (.mv (.t 126)), none, [1]⟩,
    ⟨(some 127), 127, (.ext 0 (.t 124)), none, [2]⟩,
    ⟨(some 128), 128, (.ext 1 (.t 124)), none, [2]⟩,
    ⟨(some 129), 129, (.ext 2 (.t 124)), none, [2]⟩,
    ⟨(some 130), 130, (.ext 3 (.t 124)), none, [2]⟩,
    ⟨(some 22), 22, (.mk 25 3 [[.zc, (.s (.pv (.int .i64 0))), (.s (.pv (.bool false)))]]), none, []⟩,
    ⟨none, 144, (.store 3 (.t 22) (.t 127)), none, [7, 3, 1, 0, 1, 2, 3, 7]⟩,
    ⟨(some 23), 23, (.mv (.t 128)), none, [4, 8, 0, 1, 2, 3, 4, 7, 8]⟩,
    ⟨(some 24), 24, (.mv (.t 129)), none, [5, 9, 0, 1, 2, 3, 4, 5, 7, 8, 9]⟩,
    ⟨(some 25), 25, (.mv (.t 130)), none, [6, 10, 0, 1, 2, 3, 4, 5, 6, 7, 8, 9, 10]⟩])
  (.seq (.reg [⟨(some 131), 131, (.mv (.t 25)), none, []⟩,
    ⟨(some 132), 132, (.not (.t 131)), none, [0]⟩,
    ⟨(some 133), 133, (.mv (.t 132)), none, [1]⟩,
    ⟨(some 134), 134, (.call 16 []), (some (133, true)), [2, 2]⟩,
    ⟨(some 135), 135, (.pick (.t 133) (.t 134) (.k (.c (.s (.pv (.bool false)))))), none, [2, 3]⟩,
    ⟨(some 6), 6, (.mv (.t 135)), none, [4, 3, 0, 1, 2, 3, 4]⟩])
  .ret))))))))))
theorem fn7 : FnIs Try.prog 7 ac7 [(.t 6)] 136 := ⟨Try.f7, Try.func7, by kernel_rfl, by kernel_rfl, by kernel_rfl⟩
/- lockkeeper/lockkeeperlaw05.LanesEqual -/
def ac8 : ACode := (.seq (.reg [⟨(some 6), 6, (.mv (.k (.c (.s (.pv (.bool false)))))), none, []⟩])
  (.seq (.reg [⟨(some 20), 20, (.mv (.t 0)), none, []⟩,
    ⟨(some 21), 21, (.bin false .rem (.t 20) (.k (.c (.s (.pv (.int .u8 5)))))), none, [0]⟩,
    ⟨(some 22), 22, (.conv .i64 (.t 21)), none, [1]⟩,
    ⟨(some 23), 23, (.bin false .add (.k (.c (.s (.pv (.int .i64 2))))) (.t 22)), none, [2]⟩,
    ⟨(some 7), 7, (.mv (.t 23)), none, [3, 0, 1, 2, 3]⟩,
    ⟨(some 8), 8, (.mv (.k (.c (.s (.pv (.int .i64 4)))))), none, [4, 0, 1, 2, 3, 4]⟩,
    ⟨(some 9), 9, (.mv (.k (.c (.s (.pv (.int .i64 1)))))), none, [5, 0, 1, 2, 3, 4, 5]⟩])
  (.seq (.seq (.reg [⟨(some 24), 24, (.mv (.t 2)), none, []⟩])
  (.cond (.t 24) (.reg [⟨(some 8), 8, (.mv (.k (.c (.s (.pv (.int .i64 2)))))), none, []⟩,
    ⟨(some 9), 9, (.mv (.k (.c (.s (.pv (.int .i64 2)))))), none, [0, 0]⟩]) .skip))
  (.seq (.reg [⟨(some 25), 25, (.mv (.t 7)), none, []⟩,
    ⟨(some 26), 26, (.mkSlice 3 1 8 [(.pv (.int .i64 0))] (.t 25) (.t 25)), none, [0, 0]⟩,
    ⟨(some 10), 10, (.mv (.t 26)), none, [1, 0, 1]⟩])
  (.seq (.seq (.reg [⟨(some 27), 27, (.mv (.t 10)), none, []⟩,
    ⟨(some 28), 28, (.len (.t 27)), none, [0]⟩,
    ⟨(some 29), 29, (.mv (.k (.c (.s (.pv (.int .i64 0)))))), none, []⟩])
  (.block 0 (.loop (.seq (.reg [⟨(some 30), 30, (.bin false .lss (.t 29) (.t 28)), none, []⟩])
  (.seq (.cond (.t 30) .skip (.exit 0))
  (.seq (.block 1 (.seq (.reg [⟨(some 31), 31, (.mv (.t 29)), none, []⟩,
    ⟨(some 11), 11, (.mv (.t 31)), none, [0, 0]⟩])
  (.reg [⟨(some 32), 32, (.mv (.t 10)), none, []⟩,
    ⟨(some 33), 33, (.mv (.t 11)), none, []⟩,
    ⟨(some 34), 34, (.idx 1 (.t 32) (.t 33)), none, [0, 1, 0, 1]⟩,
    ⟨none, 95, (.store 1 (.t 34) (.k (.c (.s (.pv (.int .i64 1)))))), none, [2, 0, 1]⟩])))
  (.reg [⟨(some 35), 35, (.bin false .add (.t 29) (.k (.c (.s (.pv (.int .i64 1)))))), none, []⟩,
    ⟨(some 29), 29, (.mv (.t 35)), none, [0]⟩])))))))
  (.seq (.reg [⟨(some 37), 37, (.mv (.t 10)), none, []⟩,
    ⟨(some 38), 38, (.call 17 [(.t 37)]), none, [0]⟩,
    ⟨(some 36), 36, (.mv (.t 38)), none, [1]⟩,
    ⟨(some 39), 39, (.ext 0 (.t 36)), none, [2]⟩,
    ⟨(some 40), 40, (.ext 1 (.t 36)), none, [2]⟩,
    ⟨(some 12), 12, (.mk 25 3 [[.zc, (.s (.pv (.int .i64 0))), (.s (.pv (.bool false)))]]), none, []⟩,
    ⟨none, 98, (.store 3 (.t 12) (.t 39)), none, [5, 3, 1, 0, 1, 2, 3, 5]⟩,
    ⟨(some 13), 13, (.mv (.t 40)), none, [4, 6, 0, 1, 2, 3, 4, 5, 6]⟩])
  (.seq (.seq (.reg [⟨(some 41), 41, (.mv (.t 7)), none, []⟩,
    ⟨(some 42), 42, (.mv (.k (.c (.s (.pv (.int .i64 0)))))), none, []⟩])
  (.block 2 (.loop (.seq (.reg [⟨(some 43), 43, (.bin false .lss (.t 42) (.t 41)), none, []⟩])
  (.seq (.cond (.t 43) .skip (.exit 2))
  (.seq (.block 3 (.seq (.reg [⟨(some 44), 44, (.mv (.t 42)), none, []⟩,
    ⟨(some 14), 14, (.mv (.t 44)), none, [0, 0]⟩])
  (.seq (.reg [⟨(some 45), 45, (.mv (.k (.c (.s (.pv (.int .i64 0)))))), none, []⟩])
  (.block 4 (.loop (.seq (.reg [⟨(some 46), 46, (.bin false .lss (.t 45) (.k (.c (.s (.pv (.int .i64 60)))))), none, []⟩])
  (.seq (.cond (.t 46) .skip (.exit 4))
  (.seq (.block 5 (.reg [⟨(some 48), 48, (.load true 3 (.t 12)), none, []⟩,
    ⟨(some 49), 49, (.mv (.t 14)), none, []⟩,
    ⟨(some 50), 50, (.mv (.t 8)), none, []⟩,
    ⟨(some 51), 51, (.call 20 [(.t 48), (.t 49), (.t 50)]), none, [0, 1, 2]⟩,
    ⟨(some 47), 47, (.mv (.t 51)), none, [3]⟩,
    ⟨(some 52), 52, (.ext 0 (.t 47)), none, [4]⟩,
    ⟨(some 53), 53, (.ext 1 (.t 47)), none, [4]⟩,
    ⟨none, 99, (.store 3 (.t 12) (.t 52)), none, [5, 3, 0, 1, 2, 3, 4, 5]⟩]))
  (.reg [⟨(some 54), 54, (.bin false .add (.t 45) (.k (.c (.s (.pv (.int .i64 1)))))), none, []⟩,
    ⟨(some 45), 45, (.mv (.t 54)), none, [0]⟩])))))))))
  (.reg [⟨(some 55), 55, (.bin false .add (.t 42) (.k (.c (.s (.pv (.int .i64 1)))))), none, []⟩,
    ⟨(some 42), 42, (.mv (.t 55)), none, [0]⟩])))))))
  (.seq (.seq (.reg [⟨(some 56), 56, (.mv (.t 1)), none, []⟩,
    ⟨(some 57), 57, (.bin false .rem (.t 56) (.k (.c (.s (.pv (.int .u8 61)))))), none, [0]⟩,
    ⟨(some 58), 58, (.conv .i64 (.t 57)), none, [1]⟩,
    ⟨(some 59), 59, (.mv (.k (.c (.s (.pv (.int .i64 0)))))), none, []⟩])
  (.block 6 (.loop (.seq (.reg [⟨(some 60), 60, (.bin false .lss (.t 59) (.t 58)), none, []⟩])
  (.seq (.cond (.t 60) .skip (.exit 6))
  (.seq (.block 7 (.seq (.reg [⟨(some 61), 61, (.mv (.t 59)), none, []⟩,
    ⟨(some 15), 15, (.mv (.t 61)), none, [0, 0]⟩])
  (.seq (.reg [⟨(some 63), 63, (.load true 3 (.t 12)), none, []⟩,
    ⟨(some 64), 64, (.call 23 [(.t 63)]), none, [0]⟩,
    ⟨(some 62), 62, (.mv (.t 64)), none, [1]⟩,
    ⟨(some 65), 65, (.ext 0 (.t 62)), none, [2]⟩,
    ⟨(some 66), 66, (.ext 1 (.t 62)), none, [2]⟩,
    ⟨(some 67), 67, (.ext 2 (.t 62)), none, [2]⟩,
    ⟨(some 68), 68, (.ext 3 (.t 62)), none, [2]⟩,
    ⟨(some 16), 16, (.mk 25 3 [[.zc, (.s (.pv (.int .i64 0))), (.s (.pv (.bool false)))]]), none, []⟩,
    ⟨none, 100, (.store 3 (.t 16) (.t 65)), none, [7, 3, 1, 0, 1, 2, 3, 7]⟩,
    ⟨(some 17), 17, (.mv (.t 66)), none, [4, 8, 0, 1, 2, 3, 4, 7, 8]⟩,
    ⟨(some 18), 18, (.mv (.t 67)), none, [5, 9, 0, 1, 2, 3, 4, 5, 7, 8, 9]⟩,
    ⟨(some 19), 19, (.mv (.t 68)), none, [6, 10, 0, 1, 2, 3, 4, 5, 6, 7, 8, 9, 10]⟩])
  (.seq (.seq (.reg [⟨(some 69), 69, (.mv (.t 19)), none, []⟩,
    ⟨(some 70), 70, (.not (.t 69)), none, [0]⟩,
    ⟨(some 71), 71, (.mv (.t 70)), none, [1]⟩,
    ⟨(some 72), 72, (.mv (.t 17)), (some (71, false)), [2]⟩,
    ⟨(some 73), 73, (.mv (.t 15)), (some (71, false)), [2]⟩,
    ⟨(some 74), 74, (.mv (.t 9)), (some (71, false)), [2]⟩,
    ⟨(some 75), 75, (.bin false .quo (.t 73) (.t 74)), (some (71, false)), [4, 5, 2]⟩,
    ⟨(some 76), 76, (.mv (.t 7)), (some (71, false)), [2]⟩,
    ⟨(some 77), 77, (.bin false .rem (.t 75) (.t 76)), (some (71, false)), [6, 7, 2]⟩,
    ⟨(some 78), 78, (.bin false .neq (.t 72) (.t 77)), (some (71, false)), [3, 8, 2]⟩,
    ⟨(some 79), 79, (.pick (.t 71) (.k (.c (.s (.pv (.bool true))))) (.t 78)), none, [2, 9]⟩,
    ⟨(some 80), 80, (.mv (.t 79)), none, [10, 2]⟩,
    ⟨(some 81), 81, (.mv (.t 18)), (some (80, false)), [11]⟩,
    ⟨(some 82), 82, (.mv (.t 8)), (some (80, false)), [11]⟩,
    ⟨(some 83), 83, (.bin false .neq (.t 81) (.t 82)), (some (80, false)), [12, 13, 11]⟩,
    ⟨(some 84), 84, (.pick (.t 80) (.k (.c (.s (.pv (.bool true))))) (.t 83)), none, [11, 14]⟩])
  (.cond (.t 84) (.seq (.reg [⟨(some 6), 6, (.mv (.k (.c (.s (.pv (.bool false)))))), none, []⟩])
  .ret) .skip))
  (.reg [⟨(some 85), 85, (.load true 3 (.t 16)), none, []⟩,
    ⟨none, 93, (.store 3 (.t 12) (.t 85)), none, [0, 0]⟩])))))
  (.reg [⟨(some 86), 86, (.bin false .add (.t 59) (.k (.c (.s (.pv (.int .i64 1)))))), none, []⟩,
    ⟨(some 59), 59, (.mv (.t 86)), none, [0]⟩])))))))
  (.seq (.reg [⟨(some 87), 87, (.mv (.t 13)), none, []⟩,
    ⟨(some 88), 88, (.bin false .eql (.t 87) (.k (.c (.s (.pv (.int .i64 0)))))), none, [0]⟩,
    ⟨(some 89), 89, (.mv (.t 88)), none, [1]⟩,
    ⟨(some 90), 90, (.call 16 []), (some (89, true)), [2, 2]⟩,
    ⟨(some 91), 91, (.pick (.t 89) (.t 90) (.k (.c (.s (.pv (.bool false)))))), none, [2, 3]⟩,
    ⟨(some 6), 6, (.mv (.t 91)), none, [4, 3, 0, 1, 2, 3, 4]⟩])
  .ret)))))))))
theorem fn8 : FnIs Try.prog 8 ac8 [(.t 6)] 92 := ⟨Try.f8, Try.func8, by kernel_rfl, by kernel_rfl, by kernel_rfl⟩
/- lockkeeper/lockkeeperlaw05.LanesServed -/
def ac9 : ACode := (.seq (.reg [⟨(some 6), 6, (.mv (.k (.c (.s (.pv (.bool false)))))), none, []⟩])
  (.seq (.reg [⟨(some 17), 17, (.mv (.t 0)), none, []⟩,
    ⟨(some 18), 18, (.mv (.t 1)), none, []⟩,
    ⟨(some 19), 19, (.call 22 [(.t 17), (.t 18)]), none, [0, 1]⟩,
    ⟨(some 16), 16, (.mv (.t 19)), none, [2]⟩,
    ⟨(some 20), 20, (.ext 0 (.t 16)), none, [3]⟩,
    ⟨(some 21), 21, (.ext 1 (.t 16)), none, [3]⟩,
    ⟨(some 22), 22, (.ext 2 (.t 16)), none, [3]⟩,
    ⟨(some 7), 7, (.mk 25 3 [[.zc, (.s (.pv (.int .i64 0))), (.s (.pv (.bool false)))]]), none, []⟩,
    ⟨none, 120, (.store 3 (.t 7) (.t 20)), none, [7, 4, 2, 0, 1, 2, 3, 4, 7]⟩,
    ⟨(some 8), 8, (.mv (.t 21)), none, [5, 8, 0, 1, 2, 3, 4, 5, 7, 8]⟩,
    ⟨(some 9), 9, (.mv (.t 22)), none, [6, 9, 0, 1, 2, 3, 4, 5, 6, 7, 8, 9]⟩])
  (.seq (.seq (.reg [⟨(some 23), 23, (.mv (.t 9)), none, []⟩,
    ⟨(some 24), 24, (.not (.t 23)), none, [0]⟩])
  (.cond (.t 24) (.seq (.reg [⟨(some 6), 6, (.mv (.k (.c (.s (.pv (.bool false)))))), none, []⟩])
  .ret) .skip))
  (.seq (.reg [⟨(some 25), 25, (.mv (.t 8)), none, []⟩,
    ⟨(some 26), 26, (.len (.t 25)), none, [0]⟩,
    ⟨(some 27), 27, (.mkSlice 3 1 8 [(.pv (.int .i64 0))] (.t 26) (.t 26)), none, [1, 1]⟩,
    ⟨(some 10), 10, (.mv (.t 27)), none, [2, 0, 1, 2]⟩])
  (.seq (.seq (.reg [⟨(some 28), 28, (.mv (.t 2)), none, []⟩,
    ⟨(some 29), 29, (.bin false .rem (.t 28) (.k (.c (.s (.pv (.int .u8 101)))))), none, [0]⟩,
    ⟨(some 30), 30, (.mv (.k (.c (.s (.pv (.int .u8 0)))))), none, []⟩])
  (.block 0 (.loop (.seq (.reg [⟨(some 31), 31, (.bin false .lss (.t 30) (.t 29)), none, []⟩])
  (.seq (.cond (.t 31) .skip (.exit 0))
  (.seq (.block 1 (.seq (.reg [⟨(some 33), 33, (.load true 3 (.t 7)), none, []⟩,
    ⟨(some 34), 34, (.call 23 [(.t 33)]), none, [0]⟩,
    ⟨(some 32), 32, (.mv (.t 34)), none, [1]⟩,
    ⟨(some 35), 35, (.ext 0 (.t 32)), none, [2]⟩,
    ⟨(some 36), 36, (.ext 1 (.t 32)), none, [2]⟩,
    ⟨(some 37), 37, (.ext 2 (.t 32)), none, [2]⟩,
    ⟨(some 38), 38, (.ext 3 (.t 32)), none, [2]⟩,
    ⟨(some 11), 11, (.mk 25 3 [[.zc, (.s (.pv (.int .i64 0))), (.s (.pv (.bool false)))]]), none, []⟩,
    ⟨none, 120, (.store 3 (.t 11) (.t 35)), none, [7, 3, 1, 0, 1, 2, 3, 7]⟩,
    ⟨(some 12), 12, (.mv (.t 36)), none, [4, 8, 0, 1, 2, 3, 4, 7, 8]⟩,
    ⟨(some 13), 13, (.mv (.t 37)), none, [5, 9, 0, 1, 2, 3, 4, 5, 7, 8, 9]⟩,
    ⟨(some 14), 14, (.mv (.t 38)), none, [6, 10, 0, 1, 2, 3, 4, 5, 6, 7, 8, 9, 10]⟩])
  (.seq (.seq (.reg [⟨(some 39), 39, (.mv (.t 14)), none, []⟩,
    ⟨(some 40), 40, (.not (.t 39)), none, [0]⟩,
    ⟨(some 41), 41, (.mv (.t 40)), none, [1]⟩,
    ⟨(some 42), 42, (.mv (.t 12)), (some (41, false)), [2]⟩,
    ⟨(some 43), 43, (.bin false .lss (.t 42) (.k (.c (.s (.pv (.int .i64 0)))))), (some (41, false)), [3, 2]⟩,
    ⟨(some 44), 44, (.pick (.t 41) (.k (.c (.s (.pv (.bool true))))) (.t 43)), none, [2, 4]⟩,
    ⟨(some 45), 45, (.mv (.t 44)), none, [5, 2]⟩,
    ⟨(some 46), 46, (.mv (.t 12)), (some (45, false)), [6]⟩,
    ⟨(some 47), 47, (.mv (.t 8)), (some (45, false)), [6]⟩,
    ⟨(some 48), 48, (.len (.t 47)), (some (45, false)), [8, 6]⟩,
    ⟨(some 49), 49, (.bin false .geq (.t 46) (.t 48)), (some (45, false)), [7, 9, 6]⟩,
    ⟨(some 50), 50, (.pick (.t 45) (.k (.c (.s (.pv (.bool true))))) (.t 49)), none, [6, 10]⟩,
    ⟨(some 51), 51, (.mv (.t 50)), none, [11, 6]⟩,
    ⟨(some 52), 52, (.fld 0 (.t 11)), (some (51, false)), [12]⟩,
    ⟨(some 53), 53, (.load false 1 (.t 52)), (some (51, false)), [13, 12]⟩,
    ⟨(some 54), 54, (.len (.t 53)), (some (51, false)), [14, 12]⟩,
    ⟨(some 55), 55, (.mv (.t 8)), (some (51, false)), [12]⟩,
    ⟨(some 56), 56, (.len (.t 55)), (some (51, false)), [16, 12]⟩,
    ⟨(some 57), 57, (.bin false .neq (.t 54) (.t 56)), (some (51, false)), [15, 17, 12]⟩,
    ⟨(some 58), 58, (.pick (.t 51) (.k (.c (.s (.pv (.bool true))))) (.t 57)), none, [12, 18]⟩,
    ⟨(some 59), 59, (.mv (.t 58)), none, [19, 12]⟩,
    ⟨(some 60), 60, (.fld 1 (.t 11)), (some (59, false)), [20]⟩,
    ⟨(some 61), 61, (.load false 1 (.t 60)), (some (59, false)), [21, 20]⟩,
    ⟨(some 62), 62, (.mv (.t 12)), (some (59, false)), [20]⟩,
    ⟨(some 63), 63, (.bin false .neq (.t 61) (.t 62)), (some (59, false)), [22, 23, 20]⟩,
    ⟨(some 64), 64, (.pick (.t 59) (.k (.c (.s (.pv (.bool true))))) (.t 63)), none, [20, 24]⟩])
  (.cond (.t 64) (.seq (.reg [⟨(some 6), 6, (.mv (.k (.c (.s (.pv (.bool false)))))), none, []⟩])
  .ret) .skip))
  (.seq (.reg [⟨(some 65), 65, (.mv (.t 10)), none, []⟩,
    ⟨(some 66), 66, (.mv (.t 12)), none, []⟩,
    ⟨(some 67), 67, (.idx 1 (.t 65) (.t 66)), none, [0, 1]⟩,
    ⟨(some 68), 68, (.load false 1 (.t 67)), none, [2]⟩,
    ⟨(some 69), 69, (.mv (.t 13)), none, []⟩,
    ⟨(some 70), 70, (.bin false .add (.t 68) (.t 69)), none, [3, 4]⟩,
    ⟨(some 71), 71, (.idx 1 (.t 65) (.t 66)), none, [0, 1, 0, 1, 2, 3, 4, 5]⟩,
    ⟨none, 119, (.store 1 (.t 71) (.t 70)), none, [6, 5, 0, 1, 2, 3, 4, 5]⟩])
  (.seq (.reg [⟨(some 72), 72, (.load true 3 (.t 11)), none, []⟩,
    ⟨none, 113, (.store 3 (.t 7) (.t 72)), none, [0, 0]⟩])
  (.seq (.reg [⟨(some 73), 73, (.fld 0 (.t 11)), none, []⟩,
    ⟨(some 74), 74, (.load false 1 (.t 73)), none, [0]⟩,
    ⟨(some 75), 75, (.mv (.t 12)), none, []⟩,
    ⟨(some 76), 76, (.idx 3 (.t 74) (.t 75)), none, [1, 2]⟩,
    ⟨(some 77), 77, (.fld 1 (.t 76)), none, [3]⟩,
    ⟨(some 78), 78, (.load false 1 (.t 77)), none, [4]⟩,
    ⟨(some 15), 15, (.mv (.t 78)), none, [5, 0, 1, 2, 3, 4, 5]⟩])
  (.seq (.draw [⟨(some 79), 79, (.mv (.t 15)), none, []⟩,
    ⟨(some 80), 80, (.bin false .lss (.t 79) (.k (.c (.s (.pv (.int .i64 0)))))), none, [0]⟩,
    ⟨(some 81), 81, (.mv (.t 80)), none, [1]⟩,
    ⟨(some 82), 82, (.mv (.t 10)), (some (81, false)), [2]⟩,
    ⟨(some 83), 83, (.mv (.t 12)), (some (81, false)), [2]⟩,
    ⟨(some 84), 84, (.idx 1 (.t 82) (.t 83)), (some (81, false)), [3, 4, 2]⟩,
    ⟨(some 85), 85, (.load false 1 (.t 84)), (some (81, false)), [5, 2]⟩,
    ⟨(some 86), 86, (.mv (.t 15)), (some (81, false)), [2]⟩,
    ⟨(some 87), 87, (.bin false .add (.t 85) (.t 86)), (some (81, false)), [6, 7, 2]⟩,
    ⟨(some 88), 88, (.mv (.t 8)), (some (81, false)), [2]⟩,
    ⟨(some 89), 89, (.mv (.t 12)), (some (81, false)), [2]⟩,
    ⟨(some 90), 90, (.idx 1 (.t 88) (.t 89)), (some (81, false)), [9, 10, 2]⟩,
    ⟨(some 91), 91, (.load false 1 (.t 90)), (some (81, false)), [11, 2]⟩,
    ⟨(some 92), 92, (.bin false .mul (.t 91) (.k (.c (.s (.pv (.int .i64 4)))))), (some (81, false)), [12, 2]⟩,
    ⟨(some 93), 93, (.bin false .rem (.t 87) (.t 92)), (some (81, false)), [8, 13, 2]⟩,
    ⟨(some 94), 94, (.bin false .neq (.t 93) (.k (.c (.s (.pv (.int .i64 0)))))), (some (81, false)), [14, 2]⟩,
    ⟨(some 95), 95, (.pick (.t 81) (.k (.c (.s (.pv (.bool true))))) (.t 94)), none, [2, 15]⟩,
    ⟨(some 96), 96, (.mv (.t 95)), none, [16, 2]⟩,
    ⟨(some 97), 97, (.mv (.t 10)), (some (96, false)), [17]⟩,
    ⟨(some 98), 98, (.mv (.t 12)), (some (96, false)), [17]⟩,
    ⟨(some 99), 99, (.idx 1 (.t 97) (.t 98)), (some (96, false)), [18, 19, 17]⟩,
    ⟨(some 100), 100, (.load false 1 (.t 99)), (some (96, false)), [20, 17]⟩,
    ⟨(some 101), 101, (.mv (.t 15)), (some (96, false)), [17]⟩,
    ⟨(some 102), 102, (.bin false .add (.t 100) (.t 101)), (some (96, false)), [21, 22, 17]⟩,
    ⟨(some 103), 103, (.mv (.t 8)), (some (96, false)), [17]⟩,
    ⟨(some 104), 104, (.mv (.t 12)), (some (96, false)), [17]⟩,
    ⟨(some 105), 105, (.idx 1 (.t 103) (.t 104)), (some (96, false)), [24, 25, 17]⟩,
    ⟨(some 106), 106, (.load false 1 (.t 105)), (some (96, false)), [26, 17]⟩,
    ⟨(some 107), 107, (.bin false .mul (.t 106) (.k (.c (.s (.pv (.int .i64 4)))))), (some (96, false)), [27, 17]⟩,
    ⟨(some 108), 108, (.bin false .lss (.t 102) (.t 107)), (some (96, false)), [23, 28, 17]⟩,
    ⟨(some 109), 109, (.pick (.t 96) (.k (.c (.s (.pv (.bool true))))) (.t 108)), none, [17, 29]⟩])
  (.cond (.t 109) (.seq (.reg [⟨(some 6), 6, (.mv (.k (.c (.s (.pv (.bool false)))))), none, []⟩])
  .ret) .skip))))))))
  (.reg [⟨(some 110), 110, (.bin false .add (.t 30) (.k (.c (.s (.pv (.int .u8 1)))))), none, []⟩,
    ⟨(some 30), 30, (.mv (.t 110)), none, [0]⟩])))))))
  (.seq (.reg [⟨(some 111), 111, (.call 16 []), none, []⟩,
    ⟨(some 6), 6, (.mv (.t 111)), none, [0, 0, 0]⟩])
  .ret))))))
theorem fn9 : FnIs Try.prog 9 ac9 [(.t 6)] 112 := ⟨Try.f9, Try.func9, by kernel_rfl, by kernel_rfl, by kernel_rfl⟩
/- lockkeeper/lockkeeperlaw05.ref -/
def ac15 : ACode := (.seq (.reg [⟨(some 1), 1, (.box 25 3 (.t 0)), none, []⟩,
    ⟨(some 2), 2, (.mk 28 3 [[.zc, (.s (.pv (.int .i64 0))), (.s (.pv (.bool false)))]]), none, []⟩,
    ⟨(some 3), 3, (.mv (.k (.c (.s (.pv (.bool false)))))), none, []⟩])
  (.seq (.reg [⟨(some 7), 7, (.fld 1 (.t 1)), none, []⟩,
    ⟨(some 8), 8, (.load false 1 (.t 7)), none, [0]⟩,
    ⟨(some 9), 9, (.fld 2 (.t 1)), none, []⟩,
    ⟨(some 10), 10, (.load false 1 (.t 9)), none, [2]⟩,
    ⟨(some 11), 11, (.build [.zc, (.s (.pv (.int .i64 0))), (.s (.pv (.bool false)))] [(1, 1, (.t 8)), (2, 1, (.t 10))]), none, [1, 3]⟩,
    ⟨(some 4), 4, (.mk 28 3 [[.zc, (.s (.pv (.int .i64 0))), (.s (.pv (.bool false)))]]), none, []⟩,
    ⟨none, 43, (.store 3 (.t 4) (.t 11)), none, [5, 4, 0, 1, 2, 3, 4, 5]⟩])
  (.seq (.seq (.reg [⟨(some 12), 12, (.fld 0 (.t 1)), none, []⟩,
    ⟨(some 13), 13, (.load false 1 (.t 12)), none, [0]⟩,
    ⟨(some 14), 14, (.len (.t 13)), none, [1]⟩,
    ⟨(some 15), 15, (.bin false .gtr (.t 14) (.k (.c (.s (.pv (.int .i64 20)))))), none, [2]⟩])
  (.cond (.t 15) (.seq (.reg [⟨(some 16), 16, (.load true 3 (.t 4)), none, []⟩,
    ⟨none, 38, (.store 3 (.t 2) (.t 16)), none, [0, 0]⟩,
    ⟨(some 3), 3, (.mv (.k (.c (.s (.pv (.bool false)))))), none, [1, 0, 1]⟩])
  .ret) .skip))
  (.seq (.seq (.reg [⟨(some 17), 17, (.fld 0 (.t 1)), none, []⟩,
    ⟨(some 18), 18, (.load false 1 (.t 17)), none, [0]⟩,
    ⟨(some 19), 19, (.len (.t 18)), none, [1]⟩,
    ⟨(some 20), 20, (.mv (.k (.c (.s (.pv (.int .i64 0)))))), none, []⟩])
  (.block 0 (.loop (.seq (.reg [⟨(some 21), 21, (.bin false .lss (.t 20) (.t 19)), none, []⟩])
  (.seq (.cond (.t 21) .skip (.exit 0))
  (.seq (.block 1 (.seq (.reg [⟨(some 22), 22, (.idx 3 (.t 18) (.t 20)), none, []⟩,
    ⟨(some 23), 23, (.load true 3 (.t 22)), none, [0]⟩,
    ⟨(some 6), 6, (.mk 56 3 [[(.s (.pv (.int .i64 0))), (.s (.pv (.int .i64 0))), .zc]]), none, []⟩,
    ⟨none, 40, (.store 3 (.t 6) (.t 23)), none, [2, 1, 0, 1, 2]⟩])
  (.seq (.seq (.reg [⟨(some 24), 24, (.fld 2 (.t 6)), none, []⟩,
    ⟨(some 25), 25, (.load false 1 (.t 24)), none, [0]⟩,
    ⟨(some 26), 26, (.len (.t 25)), none, [1]⟩,
    ⟨(some 27), 27, (.bin false .gtr (.t 26) (.k (.c (.s (.pv (.int .i64 220)))))), none, [2]⟩])
  (.cond (.t 27) (.seq (.reg [⟨(some 28), 28, (.load true 3 (.t 4)), none, []⟩,
    ⟨none, 38, (.store 3 (.t 2) (.t 28)), none, [0, 0]⟩,
    ⟨(some 3), 3, (.mv (.k (.c (.s (.pv (.bool false)))))), none, [1, 0, 1]⟩])
  .ret) .skip))
  (.reg [⟨(some 29), 29, (.fld 0 (.t 4)), none, []⟩,
    ⟨(some 30), 30, (.load false 1 (.t 29)), none, [0]⟩,
    ⟨(some 31), 31, (.load true 3 (.t 6)), none, []⟩,
    ⟨(some 32), 32, (.bslice 36 3 [(.s (.pv (.int .i64 0))), (.s (.pv (.int .i64 0))), .zc] 1 [(0, 3, (.t 31))]), none, [2]⟩,
    ⟨(some 33), 33, (.app 36 3 40 (.t 30) (.t 32)), none, [1, 3]⟩,
    ⟨(some 34), 34, (.fld 0 (.t 4)), none, [0, 1, 2, 3, 4]⟩,
    ⟨none, 43, (.store 1 (.t 34) (.t 33)), none, [5, 4, 4, 0, 1, 2, 3, 4]⟩]))))
  (.reg [⟨(some 35), 35, (.bin false .add (.t 20) (.k (.c (.s (.pv (.int .i64 1)))))), none, []⟩,
    ⟨(some 20), 20, (.mv (.t 35)), none, [0]⟩])))))))
  (.seq (.reg [⟨(some 36), 36, (.load true 3 (.t 4)), none, []⟩,
    ⟨none, 38, (.store 3 (.t 2) (.t 36)), none, [0, 0]⟩,
    ⟨(some 3), 3, (.mv (.k (.c (.s (.pv (.bool true)))))), none, [1, 0, 1]⟩])
  .ret)))))
theorem fn15 : FnIs Try.prog 15 ac15 [(.cell 2 true 3), (.t 3)] 37 := ⟨Try.f15, Try.func15, by kernel_rfl, by kernel_rfl, by kernel_rfl⟩
/- lockkeeper/lockkeeperlaw05.awake -/
def ac16 : ACode := (.seq (.reg [⟨(some 0), 0, (.mv (.k (.c (.s (.pv (.bool false)))))), none, []⟩])
  (.seq (.reg [⟨(some 16), 16, (.bslice 3 1 [(.s (.pv (.int .i64 0)))] 2 [(0, 1, (.k (.c (.s (.pv (.int .i64 1)))))), (1, 1, (.k (.c (.s (.pv (.int .i64 2))))))]), none, []⟩,
    ⟨(some 17), 17, (.call 17 [(.t 16)]), none, [0]⟩,
    ⟨(some 15), 15, (.mv (.t 17)), none, [1]⟩,
    ⟨(some 18), 18, (.ext 0 (.t 15)), none, [2]⟩,
    ⟨(some 19), 19, (.ext 1 (.t 15)), none, [2]⟩,
    ⟨(some 1), 1, (.mk 25 3 [[.zc, (.s (.pv (.int .i64 0))), (.s (.pv (.bool false)))]]), none, []⟩,
    ⟨none, 99, (.store 3 (.t 1) (.t 18)), none, [5, 3, 1, 0, 1, 2, 3, 5]⟩,
    ⟨(some 2), 2, (.mv (.t 19)), none, [4, 6, 0, 1, 2, 3, 4, 5, 6]⟩])
  (.seq (.reg [⟨(some 21), 21, (.load true 3 (.t 1)), none, []⟩,
    ⟨(some 22), 22, (.call 20 [(.t 21), (.k (.c (.s (.pv (.int .i64 0))))), (.k (.c (.s (.pv (.int .i64 4)))))]), none, [0]⟩,
    ⟨(some 20), 20, (.mv (.t 22)), none, [1]⟩,
    ⟨(some 23), 23, (.ext 0 (.t 20)), none, [2]⟩,
    ⟨(some 24), 24, (.ext 1 (.t 20)), none, [2]⟩,
    ⟨none, 98, (.store 3 (.t 1) (.t 23)), none, [3, 1, 0, 1, 2, 3]⟩,
    ⟨(some 3), 3, (.mv (.t 24)), none, [4, 5, 0, 1, 2, 3, 4, 5]⟩])
  (.seq (.reg [⟨(some 26), 26, (.load true 3 (.t 1)), none, []⟩,
    ⟨(some 27), 27, (.call 20 [(.t 26), (.k (.c (.s (.pv (.int .i64 1))))), (.k (.c (.s (.pv (.int .i64 8)))))]), none, [0]⟩,
    ⟨(some 25), 25, (.mv (.t 27)), none, [1]⟩,
    ⟨(some 28), 28, (.ext 0 (.t 25)), none, [2]⟩,
    ⟨(some 29), 29, (.ext 1 (.t 25)), none, [2]⟩,
    ⟨none, 98, (.store 3 (.t 1) (.t 28)), none, [3, 1, 0, 1, 2, 3]⟩,
    ⟨(some 4), 4, (.mv (.t 29)), none, [4, 5, 0, 1, 2, 3, 4, 5]⟩])
  (.seq (.reg [⟨(some 31), 31, (.load true 3 (.t 1)), none, []⟩,
    ⟨(some 32), 32, (.call 23 [(.t 31)]), none, [0]⟩,
    ⟨(some 30), 30, (.mv (.t 32)), none, [1]⟩,
    ⟨(some 33), 33, (.ext 0 (.t 30)), none, [2]⟩,
    ⟨(some 34), 34, (.ext 1 (.t 30)), none, [2]⟩,
    ⟨(some 35), 35, (.ext 2 (.t 30)), none, [2]⟩,
    ⟨(some 36), 36, (.ext 3 (.t 30)), none, [2]⟩,
    ⟨none, 100, (.store 3 (.t 1) (.t 33)), none, [3, 1, 0, 1, 2, 3]⟩,
    ⟨(some 5), 5, (.mv (.t 34)), none, [4, 7, 0, 1, 2, 3, 4, 7]⟩,
    ⟨(some 6), 6, (.mv (.t 35)), none, [5, 8, 0, 1, 2, 3, 4, 5, 7, 8]⟩,
    ⟨(some 7), 7, (.mv (.t 36)), none, [6, 9, 0, 1, 2, 3, 4, 5, 6, 7, 8, 9]⟩])
  (.seq (.reg [⟨(some 38), 38, (.load true 3 (.t 1)), none, []⟩,
    ⟨(some 39), 39, (.call 23 [(.t 38)]), none, [0]⟩,
    ⟨(some 37), 37, (.mv (.t 39)), none, [1]⟩,
    ⟨(some 40), 40, (.ext 0 (.t 37)), none, [2]⟩,
    ⟨(some 41), 41, (.ext 1 (.t 37)), none, [2]⟩,
    ⟨(some 42), 42, (.ext 2 (.t 37)), none, [2]⟩,
    ⟨(some 43), 43, (.ext 3 (.t 37)), none, [2]⟩,
    ⟨none, 100, (.store 3 (.t 1) (.t 40)), none, [3, 1, 0, 1, 2, 3]⟩,
    ⟨(some 8), 8, (.mv (.t 41)), none, [4, 7, 0, 1, 2, 3, 4, 7]⟩,
    ⟨(some 9), 9, (.mv (.t 42)), none, [5, 8, 0, 1, 2, 3, 4, 5, 7, 8]⟩,
    ⟨(some 10), 10, (.mv (.t 43)), none, [6, 9, 0, 1, 2, 3, 4, 5, 6, 7, 8, 9]⟩])
  (.seq (.reg [⟨(some 45), 45, (.load true 3 (.t 1)), none, []⟩,
    ⟨(some 46), 46, (.call 23 [(.t 45)]), none, [0]⟩,
    ⟨(some 44), 44, (.mv (.t 46)), none, [1]⟩,
    ⟨(some 47), 47, (.ext 0 (.t 44)), none, [2]⟩,
    ⟨(some 48), 48, (.ext 1 (.t 44)), none, [2]⟩,
    ⟨(some 49), 49, (.ext 2 (.t 44)), none, [2]⟩,
    ⟨(some 50), 50, (.ext 3 (.t 44)), none, [2]⟩,
    ⟨(some 11), 11, (.mk 25 3 [[.zc, (.s (.pv (.int .i64 0))), (.s (.pv (.bool false)))]]), none, []⟩,
    ⟨none, 101, (.store 3 (.t 11) (.t 47)), none, [7, 3, 1, 0, 1, 2, 3, 7]⟩,
    ⟨(some 12), 12, (.mv (.t 48)), none, [4, 8, 0, 1, 2, 3, 4, 7, 8]⟩,
    ⟨(some 13), 13, (.mv (.t 49)), none, [5, 9, 0, 1, 2, 3, 4, 5, 7, 8, 9]⟩,
    ⟨(some 14), 14, (.mv (.t 50)), none, [6, 10, 0, 1, 2, 3, 4, 5, 6, 7, 8, 9, 10]⟩])
  (.seq (.reg [⟨(some 51), 51, (.mv (.t 2)), none, []⟩,
    ⟨(some 52), 52, (.bin false .eql (.t 51) (.k (.c (.s (.pv (.int .i64 0)))))), none, [0]⟩,
    ⟨(some 53), 53, (.mv (.t 52)), none, [1]⟩,
    ⟨(some 54), 54, (.mv (.t 3)), (some (53, true)), [2]⟩,
    ⟨(some 55), 55, (.bin false .eql (.t 54) (.k (.c (.s (.pv (.int .i64 0)))))), (some (53, true)), [3, 2]⟩,
    ⟨(some 56), 56, (.pick (.t 53) (.t 55) (.k (.c (.s (.pv (.bool false)))))), none, [2, 4]⟩,
    ⟨(some 57), 57, (.mv (.t 56)), none, [5, 2]⟩,
    ⟨(some 58), 58, (.mv (.t 4)), (some (57, true)), [6]⟩,
    ⟨(some 59), 59, (.bin false .eql (.t 58) (.k (.c (.s (.pv (.int .i64 0)))))), (some (57, true)), [7, 6]⟩,
    ⟨(some 60), 60, (.pick (.t 57) (.t 59) (.k (.c (.s (.pv (.bool false)))))), none, [6, 8]⟩,
    ⟨(some 61), 61, (.mv (.t 60)), none, [9, 6]⟩,
    ⟨(some 62), 62, (.mv (.t 5)), (some (61, true)), [10]⟩,
    ⟨(some 63), 63, (.bin false .eql (.t 62) (.k (.c (.s (.pv (.int .i64 0)))))), (some (61, true)), [11, 10]⟩,
    ⟨(some 64), 64, (.pick (.t 61) (.t 63) (.k (.c (.s (.pv (.bool false)))))), none, [10, 12]⟩,
    ⟨(some 65), 65, (.mv (.t 64)), none, [13, 10]⟩,
    ⟨(some 66), 66, (.mv (.t 6)), (some (65, true)), [14]⟩,
    ⟨(some 67), 67, (.bin false .eql (.t 66) (.k (.c (.s (.pv (.int .i64 4)))))), (some (65, true)), [15, 14]⟩,
    ⟨(some 68), 68, (.pick (.t 65) (.t 67) (.k (.c (.s (.pv (.bool false)))))), none, [14, 16]⟩,
    ⟨(some 69), 69, (.mv (.t 68)), none, [17, 14]⟩,
    ⟨(some 70), 70, (.mv (.t 7)), (some (69, true)), [18]⟩,
    ⟨(some 71), 71, (.pick (.t 69) (.t 70) (.k (.c (.s (.pv (.bool false)))))), none, [18, 19]⟩,
    ⟨(some 72), 72, (.mv (.t 71)), none, [20, 18]⟩,
    ⟨(some 73), 73, (.mv (.t 8)), (some (72, true)), [21]⟩,
    ⟨(some 74), 74, (.bin false .eql (.t 73) (.k (.c (.s (.pv (.int .i64 1)))))), (some (72, true)), [22, 21]⟩,
    ⟨(some 75), 75, (.pick (.t 72) (.t 74) (.k (.c (.s (.pv (.bool false)))))), none, [21, 23]⟩,
    ⟨(some 76), 76, (.mv (.t 75)), none, [24, 21]⟩,
    ⟨(some 77), 77, (.mv (.t 9)), (some (76, true)), [25]⟩,
    ⟨(some 78), 78, (.bin false .eql (.t 77) (.k (.c (.s (.pv (.int .i64 8)))))), (some (76, true)), [26, 25]⟩,
    ⟨(some 79), 79, (.pick (.t 76) (.t 78) (.k (.c (.s (.pv (.bool false)))))), none, [25, 27]⟩,
    ⟨(some 80), 80, (.mv (.t 79)), none, [28, 25]⟩,
    ⟨(some 81), 81, (.mv (.t 10)), (some (80, true)), [29]⟩,
    ⟨(some 82), 82, (.pick (.t 80) (.t 81) (.k (.c (.s (.pv (.bool false)))))), none, [29, 30]⟩,
    ⟨(some 83), 83, (.mv (.t 82)), none, [31, 29]⟩,
    ⟨(some 84), 84, (.mv (.t 14)), (some (83, true)), [32]⟩,
    ⟨(some 85), 85, (.not (.t 84)), (some (83, true)), [33, 32]⟩,
    ⟨(some 86), 86, (.pick (.t 83) (.t 85) (.k (.c (.s (.pv (.bool false)))))), none, [32, 34]⟩,
    ⟨(some 87), 87, (.mv (.t 86)), none, [35, 32]⟩,
    ⟨(some 88), 88, (.pick (.t 87) (.k (.c (.s (.pv (.bool true))))) (.k (.c (.s (.pv (.bool false)))))), none, [36]⟩,
    ⟨(some 89), 89, (.mv (.t 88)), none, [37, 36]⟩,
    ⟨(some 90), 90, (.load true 3 (.t 1)), (some (89, true)), [38]⟩,
    ⟨(some 91), 91, (.call 21 [(.t 90)]), (some (89, true)), [39, 38, 38]⟩,
    ⟨(some 92), 92, (.pick (.t 89) (.t 91) (.k (.c (.s (.pv (.bool false)))))), none, [38, 40]⟩,
    ⟨(some 0), 0, (.mv (.t 92)), none, [41, 40, 0, 1, 2, 3, 4, 5, 6, 7, 8, 9, 10, 11, 12, 13, 14, 15, 16, 17, 18, 19, 20, 21, 22, 23, 24, 25, 26, 27, 28, 29, 30, 31, 32, 33, 34, 35, 36, 37, 38, 39, 40, 41]⟩])
  .ret))))))))
theorem fn16 : FnIs Try.prog 16 ac16 [(.t 0)] 93 := ⟨Try.f16, Try.func16, by kernel_rfl, by kernel_rfl, by kernel_rfl⟩
/- lockkeeper/lanes.New -/
def ac17 : ACode := (.seq (.reg [⟨(some 2), 2, (.mk 25 3 [[.zc, (.s (.pv (.int .i64 0))), (.s (.pv (.bool false)))]]), none, []⟩,
    ⟨(some 3), 3, (.mv (.k (.c (.s (.pv (.int .i64 0)))))), none, []⟩])
  (.seq (.reg [⟨(some 7), 7, (.mkSlice 56 3 40 [(.pv (.int .i64 0)), (.pv (.int .i64 0)), (.sl 1 [])] (.k (.c (.s (.pv (.int .i64 0))))) (.k (.c (.s (.pv (.int .i64 6)))))), none, []⟩,
    ⟨(some 4), 4, (.mv (.t 7)), none, [0, 0]⟩])
  (.seq (.seq (.reg [⟨(some 8), 8, (.mv (.t 0)), none, []⟩,
    ⟨(some 9), 9, (.len (.t 8)), none, [0]⟩,
    ⟨(some 10), 10, (.mv (.k (.c (.s (.pv (.int .i64 0)))))), none, []⟩])
  (.block 0 (.loop (.seq (.reg [⟨(some 11), 11, (.bin false .lss (.t 10) (.t 9)), none, []⟩])
  (.seq (.cond (.t 11) .skip (.exit 0))
  (.seq (.block 1 (.seq (.reg [⟨(some 12), 12, (.idx 1 (.t 8) (.t 10)), none, []⟩,
    ⟨(some 13), 13, (.load false 1 (.t 12)), none, [0]⟩,
    ⟨(some 6), 6, (.mv (.t 13)), none, [1, 0, 1]⟩])
  (.seq (.seq (.reg [⟨(some 14), 14, (.mv (.t 4)), none, []⟩,
    ⟨(some 15), 15, (.len (.t 14)), none, [0]⟩,
    ⟨(some 16), 16, (.bin false .eql (.t 15) (.k (.c (.s (.pv (.int .i64 6)))))), none, [1]⟩,
    ⟨(some 17), 17, (.mv (.t 16)), none, [2]⟩,
    ⟨(some 18), 18, (.mv (.t 6)), (some (17, false)), [3]⟩,
    ⟨(some 19), 19, (.call 40 [(.t 18)]), (some (17, false)), [4, 3, 3]⟩,
    ⟨(some 20), 20, (.not (.t 19)), (some (17, false)), [5, 3]⟩,
    ⟨(some 21), 21, (.pick (.t 17) (.k (.c (.s (.pv (.bool true))))) (.t 20)), none, [3, 6]⟩])
  (.cond (.t 21) (.seq (.reg [⟨(some 22), 22, (.build [.zc, (.s (.pv (.int .i64 0))), (.s (.pv (.bool false)))] []), none, []⟩,
    ⟨none, 36, (.store 3 (.t 2) (.t 22)), none, [0, 0]⟩,
    ⟨(some 3), 3, (.mv (.k (.c (.s (.pv (.int .i64 1)))))), none, [1, 0, 1]⟩])
  .ret) .skip))
  (.reg [⟨(some 23), 23, (.mv (.t 4)), none, []⟩,
    ⟨(some 24), 24, (.mv (.t 6)), none, []⟩,
    ⟨(some 25), 25, (.build [(.s (.pv (.int .i64 0))), (.s (.pv (.int .i64 0))), .zc] [(0, 1, (.t 24))]), none, [1]⟩,
    ⟨(some 26), 26, (.bslice 56 3 [(.s (.pv (.int .i64 0))), (.s (.pv (.int .i64 0))), .zc] 1 [(0, 3, (.t 25))]), none, [2]⟩,
    ⟨(some 27), 27, (.app 56 3 40 (.t 23) (.t 26)), none, [0, 3]⟩,
    ⟨(some 4), 4, (.mv (.t 27)), none, [4, 4, 0, 1, 2, 3, 4]⟩]))))
  (.reg [⟨(some 28), 28, (.bin false .add (.t 10) (.k (.c (.s (.pv (.int .i64 1)))))), none, []⟩,
    ⟨(some 10), 10, (.mv (.t 28)), none, [0]⟩])))))))
  (.seq (.seq (.reg [⟨(some 29), 29, (.mv (.t 4)), none, []⟩,
    ⟨(some 30), 30, (.len (.t 29)), none, [0]⟩,
    ⟨(some 31), 31, (.bin false .eql (.t 30) (.k (.c (.s (.pv (.int .i64 0)))))), none, [1]⟩])
  (.cond (.t 31) (.seq (.reg [⟨(some 32), 32, (.build [.zc, (.s (.pv (.int .i64 0))), (.s (.pv (.bool false)))] []), none, []⟩,
    ⟨none, 36, (.store 3 (.t 2) (.t 32)), none, [0, 0]⟩,
    ⟨(some 3), 3, (.mv (.k (.c (.s (.pv (.int .i64 1)))))), none, [1, 0, 1]⟩])
  .ret) .skip))
  (.seq (.reg [⟨(some 33), 33, (.mv (.t 4)), none, []⟩,
    ⟨(some 34), 34, (.build [.zc, (.s (.pv (.int .i64 0))), (.s (.pv (.bool false)))] [(0, 1, (.t 33))]), none, [0]⟩,
    ⟨none, 37, (.store 3 (.t 2) (.t 34)), none, [1, 0, 1]⟩,
    ⟨(some 3), 3, (.mv (.k (.c (.s (.pv (.int .i64 0)))))), none, [2, 0, 1, 2]⟩])
  .ret)))))
theorem fn17 : FnIs Try.prog 17 ac17 [(.cell 2 true 3), (.t 3)] 35 := ⟨Try.f17, Try.func17, by kernel_rfl, by kernel_rfl, by kernel_rfl⟩
/- lockkeeper/lockkeeperref05.Right -/
def ac18 : ACode := (.seq (.reg [⟨(some 1), 1, (.box 28 3 (.t 0)), none, []⟩,
    ⟨(some 2), 2, (.mv (.k (.c (.s (.pv (.bool false)))))), none, []⟩])
  (.seq (.seq (.reg [⟨(some 7), 7, (.fld 0 (.t 1)), none, []⟩,
    ⟨(some 8), 8, (.load false 1 (.t 7)), none, [0]⟩,
    ⟨(some 9), 9, (.len (.t 8)), none, [1]⟩,
    ⟨(some 10), 10, (.bin false .lss (.t 9) (.k (.c (.s (.pv (.int .i64 1)))))), none, [2]⟩,
    ⟨(some 11), 11, (.mv (.t 10)), none, [3]⟩,
    ⟨(some 12), 12, (.fld 0 (.t 1)), (some (11, false)), [4]⟩,
    ⟨(some 13), 13, (.load false 1 (.t 12)), (some (11, false)), [5, 4]⟩,
    ⟨(some 14), 14, (.len (.t 13)), (some (11, false)), [6, 4]⟩,
    ⟨(some 15), 15, (.bin false .gtr (.t 14) (.k (.c (.s (.pv (.int .i64 6)))))), (some (11, false)), [7, 4]⟩,
    ⟨(some 16), 16, (.pick (.t 11) (.k (.c (.s (.pv (.bool true))))) (.t 15)), none, [4, 8]⟩,
    ⟨(some 17), 17, (.mv (.t 16)), none, [9, 4]⟩,
    ⟨(some 18), 18, (.fld 1 (.t 1)), (some (17, false)), [10]⟩,
    ⟨(some 19), 19, (.load false 1 (.t 18)), (some (17, false)), [11, 10]⟩,
    ⟨(some 20), 20, (.bin false .lss (.t 19) (.k (.c (.s (.pv (.int .i64 0)))))), (some (17, false)), [12, 10]⟩,
    ⟨(some 21), 21, (.pick (.t 17) (.k (.c (.s (.pv (.bool true))))) (.t 20)), none, [10, 13]⟩,
    ⟨(some 22), 22, (.mv (.t 21)), none, [14, 10]⟩,
    ⟨(some 23), 23, (.fld 1 (.t 1)), (some (22, false)), [15]⟩,
    ⟨(some 24), 24, (.load false 1 (.t 23)), (some (22, false)), [16, 15]⟩,
    ⟨(some 25), 25, (.fld 0 (.t 1)), (some (22, false)), [15]⟩,
    ⟨(some 26), 26, (.load false 1 (.t 25)), (some (22, false)), [18, 15]⟩,
    ⟨(some 27), 27, (.len (.t 26)), (some (22, false)), [19, 15]⟩,
    ⟨(some 28), 28, (.bin false .geq (.t 24) (.t 27)), (some (22, false)), [17, 20, 15]⟩,
    ⟨(some 29), 29, (.pick (.t 22) (.k (.c (.s (.pv (.bool true))))) (.t 28)), none, [15, 21]⟩])
  (.cond (.t 29) (.seq (.reg [⟨(some 2), 2, (.mv (.k (.c (.s (.pv (.bool false)))))), none, []⟩])
  .ret) .skip))
  (.seq (.seq (.reg [⟨(some 3), 3, (.mv (.k (.c (.s (.pv (.int .i64 0)))))), none, []⟩])
  (.block 0 (.loop (.seq (.seq (.reg [⟨(some 30), 30, (.mv (.t 3)), none, []⟩,
    ⟨(some 31), 31, (.fld 0 (.t 1)), none, []⟩,
    ⟨(some 32), 32, (.load false 1 (.t 31)), none, [1]⟩,
    ⟨(some 33), 33, (.len (.t 32)), none, [2]⟩,
    ⟨(some 34), 34, (.bin false .lss (.t 30) (.t 33)), none, [0, 3]⟩])
  (.cond (.t 34) .skip (.exit 0)))
  (.seq (.block 1 (.seq (.reg [⟨(some 37), 37, (.fld 0 (.t 1)), none, []⟩,
    ⟨(some 38), 38, (.load false 1 (.t 37)), none, [0]⟩,
    ⟨(some 39), 39, (.mv (.t 3)), none, []⟩,
    ⟨(some 40), 40, (.idx 3 (.t 38) (.t 39)), none, [1, 2]⟩,
    ⟨(some 41), 41, (.load true 3 (.t 40)), none, [3]⟩,
    ⟨(some 4), 4, (.mk 36 3 [[(.s (.pv (.int .i64 0))), (.s (.pv (.int .i64 0))), .zc]]), none, []⟩,
    ⟨none, 102, (.store 3 (.t 4) (.t 41)), none, [5, 4, 0, 1, 2, 3, 4, 5]⟩])
  (.seq (.reg [⟨(some 5), 5, (.mv (.k (.c (.s (.pv (.int .i64 7)))))), none, []⟩])
  (.seq (.seq (.reg [⟨(some 42), 42, (.fld 2 (.t 1)), none, []⟩,
    ⟨(some 43), 43, (.load false 1 (.t 42)), none, [0]⟩,
    ⟨(some 44), 44, (.mv (.t 43)), none, [1]⟩,
    ⟨(some 45), 45, (.fld 1 (.t 1)), (some (44, true)), [2]⟩,
    ⟨(some 46), 46, (.load false 1 (.t 45)), (some (44, true)), [3, 2]⟩,
    ⟨(some 47), 47, (.mv (.t 3)), (some (44, true)), [2]⟩,
    ⟨(some 48), 48, (.bin false .eql (.t 46) (.t 47)), (some (44, true)), [4, 5, 2]⟩,
    ⟨(some 49), 49, (.pick (.t 44) (.t 48) (.k (.c (.s (.pv (.bool false)))))), none, [2, 6]⟩])
  (.cond (.t 49) (.reg [⟨(some 5), 5, (.mv (.k (.c (.s (.pv (.int .i64 39)))))), none, []⟩]) .skip))
  (.seq (.seq (.reg [⟨(some 50), 50, (.fld 0 (.t 4)), none, []⟩,
    ⟨(some 51), 51, (.load false 1 (.t 50)), none, [0]⟩,
    ⟨(some 52), 52, (.bin false .lss (.t 51) (.k (.c (.s (.pv (.int .i64 1)))))), none, [1]⟩,
    ⟨(some 53), 53, (.mv (.t 52)), none, [2]⟩,
    ⟨(some 54), 54, (.fld 0 (.t 4)), (some (53, false)), [3]⟩,
    ⟨(some 55), 55, (.load false 1 (.t 54)), (some (53, false)), [4, 3]⟩,
    ⟨(some 56), 56, (.bin false .gtr (.t 55) (.k (.c (.s (.pv (.int .i64 8)))))), (some (53, false)), [5, 3]⟩,
    ⟨(some 57), 57, (.pick (.t 53) (.k (.c (.s (.pv (.bool true))))) (.t 56)), none, [3, 6]⟩,
    ⟨(some 58), 58, (.mv (.t 57)), none, [7, 3]⟩,
    ⟨(some 59), 59, (.fld 1 (.t 4)), (some (58, false)), [8]⟩,
    ⟨(some 60), 60, (.load false 1 (.t 59)), (some (58, false)), [9, 8]⟩,
    ⟨(some 61), 61, (.bin false .lss (.t 60) (.k (.c (.s (.pv (.int .i64 0)))))), (some (58, false)), [10, 8]⟩,
    ⟨(some 62), 62, (.pick (.t 58) (.k (.c (.s (.pv (.bool true))))) (.t 61)), none, [8, 11]⟩,
    ⟨(some 63), 63, (.mv (.t 62)), none, [12, 8]⟩,
    ⟨(some 64), 64, (.fld 1 (.t 4)), (some (63, false)), [13]⟩,
    ⟨(some 65), 65, (.load false 1 (.t 64)), (some (63, false)), [14, 13]⟩,
    ⟨(some 66), 66, (.mv (.t 5)), (some (63, false)), [13]⟩,
    ⟨(some 67), 67, (.bin false .gtr (.t 65) (.t 66)), (some (63, false)), [15, 16, 13]⟩,
    ⟨(some 68), 68, (.pick (.t 63) (.k (.c (.s (.pv (.bool true))))) (.t 67)), none, [13, 17]⟩,
    ⟨(some 69), 69, (.mv (.t 68)), none, [18, 13]⟩,
    ⟨(some 70), 70, (.fld 2 (.t 4)), (some (69, false)), [19]⟩,
    ⟨(some 71), 71, (.load false 1 (.t 70)), (some (69, false)), [20, 19]⟩,
    ⟨(some 72), 72, (.len (.t 71)), (some (69, false)), [21, 19]⟩,
    ⟨(some 73), 73, (.bin false .gtr (.t 72) (.k (.c (.s (.pv (.int .i64 200)))))), (some (69, false)), [22, 19]⟩,
    ⟨(some 74), 74, (.pick (.t 69) (.k (.c (.s (.pv (.bool true))))) (.t 73)), none, [19, 23]⟩])
  (.cond (.t 74) (.seq (.reg [⟨(some 2), 2, (.mv (.k (.c (.s (.pv (.bool false)))))), none, []⟩])
  .ret) .skip))
  (.seq (.reg [⟨(some 6), 6, (.mv (.k (.c (.s (.pv (.int .i64 0)))))), none, []⟩])
  (.block 2 (.loop (.seq (.seq (.reg [⟨(some 75), 75, (.mv (.t 6)), none, []⟩,
    ⟨(some 76), 76, (.fld 2 (.t 4)), none, []⟩,
    ⟨(some 77), 77, (.load false 1 (.t 76)), none, [1]⟩,
    ⟨(some 78), 78, (.len (.t 77)), none, [2]⟩,
    ⟨(some 79), 79, (.bin false .lss (.t 75) (.t 78)), none, [0, 3]⟩])
  (.cond (.t 79) .skip (.exit 2)))
  (.seq (.block 3 (.seq (.reg [⟨(some 82), 82, (.fld 2 (.t 4)), none, []⟩,
    ⟨(some 83), 83, (.load false 1 (.t 82)), none, [0]⟩,
    ⟨(some 84), 84, (.mv (.t 6)), none, []⟩,
    ⟨(some 85), 85, (.idx 1 (.t 83) (.t 84)), none, [1, 2]⟩,
    ⟨(some 86), 86, (.load false 1 (.t 85)), none, [3]⟩,
    ⟨(some 87), 87, (.bin false .lss (.t 86) (.k (.c (.s (.pv (.int .i64 1)))))), none, [4]⟩,
    ⟨(some 88), 88, (.mv (.t 87)), none, [5]⟩,
    ⟨(some 89), 89, (.fld 2 (.t 4)), (some (88, false)), [6]⟩,
    ⟨(some 90), 90, (.load false 1 (.t 89)), (some (88, false)), [7, 6]⟩,
    ⟨(some 91), 91, (.mv (.t 6)), (some (88, false)), [6]⟩,
    ⟨(some 92), 92, (.idx 1 (.t 90) (.t 91)), (some (88, false)), [8, 9, 6]⟩,
    ⟨(some 93), 93, (.load false 1 (.t 92)), (some (88, false)), [10, 6]⟩,
    ⟨(some 94), 94, (.bin false .gtr (.t 93) (.k (.c (.s (.pv (.int .i64 8)))))), (some (88, false)), [11, 6]⟩,
    ⟨(some 95), 95, (.pick (.t 88) (.k (.c (.s (.pv (.bool true))))) (.t 94)), none, [6, 12]⟩])
  (.cond (.t 95) (.seq (.reg [⟨(some 2), 2, (.mv (.k (.c (.s (.pv (.bool false)))))), none, []⟩])
  .ret) .skip)))
  (.reg [⟨(some 80), 80, (.mv (.t 6)), none, []⟩,
    ⟨(some 81), 81, (.bin false .add (.t 80) (.k (.c (.s (.pv (.int .i64 1)))))), none, [0]⟩,
    ⟨(some 6), 6, (.mv (.t 81)), none, [1, 0, 1]⟩])))))))))))
  (.reg [⟨(some 35), 35, (.mv (.t 3)), none, []⟩,
    ⟨(some 36), 36, (.bin false .add (.t 35) (.k (.c (.s (.pv (.int .i64 1)))))), none, [0]⟩,
    ⟨(some 3), 3, (.mv (.t 36)), none, [1, 0, 1]⟩]))))))
  (.seq (.reg [⟨(some 2), 2, (.mv (.k (.c (.s (.pv (.bool true)))))), none, []⟩])
  .ret))))
theorem fn18 : FnIs Try.prog 18 ac18 [(.t 2)] 96 := ⟨Try.f18, Try.func18, by kernel_rfl, by kernel_rfl, by kernel_rfl⟩
/- lockkeeper/lockkeeperref05.Same -/
def ac19 : ACode := (.seq (.reg [⟨(some 2), 2, (.box 28 3 (.t 0)), none, []⟩,
    ⟨(some 3), 3, (.box 28 3 (.t 1)), none, []⟩,
    ⟨(some 4), 4, (.mv (.k (.c (.s (.pv (.bool false)))))), none, []⟩])
  (.seq (.seq (.reg [⟨(some 9), 9, (.fld 0 (.t 2)), none, []⟩,
    ⟨(some 10), 10, (.load false 1 (.t 9)), none, [0]⟩,
    ⟨(some 11), 11, (.len (.t 10)), none, [1]⟩,
    ⟨(some 12), 12, (.fld 0 (.t 3)), none, []⟩,
    ⟨(some 13), 13, (.load false 1 (.t 12)), none, [3]⟩,
    ⟨(some 14), 14, (.len (.t 13)), none, [4]⟩,
    ⟨(some 15), 15, (.bin false .neq (.t 11) (.t 14)), none, [2, 5]⟩,
    ⟨(some 16), 16, (.mv (.t 15)), none, [6]⟩,
    ⟨(some 17), 17, (.fld 1 (.t 2)), (some (16, false)), [7]⟩,
    ⟨(some 18), 18, (.load false 1 (.t 17)), (some (16, false)), [8, 7]⟩,
    ⟨(some 19), 19, (.fld 1 (.t 3)), (some (16, false)), [7]⟩,
    ⟨(some 20), 20, (.load false 1 (.t 19)), (some (16, false)), [10, 7]⟩,
    ⟨(some 21), 21, (.bin false .neq (.t 18) (.t 20)), (some (16, false)), [9, 11, 7]⟩,
    ⟨(some 22), 22, (.pick (.t 16) (.k (.c (.s (.pv (.bool true))))) (.t 21)), none, [7, 12]⟩,
    ⟨(some 23), 23, (.mv (.t 22)), none, [13, 7]⟩,
    ⟨(some 24), 24, (.fld 2 (.t 2)), (some (23, false)), [14]⟩,
    ⟨(some 25), 25, (.load false 1 (.t 24)), (some (23, false)), [15, 14]⟩,
    ⟨(some 26), 26, (.fld 2 (.t 3)), (some (23, false)), [14]⟩,
    ⟨(some 27), 27, (.load false 1 (.t 26)), (some (23, false)), [17, 14]⟩,
    ⟨(some 28), 28, (.bin true .neq (.t 25) (.t 27)), (some (23, false)), [16, 18, 14]⟩,
    ⟨(some 29), 29, (.pick (.t 23) (.k (.c (.s (.pv (.bool true))))) (.t 28)), none, [14, 19]⟩])
  (.cond (.t 29) (.seq (.reg [⟨(some 4), 4, (.mv (.k (.c (.s (.pv (.bool false)))))), none, []⟩])
  .ret) .skip))
  (.seq (.seq (.reg [⟨(some 5), 5, (.mv (.k (.c (.s (.pv (.int .i64 0)))))), none, []⟩])
  (.block 0 (.loop (.seq (.seq (.reg [⟨(some 30), 30, (.mv (.t 5)), none, []⟩,
    ⟨(some 31), 31, (.fld 0 (.t 2)), none, []⟩,
    ⟨(some 32), 32, (.load false 1 (.t 31)), none, [1]⟩,
    ⟨(some 33), 33, (.len (.t 32)), none, [2]⟩,
    ⟨(some 34), 34, (.bin false .lss (.t 30) (.t 33)), none, [0, 3]⟩])
  (.cond (.t 34) .skip (.exit 0)))
  (.seq (.block 1 (.seq (.draw [⟨(some 37), 37, (.fld 0 (.t 2)), none, []⟩,
    ⟨(some 38), 38, (.load false 1 (.t 37)), none, [0]⟩,
    ⟨(some 39), 39, (.mv (.t 5)), none, []⟩,
    ⟨(some 40), 40, (.idx 3 (.t 38) (.t 39)), none, [1, 2]⟩,
    ⟨(some 41), 41, (.load true 3 (.t 40)), none, [3]⟩,
    ⟨(some 42), 42, (.fld 0 (.t 3)), none, []⟩,
    ⟨(some 43), 43, (.load false 1 (.t 42)), none, [5]⟩,
    ⟨(some 44), 44, (.mv (.t 5)), none, []⟩,
    ⟨(some 45), 45, (.idx 3 (.t 43) (.t 44)), none, [6, 7]⟩,
    ⟨(some 46), 46, (.load true 3 (.t 45)), none, [8]⟩,
    ⟨(some 6), 6, (.mk 36 3 [[(.s (.pv (.int .i64 0))), (.s (.pv (.int .i64 0))), .zc]]), none, []⟩,
    ⟨(some 7), 7, (.mk 36 3 [[(.s (.pv (.int .i64 0))), (.s (.pv (.int .i64 0))), .zc]]), none, []⟩,
    ⟨none, 98, (.store 3 (.t 6) (.t 41)), none, [10, 4, 0, 1, 2, 3, 4, 10, 11]⟩,
    ⟨none, 99, (.store 3 (.t 7) (.t 46)), none, [11, 9, 12, 0, 1, 2, 3, 4, 5, 6, 7, 8, 9, 10, 11, 12]⟩])
  (.seq (.seq (.reg [⟨(some 47), 47, (.fld 0 (.t 6)), none, []⟩,
    ⟨(some 48), 48, (.load false 1 (.t 47)), none, [0]⟩,
    ⟨(some 49), 49, (.fld 0 (.t 7)), none, []⟩,
    ⟨(some 50), 50, (.load false 1 (.t 49)), none, [2]⟩,
    ⟨(some 51), 51, (.bin false .neq (.t 48) (.t 50)), none, [1, 3]⟩,
    ⟨(some 52), 52, (.mv (.t 51)), none, [4]⟩,
    ⟨(some 53), 53, (.fld 1 (.t 6)), (some (52, false)), [5]⟩,
    ⟨(some 54), 54, (.load false 1 (.t 53)), (some (52, false)), [6, 5]⟩,
    ⟨(some 55), 55, (.fld 1 (.t 7)), (some (52, false)), [5]⟩,
    ⟨(some 56), 56, (.load false 1 (.t 55)), (some (52, false)), [8, 5]⟩,
    ⟨(some 57), 57, (.bin false .neq (.t 54) (.t 56)), (some (52, false)), [7, 9, 5]⟩,
    ⟨(some 58), 58, (.pick (.t 52) (.k (.c (.s (.pv (.bool true))))) (.t 57)), none, [5, 10]⟩,
    ⟨(some 59), 59, (.mv (.t 58)), none, [11, 5]⟩,
    ⟨(some 60), 60, (.fld 2 (.t 6)), (some (59, false)), [12]⟩,
    ⟨(some 61), 61, (.load false 1 (.t 60)), (some (59, false)), [13, 12]⟩,
    ⟨(some 62), 62, (.len (.t 61)), (some (59, false)), [14, 12]⟩,
    ⟨(some 63), 63, (.fld 2 (.t 7)), (some (59, false)), [12]⟩,
    ⟨(some 64), 64, (.load false 1 (.t 63)), (some (59, false)), [16, 12]⟩,
    ⟨(some 65), 65, (.len (.t 64)), (some (59, false)), [17, 12]⟩,
    ⟨(some 66), 66, (.bin false .neq (.t 62) (.t 65)), (some (59, false)), [15, 18, 12]⟩,
    ⟨(some 67), 67, (.pick (.t 59) (.k (.c (.s (.pv (.bool true))))) (.t 66)), none, [12, 19]⟩])
  (.cond (.t 67) (.seq (.reg [⟨(some 4), 4, (.mv (.k (.c (.s (.pv (.bool false)))))), none, []⟩])
  .ret) .skip))
  (.seq (.reg [⟨(some 8), 8, (.mv (.k (.c (.s (.pv (.int .i64 0)))))), none, []⟩])
  (.block 2 (.loop (.seq (.seq (.reg [⟨(some 68), 68, (.mv (.t 8)), none, []⟩,
    ⟨(some 69), 69, (.fld 2 (.t 6)), none, []⟩,
    ⟨(some 70), 70, (.load false 1 (.t 69)), none, [1]⟩,
    ⟨(some 71), 71, (.len (.t 70)), none, [2]⟩,
    ⟨(some 72), 72, (.bin false .lss (.t 68) (.t 71)), none, [0, 3]⟩])
  (.cond (.t 72) .skip (.exit 2)))
  (.seq (.block 3 (.seq (.draw [⟨(some 75), 75, (.fld 2 (.t 6)), none, []⟩,
    ⟨(some 76), 76, (.load false 1 (.t 75)), none, [0]⟩,
    ⟨(some 77), 77, (.mv (.t 8)), none, []⟩,
    ⟨(some 78), 78, (.idx 1 (.t 76) (.t 77)), none, [1, 2]⟩,
    ⟨(some 79), 79, (.load false 1 (.t 78)), none, [3]⟩,
    ⟨(some 80), 80, (.fld 2 (.t 7)), none, []⟩,
    ⟨(some 81), 81, (.load false 1 (.t 80)), none, [5]⟩,
    ⟨(some 82), 82, (.mv (.t 8)), none, []⟩,
    ⟨(some 83), 83, (.idx 1 (.t 81) (.t 82)), none, [6, 7]⟩,
    ⟨(some 84), 84, (.load false 1 (.t 83)), none, [8]⟩,
    ⟨(some 85), 85, (.bin false .neq (.t 79) (.t 84)), none, [4, 9]⟩])
  (.cond (.t 85) (.seq (.reg [⟨(some 4), 4, (.mv (.k (.c (.s (.pv (.bool false)))))), none, []⟩])
  .ret) .skip)))
  (.reg [⟨(some 73), 73, (.mv (.t 8)), none, []⟩,
    ⟨(some 74), 74, (.bin false .add (.t 73) (.k (.c (.s (.pv (.int .i64 1)))))), none, [0]⟩,
    ⟨(some 8), 8, (.mv (.t 74)), none, [1, 0, 1]⟩])))))))))
  (.reg [⟨(some 35), 35, (.mv (.t 5)), none, []⟩,
    ⟨(some 36), 36, (.bin false .add (.t 35) (.k (.c (.s (.pv (.int .i64 1)))))), none, [0]⟩,
    ⟨(some 5), 5, (.mv (.t 36)), none, [1, 0, 1]⟩]))))))
  (.seq (.reg [⟨(some 4), 4, (.mv (.k (.c (.s (.pv (.bool true)))))), none, []⟩])
  .ret))))
theorem fn19 : FnIs Try.prog 19 ac19 [(.t 4)] 86 := ⟨Try.f19, Try.func19, by kernel_rfl, by kernel_rfl, by kernel_rfl⟩
/- lockkeeper/lanes.Push -/
def ac20 : ACode := (.seq (.reg [⟨(some 3), 3, (.box 25 3 (.t 0)), none, []⟩,
    ⟨(some 6), 6, (.mk 25 3 [[.zc, (.s (.pv (.int .i64 0))), (.s (.pv (.bool false)))]]), none, []⟩,
    ⟨(some 7), 7, (.mv (.k (.c (.s (.pv (.int .i64 0)))))), none, []⟩])
  (.seq (.seq (.reg [⟨(some 9), 9, (.load true 3 (.t 3)), none, []⟩,
    ⟨(some 10), 10, (.call 21 [(.t 9)]), none, [0]⟩,
    ⟨(some 11), 11, (.not (.t 10)), none, [1]⟩,
    ⟨(some 12), 12, (.mv (.t 11)), none, [2, 1]⟩,
    ⟨(some 13), 13, (.mv (.t 1)), (some (12, false)), [3]⟩,
    ⟨(some 14), 14, (.bin false .lss (.t 13) (.k (.c (.s (.pv (.int .i64 0)))))), (some (12, false)), [4, 3]⟩,
    ⟨(some 15), 15, (.pick (.t 12) (.k (.c (.s (.pv (.bool true))))) (.t 14)), none, [3, 5]⟩,
    ⟨(some 16), 16, (.mv (.t 15)), none, [6, 3]⟩,
    ⟨(some 17), 17, (.mv (.t 1)), (some (16, false)), [7]⟩,
    ⟨(some 18), 18, (.fld 0 (.t 3)), (some (16, false)), [7]⟩,
    ⟨(some 19), 19, (.load false 1 (.t 18)), (some (16, false)), [9, 7]⟩,
    ⟨(some 20), 20, (.len (.t 19)), (some (16, false)), [10, 7]⟩,
    ⟨(some 21), 21, (.bin false .geq (.t 17) (.t 20)), (some (16, false)), [8, 11, 7]⟩,
    ⟨(some 22), 22, (.pick (.t 16) (.k (.c (.s (.pv (.bool true))))) (.t 21)), none, [7, 12]⟩,
    ⟨(some 23), 23, (.mv (.t 22)), none, [13, 7]⟩,
    ⟨(some 24), 24, (.mv (.t 2)), (some (23, false)), [14]⟩,
    ⟨(some 25), 25, (.call 41 [(.t 24)]), (some (23, false)), [15, 14, 14]⟩,
    ⟨(some 26), 26, (.not (.t 25)), (some (23, false)), [16, 14]⟩,
    ⟨(some 27), 27, (.pick (.t 23) (.k (.c (.s (.pv (.bool true))))) (.t 26)), none, [14, 17]⟩])
  (.cond (.t 27) (.seq (.reg [⟨(some 28), 28, (.load true 3 (.t 3)), none, []⟩,
    ⟨none, 55, (.store 3 (.t 6) (.t 28)), none, [0, 0]⟩,
    ⟨(some 7), 7, (.mv (.k (.c (.s (.pv (.int .i64 1)))))), none, [1, 0, 1]⟩])
  .ret) .skip))
  (.seq (.reg [⟨(some 29), 29, (.fld 0 (.t 3)), none, []⟩,
    ⟨(some 30), 30, (.load false 1 (.t 29)), none, [0]⟩,
    ⟨(some 31), 31, (.mv (.t 1)), none, []⟩,
    ⟨(some 32), 32, (.idx 3 (.t 30) (.t 31)), none, [1, 2]⟩,
    ⟨(some 33), 33, (.fld 2 (.t 32)), none, [3]⟩,
    ⟨(some 34), 34, (.load false 1 (.t 33)), none, [4]⟩,
    ⟨(some 8), 8, (.mv (.t 34)), none, [5, 0, 1, 2, 3, 4, 5]⟩])
  (.seq (.seq (.reg [⟨(some 35), 35, (.mv (.t 8)), none, []⟩,
    ⟨(some 36), 36, (.len (.t 35)), none, [0]⟩,
    ⟨(some 37), 37, (.bin false .eql (.t 36) (.k (.c (.s (.pv (.int .i64 200)))))), none, [1]⟩])
  (.cond (.t 37) (.seq (.reg [⟨(some 38), 38, (.load true 3 (.t 3)), none, []⟩,
    ⟨none, 55, (.store 3 (.t 6) (.t 38)), none, [0, 0]⟩,
    ⟨(some 7), 7, (.mv (.k (.c (.s (.pv (.int .i64 7)))))), none, [1, 0, 1]⟩])
  .ret) .skip))
  (.seq (.reg [⟨(some 39), 39, (.fld 0 (.t 3)), none, []⟩,
    ⟨(some 40), 40, (.load false 1 (.t 39)), none, [0]⟩,
    ⟨(some 41), 41, (.call 42 [(.t 40)]), none, [1]⟩,
    ⟨(some 42), 42, (.fld 0 (.t 3)), none, [0, 1, 2]⟩,
    ⟨none, 58, (.store 1 (.t 42) (.t 41)), none, [3, 2, 2, 0, 1, 2]⟩])
  (.seq (.draw [⟨(some 43), 43, (.fld 0 (.t 3)), none, []⟩,
    ⟨(some 44), 44, (.load false 1 (.t 43)), none, [0]⟩,
    ⟨(some 45), 45, (.mv (.t 1)), none, []⟩,
    ⟨(some 46), 46, (.mv (.t 8)), none, []⟩,
    ⟨(some 47), 47, (.call 43 [(.t 46)]), none, [3]⟩,
    ⟨(some 48), 48, (.mv (.t 2)), none, []⟩,
    ⟨(some 49), 49, (.bslice 3 1 [(.s (.pv (.int .i64 0)))] 1 [(0, 1, (.t 48))]), none, [5]⟩,
    ⟨(some 50), 50, (.app 3 1 8 (.t 47) (.t 49)), none, [4, 6, 4]⟩,
    ⟨(some 51), 51, (.idx 3 (.t 44) (.t 45)), none, [1, 2, 0, 1, 2, 3, 4, 5, 6, 7]⟩,
    ⟨(some 52), 52, (.fld 2 (.t 51)), none, [8, 0, 1, 2, 3, 4, 5, 6, 7]⟩,
    ⟨none, 64, (.store 1 (.t 52) (.t 50)), none, [9, 7, 7, 0, 1, 2, 3, 4, 5, 6, 7]⟩])
  (.seq (.reg [⟨(some 53), 53, (.load true 3 (.t 3)), none, []⟩,
    ⟨none, 55, (.store 3 (.t 6) (.t 53)), none, [0, 0]⟩,
    ⟨(some 7), 7, (.mv (.k (.c (.s (.pv (.int .i64 0)))))), none, [1, 0, 1]⟩])
  .ret)))))))
theorem fn20 : FnIs Try.prog 20 ac20 [(.cell 6 true 3), (.t 7)] 54 := ⟨Try.f20, Try.func20, by kernel_rfl, by kernel_rfl, by kernel_rfl⟩
/- lockkeeper/lanes.Right -/
def ac21 : ACode := (.seq (.reg [⟨(some 1), 1, (.box 25 3 (.t 0)), none, []⟩,
    ⟨(some 2), 2, (.mv (.k (.c (.s (.pv (.bool false)))))), none, []⟩])
  (.seq (.seq (.reg [⟨(some 9), 9, (.fld 0 (.t 1)), none, []⟩,
    ⟨(some 10), 10, (.load false 1 (.t 9)), none, [0]⟩,
    ⟨(some 11), 11, (.len (.t 10)), none, [1]⟩,
    ⟨(some 12), 12, (.bin false .gtr (.t 11) (.k (.c (.s (.pv (.int .i64 6)))))), none, [2]⟩,
    ⟨(some 13), 13, (.mv (.t 12)), none, [3]⟩,
    ⟨(some 14), 14, (.fld 1 (.t 1)), (some (13, false)), [4]⟩,
    ⟨(some 15), 15, (.load false 1 (.t 14)), (some (13, false)), [5, 4]⟩,
    ⟨(some 16), 16, (.bin false .lss (.t 15) (.k (.c (.s (.pv (.int .i64 0)))))), (some (13, false)), [6, 4]⟩,
    ⟨(some 17), 17, (.pick (.t 13) (.k (.c (.s (.pv (.bool true))))) (.t 16)), none, [4, 7]⟩,
    ⟨(some 18), 18, (.mv (.t 17)), none, [8, 4]⟩,
    ⟨(some 19), 19, (.fld 1 (.t 1)), (some (18, false)), [9]⟩,
    ⟨(some 20), 20, (.load false 1 (.t 19)), (some (18, false)), [10, 9]⟩,
    ⟨(some 21), 21, (.fld 0 (.t 1)), (some (18, false)), [9]⟩,
    ⟨(some 22), 22, (.load false 1 (.t 21)), (some (18, false)), [12, 9]⟩,
    ⟨(some 23), 23, (.len (.t 22)), (some (18, false)), [13, 9]⟩,
    ⟨(some 24), 24, (.bin false .geq (.t 20) (.t 23)), (some (18, false)), [11, 14, 9]⟩,
    ⟨(some 25), 25, (.pick (.t 18) (.k (.c (.s (.pv (.bool true))))) (.t 24)), none, [9, 15]⟩])
  (.cond (.t 25) (.seq (.reg [⟨(some 2), 2, (.mv (.k (.c (.s (.pv (.bool false)))))), none, []⟩])
  .ret) .skip))
  (.seq (.reg [⟨(some 3), 3, (.mv (.k (.c (.s (.pv (.int .i64 0)))))), none, []⟩])
  (.seq .skip
  (.seq (.seq (.reg [⟨(some 26), 26, (.fld 0 (.t 1)), none, []⟩,
    ⟨(some 27), 27, (.load false 1 (.t 26)), none, [0]⟩,
    ⟨(some 28), 28, (.len (.t 27)), none, [1]⟩,
    ⟨(some 29), 29, (.mv (.k (.c (.s (.pv (.int .i64 0)))))), none, []⟩])
  (.block 0 (.loop (.seq (.reg [⟨(some 30), 30, (.bin false .lss (.t 29) (.t 28)), none, []⟩])
  (.seq (.cond (.t 30) .skip (.exit 0))
  (.seq (.block 1 (.seq (.reg [⟨(some 31), 31, (.mv (.t 29)), none, []⟩,
    ⟨(some 32), 32, (.idx 3 (.t 27) (.t 29)), none, []⟩,
    ⟨(some 33), 33, (.load true 3 (.t 32)), none, [1]⟩,
    ⟨(some 5), 5, (.mk 56 3 [[(.s (.pv (.int .i64 0))), (.s (.pv (.int .i64 0))), .zc]]), none, []⟩,
    ⟨(some 4), 4, (.mv (.t 31)), none, [0, 0, 1, 2, 3]⟩,
    ⟨none, 87, (.store 3 (.t 5) (.t 33)), none, [3, 2, 4, 0, 1, 2, 3, 4]⟩])
  (.seq (.reg [⟨(some 6), 6, (.mv (.k (.c (.s (.pv (.int .i64 7)))))), none, []⟩])
  (.seq (.seq (.reg [⟨(some 34), 34, (.fld 2 (.t 1)), none, []⟩,
    ⟨(some 35), 35, (.load false 1 (.t 34)), none, [0]⟩,
    ⟨(some 36), 36, (.mv (.t 35)), none, [1]⟩,
    ⟨(some 37), 37, (.mv (.t 4)), (some (36, true)), [2]⟩,
    ⟨(some 38), 38, (.fld 1 (.t 1)), (some (36, true)), [2]⟩,
    ⟨(some 39), 39, (.load false 1 (.t 38)), (some (36, true)), [4, 2]⟩,
    ⟨(some 40), 40, (.bin false .eql (.t 37) (.t 39)), (some (36, true)), [3, 5, 2]⟩,
    ⟨(some 41), 41, (.pick (.t 36) (.t 40) (.k (.c (.s (.pv (.bool false)))))), none, [2, 6]⟩])
  (.cond (.t 41) (.reg [⟨(some 6), 6, (.mv (.k (.c (.s (.pv (.int .i64 39)))))), none, []⟩]) .skip))
  (.seq (.seq (.reg [⟨(some 42), 42, (.fld 0 (.t 5)), none, []⟩,
    ⟨(some 43), 43, (.load false 1 (.t 42)), none, [0]⟩,
    ⟨(some 44), 44, (.call 40 [(.t 43)]), none, [1]⟩,
    ⟨(some 45), 45, (.not (.t 44)), none, [2]⟩,
    ⟨(some 46), 46, (.mv (.t 45)), none, [3, 2]⟩,
    ⟨(some 47), 47, (.fld 1 (.t 5)), (some (46, false)), [4]⟩,
    ⟨(some 48), 48, (.load false 1 (.t 47)), (some (46, false)), [5, 4]⟩,
    ⟨(some 49), 49, (.bin false .lss (.t 48) (.k (.c (.s (.pv (.int .i64 0)))))), (some (46, false)), [6, 4]⟩,
    ⟨(some 50), 50, (.pick (.t 46) (.k (.c (.s (.pv (.bool true))))) (.t 49)), none, [4, 7]⟩,
    ⟨(some 51), 51, (.mv (.t 50)), none, [8, 4]⟩,
    ⟨(some 52), 52, (.fld 1 (.t 5)), (some (51, false)), [9]⟩,
    ⟨(some 53), 53, (.load false 1 (.t 52)), (some (51, false)), [10, 9]⟩,
    ⟨(some 54), 54, (.mv (.t 6)), (some (51, false)), [9]⟩,
    ⟨(some 55), 55, (.bin false .gtr (.t 53) (.t 54)), (some (51, false)), [11, 12, 9]⟩,
    ⟨(some 56), 56, (.pick (.t 51) (.k (.c (.s (.pv (.bool true))))) (.t 55)), none, [9, 13]⟩,
    ⟨(some 57), 57, (.mv (.t 56)), none, [14, 9]⟩,
    ⟨(some 58), 58, (.fld 2 (.t 5)), (some (57, false)), [15]⟩,
    ⟨(some 59), 59, (.load false 1 (.t 58)), (some (57, false)), [16, 15]⟩,
    ⟨(some 60), 60, (.len (.t 59)), (some (57, false)), [17, 15]⟩,
    ⟨(some 61), 61, (.bin false .gtr (.t 60) (.k (.c (.s (.pv (.int .i64 200)))))), (some (57, false)), [18, 15]⟩,
    ⟨(some 62), 62, (.pick (.t 57) (.k (.c (.s (.pv (.bool true))))) (.t 61)), none, [15, 19]⟩])
  (.cond (.t 62) (.exit 0) .skip))
  (.seq (.seq (.reg [⟨(some 63), 63, (.fld 2 (.t 5)), none, []⟩,
    ⟨(some 64), 64, (.load false 1 (.t 63)), none, [0]⟩,
    ⟨(some 65), 65, (.len (.t 64)), none, [1]⟩,
    ⟨(some 66), 66, (.mv (.k (.c (.s (.pv (.int .i64 0)))))), none, []⟩])
  (.block 2 (.loop (.seq (.reg [⟨(some 67), 67, (.bin false .lss (.t 66) (.t 65)), none, []⟩])
  (.seq (.cond (.t 67) .skip (.exit 2))
  (.seq (.block 3 (.seq (.reg [⟨(some 68), 68, (.idx 1 (.t 64) (.t 66)), none, []⟩,
    ⟨(some 69), 69, (.load false 1 (.t 68)), none, [0]⟩,
    ⟨(some 8), 8, (.mv (.t 69)), none, [1, 0, 1]⟩])
  (.seq (.reg [⟨(some 70), 70, (.mv (.t 8)), none, []⟩,
    ⟨(some 71), 71, (.call 41 [(.t 70)]), none, [0]⟩,
    ⟨(some 72), 72, (.not (.t 71)), none, [1]⟩])
  (.cond (.t 72) (.exit 0) .skip))))
  (.reg [⟨(some 73), 73, (.bin false .add (.t 66) (.k (.c (.s (.pv (.int .i64 1)))))), none, []⟩,
    ⟨(some 66), 66, (.mv (.t 73)), none, [0]⟩])))))))
  (.reg [⟨(some 74), 74, (.mv (.t 3)), none, []⟩,
    ⟨(some 75), 75, (.bin false .add (.t 74) (.k (.c (.s (.pv (.int .i64 1)))))), none, [0]⟩,
    ⟨(some 3), 3, (.mv (.t 75)), none, [1, 0, 1]⟩])))))))
  (.reg [⟨(some 76), 76, (.bin false .add (.t 29) (.k (.c (.s (.pv (.int .i64 1)))))), none, []⟩,
    ⟨(some 29), 29, (.mv (.t 76)), none, [0]⟩])))))))
  (.seq (.reg [⟨(some 77), 77, (.mv (.t 3)), none, []⟩,
    ⟨(some 78), 78, (.fld 0 (.t 1)), none, []⟩,
    ⟨(some 79), 79, (.load false 1 (.t 78)), none, [1]⟩,
    ⟨(some 80), 80, (.len (.t 79)), none, [2]⟩,
    ⟨(some 81), 81, (.bin false .eql (.t 77) (.t 80)), none, [0, 3]⟩,
    ⟨(some 2), 2, (.mv (.t 81)), none, [4, 0, 1, 2, 3, 4]⟩])
  .ret))))))
theorem fn21 : FnIs Try.prog 21 ac21 [(.t 2)] 82 := ⟨Try.f21, Try.func21, by kernel_rfl, by kernel_rfl, by kernel_rfl⟩
/- lockkeeper/lockkeeperlaw05.filled -/
def ac22 : ACode := (.seq (.reg [⟨(some 4), 4, (.mk 25 3 [[.zc, (.s (.pv (.int .i64 0))), (.s (.pv (.bool false)))]]), none, []⟩,
    ⟨(some 5), 5, (.mv (.k (.c .zc))), none, []⟩,
    ⟨(some 6), 6, (.mv (.k (.c (.s (.pv (.bool false)))))), none, [1]⟩])
  (.seq (.reg [⟨(some 7), 7, (.mv (.k (.c .zc))), none, []⟩])
  (.seq (.seq (.reg [⟨(some 8), 8, (.mv (.k (.c (.s (.pv (.int .i64 0)))))), none, []⟩])
  (.block 0 (.loop (.seq (.seq (.reg [⟨(some 16), 16, (.mv (.t 8)), none, []⟩,
    ⟨(some 17), 17, (.mv (.t 0)), none, []⟩,
    ⟨(some 18), 18, (.len (.t 17)), none, [1]⟩,
    ⟨(some 19), 19, (.bin false .lss (.t 16) (.t 18)), none, [0, 2]⟩,
    ⟨(some 20), 20, (.mv (.t 19)), none, [3]⟩,
    ⟨(some 21), 21, (.mv (.t 8)), (some (20, true)), [4]⟩,
    ⟨(some 22), 22, (.bin false .lss (.t 21) (.k (.c (.s (.pv (.int .i64 6)))))), (some (20, true)), [5, 4]⟩,
    ⟨(some 23), 23, (.pick (.t 20) (.t 22) (.k (.c (.s (.pv (.bool false)))))), none, [4, 6]⟩])
  (.cond (.t 23) .skip (.exit 0)))
  (.seq (.block 1 (.reg [⟨(some 26), 26, (.mv (.t 7)), none, []⟩,
    ⟨(some 27), 27, (.mv (.t 0)), none, []⟩,
    ⟨(some 28), 28, (.mv (.t 8)), none, []⟩,
    ⟨(some 29), 29, (.idx 1 (.t 27) (.t 28)), none, [1, 2]⟩,
    ⟨(some 30), 30, (.load false 1 (.t 29)), none, [3]⟩,
    ⟨(some 31), 31, (.bin false .rem (.t 30) (.k (.c (.s (.pv (.int .u8 8)))))), none, [4]⟩,
    ⟨(some 32), 32, (.conv .i64 (.t 31)), none, [5]⟩,
    ⟨(some 33), 33, (.bin false .add (.k (.c (.s (.pv (.int .i64 1))))) (.t 32)), none, [6]⟩,
    ⟨(some 34), 34, (.bslice 3 1 [(.s (.pv (.int .i64 0)))] 1 [(0, 1, (.t 33))]), none, [7]⟩,
    ⟨(some 35), 35, (.app 3 1 8 (.t 26) (.t 34)), none, [0, 8]⟩,
    ⟨(some 7), 7, (.mv (.t 35)), none, [9, 9, 0, 1, 2, 3, 4, 5, 6, 7, 8, 9]⟩]))
  (.reg [⟨(some 24), 24, (.mv (.t 8)), none, []⟩,
    ⟨(some 25), 25, (.bin false .add (.t 24) (.k (.c (.s (.pv (.int .i64 1)))))), none, [0]⟩,
    ⟨(some 8), 8, (.mv (.t 25)), none, [1, 0, 1]⟩]))))))
  (.seq (.seq (.reg [⟨(some 36), 36, (.mv (.t 7)), none, []⟩,
    ⟨(some 37), 37, (.len (.t 36)), none, [0]⟩,
    ⟨(some 38), 38, (.bin false .eql (.t 37) (.k (.c (.s (.pv (.int .i64 0)))))), none, [1]⟩])
  (.cond (.t 38) (.reg [⟨(some 39), 39, (.bslice 3 1 [(.s (.pv (.int .i64 0)))] 1 [(0, 1, (.k (.c (.s (.pv (.int .i64 1))))))]), none, []⟩,
    ⟨(some 7), 7, (.mv (.t 39)), none, [0, 0]⟩]) .skip))
  (.seq (.reg [⟨(some 41), 41, (.mv (.t 7)), none, []⟩,
    ⟨(some 42), 42, (.call 17 [(.t 41)]), none, [0]⟩,
    ⟨(some 40), 40, (.mv (.t 42)), none, [1]⟩,
    ⟨(some 43), 43, (.ext 0 (.t 40)), none, [2]⟩,
    ⟨(some 44), 44, (.ext 1 (.t 40)), none, [2]⟩,
    ⟨(some 9), 9, (.mk 25 3 [[.zc, (.s (.pv (.int .i64 0))), (.s (.pv (.bool false)))]]), none, []⟩,
    ⟨none, 110, (.store 3 (.t 9) (.t 43)), none, [5, 3, 1, 0, 1, 2, 3, 5]⟩,
    ⟨(some 10), 10, (.mv (.t 44)), none, [4, 6, 0, 1, 2, 3, 4, 5, 6]⟩])
  (.seq (.seq (.reg [⟨(some 45), 45, (.mv (.t 7)), none, []⟩,
    ⟨(some 46), 46, (.len (.t 45)), none, [0]⟩,
    ⟨(some 47), 47, (.mv (.k (.c (.s (.pv (.int .i64 0)))))), none, []⟩])
  (.block 2 (.loop (.seq (.reg [⟨(some 48), 48, (.bin false .lss (.t 47) (.t 46)), none, []⟩])
  (.seq (.cond (.t 48) .skip (.exit 2))
  (.seq (.block 3 (.seq (.reg [⟨(some 49), 49, (.mv (.t 47)), none, []⟩,
    ⟨(some 11), 11, (.mv (.t 49)), none, [0, 0]⟩])
  (.seq (.reg [⟨(some 50), 50, (.mv (.k (.c (.s (.pv (.int .i64 0)))))), none, []⟩])
  (.block 4 (.loop (.seq (.reg [⟨(some 51), 51, (.bin false .lss (.t 50) (.k (.c (.s (.pv (.int .i64 150)))))), none, []⟩])
  (.seq (.cond (.t 51) .skip (.exit 4))
  (.seq (.block 5 (.seq (.reg [⟨(some 52), 52, (.mv (.t 50)), none, []⟩,
    ⟨(some 12), 12, (.mv (.t 52)), none, [0, 0]⟩])
  (.seq (.reg [⟨(some 53), 53, (.mv (.t 11)), none, []⟩,
    ⟨(some 54), 54, (.mv (.t 12)), none, []⟩,
    ⟨(some 55), 55, (.bin false .add (.t 53) (.t 54)), none, [0, 1]⟩,
    ⟨(some 56), 56, (.bin false .rem (.t 55) (.k (.c (.s (.pv (.int .i64 8)))))), none, [2]⟩,
    ⟨(some 57), 57, (.bin false .add (.k (.c (.s (.pv (.int .i64 1))))) (.t 56)), none, [3]⟩,
    ⟨(some 13), 13, (.mv (.t 57)), none, [4, 0, 1, 2, 3, 4]⟩])
  (.seq (.seq (.reg [⟨(some 58), 58, (.mv (.t 11)), none, []⟩,
    ⟨(some 59), 59, (.mv (.t 1)), none, []⟩,
    ⟨(some 60), 60, (.len (.t 59)), none, [1]⟩,
    ⟨(some 61), 61, (.bin false .lss (.t 58) (.t 60)), none, [0, 2]⟩,
    ⟨(some 62), 62, (.mv (.t 61)), none, [3]⟩,
    ⟨(some 63), 63, (.mv (.t 1)), (some (62, true)), [4]⟩,
    ⟨(some 64), 64, (.mv (.t 11)), (some (62, true)), [4]⟩,
    ⟨(some 65), 65, (.idx 1 (.t 63) (.t 64)), (some (62, true)), [5, 6, 4]⟩,
    ⟨(some 66), 66, (.load false 1 (.t 65)), (some (62, true)), [7, 4]⟩,
    ⟨(some 67), 67, (.len (.t 66)), (some (62, true)), [8, 4]⟩,
    ⟨(some 68), 68, (.bin false .gtr (.t 67) (.k (.c (.s (.pv (.int .i64 0)))))), (some (62, true)), [9, 4]⟩,
    ⟨(some 69), 69, (.pick (.t 62) (.t 68) (.k (.c (.s (.pv (.bool false)))))), none, [4, 10]⟩])
  (.cond (.t 69) (.draw [⟨(some 70), 70, (.mv (.t 1)), none, []⟩,
    ⟨(some 71), 71, (.mv (.t 11)), none, []⟩,
    ⟨(some 72), 72, (.idx 1 (.t 70) (.t 71)), none, [0, 1]⟩,
    ⟨(some 73), 73, (.load false 1 (.t 72)), none, [2]⟩,
    ⟨(some 74), 74, (.mv (.t 12)), none, []⟩,
    ⟨(some 75), 75, (.mv (.t 1)), none, []⟩,
    ⟨(some 76), 76, (.mv (.t 11)), none, []⟩,
    ⟨(some 77), 77, (.idx 1 (.t 75) (.t 76)), none, [5, 6]⟩,
    ⟨(some 78), 78, (.load false 1 (.t 77)), none, [7]⟩,
    ⟨(some 79), 79, (.len (.t 78)), none, [8]⟩,
    ⟨(some 80), 80, (.bin false .rem (.t 74) (.t 79)), none, [4, 9]⟩,
    ⟨(some 81), 81, (.idx 1 (.t 73) (.t 80)), none, [3, 10]⟩,
    ⟨(some 82), 82, (.load false 1 (.t 81)), none, [11]⟩,
    ⟨(some 83), 83, (.bin false .rem (.t 82) (.k (.c (.s (.pv (.int .u8 8)))))), none, [12]⟩,
    ⟨(some 84), 84, (.conv .i64 (.t 83)), none, [13]⟩,
    ⟨(some 85), 85, (.bin false .add (.k (.c (.s (.pv (.int .i64 1))))) (.t 84)), none, [14]⟩,
    ⟨(some 13), 13, (.mv (.t 85)), none, [15, 0, 1, 2, 3, 4, 5, 6, 7, 8, 9, 10, 11, 12, 13, 14, 15]⟩]) .skip))
  (.seq (.reg [⟨(some 87), 87, (.load true 3 (.t 9)), none, []⟩,
    ⟨(some 88), 88, (.mv (.t 11)), none, []⟩,
    ⟨(some 89), 89, (.mv (.t 13)), none, []⟩,
    ⟨(some 90), 90, (.call 20 [(.t 87), (.t 88), (.t 89)]), none, [0, 1, 2]⟩,
    ⟨(some 86), 86, (.mv (.t 90)), none, [3]⟩,
    ⟨(some 91), 91, (.ext 0 (.t 86)), none, [4]⟩,
    ⟨(some 92), 92, (.ext 1 (.t 86)), none, [4]⟩,
    ⟨(some 14), 14, (.mk 25 3 [[.zc, (.s (.pv (.int .i64 0))), (.s (.pv (.bool false)))]]), none, []⟩,
    ⟨none, 112, (.store 3 (.t 14) (.t 91)), none, [7, 5, 3, 0, 1, 2, 3, 4, 5, 7]⟩,
    ⟨(some 15), 15, (.mv (.t 92)), none, [6, 8, 0, 1, 2, 3, 4, 5, 6, 7, 8]⟩])
  (.seq (.seq (.reg [⟨(some 93), 93, (.mv (.t 15)), none, []⟩,
    ⟨(some 94), 94, (.bin false .neq (.t 93) (.k (.c (.s (.pv (.int .i64 0)))))), none, [0]⟩])
  (.cond (.t 94) (.seq (.reg [⟨(some 95), 95, (.load true 3 (.t 9)), none, []⟩,
    ⟨(some 96), 96, (.mv (.t 7)), none, []⟩,
    ⟨none, 106, (.store 3 (.t 4) (.t 95)), none, [0, 0]⟩,
    ⟨(some 5), 5, (.mv (.t 96)), none, [1, 2, 0, 1, 2]⟩,
    ⟨(some 6), 6, (.mv (.k (.c (.s (.pv (.bool false)))))), none, [3, 0, 1, 2, 3]⟩])
  .ret) .skip))
  (.reg [⟨(some 97), 97, (.load true 3 (.t 14)), none, []⟩,
    ⟨none, 105, (.store 3 (.t 9) (.t 97)), none, [0, 0]⟩])))))))
  (.reg [⟨(some 98), 98, (.bin false .add (.t 50) (.k (.c (.s (.pv (.int .i64 1)))))), none, []⟩,
    ⟨(some 50), 50, (.mv (.t 98)), none, [0]⟩])))))))))
  (.reg [⟨(some 99), 99, (.bin false .add (.t 47) (.k (.c (.s (.pv (.int .i64 1)))))), none, []⟩,
    ⟨(some 47), 47, (.mv (.t 99)), none, [0]⟩])))))))
  (.seq (.reg [⟨(some 100), 100, (.load true 3 (.t 9)), none, []⟩,
    ⟨(some 101), 101, (.mv (.t 7)), none, []⟩,
    ⟨(some 102), 102, (.mv (.t 10)), none, []⟩,
    ⟨(some 103), 103, (.bin false .eql (.t 102) (.k (.c (.s (.pv (.int .i64 0)))))), none, [2]⟩,
    ⟨none, 108, (.store 3 (.t 4) (.t 100)), none, [0, 0]⟩,
    ⟨(some 5), 5, (.mv (.t 101)), none, [1, 4, 0, 1, 4]⟩,
    ⟨(some 6), 6, (.mv (.t 103)), none, [3, 5, 0, 1, 2, 3, 4, 5]⟩])
  .ret)))))))
theorem fn22 : FnIs Try.prog 22 ac22 [(.cell 4 true 3), (.t 5), (.t 6)] 104 := ⟨Try.f22, Try.func22, by kernel_rfl, by kernel_rfl, by kernel_rfl⟩
/- lockkeeper/lanes.Next -/
def ac23 : ACode := (.seq (.reg [⟨(some 1), 1, (.box 25 3 (.t 0)), none, []⟩,
    ⟨(some 2), 2, (.mk 25 3 [[.zc, (.s (.pv (.int .i64 0))), (.s (.pv (.bool false)))]]), none, []⟩,
    ⟨(some 3), 3, (.mv (.k (.c (.s (.pv (.int .i64 0)))))), none, []⟩,
    ⟨(some 4), 4, (.mv (.k (.c (.s (.pv (.int .i64 0)))))), none, [2]⟩,
    ⟨(some 5), 5, (.mv (.k (.c (.s (.pv (.bool false)))))), none, [3]⟩])
  (.seq (.seq (.reg [⟨(some 8), 8, (.load true 3 (.t 1)), none, []⟩,
    ⟨(some 9), 9, (.call 21 [(.t 8)]), none, [0]⟩,
    ⟨(some 10), 10, (.not (.t 9)), none, [1]⟩,
    ⟨(some 11), 11, (.mv (.t 10)), none, [2, 1]⟩,
    ⟨(some 12), 12, (.load true 3 (.t 1)), (some (11, false)), [3]⟩,
    ⟨(some 13), 13, (.call 44 [(.t 12)]), (some (11, false)), [4, 3, 3]⟩,
    ⟨(some 14), 14, (.not (.t 13)), (some (11, false)), [5, 3]⟩,
    ⟨(some 15), 15, (.pick (.t 11) (.k (.c (.s (.pv (.bool true))))) (.t 14)), none, [3, 6]⟩])
  (.cond (.t 15) (.seq (.reg [⟨(some 16), 16, (.load true 3 (.t 1)), none, []⟩,
    ⟨none, 80, (.store 3 (.t 2) (.t 16)), none, [0, 0]⟩,
    ⟨(some 3), 3, (.mv (.k (.c (.s (.pv (.int .i64 0)))))), none, [1, 0, 1]⟩,
    ⟨(some 4), 4, (.mv (.k (.c (.s (.pv (.int .i64 0)))))), none, [2, 0, 1, 2]⟩,
    ⟨(some 5), 5, (.mv (.k (.c (.s (.pv (.bool false)))))), none, [3, 0, 1, 2, 3]⟩])
  .ret) .skip))
  (.seq (.reg [⟨(some 17), 17, (.fld 0 (.t 1)), none, []⟩,
    ⟨(some 18), 18, (.load false 1 (.t 17)), none, [0]⟩,
    ⟨(some 19), 19, (.call 42 [(.t 18)]), none, [1]⟩,
    ⟨(some 20), 20, (.fld 0 (.t 1)), none, [0, 1, 2]⟩,
    ⟨none, 83, (.store 1 (.t 20) (.t 19)), none, [3, 2, 2, 0, 1, 2]⟩])
  (.seq (.reg [⟨(some 6), 6, (.mv (.k (.c (.s (.pv (.pointer none)))))), none, []⟩])
  (.seq .skip
  (.seq (.block 0 (.loop (.seq (.block 1 (.seq (.reg [⟨(some 30), 30, (.fld 0 (.t 1)), none, []⟩,
    ⟨(some 31), 31, (.load false 1 (.t 30)), none, [0]⟩,
    ⟨(some 32), 32, (.fld 1 (.t 1)), none, []⟩,
    ⟨(some 33), 33, (.load false 1 (.t 32)), none, [2]⟩,
    ⟨(some 34), 34, (.idx 3 (.t 31) (.t 33)), none, [1, 3]⟩,
    ⟨(some 6), 6, (.mv (.t 34)), none, [4, 0, 1, 2, 3, 4]⟩])
  (.seq (.block 2 (.seq (.reg [⟨(some 36), 36, (.mv (.t 6)), none, []⟩,
    ⟨(some 37), 37, (.nilc (.t 36)), none, [0]⟩,
    ⟨(some 38), 38, (.fld 2 (.t 37)), none, [1]⟩,
    ⟨(some 39), 39, (.load false 1 (.t 38)), none, [2]⟩,
    ⟨(some 40), 40, (.len (.t 39)), none, [3]⟩,
    ⟨(some 41), 41, (.bin false .eql (.t 40) (.k (.c (.s (.pv (.int .i64 0)))))), none, [4]⟩,
    ⟨(some 35), 35, (.mv (.t 41)), none, [5]⟩])
  (.cond (.t 35) (.seq (.reg [⟨(some 42), 42, (.mv (.t 6)), none, []⟩,
    ⟨(some 43), 43, (.nilc (.t 42)), none, [0, 0]⟩,
    ⟨(some 44), 44, (.fld 1 (.t 43)), none, [1, 0]⟩,
    ⟨none, 82, (.store 1 (.t 44) (.k (.c (.s (.pv (.int .i64 0)))))), none, [2, 0]⟩])
  (.exit 1)) (.seq (.reg [⟨(some 46), 46, (.fld 2 (.t 1)), none, []⟩,
    ⟨(some 47), 47, (.load false 1 (.t 46)), none, [0]⟩,
    ⟨(some 48), 48, (.not (.t 47)), none, [1]⟩,
    ⟨(some 45), 45, (.mv (.t 48)), none, [2]⟩])
  (.cond (.t 45) (.seq (.draw [⟨(some 49), 49, (.mv (.t 6)), none, []⟩,
    ⟨(some 50), 50, (.nilc (.t 49)), none, [0]⟩,
    ⟨(some 51), 51, (.fld 1 (.t 50)), none, [1]⟩,
    ⟨(some 52), 52, (.load false 1 (.t 51)), none, [2]⟩,
    ⟨(some 53), 53, (.mv (.t 6)), none, []⟩,
    ⟨(some 54), 54, (.nilc (.t 53)), none, [4]⟩,
    ⟨(some 55), 55, (.fld 0 (.t 54)), none, [5]⟩,
    ⟨(some 56), 56, (.load false 1 (.t 55)), none, [6]⟩,
    ⟨(some 57), 57, (.bin false .mul (.t 56) (.k (.c (.s (.pv (.int .i64 4)))))), none, [7]⟩,
    ⟨(some 58), 58, (.bin false .add (.t 52) (.t 57)), none, [3, 8]⟩,
    ⟨(some 59), 59, (.nilc (.t 49)), none, [0, 0, 1, 2, 3, 4, 5, 6, 7, 8, 9]⟩,
    ⟨(some 60), 60, (.fld 1 (.t 59)), none, [10, 0, 1, 2, 3, 4, 5, 6, 7, 8, 9]⟩,
    ⟨none, 91, (.store 1 (.t 60) (.t 58)), none, [11, 9, 0, 1, 2, 3, 4, 5, 6, 7, 8, 9]⟩])
  (.reg [⟨(some 61), 61, (.fld 2 (.t 1)), none, []⟩,
    ⟨none, 80, (.store 1 (.t 61) (.k (.c (.s (.pv (.bool true)))))), none, [0]⟩])) .skip)))))
  (.seq (.draw [⟨(some 62), 62, (.mv (.t 6)), none, []⟩,
    ⟨(some 63), 63, (.nilc (.t 62)), none, [0]⟩,
    ⟨(some 64), 64, (.fld 2 (.t 63)), none, [1]⟩,
    ⟨(some 65), 65, (.load false 1 (.t 64)), none, [2]⟩,
    ⟨(some 66), 66, (.idx 1 (.t 65) (.k (.c (.s (.pv (.int .i64 0)))))), none, [3]⟩,
    ⟨(some 67), 67, (.load false 1 (.t 66)), none, [4]⟩,
    ⟨(some 68), 68, (.mv (.t 6)), none, []⟩,
    ⟨(some 69), 69, (.nilc (.t 68)), none, [6]⟩,
    ⟨(some 70), 70, (.fld 1 (.t 69)), none, [7]⟩,
    ⟨(some 71), 71, (.load false 1 (.t 70)), none, [8]⟩,
    ⟨(some 72), 72, (.bin false .leq (.t 67) (.t 71)), none, [5, 9]⟩])
  (.cond (.t 72) (.exit 0) .skip)))))
  (.reg [⟨(some 21), 21, (.fld 1 (.t 1)), none, []⟩,
    ⟨(some 22), 22, (.load false 1 (.t 21)), none, [0]⟩,
    ⟨(some 23), 23, (.bin false .add (.t 22) (.k (.c (.s (.pv (.int .i64 1)))))), none, [1]⟩,
    ⟨(some 24), 24, (.fld 0 (.t 1)), none, []⟩,
    ⟨(some 25), 25, (.load false 1 (.t 24)), none, [3]⟩,
    ⟨(some 26), 26, (.len (.t 25)), none, [4]⟩,
    ⟨(some 27), 27, (.bin false .rem (.t 23) (.t 26)), none, [2, 5]⟩,
    ⟨(some 28), 28, (.fld 1 (.t 1)), none, [0, 1, 2, 3, 4, 5, 6]⟩,
    ⟨none, 87, (.store 1 (.t 28) (.t 27)), none, [7, 6, 0, 1, 2, 3, 4, 5, 6]⟩,
    ⟨(some 29), 29, (.fld 2 (.t 1)), none, [0, 1, 2, 3, 4, 5, 6, 7, 8]⟩,
    ⟨none, 89, (.store 1 (.t 29) (.k (.c (.s (.pv (.bool false)))))), none, [9, 8, 0, 1, 2, 3, 4, 5, 6, 7, 8]⟩]))))
  (.seq (.reg [⟨(some 73), 73, (.mv (.t 6)), none, []⟩,
    ⟨(some 74), 74, (.call 45 [(.t 73)]), none, [0]⟩,
    ⟨(some 7), 7, (.mv (.t 74)), none, [1, 1, 0, 1]⟩])
  (.seq (.draw [⟨(some 75), 75, (.load true 3 (.t 1)), none, []⟩,
    ⟨(some 76), 76, (.fld 1 (.t 1)), none, []⟩,
    ⟨(some 77), 77, (.load false 1 (.t 76)), none, [1]⟩,
    ⟨(some 78), 78, (.mv (.t 7)), none, []⟩,
    ⟨none, 83, (.store 3 (.t 2) (.t 75)), none, [0, 0]⟩,
    ⟨(some 3), 3, (.mv (.t 77)), none, [2, 4, 0, 1, 2, 4]⟩,
    ⟨(some 4), 4, (.mv (.t 78)), none, [3, 5, 0, 1, 2, 3, 4, 5]⟩,
    ⟨(some 5), 5, (.mv (.k (.c (.s (.pv (.bool true)))))), none, [6, 0, 1, 2, 3, 4, 5, 6]⟩])
  .ret))))))))
theorem fn23 : FnIs Try.prog 23 ac23 [(.cell 2 true 3), (.t 3), (.t 4), (.t 5)] 79 := ⟨Try.f23, Try.func23, by kernel_rfl, by kernel_rfl, by kernel_rfl⟩
/- lockkeeper/lanes.isWeight -/
def ac40 : ACode := (.seq (.reg [⟨(some 2), 2, (.mv (.k (.c (.s (.pv (.bool false)))))), none, []⟩])
  (.seq (.reg [⟨(some 3), 3, (.mv (.t 0)), none, []⟩,
    ⟨(some 4), 4, (.bin false .geq (.t 3) (.k (.c (.s (.pv (.int .i64 1)))))), none, [0]⟩,
    ⟨(some 5), 5, (.mv (.t 4)), none, [1]⟩,
    ⟨(some 6), 6, (.mv (.t 0)), (some (5, true)), [2]⟩,
    ⟨(some 7), 7, (.bin false .leq (.t 6) (.k (.c (.s (.pv (.int .i64 8)))))), (some (5, true)), [3, 2]⟩,
    ⟨(some 8), 8, (.pick (.t 5) (.t 7) (.k (.c (.s (.pv (.bool false)))))), none, [2, 4]⟩,
    ⟨(some 2), 2, (.mv (.t 8)), none, [5, 2, 0, 1, 2, 3, 4, 5]⟩])
  .ret))
theorem fn40 : FnIs Try.prog 40 ac40 [(.t 2)] 9 := ⟨Try.f40, Try.func40, by kernel_rfl, by kernel_rfl, by kernel_rfl⟩
/- lockkeeper/lanes.isCost -/
def ac41 : ACode := (.seq (.reg [⟨(some 2), 2, (.mv (.k (.c (.s (.pv (.bool false)))))), none, []⟩])
  (.seq (.reg [⟨(some 3), 3, (.mv (.t 0)), none, []⟩,
    ⟨(some 4), 4, (.bin false .geq (.t 3) (.k (.c (.s (.pv (.int .i64 1)))))), none, [0]⟩,
    ⟨(some 5), 5, (.mv (.t 4)), none, [1]⟩,
    ⟨(some 6), 6, (.mv (.t 0)), (some (5, true)), [2]⟩,
    ⟨(some 7), 7, (.bin false .leq (.t 6) (.k (.c (.s (.pv (.int .i64 8)))))), (some (5, true)), [3, 2]⟩,
    ⟨(some 8), 8, (.pick (.t 5) (.t 7) (.k (.c (.s (.pv (.bool false)))))), none, [2, 4]⟩,
    ⟨(some 2), 2, (.mv (.t 8)), none, [5, 2, 0, 1, 2, 3, 4, 5]⟩])
  .ret))
theorem fn41 : FnIs Try.prog 41 ac41 [(.t 2)] 9 := ⟨Try.f41, Try.func41, by kernel_rfl, by kernel_rfl, by kernel_rfl⟩
/- slices.Clone[[]lockkeeper/lanes.Lane,lockkeeper/lanes.Lane] -/
def ac42 : ACode := (.seq (.reg [⟨(some 2), 2, (.mv (.k (.c .zc))), none, []⟩])
  (.seq (.seq (.reg [⟨(some 3), 3, (.mv (.t 0)), none, []⟩,
    ⟨(some 4), 4, (.isnil (.t 3)), none, [0]⟩])
  (.cond (.t 4) (.seq (.reg [⟨(some 2), 2, (.mv (.k (.c .zc))), none, []⟩])
  .ret) .skip))
  (.seq (.reg [⟨(some 5), 5, (.bslice 56 3 [(.s (.pv (.int .i64 0))), (.s (.pv (.int .i64 0))), .zc] 0 []), none, []⟩,
    ⟨(some 6), 6, (.mv (.t 0)), none, []⟩,
    ⟨(some 7), 7, (.app 56 3 40 (.t 5) (.t 6)), none, [0, 1]⟩,
    ⟨(some 2), 2, (.mv (.t 7)), none, [2, 2, 0, 1, 2]⟩])
  .ret)))
theorem fn42 : FnIs Try.prog 42 ac42 [(.t 2)] 8 := ⟨Try.f42, Try.func42, by kernel_rfl, by kernel_rfl, by kernel_rfl⟩
/- slices.Clone[[]int,int] -/
def ac43 : ACode := (.seq (.reg [⟨(some 2), 2, (.mv (.k (.c .zc))), none, []⟩])
  (.seq (.seq (.reg [⟨(some 3), 3, (.mv (.t 0)), none, []⟩,
    ⟨(some 4), 4, (.isnil (.t 3)), none, [0]⟩])
  (.cond (.t 4) (.seq (.reg [⟨(some 2), 2, (.mv (.k (.c .zc))), none, []⟩])
  .ret) .skip))
  (.seq (.reg [⟨(some 5), 5, (.bslice 3 1 [(.s (.pv (.int .i64 0)))] 0 []), none, []⟩,
    ⟨(some 6), 6, (.mv (.t 0)), none, []⟩,
    ⟨(some 7), 7, (.app 3 1 8 (.t 5) (.t 6)), none, [0, 1]⟩,
    ⟨(some 2), 2, (.mv (.t 7)), none, [2, 2, 0, 1, 2]⟩])
  .ret)))
theorem fn43 : FnIs Try.prog 43 ac43 [(.t 2)] 8 := ⟨Try.f43, Try.func43, by kernel_rfl, by kernel_rfl, by kernel_rfl⟩
/- lockkeeper/lanes.waits -/
def ac44 : ACode := (.seq (.reg [⟨(some 1), 1, (.box 25 3 (.t 0)), none, []⟩,
    ⟨(some 2), 2, (.mv (.k (.c (.s (.pv (.bool false)))))), none, []⟩])
  (.seq (.reg [⟨(some 3), 3, (.fld 0 (.t 1)), none, []⟩,
    ⟨(some 4), 4, (.load false 1 (.t 3)), none, [0]⟩,
    ⟨(some 5), 5, (.call 74 [(.t 4), (.k (.c (.s (.fn 75 []))))]), none, [1]⟩,
    ⟨(some 2), 2, (.mv (.t 5)), none, [2, 2, 0, 1, 2]⟩])
  .ret))
theorem fn44 : FnIs Try.prog 44 ac44 [(.t 2)] 6 := ⟨Try.f44, Try.func44, by kernel_rfl, by kernel_rfl, by kernel_rfl⟩
/- lockkeeper/lanes.take -/
def ac45 : ACode := (.seq (.reg [⟨(some 2), 2, (.mv (.k (.c (.s (.pv (.int .i64 0)))))), none, []⟩])
  (.seq (.reg [⟨(some 4), 4, (.mv (.t 0)), none, []⟩,
    ⟨(some 5), 5, (.nilc (.t 4)), none, [0]⟩,
    ⟨(some 6), 6, (.fld 2 (.t 5)), none, [1]⟩,
    ⟨(some 7), 7, (.load false 1 (.t 6)), none, [2]⟩,
    ⟨(some 8), 8, (.idx 1 (.t 7) (.k (.c (.s (.pv (.int .i64 0)))))), none, [3]⟩,
    ⟨(some 9), 9, (.load false 1 (.t 8)), none, [4]⟩,
    ⟨(some 3), 3, (.mv (.t 9)), none, [5, 0, 1, 2, 3, 4, 5]⟩])
  (.seq (.reg [⟨(some 10), 10, (.mv (.t 0)), none, []⟩,
    ⟨(some 11), 11, (.mv (.t 0)), none, []⟩,
    ⟨(some 12), 12, (.nilc (.t 11)), none, [1]⟩,
    ⟨(some 13), 13, (.fld 2 (.t 12)), none, [2]⟩,
    ⟨(some 14), 14, (.load false 1 (.t 13)), none, [3]⟩,
    ⟨(some 15), 15, (.sub 1 (.t 14) (some (.k (.c (.s (.pv (.int .i64 1)))))) none), none, [4]⟩,
    ⟨(some 16), 16, (.call 43 [(.t 15)]), none, [5]⟩,
    ⟨(some 17), 17, (.nilc (.t 10)), none, [0, 0, 1, 2, 3, 4, 5, 6]⟩,
    ⟨(some 18), 18, (.fld 2 (.t 17)), none, [7, 0, 1, 2, 3, 4, 5, 6]⟩,
    ⟨none, 46, (.store 1 (.t 18) (.t 16)), none, [8, 6, 6, 0, 1, 2, 3, 4, 5, 6]⟩])
  (.seq (.reg [⟨(some 19), 19, (.mv (.t 0)), none, []⟩,
    ⟨(some 20), 20, (.nilc (.t 19)), none, [0]⟩,
    ⟨(some 21), 21, (.fld 1 (.t 20)), none, [1]⟩,
    ⟨(some 22), 22, (.load false 1 (.t 21)), none, [2]⟩,
    ⟨(some 23), 23, (.mv (.t 3)), none, []⟩,
    ⟨(some 24), 24, (.bin false .sub (.t 22) (.t 23)), none, [3, 4]⟩,
    ⟨(some 25), 25, (.nilc (.t 19)), none, [0, 0, 1, 2, 3, 4, 5]⟩,
    ⟨(some 26), 26, (.fld 1 (.t 25)), none, [6, 0, 1, 2, 3, 4, 5]⟩,
    ⟨none, 45, (.store 1 (.t 26) (.t 24)), none, [7, 5, 0, 1, 2, 3, 4, 5]⟩])
  (.seq (.seq (.reg [⟨(some 27), 27, (.mv (.t 0)), none, []⟩,
    ⟨(some 28), 28, (.nilc (.t 27)), none, [0]⟩,
    ⟨(some 29), 29, (.fld 2 (.t 28)), none, [1]⟩,
    ⟨(some 30), 30, (.load false 1 (.t 29)), none, [2]⟩,
    ⟨(some 31), 31, (.len (.t 30)), none, [3]⟩,
    ⟨(some 32), 32, (.bin false .eql (.t 31) (.k (.c (.s (.pv (.int .i64 0)))))), none, [4]⟩])
  (.cond (.t 32) (.reg [⟨(some 33), 33, (.mv (.t 0)), none, []⟩,
    ⟨(some 34), 34, (.nilc (.t 33)), none, [0, 0]⟩,
    ⟨(some 35), 35, (.fld 1 (.t 34)), none, [1, 0]⟩,
    ⟨none, 40, (.store 1 (.t 35) (.k (.c (.s (.pv (.int .i64 0)))))), none, [2, 0]⟩]) .skip))
  (.seq (.reg [⟨(some 36), 36, (.mv (.t 3)), none, []⟩,
    ⟨(some 2), 2, (.mv (.t 36)), none, [0, 0]⟩])
  .ret))))))
theorem fn45 : FnIs Try.prog 45 ac45 [(.t 2)] 37 := ⟨Try.f45, Try.func45, by kernel_rfl, by kernel_rfl, by kernel_rfl⟩
/- lockkeeper/lockkeeperref05.Waits -/
def ac58 : ACode := (.seq (.reg [⟨(some 1), 1, (.box 28 3 (.t 0)), none, []⟩,
    ⟨(some 2), 2, (.mv (.k (.c (.s (.pv (.bool false)))))), none, []⟩])
  (.seq (.seq (.reg [⟨(some 3), 3, (.mv (.k (.c (.s (.pv (.int .i64 0)))))), none, []⟩])
  (.block 0 (.loop (.seq (.seq (.reg [⟨(some 4), 4, (.mv (.t 3)), none, []⟩,
    ⟨(some 5), 5, (.fld 0 (.t 1)), none, []⟩,
    ⟨(some 6), 6, (.load false 1 (.t 5)), none, [1]⟩,
    ⟨(some 7), 7, (.len (.t 6)), none, [2]⟩,
    ⟨(some 8), 8, (.bin false .lss (.t 4) (.t 7)), none, [0, 3]⟩])
  (.cond (.t 8) .skip (.exit 0)))
  (.seq (.block 1 (.seq (.reg [⟨(some 11), 11, (.fld 0 (.t 1)), none, []⟩,
    ⟨(some 12), 12, (.load false 1 (.t 11)), none, [0]⟩,
    ⟨(some 13), 13, (.mv (.t 3)), none, []⟩,
    ⟨(some 14), 14, (.idx 3 (.t 12) (.t 13)), none, [1, 2]⟩,
    ⟨(some 15), 15, (.fld 2 (.t 14)), none, [3]⟩,
    ⟨(some 16), 16, (.load false 1 (.t 15)), none, [4]⟩,
    ⟨(some 17), 17, (.len (.t 16)), none, [5]⟩,
    ⟨(some 18), 18, (.bin false .gtr (.t 17) (.k (.c (.s (.pv (.int .i64 0)))))), none, [6]⟩])
  (.cond (.t 18) (.seq (.reg [⟨(some 2), 2, (.mv (.k (.c (.s (.pv (.bool true)))))), none, []⟩])
  .ret) .skip)))
  (.reg [⟨(some 9), 9, (.mv (.t 3)), none, []⟩,
    ⟨(some 10), 10, (.bin false .add (.t 9) (.k (.c (.s (.pv (.int .i64 1)))))), none, [0]⟩,
    ⟨(some 3), 3, (.mv (.t 10)), none, [1, 0, 1]⟩]))))))
  (.seq (.reg [⟨(some 2), 2, (.mv (.k (.c (.s (.pv (.bool false)))))), none, []⟩])
  .ret)))
theorem fn58 : FnIs Try.prog 58 ac58 [(.t 2)] 19 := ⟨Try.f58, Try.func58, by kernel_rfl, by kernel_rfl, by kernel_rfl⟩
/- lockkeeper/lockkeeperref05.Next -/
def ac59 : ACode := (.seq (.reg [⟨(some 1), 1, (.box 28 3 (.t 0)), none, []⟩,
    ⟨(some 2), 2, (.mk 28 3 [[.zc, (.s (.pv (.int .i64 0))), (.s (.pv (.bool false)))]]), none, []⟩,
    ⟨(some 3), 3, (.mv (.k (.c (.s (.pv (.int .i64 0)))))), none, []⟩,
    ⟨(some 4), 4, (.mv (.k (.c (.s (.pv (.int .i64 0)))))), none, [2]⟩])
  (.seq (.seq (.reg [⟨(some 5), 5, (.mv (.k (.c (.s (.pv (.int .i64 0)))))), none, []⟩])
  (.block 0 (.loop (.seq (.seq (.reg [⟨(some 8), 8, (.mv (.t 5)), none, []⟩,
    ⟨(some 9), 9, (.bin false .lss (.t 8) (.k (.c (.s (.pv (.int .i64 40)))))), none, [0]⟩])
  (.cond (.t 9) .skip (.exit 0)))
  (.seq (.block 1 (.seq (.reg [⟨(some 12), 12, (.fld 0 (.t 1)), none, []⟩,
    ⟨(some 13), 13, (.load false 1 (.t 12)), none, [0]⟩,
    ⟨(some 14), 14, (.fld 1 (.t 1)), none, []⟩,
    ⟨(some 15), 15, (.load false 1 (.t 14)), none, [2]⟩,
    ⟨(some 16), 16, (.idx 3 (.t 13) (.t 15)), none, [1, 3]⟩,
    ⟨(some 17), 17, (.load true 3 (.t 16)), none, [4]⟩,
    ⟨(some 6), 6, (.mk 36 3 [[(.s (.pv (.int .i64 0))), (.s (.pv (.int .i64 0))), .zc]]), none, []⟩,
    ⟨none, 85, (.store 3 (.t 6) (.t 17)), none, [6, 5, 0, 1, 2, 3, 4, 5, 6]⟩])
  (.seq (.seq (.reg [⟨(some 18), 18, (.fld 2 (.t 6)), none, []⟩,
    ⟨(some 19), 19, (.load false 1 (.t 18)), none, [0]⟩,
    ⟨(some 20), 20, (.len (.t 19)), none, [1]⟩,
    ⟨(some 21), 21, (.bin false .eql (.t 20) (.k (.c (.s (.pv (.int .i64 0)))))), none, [2]⟩])
  (.cond (.t 21) (.seq (.reg [⟨(some 22), 22, (.fld 1 (.t 6)), none, []⟩,
    ⟨none, 79, (.store 1 (.t 22) (.k (.c (.s (.pv (.int .i64 0)))))), none, [0]⟩])
  (.seq (.reg [⟨(some 23), 23, (.load true 3 (.t 1)), none, []⟩,
    ⟨(some 24), 24, (.fld 1 (.t 1)), none, []⟩,
    ⟨(some 25), 25, (.load false 1 (.t 24)), none, [1]⟩,
    ⟨(some 26), 26, (.load true 3 (.t 6)), none, []⟩,
    ⟨(some 27), 27, (.call 82 [(.t 23), (.t 25), (.t 26)]), none, [0, 2, 3]⟩,
    ⟨(some 28), 28, (.call 81 [(.t 27)]), none, [4, 4]⟩,
    ⟨none, 84, (.store 3 (.t 1) (.t 28)), none, [5, 5, 0, 1, 2, 3, 4, 5]⟩])
  (.exit 1))) .skip))
  (.seq (.seq (.reg [⟨(some 29), 29, (.fld 2 (.t 1)), none, []⟩,
    ⟨(some 30), 30, (.load false 1 (.t 29)), none, [0]⟩,
    ⟨(some 31), 31, (.not (.t 30)), none, [1]⟩])
  (.cond (.t 31) (.seq (.reg [⟨(some 32), 32, (.fld 1 (.t 6)), none, []⟩,
    ⟨(some 33), 33, (.load false 1 (.t 32)), none, [0]⟩,
    ⟨(some 34), 34, (.fld 0 (.t 6)), none, []⟩,
    ⟨(some 35), 35, (.load false 1 (.t 34)), none, [2]⟩,
    ⟨(some 36), 36, (.bin false .mul (.k (.c (.s (.pv (.int .i64 4))))) (.t 35)), none, [3]⟩,
    ⟨(some 37), 37, (.bin false .add (.t 33) (.t 36)), none, [1, 4]⟩,
    ⟨(some 38), 38, (.fld 1 (.t 6)), none, [0, 1, 2, 3, 4, 5]⟩,
    ⟨none, 85, (.store 1 (.t 38) (.t 37)), none, [6, 5, 0, 1, 2, 3, 4, 5]⟩])
  (.seq (.reg [⟨(some 39), 39, (.load true 3 (.t 1)), none, []⟩,
    ⟨(some 40), 40, (.fld 1 (.t 1)), none, []⟩,
    ⟨(some 41), 41, (.load false 1 (.t 40)), none, [1]⟩,
    ⟨(some 42), 42, (.load true 3 (.t 6)), none, []⟩,
    ⟨(some 43), 43, (.call 82 [(.t 39), (.t 41), (.t 42)]), none, [0, 2, 3]⟩,
    ⟨none, 83, (.store 3 (.t 1) (.t 43)), none, [4, 4, 0, 1, 2, 3, 4]⟩])
  (.reg [⟨(some 44), 44, (.fld 2 (.t 1)), none, []⟩,
    ⟨none, 79, (.store 1 (.t 44) (.k (.c (.s (.pv (.bool true)))))), none, [0]⟩]))) .skip))
  (.seq (.reg [⟨(some 45), 45, (.fld 2 (.t 6)), none, []⟩,
    ⟨(some 46), 46, (.load false 1 (.t 45)), none, [0]⟩,
    ⟨(some 47), 47, (.idx 1 (.t 46) (.k (.c (.s (.pv (.int .i64 0)))))), none, [1]⟩,
    ⟨(some 48), 48, (.load false 1 (.t 47)), none, [2]⟩,
    ⟨(some 7), 7, (.mv (.t 48)), none, [3, 0, 1, 2, 3]⟩])
  (.seq (.seq (.reg [⟨(some 49), 49, (.mv (.t 7)), none, []⟩,
    ⟨(some 50), 50, (.fld 1 (.t 6)), none, []⟩,
    ⟨(some 51), 51, (.load false 1 (.t 50)), none, [1]⟩,
    ⟨(some 52), 52, (.bin false .gtr (.t 49) (.t 51)), none, [0, 2]⟩])
  (.cond (.t 52) (.seq (.reg [⟨(some 53), 53, (.load true 3 (.t 1)), none, []⟩,
    ⟨(some 54), 54, (.call 81 [(.t 53)]), none, [0]⟩,
    ⟨none, 80, (.store 3 (.t 1) (.t 54)), none, [1, 1, 0, 1]⟩])
  (.exit 1)) .skip))
  (.seq (.reg [⟨(some 55), 55, (.fld 2 (.t 6)), none, []⟩,
    ⟨(some 56), 56, (.load false 1 (.t 55)), none, [0]⟩,
    ⟨(some 57), 57, (.sub 1 (.t 56) (some (.k (.c (.s (.pv (.int .i64 1)))))) none), none, [1]⟩,
    ⟨(some 58), 58, (.fld 2 (.t 6)), none, [0, 1, 2]⟩,
    ⟨none, 82, (.store 1 (.t 58) (.t 57)), none, [3, 2, 0, 1, 2]⟩])
  (.seq (.reg [⟨(some 59), 59, (.fld 1 (.t 6)), none, []⟩,
    ⟨(some 60), 60, (.load false 1 (.t 59)), none, [0]⟩,
    ⟨(some 61), 61, (.mv (.t 7)), none, []⟩,
    ⟨(some 62), 62, (.bin false .sub (.t 60) (.t 61)), none, [1, 2]⟩,
    ⟨(some 63), 63, (.fld 1 (.t 6)), none, [0, 1, 2, 3]⟩,
    ⟨none, 83, (.store 1 (.t 63) (.t 62)), none, [4, 3, 0, 1, 2, 3]⟩])
  (.seq (.seq (.reg [⟨(some 64), 64, (.fld 2 (.t 6)), none, []⟩,
    ⟨(some 65), 65, (.load false 1 (.t 64)), none, [0]⟩,
    ⟨(some 66), 66, (.len (.t 65)), none, [1]⟩,
    ⟨(some 67), 67, (.bin false .eql (.t 66) (.k (.c (.s (.pv (.int .i64 0)))))), none, [2]⟩])
  (.cond (.t 67) (.reg [⟨(some 68), 68, (.fld 1 (.t 6)), none, []⟩,
    ⟨none, 79, (.store 1 (.t 68) (.k (.c (.s (.pv (.int .i64 0)))))), none, [0]⟩]) .skip))
  (.seq (.draw [⟨(some 69), 69, (.load true 3 (.t 1)), none, []⟩,
    ⟨(some 70), 70, (.fld 1 (.t 1)), none, []⟩,
    ⟨(some 71), 71, (.load false 1 (.t 70)), none, [1]⟩,
    ⟨(some 72), 72, (.load true 3 (.t 6)), none, []⟩,
    ⟨(some 73), 73, (.call 82 [(.t 69), (.t 71), (.t 72)]), none, [0, 2, 3]⟩,
    ⟨(some 74), 74, (.fld 1 (.t 1)), none, []⟩,
    ⟨(some 75), 75, (.load false 1 (.t 74)), none, [5]⟩,
    ⟨(some 76), 76, (.mv (.t 7)), none, []⟩,
    ⟨none, 86, (.store 3 (.t 2) (.t 73)), none, [4, 4, 0, 1, 2, 3, 4]⟩,
    ⟨(some 3), 3, (.mv (.t 75)), none, [6, 8, 0, 1, 2, 3, 4, 5, 6, 8]⟩,
    ⟨(some 4), 4, (.mv (.t 76)), none, [7, 9, 0, 1, 2, 3, 4, 5, 6, 7, 8, 9]⟩])
  .ret))))))))))
  (.reg [⟨(some 10), 10, (.mv (.t 5)), none, []⟩,
    ⟨(some 11), 11, (.bin false .add (.t 10) (.k (.c (.s (.pv (.int .i64 1)))))), none, [0]⟩,
    ⟨(some 5), 5, (.mv (.t 11)), none, [1, 0, 1]⟩]))))))
  (.seq (.reg [⟨(some 77), 77, (.load true 3 (.t 1)), none, []⟩,
    ⟨none, 79, (.store 3 (.t 2) (.t 77)), none, [0, 0]⟩,
    ⟨(some 3), 3, (.mv (.k (.c (.s (.pv (.int .i64 (-1))))))), none, [1, 0, 1]⟩,
    ⟨(some 4), 4, (.mv (.k (.c (.s (.pv (.int .i64 0)))))), none, [2, 0, 1, 2]⟩])
  .ret)))
theorem fn59 : FnIs Try.prog 59 ac59 [(.cell 2 true 3), (.t 3), (.t 4)] 78 := ⟨Try.f59, Try.func59, by kernel_rfl, by kernel_rfl, by kernel_rfl⟩
/- slices.ContainsFunc[[]lockkeeper/lanes.Lane,lockkeeper/lanes.Lane] -/
def ac74 : ACode := (.seq (.reg [⟨(some 4), 4, (.mv (.k (.c (.s (.pv (.bool false)))))), none, []⟩])
  (.seq (.reg [⟨(some 5), 5, (.mv (.t 0)), none, []⟩,
    ⟨(some 6), 6, (.mv (.t 1)), none, []⟩,
    ⟨(some 7), 7, (.call 94 [(.t 5), (.t 6)]), none, [0, 1]⟩,
    ⟨(some 8), 8, (.bin false .geq (.t 7) (.k (.c (.s (.pv (.int .i64 0)))))), none, [2]⟩,
    ⟨(some 4), 4, (.mv (.t 8)), none, [3, 2, 0, 1, 2, 3]⟩])
  .ret))
theorem fn74 : FnIs Try.prog 74 ac74 [(.t 4)] 9 := ⟨Try.f74, Try.func74, by kernel_rfl, by kernel_rfl, by kernel_rfl⟩
/- lockkeeper/lanes.waits$1 -/
def ac75 : ACode := (.seq (.reg [⟨(some 1), 1, (.box 56 3 (.t 0)), none, []⟩,
    ⟨(some 2), 2, (.mv (.k (.c (.s (.pv (.bool false)))))), none, []⟩])
  (.seq (.reg [⟨(some 3), 3, (.fld 2 (.t 1)), none, []⟩,
    ⟨(some 4), 4, (.load false 1 (.t 3)), none, [0]⟩,
    ⟨(some 5), 5, (.len (.t 4)), none, [1]⟩,
    ⟨(some 6), 6, (.bin false .gtr (.t 5) (.k (.c (.s (.pv (.int .i64 0)))))), none, [2]⟩,
    ⟨(some 2), 2, (.mv (.t 6)), none, [3, 0, 1, 2, 3]⟩])
  .ret))
theorem fn75 : FnIs Try.prog 75 ac75 [(.t 2)] 7 := ⟨Try.f75, Try.func75, by kernel_rfl, by kernel_rfl, by kernel_rfl⟩
/- lockkeeper/lockkeeperref05.over -/
def ac81 : ACode := (.seq (.reg [⟨(some 1), 1, (.box 28 3 (.t 0)), none, []⟩,
    ⟨(some 2), 2, (.mk 28 3 [[.zc, (.s (.pv (.int .i64 0))), (.s (.pv (.bool false)))]]), none, []⟩])
  (.seq (.reg [⟨(some 3), 3, (.fld 2 (.t 1)), none, []⟩,
    ⟨none, 17, (.store 1 (.t 3) (.k (.c (.s (.pv (.bool false)))))), none, [0]⟩])
  (.seq (.reg [⟨(some 4), 4, (.fld 1 (.t 1)), none, []⟩,
    ⟨(some 5), 5, (.load false 1 (.t 4)), none, [0]⟩,
    ⟨(some 6), 6, (.bin false .add (.t 5) (.k (.c (.s (.pv (.int .i64 1)))))), none, [1]⟩,
    ⟨(some 7), 7, (.fld 1 (.t 1)), none, [0, 1, 2]⟩,
    ⟨none, 20, (.store 1 (.t 7) (.t 6)), none, [3, 2, 0, 1, 2]⟩])
  (.seq (.seq (.reg [⟨(some 8), 8, (.fld 1 (.t 1)), none, []⟩,
    ⟨(some 9), 9, (.load false 1 (.t 8)), none, [0]⟩,
    ⟨(some 10), 10, (.fld 0 (.t 1)), none, []⟩,
    ⟨(some 11), 11, (.load false 1 (.t 10)), none, [2]⟩,
    ⟨(some 12), 12, (.len (.t 11)), none, [3]⟩,
    ⟨(some 13), 13, (.bin false .eql (.t 9) (.t 12)), none, [1, 4]⟩])
  (.cond (.t 13) (.reg [⟨(some 14), 14, (.fld 1 (.t 1)), none, []⟩,
    ⟨none, 17, (.store 1 (.t 14) (.k (.c (.s (.pv (.int .i64 0)))))), none, [0]⟩]) .skip))
  (.seq (.reg [⟨(some 15), 15, (.load true 3 (.t 1)), none, []⟩,
    ⟨none, 17, (.store 3 (.t 2) (.t 15)), none, [0, 0]⟩])
  .ret)))))
theorem fn81 : FnIs Try.prog 81 ac81 [(.cell 2 true 3)] 16 := ⟨Try.f81, Try.func81, by kernel_rfl, by kernel_rfl, by kernel_rfl⟩
/- lockkeeper/lockkeeperref05.with -/
def ac82 : ACode := (.seq (.reg [⟨(some 3), 3, (.box 28 3 (.t 0)), none, []⟩,
    ⟨(some 5), 5, (.box 36 3 (.t 2)), none, []⟩,
    ⟨(some 6), 6, (.mk 28 3 [[.zc, (.s (.pv (.int .i64 0))), (.s (.pv (.bool false)))]]), none, []⟩])
  (.seq (.reg [⟨(some 9), 9, (.fld 1 (.t 3)), none, []⟩,
    ⟨(some 10), 10, (.load false 1 (.t 9)), none, [0]⟩,
    ⟨(some 11), 11, (.fld 2 (.t 3)), none, []⟩,
    ⟨(some 12), 12, (.load false 1 (.t 11)), none, [2]⟩,
    ⟨(some 13), 13, (.build [.zc, (.s (.pv (.int .i64 0))), (.s (.pv (.bool false)))] [(1, 1, (.t 10)), (2, 1, (.t 12))]), none, [1, 3]⟩,
    ⟨(some 7), 7, (.mk 28 3 [[.zc, (.s (.pv (.int .i64 0))), (.s (.pv (.bool false)))]]), none, []⟩,
    ⟨none, 47, (.store 3 (.t 7) (.t 13)), none, [5, 4, 0, 1, 2, 3, 4, 5]⟩])
  (.seq (.seq (.reg [⟨(some 8), 8, (.mv (.k (.c (.s (.pv (.int .i64 0)))))), none, []⟩])
  (.block 0 (.loop (.seq (.seq (.reg [⟨(some 14), 14, (.mv (.t 8)), none, []⟩,
    ⟨(some 15), 15, (.fld 0 (.t 3)), none, []⟩,
    ⟨(some 16), 16, (.load false 1 (.t 15)), none, [1]⟩,
    ⟨(some 17), 17, (.len (.t 16)), none, [2]⟩,
    ⟨(some 18), 18, (.bin false .lss (.t 14) (.t 17)), none, [0, 3]⟩])
  (.cond (.t 18) .skip (.exit 0)))
  (.seq (.block 1 (.seq (.reg [⟨(some 21), 21, (.mv (.t 8)), none, []⟩,
    ⟨(some 22), 22, (.mv (.t 1)), none, []⟩,
    ⟨(some 23), 23, (.bin false .eql (.t 21) (.t 22)), none, [0, 1]⟩])
  (.cond (.t 23) (.reg [⟨(some 24), 24, (.fld 0 (.t 7)), none, []⟩,
    ⟨(some 25), 25, (.load false 1 (.t 24)), none, [0]⟩,
    ⟨(some 26), 26, (.load true 3 (.t 5)), none, []⟩,
    ⟨(some 27), 27, (.bslice 36 3 [(.s (.pv (.int .i64 0))), (.s (.pv (.int .i64 0))), .zc] 1 [(0, 3, (.t 26))]), none, [2]⟩,
    ⟨(some 28), 28, (.app 36 3 40 (.t 25) (.t 27)), none, [1, 3]⟩,
    ⟨(some 29), 29, (.fld 0 (.t 7)), none, [0, 1, 2, 3, 4]⟩,
    ⟨none, 47, (.store 1 (.t 29) (.t 28)), none, [5, 4, 4, 0, 1, 2, 3, 4]⟩]) (.draw [⟨(some 30), 30, (.fld 0 (.t 7)), none, []⟩,
    ⟨(some 31), 31, (.load false 1 (.t 30)), none, [0]⟩,
    ⟨(some 32), 32, (.fld 0 (.t 3)), none, []⟩,
    ⟨(some 33), 33, (.load false 1 (.t 32)), none, [2]⟩,
    ⟨(some 34), 34, (.mv (.t 8)), none, []⟩,
    ⟨(some 35), 35, (.idx 3 (.t 33) (.t 34)), none, [3, 4]⟩,
    ⟨(some 36), 36, (.load true 3 (.t 35)), none, [5]⟩,
    ⟨(some 37), 37, (.bslice 36 3 [(.s (.pv (.int .i64 0))), (.s (.pv (.int .i64 0))), .zc] 1 [(0, 3, (.t 36))]), none, [6]⟩,
    ⟨(some 38), 38, (.app 36 3 40 (.t 31) (.t 37)), none, [1, 7]⟩,
    ⟨(some 39), 39, (.fld 0 (.t 7)), none, [0, 1, 2, 3, 4, 5, 6, 7, 8]⟩,
    ⟨none, 51, (.store 1 (.t 39) (.t 38)), none, [9, 8, 8, 0, 1, 2, 3, 4, 5, 6, 7, 8]⟩]))))
  (.reg [⟨(some 19), 19, (.mv (.t 8)), none, []⟩,
    ⟨(some 20), 20, (.bin false .add (.t 19) (.k (.c (.s (.pv (.int .i64 1)))))), none, [0]⟩,
    ⟨(some 8), 8, (.mv (.t 20)), none, [1, 0, 1]⟩]))))))
  (.seq (.reg [⟨(some 40), 40, (.load true 3 (.t 7)), none, []⟩,
    ⟨none, 42, (.store 3 (.t 6) (.t 40)), none, [0, 0]⟩])
  .ret))))
theorem fn82 : FnIs Try.prog 82 ac82 [(.cell 6 true 3)] 41 := ⟨Try.f82, Try.func82, by kernel_rfl, by kernel_rfl, by kernel_rfl⟩
/- slices.IndexFunc[[]lockkeeper/lanes.Lane,lockkeeper/lanes.Lane] -/
def ac94 : ACode := (.seq (.reg [⟨(some 4), 4, (.mv (.k (.c (.s (.pv (.int .i64 0)))))), none, []⟩])
  (.seq (.seq (.reg [⟨(some 6), 6, (.mv (.t 0)), none, []⟩,
    ⟨(some 7), 7, (.len (.t 6)), none, [0]⟩,
    ⟨(some 8), 8, (.mv (.k (.c (.s (.pv (.int .i64 0)))))), none, []⟩])
  (.block 0 (.loop (.seq (.reg [⟨(some 9), 9, (.bin false .lss (.t 8) (.t 7)), none, []⟩])
  (.seq (.cond (.t 9) .skip (.exit 0))
  (.seq (.block 1 (.seq (.reg [⟨(some 10), 10, (.mv (.t 8)), none, []⟩,
    ⟨(some 5), 5, (.mv (.t 10)), none, [0, 0]⟩])
  (.seq (.reg [⟨(some 11), 11, (.mv (.t 1)), none, []⟩,
    ⟨(some 12), 12, (.mv (.t 0)), none, []⟩,
    ⟨(some 13), 13, (.mv (.t 5)), none, []⟩,
    ⟨(some 14), 14, (.idx 3 (.t 12) (.t 13)), none, [1, 2]⟩,
    ⟨(some 15), 15, (.load true 3 (.t 14)), none, [3]⟩,
    ⟨(some 16), 16, (.callv (.t 11) [(.t 15)]), none, [0, 4]⟩])
  (.cond (.t 16) (.seq (.reg [⟨(some 17), 17, (.mv (.t 5)), none, []⟩,
    ⟨(some 4), 4, (.mv (.t 17)), none, [0, 0]⟩])
  .ret) .skip))))
  (.reg [⟨(some 18), 18, (.bin false .add (.t 8) (.k (.c (.s (.pv (.int .i64 1)))))), none, []⟩,
    ⟨(some 8), 8, (.mv (.t 18)), none, [0]⟩])))))))
  (.seq (.reg [⟨(some 4), 4, (.mv (.k (.c (.s (.pv (.int .i64 (-1))))))), none, []⟩])
  .ret)))
theorem fn94 : FnIs Try.prog 94 ac94 [(.t 4)] 19 := ⟨Try.f94, Try.func94, by kernel_rfl, by kernel_rfl, by kernel_rfl⟩

end Go.Proofs.Ytfmbfgoofiojcaa
