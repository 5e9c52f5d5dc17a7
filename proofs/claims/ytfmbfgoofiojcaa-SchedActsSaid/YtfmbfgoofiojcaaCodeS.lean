/- THE PROGRAM's functions, as the abstract machine's code (printed by wip/tools/code.py out of the translation). No condition. -/
import Derived.Test.YtfmbfgoofiojcaaAm22
import Derived.Test.YtfmbfgoofiojcaaProg
import Derived.KernelRfl
namespace Go.Proofs.Ytfmbfgoofiojcaa
set_option maxRecDepth 100000
/- lockkeeper/lockkeeperlaw06.SchedActs -/
def ac10 : ACode := (.seq (.reg [⟨(some 4), 4, (.mv (.k (.c (.s (.pv (.bool false)))))), none, []⟩])
  (.seq (.seq (.reg [⟨(some 29), 29, (.mv (.t 0)), none, []⟩,
    ⟨(some 30), 30, (.len (.t 29)), none, [0]⟩,
    ⟨(some 31), 31, (.bin false .gtr (.t 30) (.k (.c (.s (.pv (.int .i64 20)))))), none, [1]⟩,
    ⟨(some 32), 32, (.mv (.t 31)), none, [2]⟩,
    ⟨(some 33), 33, (.mv (.t 1)), (some (32, false)), [3]⟩,
    ⟨(some 34), 34, (.len (.t 33)), (some (32, false)), [4, 3]⟩,
    ⟨(some 35), 35, (.bin false .gtr (.t 34) (.k (.c (.s (.pv (.int .i64 60)))))), (some (32, false)), [5, 3]⟩,
    ⟨(some 36), 36, (.pick (.t 32) (.k (.c (.s (.pv (.bool true))))) (.t 35)), none, [3, 6]⟩])
  (.cond (.t 36) (.seq (.reg [⟨(some 37), 37, (.call 24 []), none, []⟩,
    ⟨(some 4), 4, (.mv (.t 37)), none, [0, 0, 0]⟩])
  .ret) .skip))
  (.seq (.reg [⟨(some 39), 39, (.call 26 []), none, []⟩,
    ⟨(some 40), 40, (.mv (.t 0)), none, []⟩,
    ⟨(some 41), 41, (.call 25 [(.t 39), (.t 40)]), none, [0, 1, 0]⟩,
    ⟨(some 38), 38, (.mv (.t 41)), none, [2]⟩,
    ⟨(some 42), 42, (.ext 0 (.t 38)), none, [3]⟩,
    ⟨(some 43), 43, (.ext 1 (.t 38)), none, [3]⟩,
    ⟨(some 5), 5, (.mk 68 9 [[.zc, (.s (.pv (.int .i64 0))), (.s (.pv (.bool false))), .zc, .zc, .zc, (.s (.pv (.int .i64 0))), .zc, .zc]]), none, []⟩,
    ⟨none, 213, (.store 9 (.t 5) (.t 42)), none, [6, 4, 2, 0, 1, 2, 3, 4, 6]⟩,
    ⟨(some 6), 6, (.mv (.t 43)), none, [5, 7, 0, 1, 2, 3, 4, 5, 6, 7]⟩])
  (.seq (.reg [⟨(some 44), 44, (.build [.zc, (.s (.pv (.int .i64 0))), (.s (.pv (.bool false)))] []), none, []⟩,
    ⟨(some 7), 7, (.mk 28 3 [[.zc, (.s (.pv (.int .i64 0))), (.s (.pv (.bool false)))]]), none, []⟩,
    ⟨none, 208, (.store 3 (.t 7) (.t 44)), none, [1, 0, 0, 1]⟩])
  (.seq (.seq (.reg [⟨(some 45), 45, (.mv (.t 0)), none, []⟩,
    ⟨(some 46), 46, (.len (.t 45)), none, [0]⟩,
    ⟨(some 47), 47, (.mv (.k (.c (.s (.pv (.int .i64 0)))))), none, []⟩])
  (.block 0 (.loop (.seq (.reg [⟨(some 48), 48, (.bin false .lss (.t 47) (.t 46)), none, []⟩])
  (.seq (.cond (.t 48) .skip (.exit 0))
  (.seq (.block 1 (.seq (.reg [⟨(some 49), 49, (.idx 1 (.t 45) (.t 47)), none, []⟩,
    ⟨(some 50), 50, (.load false 1 (.t 49)), none, [0]⟩,
    ⟨(some 9), 9, (.mv (.t 50)), none, [1, 0, 1]⟩])
  (.reg [⟨(some 51), 51, (.fld 0 (.t 7)), none, []⟩,
    ⟨(some 52), 52, (.load false 1 (.t 51)), none, [0]⟩,
    ⟨(some 53), 53, (.mv (.t 9)), none, []⟩,
    ⟨(some 54), 54, (.build [(.s (.pv (.int .i64 0))), (.s (.pv (.int .i64 0))), .zc] [(0, 1, (.t 53))]), none, [2]⟩,
    ⟨(some 55), 55, (.bslice 36 3 [(.s (.pv (.int .i64 0))), (.s (.pv (.int .i64 0))), .zc] 1 [(0, 3, (.t 54))]), none, [3]⟩,
    ⟨(some 56), 56, (.app 36 3 40 (.t 52) (.t 55)), none, [1, 4]⟩,
    ⟨(some 57), 57, (.fld 0 (.t 7)), none, [0, 1, 2, 3, 4, 5]⟩,
    ⟨none, 213, (.store 1 (.t 57) (.t 56)), none, [6, 5, 5, 0, 1, 2, 3, 4, 5]⟩])))
  (.reg [⟨(some 58), 58, (.bin false .add (.t 47) (.k (.c (.s (.pv (.int .i64 1)))))), none, []⟩,
    ⟨(some 47), 47, (.mv (.t 58)), none, [0]⟩])))))))
  (.seq (.seq (.reg [⟨(some 59), 59, (.load true 3 (.t 7)), none, []⟩,
    ⟨(some 60), 60, (.call 18 [(.t 59)]), none, [0]⟩,
    ⟨(some 61), 61, (.not (.t 60)), none, [1]⟩])
  (.cond (.t 61) (.seq (.reg [⟨(some 62), 62, (.mv (.t 6)), none, []⟩,
    ⟨(some 63), 63, (.bin false .eql (.t 62) (.k (.c (.s (.pv (.int .i64 1)))))), none, [0]⟩,
    ⟨(some 64), 64, (.mv (.t 63)), none, [1]⟩,
    ⟨(some 65), 65, (.fld 3 (.t 5)), (some (64, true)), [2]⟩,
    ⟨(some 66), 66, (.load false 1 (.t 65)), (some (64, true)), [3, 2]⟩,
    ⟨(some 67), 67, (.len (.t 66)), (some (64, true)), [4, 2]⟩,
    ⟨(some 68), 68, (.bin false .eql (.t 67) (.k (.c (.s (.pv (.int .i64 0)))))), (some (64, true)), [5, 2]⟩,
    ⟨(some 69), 69, (.pick (.t 64) (.t 68) (.k (.c (.s (.pv (.bool false)))))), none, [2, 6]⟩,
    ⟨(some 70), 70, (.mv (.t 69)), none, [7, 2]⟩,
    ⟨(some 71), 71, (.call 24 []), (some (70, true)), [8, 8]⟩,
    ⟨(some 72), 72, (.pick (.t 70) (.t 71) (.k (.c (.s (.pv (.bool false)))))), none, [8, 9]⟩,
    ⟨(some 4), 4, (.mv (.t 72)), none, [10, 9, 0, 1, 2, 3, 4, 5, 6, 7, 8, 9, 10]⟩])
  .ret) .skip))
  (.seq (.draw [⟨(some 73), 73, (.load true 3 (.t 7)), none, []⟩,
    ⟨(some 74), 74, (.mv (.t 0)), none, []⟩,
    ⟨(some 75), 75, (.len (.t 74)), none, [1]⟩,
    ⟨(some 76), 76, (.mkSlice 76 1 24 [(.sl 1 [])] (.t 75) (.t 75)), none, [2, 2]⟩,
    ⟨(some 77), 77, (.call 26 []), none, []⟩,
    ⟨(some 78), 78, (.field true 0 2 (.t 77)), none, [4]⟩,
    ⟨(some 79), 79, (.build [.zc, .zc, (.s (.pv (.int .i64 0))), .zc] [(0, 2, (.t 78))]), none, [5]⟩,
    ⟨(some 80), 80, (.build [.zc, (.s (.pv (.int .i64 0))), (.s (.pv (.bool false))), .zc, .zc, .zc, (.s (.pv (.int .i64 0))), .zc, .zc] [(0, 3, (.t 73)), (3, 1, (.t 76)), (4, 4, (.t 79))]), none, [0, 3, 6]⟩,
    ⟨(some 10), 10, (.mk 78 9 [[.zc, (.s (.pv (.int .i64 0))), (.s (.pv (.bool false))), .zc, .zc, .zc, (.s (.pv (.int .i64 0))), .zc, .zc]]), none, []⟩,
    ⟨none, 215, (.store 9 (.t 10) (.t 80)), none, [8, 7, 4, 0, 1, 2, 3, 4, 5, 6, 7, 8]⟩])
  (.seq (.seq (.reg [⟨(some 81), 81, (.mv (.t 6)), none, []⟩,
    ⟨(some 82), 82, (.bin false .neq (.t 81) (.k (.c (.s (.pv (.int .i64 0)))))), none, [0]⟩])
  (.cond (.t 82) (.seq (.reg [⟨(some 4), 4, (.mv (.k (.c (.s (.pv (.bool false)))))), none, []⟩])
  .ret) .skip))
  (.seq (.seq (.reg [⟨(some 83), 83, (.mv (.t 1)), none, []⟩,
    ⟨(some 84), 84, (.len (.t 83)), none, [0]⟩,
    ⟨(some 85), 85, (.mv (.k (.c (.s (.pv (.int .i64 0)))))), none, []⟩])
  (.block 2 (.loop (.seq (.reg [⟨(some 86), 86, (.bin false .lss (.t 85) (.t 84)), none, []⟩])
  (.seq (.cond (.t 86) .skip (.exit 2))
  (.seq (.block 3 (.seq (.reg [⟨(some 87), 87, (.idx 7 (.t 83) (.t 85)), none, []⟩,
    ⟨(some 88), 88, (.load true 7 (.t 87)), none, [0]⟩,
    ⟨(some 12), 12, (.mk 82 7 [[(.s (.pv (.int .i64 0))), (.s (.pv (.int .i64 0))), (.s (.pv (.int .i64 0))), (.s (.pv (.int .i64 0))), (.s (.pv (.int .i64 0))), (.s (.pv (.string ⟨#[]⟩))), (.s (.pv (.int .i64 0)))]]), none, []⟩,
    ⟨none, 209, (.store 7 (.t 12) (.t 88)), none, [2, 1, 0, 1, 2]⟩])
  (.seq (.seq (.reg [⟨(some 89), 89, (.fld 2 (.t 12)), none, []⟩,
    ⟨(some 90), 90, (.fld 3 (.t 89)), none, [0]⟩,
    ⟨(some 91), 91, (.load false 1 (.t 90)), none, [1]⟩,
    ⟨(some 92), 92, (.slen (.t 91)), none, [2]⟩,
    ⟨(some 93), 93, (.bin false .gtr (.t 92) (.k (.c (.s (.pv (.int .i64 100)))))), none, [3]⟩])
  (.cond (.t 93) (.seq (.reg [⟨(some 94), 94, (.call 24 []), none, []⟩,
    ⟨(some 4), 4, (.mv (.t 94)), none, [0, 0, 0]⟩])
  .ret) .skip))
  (.seq (.seq (.reg [⟨(some 95), 95, (.fld 0 (.t 12)), none, []⟩,
    ⟨(some 96), 96, (.load false 1 (.t 95)), none, [0]⟩])
  (.block 4 (.seq (.reg [⟨(some 98), 98, (.bin false .eql (.t 96) (.k (.c (.s (.pv (.int .i64 0)))))), none, []⟩,
    ⟨(some 97), 97, (.mv (.t 98)), none, [0]⟩])
  (.cond (.t 97) (.seq (.reg [⟨(some 100), 100, (.load true 9 (.t 5)), none, []⟩,
    ⟨(some 101), 101, (.fld 2 (.t 12)), none, []⟩,
    ⟨(some 102), 102, (.load true 5 (.t 101)), none, [1]⟩,
    ⟨(some 103), 103, (.call 27 [(.t 100), (.t 102)]), none, [0, 2]⟩,
    ⟨(some 99), 99, (.mv (.t 103)), none, [3]⟩,
    ⟨(some 104), 104, (.ext 0 (.t 99)), none, [4]⟩,
    ⟨(some 105), 105, (.ext 1 (.t 99)), none, [4]⟩,
    ⟨(some 13), 13, (.mk 68 9 [[.zc, (.s (.pv (.int .i64 0))), (.s (.pv (.bool false))), .zc, .zc, .zc, (.s (.pv (.int .i64 0))), .zc, .zc]]), none, []⟩,
    ⟨none, 214, (.store 9 (.t 13) (.t 104)), none, [7, 5, 3, 0, 1, 2, 3, 4, 5, 7]⟩,
    ⟨(some 14), 14, (.mv (.t 105)), none, [6, 8, 0, 1, 2, 3, 4, 5, 6, 7, 8]⟩])
  (.seq (.reg [⟨(some 107), 107, (.load true 9 (.t 10)), none, []⟩,
    ⟨(some 108), 108, (.fld 2 (.t 12)), none, []⟩,
    ⟨(some 109), 109, (.load true 5 (.t 108)), none, [1]⟩,
    ⟨(some 110), 110, (.call 28 [(.t 107), (.t 109)]), none, [0, 2]⟩,
    ⟨(some 106), 106, (.mv (.t 110)), none, [3]⟩,
    ⟨(some 111), 111, (.ext 0 (.t 106)), none, [4]⟩,
    ⟨(some 112), 112, (.ext 1 (.t 106)), none, [4]⟩,
    ⟨(some 15), 15, (.mk 78 9 [[.zc, (.s (.pv (.int .i64 0))), (.s (.pv (.bool false))), .zc, .zc, .zc, (.s (.pv (.int .i64 0))), .zc, .zc]]), none, []⟩,
    ⟨none, 214, (.store 9 (.t 15) (.t 111)), none, [7, 5, 3, 0, 1, 2, 3, 4, 5, 7]⟩,
    ⟨(some 16), 16, (.mv (.t 112)), none, [6, 8, 0, 1, 2, 3, 4, 5, 6, 7, 8]⟩])
  (.seq (.seq (.reg [⟨(some 113), 113, (.mv (.t 14)), none, []⟩,
    ⟨(some 114), 114, (.mv (.t 16)), none, []⟩,
    ⟨(some 115), 115, (.bin false .neq (.t 113) (.t 114)), none, [0, 1]⟩])
  (.cond (.t 115) (.seq (.reg [⟨(some 4), 4, (.mv (.k (.c (.s (.pv (.bool false)))))), none, []⟩])
  .ret) .skip))
  (.draw [⟨(some 116), 116, (.load true 9 (.t 13)), none, []⟩,
    ⟨(some 117), 117, (.load true 9 (.t 15)), none, []⟩,
    ⟨none, 208, (.store 9 (.t 5) (.t 116)), none, [0, 0]⟩,
    ⟨none, 209, (.store 9 (.t 10) (.t 117)), none, [1, 2, 0, 1, 2]⟩])))) (.seq (.reg [⟨(some 119), 119, (.bin false .eql (.t 96) (.k (.c (.s (.pv (.int .i64 1)))))), none, []⟩,
    ⟨(some 118), 118, (.mv (.t 119)), none, [0]⟩])
  (.cond (.t 118) (.draw [⟨(some 120), 120, (.load true 9 (.t 5)), none, []⟩,
    ⟨(some 121), 121, (.call 29 [(.t 120)]), none, [0]⟩,
    ⟨(some 122), 122, (.load true 9 (.t 10)), none, []⟩,
    ⟨(some 123), 123, (.call 30 [(.t 122)]), none, [2, 1]⟩,
    ⟨none, 210, (.store 9 (.t 5) (.t 121)), none, [1, 3, 0, 1]⟩,
    ⟨none, 211, (.store 9 (.t 10) (.t 123)), none, [3, 4, 0, 1, 2, 3, 4]⟩]) (.seq (.seq (.reg [⟨(some 125), 125, (.bin false .eql (.t 96) (.k (.c (.s (.pv (.int .i64 2)))))), none, []⟩,
    ⟨(some 124), 124, (.mv (.t 125)), none, [0]⟩])
  (.cond (.t 124) .skip (.reg [⟨(some 126), 126, (.bin false .eql (.t 96) (.k (.c (.s (.pv (.int .i64 3)))))), none, []⟩,
    ⟨(some 124), 124, (.mv (.t 126)), none, [0]⟩])))
  (.cond (.t 124) (.seq (.reg [⟨(some 128), 128, (.load true 9 (.t 5)), none, []⟩,
    ⟨(some 129), 129, (.fld 1 (.t 12)), none, []⟩,
    ⟨(some 130), 130, (.load false 1 (.t 129)), none, [1]⟩,
    ⟨(some 131), 131, (.fld 0 (.t 12)), none, []⟩,
    ⟨(some 132), 132, (.load false 1 (.t 131)), none, [3]⟩,
    ⟨(some 133), 133, (.bin false .eql (.t 132) (.k (.c (.s (.pv (.int .i64 3)))))), none, [4]⟩,
    ⟨(some 134), 134, (.call 31 [(.t 128), (.t 130), (.t 133)]), none, [0, 2, 5]⟩,
    ⟨(some 127), 127, (.mv (.t 134)), none, [6]⟩,
    ⟨(some 135), 135, (.ext 0 (.t 127)), none, [7]⟩,
    ⟨(some 136), 136, (.ext 1 (.t 127)), none, [7]⟩,
    ⟨(some 137), 137, (.ext 2 (.t 127)), none, [7]⟩,
    ⟨(some 138), 138, (.ext 3 (.t 127)), none, [7]⟩,
    ⟨(some 17), 17, (.mk 68 9 [[.zc, (.s (.pv (.int .i64 0))), (.s (.pv (.bool false))), .zc, .zc, .zc, (.s (.pv (.int .i64 0))), .zc, .zc]]), none, []⟩,
    ⟨(some 18), 18, (.mk 80 5 [[(.s (.pv (.int .i64 0))), (.s (.pv (.int .i64 0))), (.s (.pv (.int .i64 0))), (.s (.pv (.string ⟨#[]⟩))), (.s (.pv (.int .i64 0)))]]), none, []⟩,
    ⟨none, 220, (.store 9 (.t 17) (.t 135)), none, [12, 8, 6, 0, 1, 2, 3, 4, 5, 6, 7, 8, 12, 13]⟩,
    ⟨none, 221, (.store 5 (.t 18) (.t 136)), none, [13, 9, 14, 0, 1, 2, 3, 4, 5, 6, 7, 8, 9, 12, 13, 14]⟩,
    ⟨(some 19), 19, (.mv (.t 137)), none, [10, 15, 0, 1, 2, 3, 4, 5, 6, 7, 8, 9, 10, 12, 13, 14, 15]⟩,
    ⟨(some 20), 20, (.mv (.t 138)), none, [11, 16, 0, 1, 2, 3, 4, 5, 6, 7, 8, 9, 10, 11, 12, 13, 14, 15, 16]⟩])
  (.seq (.reg [⟨(some 140), 140, (.load true 9 (.t 10)), none, []⟩,
    ⟨(some 141), 141, (.fld 1 (.t 12)), none, []⟩,
    ⟨(some 142), 142, (.load false 1 (.t 141)), none, [1]⟩,
    ⟨(some 143), 143, (.fld 0 (.t 12)), none, []⟩,
    ⟨(some 144), 144, (.load false 1 (.t 143)), none, [3]⟩,
    ⟨(some 145), 145, (.bin false .eql (.t 144) (.k (.c (.s (.pv (.int .i64 3)))))), none, [4]⟩,
    ⟨(some 146), 146, (.call 32 [(.t 140), (.t 142), (.t 145)]), none, [0, 2, 5]⟩,
    ⟨(some 139), 139, (.mv (.t 146)), none, [6]⟩,
    ⟨(some 147), 147, (.ext 0 (.t 139)), none, [7]⟩,
    ⟨(some 148), 148, (.ext 1 (.t 139)), none, [7]⟩,
    ⟨(some 149), 149, (.ext 2 (.t 139)), none, [7]⟩,
    ⟨(some 150), 150, (.ext 3 (.t 139)), none, [7]⟩,
    ⟨(some 21), 21, (.mk 78 9 [[.zc, (.s (.pv (.int .i64 0))), (.s (.pv (.bool false))), .zc, .zc, .zc, (.s (.pv (.int .i64 0))), .zc, .zc]]), none, []⟩,
    ⟨(some 22), 22, (.mk 86 5 [[(.s (.pv (.int .i64 0))), (.s (.pv (.int .i64 0))), (.s (.pv (.int .i64 0))), (.s (.pv (.string ⟨#[]⟩))), (.s (.pv (.int .i64 0)))]]), none, []⟩,
    ⟨none, 220, (.store 9 (.t 21) (.t 147)), none, [12, 8, 6, 0, 1, 2, 3, 4, 5, 6, 7, 8, 12, 13]⟩,
    ⟨none, 221, (.store 5 (.t 22) (.t 148)), none, [13, 9, 14, 0, 1, 2, 3, 4, 5, 6, 7, 8, 9, 12, 13, 14]⟩,
    ⟨(some 23), 23, (.mv (.t 149)), none, [10, 15, 0, 1, 2, 3, 4, 5, 6, 7, 8, 9, 10, 12, 13, 14, 15]⟩,
    ⟨(some 24), 24, (.mv (.t 150)), none, [11, 16, 0, 1, 2, 3, 4, 5, 6, 7, 8, 9, 10, 11, 12, 13, 14, 15, 16]⟩])
  (.seq (.seq (.reg [⟨(some 151), 151, (.load true 5 (.t 18)), none, []⟩,
    ⟨(some 152), 152, (.load true 5 (.t 22)), none, []⟩,
    ⟨(some 153), 153, (.eqs true 86 (.t 151) (.t 152)), none, [0, 1]⟩,
    ⟨(some 154), 154, (.mv (.t 153)), none, [2]⟩,
    ⟨(some 155), 155, (.mv (.t 19)), (some (154, false)), [3]⟩,
    ⟨(some 156), 156, (.mv (.t 23)), (some (154, false)), [3]⟩,
    ⟨(some 157), 157, (.bin false .neq (.t 155) (.t 156)), (some (154, false)), [4, 5, 3]⟩,
    ⟨(some 158), 158, (.pick (.t 154) (.k (.c (.s (.pv (.bool true))))) (.t 157)), none, [3, 6]⟩,
    ⟨(some 159), 159, (.mv (.t 158)), none, [7, 3]⟩,
    ⟨(some 160), 160, (.mv (.t 20)), (some (159, false)), [8]⟩,
    ⟨(some 161), 161, (.mv (.t 24)), (some (159, false)), [8]⟩,
    ⟨(some 162), 162, (.bin true .neq (.t 160) (.t 161)), (some (159, false)), [9, 10, 8]⟩,
    ⟨(some 163), 163, (.pick (.t 159) (.k (.c (.s (.pv (.bool true))))) (.t 162)), none, [8, 11]⟩])
  (.cond (.t 163) (.seq (.reg [⟨(some 4), 4, (.mv (.k (.c (.s (.pv (.bool false)))))), none, []⟩])
  .ret) .skip))
  (.draw [⟨(some 164), 164, (.load true 9 (.t 17)), none, []⟩,
    ⟨(some 165), 165, (.load true 9 (.t 21)), none, []⟩,
    ⟨none, 208, (.store 9 (.t 5) (.t 164)), none, [0, 0]⟩,
    ⟨none, 209, (.store 9 (.t 10) (.t 165)), none, [1, 2, 0, 1, 2]⟩])))) (.seq (.reg [⟨(some 167), 167, (.bin false .eql (.t 96) (.k (.c (.s (.pv (.int .i64 4)))))), none, []⟩,
    ⟨(some 166), 166, (.mv (.t 167)), none, [0]⟩])
  (.cond (.t 166) (.seq (.reg [⟨(some 25), 25, (.mv (.k (.c .zc))), none, []⟩])
  (.seq (.seq (.reg [⟨(some 168), 168, (.fld 1 (.t 12)), none, []⟩,
    ⟨(some 169), 169, (.load false 1 (.t 168)), none, [0]⟩,
    ⟨(some 170), 170, (.mm true (.t 169) (.k (.c (.s (.pv (.int .i64 0)))))), none, [1]⟩,
    ⟨(some 171), 171, (.mm false (.t 170) (.k (.c (.s (.pv (.int .i64 200)))))), none, [2]⟩,
    ⟨(some 172), 172, (.mv (.k (.c (.s (.pv (.int .i64 0)))))), none, []⟩])
  (.block 5 (.loop (.seq (.reg [⟨(some 173), 173, (.bin false .lss (.t 172) (.t 171)), none, []⟩])
  (.seq (.cond (.t 173) .skip (.exit 5))
  (.seq (.block 6 (.seq (.reg [⟨(some 174), 174, (.mv (.t 172)), none, []⟩,
    ⟨(some 26), 26, (.mv (.t 174)), none, [0, 0]⟩])
  (.reg [⟨(some 175), 175, (.mv (.t 25)), none, []⟩,
    ⟨(some 176), 176, (.mv (.t 26)), none, []⟩,
    ⟨(some 177), 177, (.bslice 3 1 [(.s (.pv (.int .i64 0)))] 1 [(0, 1, (.t 176))]), none, [1]⟩,
    ⟨(some 178), 178, (.app 3 1 8 (.t 175) (.t 177)), none, [0, 2]⟩,
    ⟨(some 25), 25, (.mv (.t 178)), none, [3, 3, 0, 1, 2, 3]⟩])))
  (.reg [⟨(some 179), 179, (.bin false .add (.t 172) (.k (.c (.s (.pv (.int .i64 1)))))), none, []⟩,
    ⟨(some 172), 172, (.mv (.t 179)), none, [0]⟩])))))))
  (.draw [⟨(some 180), 180, (.load true 9 (.t 5)), none, []⟩,
    ⟨(some 181), 181, (.mv (.t 25)), none, []⟩,
    ⟨(some 182), 182, (.call 33 [(.t 180), (.t 181)]), none, [0, 1]⟩,
    ⟨(some 183), 183, (.load true 9 (.t 10)), none, []⟩,
    ⟨(some 184), 184, (.mv (.t 25)), none, []⟩,
    ⟨(some 185), 185, (.call 34 [(.t 183), (.t 184)]), none, [3, 4, 2]⟩,
    ⟨none, 212, (.store 9 (.t 5) (.t 182)), none, [2, 5, 0, 1, 2]⟩,
    ⟨none, 213, (.store 9 (.t 10) (.t 185)), none, [5, 6, 0, 1, 2, 3, 4, 5, 6]⟩]))) .skip))))))))))
  (.seq (.reg [⟨(some 187), 187, (.load true 9 (.t 5)), none, []⟩,
    ⟨(some 188), 188, (.call 35 [(.t 187)]), none, [0]⟩,
    ⟨(some 186), 186, (.mv (.t 188)), none, [1]⟩,
    ⟨(some 189), 189, (.ext 0 (.t 186)), none, [2]⟩,
    ⟨(some 190), 190, (.ext 1 (.t 186)), none, [2]⟩,
    ⟨(some 27), 27, (.mk 78 9 [[.zc, (.s (.pv (.int .i64 0))), (.s (.pv (.bool false))), .zc, .zc, .zc, (.s (.pv (.int .i64 0))), .zc, .zc]]), none, []⟩,
    ⟨none, 212, (.store 9 (.t 27) (.t 189)), none, [5, 3, 1, 0, 1, 2, 3, 5]⟩,
    ⟨(some 28), 28, (.mv (.t 190)), none, [4, 6, 0, 1, 2, 3, 4, 5, 6]⟩])
  (.seq (.reg [⟨(some 191), 191, (.mv (.t 28)), none, []⟩,
    ⟨(some 192), 192, (.not (.t 191)), none, [0]⟩,
    ⟨(some 193), 193, (.mv (.t 192)), none, [1]⟩,
    ⟨(some 194), 194, (.load true 9 (.t 10)), (some (193, false)), [2]⟩,
    ⟨(some 195), 195, (.load true 9 (.t 27)), (some (193, false)), [2]⟩,
    ⟨(some 196), 196, (.call 36 [(.t 194), (.t 195)]), (some (193, false)), [3, 4, 2, 2]⟩,
    ⟨(some 197), 197, (.not (.t 196)), (some (193, false)), [5, 2]⟩,
    ⟨(some 198), 198, (.pick (.t 193) (.k (.c (.s (.pv (.bool true))))) (.t 197)), none, [2, 6]⟩,
    ⟨(some 199), 199, (.mv (.t 198)), none, [7, 5]⟩,
    ⟨(some 200), 200, (.load true 9 (.t 5)), (some (199, false)), [8]⟩,
    ⟨(some 201), 201, (.call 37 [(.t 200)]), (some (199, false)), [9, 8, 8]⟩,
    ⟨(some 202), 202, (.not (.t 201)), (some (199, false)), [10, 8]⟩,
    ⟨(some 203), 203, (.pick (.t 199) (.k (.c (.s (.pv (.bool true))))) (.t 202)), none, [8, 11]⟩])
  (.cond (.t 203) (.seq (.reg [⟨(some 4), 4, (.mv (.k (.c (.s (.pv (.bool false)))))), none, []⟩])
  .ret) .skip)))))))
  (.reg [⟨(some 204), 204, (.bin false .add (.t 85) (.k (.c (.s (.pv (.int .i64 1)))))), none, []⟩,
    ⟨(some 85), 85, (.mv (.t 204)), none, [0]⟩])))))))
  (.seq (.reg [⟨(some 205), 205, (.call 24 []), none, []⟩,
    ⟨(some 4), 4, (.mv (.t 205)), none, [0, 0, 0]⟩])
  .ret))))))))))
theorem fn10 : FnIs Try.prog 10 ac10 [(.t 4)] 206 := ⟨Try.f10, Try.func10, by kernel_rfl, by kernel_rfl, by kernel_rfl⟩
/- lockkeeper/lockkeeperlaw06.awake -/
def ac24 : ACode := (.seq (.reg [⟨(some 0), 0, (.mv (.k (.c (.s (.pv (.bool false)))))), none, []⟩])
  (.seq (.reg [⟨(some 13), 13, (.call 26 []), none, []⟩,
    ⟨(some 14), 14, (.bslice 3 1 [(.s (.pv (.int .i64 0)))] 2 [(0, 1, (.k (.c (.s (.pv (.int .i64 1)))))), (1, 1, (.k (.c (.s (.pv (.int .i64 2))))))]), none, []⟩,
    ⟨(some 15), 15, (.call 25 [(.t 13), (.t 14)]), none, [0, 1, 0]⟩,
    ⟨(some 12), 12, (.mv (.t 15)), none, [2]⟩,
    ⟨(some 16), 16, (.ext 0 (.t 12)), none, [3]⟩,
    ⟨(some 17), 17, (.ext 1 (.t 12)), none, [3]⟩,
    ⟨(some 1), 1, (.mk 68 9 [[.zc, (.s (.pv (.int .i64 0))), (.s (.pv (.bool false))), .zc, .zc, .zc, (.s (.pv (.int .i64 0))), .zc, .zc]]), none, []⟩,
    ⟨none, 96, (.store 9 (.t 1) (.t 16)), none, [6, 4, 2, 0, 1, 2, 3, 4, 6]⟩,
    ⟨(some 2), 2, (.mv (.t 17)), none, [5, 7, 0, 1, 2, 3, 4, 5, 6, 7]⟩])
  (.seq (.reg [⟨(some 19), 19, (.load true 9 (.t 1)), none, []⟩,
    ⟨(some 20), 20, (.build [(.s (.pv (.int .i64 0))), (.s (.pv (.int .i64 0))), (.s (.pv (.int .i64 0))), (.s (.pv (.string ⟨#[]⟩))), (.s (.pv (.int .i64 0)))] [(0, 1, (.k (.c (.s (.pv (.int .i64 1)))))), (1, 1, (.k (.c (.s (.pv (.int .i64 1)))))), (2, 1, (.k (.c (.s (.pv (.int .i64 3))))))]), none, []⟩,
    ⟨(some 21), 21, (.call 27 [(.t 19), (.t 20)]), none, [0, 1]⟩,
    ⟨(some 18), 18, (.mv (.t 21)), none, [2]⟩,
    ⟨(some 22), 22, (.ext 0 (.t 18)), none, [3]⟩,
    ⟨(some 23), 23, (.ext 1 (.t 18)), none, [3]⟩,
    ⟨none, 95, (.store 9 (.t 1) (.t 22)), none, [4, 2, 0, 1, 2, 3, 4]⟩,
    ⟨(some 3), 3, (.mv (.t 23)), none, [5, 6, 0, 1, 2, 3, 4, 5, 6]⟩])
  (.seq (.reg [⟨(some 24), 24, (.load true 9 (.t 1)), none, []⟩,
    ⟨(some 25), 25, (.call 29 [(.t 24)]), none, [0]⟩,
    ⟨none, 91, (.store 9 (.t 1) (.t 25)), none, [1, 1, 0, 1]⟩])
  (.seq (.reg [⟨(some 27), 27, (.load true 9 (.t 1)), none, []⟩,
    ⟨(some 28), 28, (.call 31 [(.t 27), (.k (.c (.s (.pv (.int .i64 0))))), (.k (.c (.s (.pv (.bool true)))))]), none, [0]⟩,
    ⟨(some 26), 26, (.mv (.t 28)), none, [1]⟩,
    ⟨(some 29), 29, (.ext 0 (.t 26)), none, [2]⟩,
    ⟨(some 30), 30, (.ext 1 (.t 26)), none, [2]⟩,
    ⟨(some 31), 31, (.ext 2 (.t 26)), none, [2]⟩,
    ⟨(some 32), 32, (.ext 3 (.t 26)), none, [2]⟩,
    ⟨(some 4), 4, (.mk 68 9 [[.zc, (.s (.pv (.int .i64 0))), (.s (.pv (.bool false))), .zc, .zc, .zc, (.s (.pv (.int .i64 0))), .zc, .zc]]), none, []⟩,
    ⟨(some 5), 5, (.mk 80 5 [[(.s (.pv (.int .i64 0))), (.s (.pv (.int .i64 0))), (.s (.pv (.int .i64 0))), (.s (.pv (.string ⟨#[]⟩))), (.s (.pv (.int .i64 0)))]]), none, []⟩,
    ⟨none, 98, (.store 9 (.t 4) (.t 29)), none, [7, 3, 1, 0, 1, 2, 3, 7, 8]⟩,
    ⟨none, 99, (.store 5 (.t 5) (.t 30)), none, [8, 4, 9, 0, 1, 2, 3, 4, 7, 8, 9]⟩,
    ⟨(some 6), 6, (.mv (.t 31)), none, [5, 10, 0, 1, 2, 3, 4, 5, 7, 8, 9, 10]⟩,
    ⟨(some 7), 7, (.mv (.t 32)), none, [6, 11, 0, 1, 2, 3, 4, 5, 6, 7, 8, 9, 10, 11]⟩])
  (.seq (.reg [⟨(some 34), 34, (.load true 9 (.t 4)), none, []⟩,
    ⟨(some 35), 35, (.call 31 [(.t 34), (.k (.c (.s (.pv (.int .i64 0))))), (.k (.c (.s (.pv (.bool false)))))]), none, [0]⟩,
    ⟨(some 33), 33, (.mv (.t 35)), none, [1]⟩,
    ⟨(some 36), 36, (.ext 0 (.t 33)), none, [2]⟩,
    ⟨(some 37), 37, (.ext 1 (.t 33)), none, [2]⟩,
    ⟨(some 38), 38, (.ext 2 (.t 33)), none, [2]⟩,
    ⟨(some 39), 39, (.ext 3 (.t 33)), none, [2]⟩,
    ⟨(some 8), 8, (.mk 68 9 [[.zc, (.s (.pv (.int .i64 0))), (.s (.pv (.bool false))), .zc, .zc, .zc, (.s (.pv (.int .i64 0))), .zc, .zc]]), none, []⟩,
    ⟨(some 9), 9, (.mk 80 5 [[(.s (.pv (.int .i64 0))), (.s (.pv (.int .i64 0))), (.s (.pv (.int .i64 0))), (.s (.pv (.string ⟨#[]⟩))), (.s (.pv (.int .i64 0)))]]), none, []⟩,
    ⟨none, 98, (.store 9 (.t 8) (.t 36)), none, [7, 3, 1, 0, 1, 2, 3, 7, 8]⟩,
    ⟨none, 99, (.store 5 (.t 9) (.t 37)), none, [8, 4, 9, 0, 1, 2, 3, 4, 7, 8, 9]⟩,
    ⟨(some 10), 10, (.mv (.t 38)), none, [5, 10, 0, 1, 2, 3, 4, 5, 7, 8, 9, 10]⟩,
    ⟨(some 11), 11, (.mv (.t 39)), none, [6, 11, 0, 1, 2, 3, 4, 5, 6, 7, 8, 9, 10, 11]⟩])
  (.seq (.reg [⟨(some 40), 40, (.mv (.t 2)), none, []⟩,
    ⟨(some 41), 41, (.bin false .eql (.t 40) (.k (.c (.s (.pv (.int .i64 0)))))), none, [0]⟩,
    ⟨(some 42), 42, (.mv (.t 41)), none, [1]⟩,
    ⟨(some 43), 43, (.mv (.t 3)), (some (42, true)), [2]⟩,
    ⟨(some 44), 44, (.bin false .eql (.t 43) (.k (.c (.s (.pv (.int .i64 0)))))), (some (42, true)), [3, 2]⟩,
    ⟨(some 45), 45, (.pick (.t 42) (.t 44) (.k (.c (.s (.pv (.bool false)))))), none, [2, 4]⟩,
    ⟨(some 46), 46, (.mv (.t 45)), none, [5, 2]⟩,
    ⟨(some 47), 47, (.fld 8 (.t 1)), (some (46, true)), [6]⟩,
    ⟨(some 48), 48, (.load false 1 (.t 47)), (some (46, true)), [7, 6]⟩,
    ⟨(some 49), 49, (.len (.t 48)), (some (46, true)), [8, 6]⟩,
    ⟨(some 50), 50, (.bin false .eql (.t 49) (.k (.c (.s (.pv (.int .i64 1)))))), (some (46, true)), [9, 6]⟩,
    ⟨(some 51), 51, (.pick (.t 46) (.t 50) (.k (.c (.s (.pv (.bool false)))))), none, [6, 10]⟩,
    ⟨(some 52), 52, (.mv (.t 51)), none, [11, 6]⟩,
    ⟨(some 53), 53, (.mv (.t 7)), (some (52, true)), [12]⟩,
    ⟨(some 54), 54, (.not (.t 53)), (some (52, true)), [13, 12]⟩,
    ⟨(some 55), 55, (.pick (.t 52) (.t 54) (.k (.c (.s (.pv (.bool false)))))), none, [12, 14]⟩,
    ⟨(some 56), 56, (.mv (.t 55)), none, [15, 12]⟩,
    ⟨(some 57), 57, (.fld 8 (.t 4)), (some (56, true)), [16]⟩,
    ⟨(some 58), 58, (.load false 1 (.t 57)), (some (56, true)), [17, 16]⟩,
    ⟨(some 59), 59, (.len (.t 58)), (some (56, true)), [18, 16]⟩,
    ⟨(some 60), 60, (.bin false .eql (.t 59) (.k (.c (.s (.pv (.int .i64 1)))))), (some (56, true)), [19, 16]⟩,
    ⟨(some 61), 61, (.pick (.t 56) (.t 60) (.k (.c (.s (.pv (.bool false)))))), none, [16, 20]⟩,
    ⟨(some 62), 62, (.mv (.t 61)), none, [21, 16]⟩,
    ⟨(some 63), 63, (.fld 0 (.t 9)), (some (62, true)), [22]⟩,
    ⟨(some 64), 64, (.load false 1 (.t 63)), (some (62, true)), [23, 22]⟩,
    ⟨(some 65), 65, (.bin false .eql (.t 64) (.k (.c (.s (.pv (.int .i64 1)))))), (some (62, true)), [24, 22]⟩,
    ⟨(some 66), 66, (.pick (.t 62) (.t 65) (.k (.c (.s (.pv (.bool false)))))), none, [22, 25]⟩,
    ⟨(some 67), 67, (.mv (.t 66)), none, [26, 22]⟩,
    ⟨(some 68), 68, (.fld 4 (.t 9)), (some (67, true)), [27]⟩,
    ⟨(some 69), 69, (.load false 1 (.t 68)), (some (67, true)), [28, 27]⟩,
    ⟨(some 70), 70, (.bin false .eql (.t 69) (.k (.c (.s (.pv (.int .i64 2)))))), (some (67, true)), [29, 27]⟩,
    ⟨(some 71), 71, (.pick (.t 67) (.t 70) (.k (.c (.s (.pv (.bool false)))))), none, [27, 30]⟩,
    ⟨(some 72), 72, (.mv (.t 71)), none, [31, 27]⟩,
    ⟨(some 73), 73, (.fld 3 (.t 9)), (some (72, true)), [32]⟩,
    ⟨(some 74), 74, (.load false 1 (.t 73)), (some (72, true)), [33, 32]⟩,
    ⟨(some 75), 75, (.slen (.t 74)), (some (72, true)), [34, 32]⟩,
    ⟨(some 76), 76, (.bin false .eql (.t 75) (.k (.c (.s (.pv (.int .i64 32)))))), (some (72, true)), [35, 32]⟩,
    ⟨(some 77), 77, (.pick (.t 72) (.t 76) (.k (.c (.s (.pv (.bool false)))))), none, [32, 36]⟩,
    ⟨(some 78), 78, (.mv (.t 77)), none, [37, 32]⟩,
    ⟨(some 79), 79, (.mv (.t 10)), (some (78, true)), [38]⟩,
    ⟨(some 80), 80, (.bin false .eql (.t 79) (.k (.c (.s (.pv (.int .i64 0)))))), (some (78, true)), [39, 38]⟩,
    ⟨(some 81), 81, (.pick (.t 78) (.t 80) (.k (.c (.s (.pv (.bool false)))))), none, [38, 40]⟩,
    ⟨(some 82), 82, (.mv (.t 81)), none, [41, 38]⟩,
    ⟨(some 83), 83, (.mv (.t 11)), (some (82, true)), [42]⟩,
    ⟨(some 84), 84, (.pick (.t 82) (.t 83) (.k (.c (.s (.pv (.bool false)))))), none, [42, 43]⟩,
    ⟨(some 85), 85, (.mv (.t 84)), none, [44, 42]⟩,
    ⟨(some 86), 86, (.load true 9 (.t 1)), (some (85, true)), [45]⟩,
    ⟨(some 87), 87, (.call 37 [(.t 86)]), (some (85, true)), [46, 45, 45]⟩,
    ⟨(some 88), 88, (.pick (.t 85) (.t 87) (.k (.c (.s (.pv (.bool false)))))), none, [45, 47]⟩,
    ⟨(some 0), 0, (.mv (.t 88)), none, [48, 47, 0, 1, 2, 3, 4, 5, 6, 7, 8, 9, 10, 11, 12, 13, 14, 15, 16, 17, 18, 19, 20, 21, 22, 23, 24, 25, 26, 27, 28, 29, 30, 31, 32, 33, 34, 35, 36, 37, 38, 39, 40, 41, 42, 43, 44, 45, 46, 47, 48]⟩])
  .ret)))))))
theorem fn24 : FnIs Try.prog 24 ac24 [(.t 0)] 89 := ⟨Try.f24, Try.func24, by kernel_rfl, by kernel_rfl, by kernel_rfl⟩
/- lockkeeper/sched.New -/
def ac25 : ACode := (.seq (.reg [⟨(some 2), 2, (.box 65 4 (.t 0)), none, []⟩,
    ⟨(some 4), 4, (.mk 68 9 [[.zc, (.s (.pv (.int .i64 0))), (.s (.pv (.bool false))), .zc, .zc, .zc, (.s (.pv (.int .i64 0))), .zc, .zc]]), none, []⟩,
    ⟨(some 5), 5, (.mv (.k (.c (.s (.pv (.int .i64 0)))))), none, []⟩])
  (.seq (.seq (.reg [⟨(some 8), 8, (.load true 4 (.t 2)), none, []⟩,
    ⟨(some 9), 9, (.call 46 [(.t 8)]), none, [0]⟩,
    ⟨(some 10), 10, (.not (.t 9)), none, [1]⟩,
    ⟨(some 11), 11, (.mv (.t 10)), none, [2, 1]⟩,
    ⟨(some 12), 12, (.fld 3 (.t 2)), (some (11, false)), [3]⟩,
    ⟨(some 13), 13, (.load false 1 (.t 12)), (some (11, false)), [4, 3]⟩,
    ⟨(some 14), 14, (.len (.t 13)), (some (11, false)), [5, 3]⟩,
    ⟨(some 15), 15, (.bin false .gtr (.t 14) (.k (.c (.s (.pv (.int .i64 0)))))), (some (11, false)), [6, 3]⟩,
    ⟨(some 16), 16, (.pick (.t 11) (.k (.c (.s (.pv (.bool true))))) (.t 15)), none, [3, 7]⟩])
  (.cond (.t 16) (.seq (.reg [⟨(some 17), 17, (.build [.zc, (.s (.pv (.int .i64 0))), (.s (.pv (.bool false))), .zc, .zc, .zc, (.s (.pv (.int .i64 0))), .zc, .zc] []), none, []⟩,
    ⟨none, 34, (.store 9 (.t 4) (.t 17)), none, [0, 0]⟩,
    ⟨(some 5), 5, (.mv (.k (.c (.s (.pv (.int .i64 1)))))), none, [1, 0, 1]⟩])
  .ret) .skip))
  (.seq (.reg [⟨(some 19), 19, (.mv (.t 1)), none, []⟩,
    ⟨(some 20), 20, (.call 17 [(.t 19)]), none, [0]⟩,
    ⟨(some 18), 18, (.mv (.t 20)), none, [1]⟩,
    ⟨(some 21), 21, (.ext 0 (.t 18)), none, [2]⟩,
    ⟨(some 22), 22, (.ext 1 (.t 18)), none, [2]⟩,
    ⟨(some 6), 6, (.mk 25 3 [[.zc, (.s (.pv (.int .i64 0))), (.s (.pv (.bool false)))]]), none, []⟩,
    ⟨none, 39, (.store 3 (.t 6) (.t 21)), none, [5, 3, 1, 0, 1, 2, 3, 5]⟩,
    ⟨(some 7), 7, (.mv (.t 22)), none, [4, 6, 0, 1, 2, 3, 4, 5, 6]⟩])
  (.seq (.seq (.reg [⟨(some 23), 23, (.mv (.t 7)), none, []⟩,
    ⟨(some 24), 24, (.bin false .neq (.t 23) (.k (.c (.s (.pv (.int .i64 0)))))), none, [0]⟩])
  (.cond (.t 24) (.seq (.reg [⟨(some 25), 25, (.build [.zc, (.s (.pv (.int .i64 0))), (.s (.pv (.bool false))), .zc, .zc, .zc, (.s (.pv (.int .i64 0))), .zc, .zc] []), none, []⟩,
    ⟨(some 26), 26, (.mv (.t 7)), none, []⟩,
    ⟨none, 35, (.store 9 (.t 4) (.t 25)), none, [0, 0]⟩,
    ⟨(some 5), 5, (.mv (.t 26)), none, [1, 2, 0, 1, 2]⟩])
  .ret) .skip))
  (.seq (.draw [⟨(some 27), 27, (.load true 3 (.t 6)), none, []⟩,
    ⟨(some 28), 28, (.mv (.t 1)), none, []⟩,
    ⟨(some 29), 29, (.len (.t 28)), none, [1]⟩,
    ⟨(some 30), 30, (.mkSlice 66 1 24 [(.sl 1 [])] (.t 29) (.t 29)), none, [2, 2]⟩,
    ⟨(some 31), 31, (.load true 4 (.t 2)), none, []⟩,
    ⟨(some 32), 32, (.build [.zc, (.s (.pv (.int .i64 0))), (.s (.pv (.bool false))), .zc, .zc, .zc, (.s (.pv (.int .i64 0))), .zc, .zc] [(0, 3, (.t 27)), (3, 1, (.t 30)), (4, 4, (.t 31))]), none, [0, 3, 4]⟩,
    ⟨none, 39, (.store 9 (.t 4) (.t 32)), none, [5, 0, 1, 2, 3, 4, 5]⟩,
    ⟨(some 5), 5, (.mv (.k (.c (.s (.pv (.int .i64 0)))))), none, [6, 0, 1, 2, 3, 4, 5, 6]⟩])
  .ret)))))
theorem fn25 : FnIs Try.prog 25 ac25 [(.cell 4 true 9), (.t 5)] 33 := ⟨Try.f25, Try.func25, by kernel_rfl, by kernel_rfl, by kernel_rfl⟩
/- lockkeeper/sched.Ask -/
def ac27 : ACode := (.seq (.reg [⟨(some 2), 2, (.box 68 9 (.t 0)), none, []⟩,
    ⟨(some 3), 3, (.box 80 5 (.t 1)), none, []⟩,
    ⟨(some 4), 4, (.mk 68 9 [[.zc, (.s (.pv (.int .i64 0))), (.s (.pv (.bool false))), .zc, .zc, .zc, (.s (.pv (.int .i64 0))), .zc, .zc]]), none, []⟩,
    ⟨(some 5), 5, (.mv (.k (.c (.s (.pv (.int .i64 0)))))), none, []⟩])
  (.seq (.seq (.reg [⟨(some 8), 8, (.load true 9 (.t 2)), none, []⟩,
    ⟨(some 9), 9, (.call 37 [(.t 8)]), none, [0]⟩,
    ⟨(some 10), 10, (.not (.t 9)), none, [1]⟩,
    ⟨(some 11), 11, (.mv (.t 10)), none, [2, 1]⟩,
    ⟨(some 12), 12, (.load true 9 (.t 2)), (some (11, false)), [3]⟩,
    ⟨(some 13), 13, (.fld 0 (.t 3)), (some (11, false)), [3]⟩,
    ⟨(some 14), 14, (.load false 1 (.t 13)), (some (11, false)), [5, 3]⟩,
    ⟨(some 15), 15, (.call 48 [(.t 12), (.t 14)]), (some (11, false)), [4, 6, 3, 3]⟩,
    ⟨(some 16), 16, (.not (.t 15)), (some (11, false)), [7, 3]⟩,
    ⟨(some 17), 17, (.pick (.t 11) (.k (.c (.s (.pv (.bool true))))) (.t 16)), none, [3, 8]⟩,
    ⟨(some 18), 18, (.mv (.t 17)), none, [9, 7]⟩,
    ⟨(some 19), 19, (.fld 4 (.t 2)), (some (18, false)), [10]⟩,
    ⟨(some 20), 20, (.load true 4 (.t 19)), (some (18, false)), [11, 10]⟩,
    ⟨(some 21), 21, (.load true 5 (.t 3)), (some (18, false)), [10]⟩,
    ⟨(some 22), 22, (.call 49 [(.t 20), (.t 21)]), (some (18, false)), [12, 13, 10, 10]⟩,
    ⟨(some 23), 23, (.not (.t 22)), (some (18, false)), [14, 10]⟩,
    ⟨(some 24), 24, (.pick (.t 18) (.k (.c (.s (.pv (.bool true))))) (.t 23)), none, [10, 15]⟩])
  (.cond (.t 24) (.seq (.reg [⟨(some 25), 25, (.load true 9 (.t 2)), none, []⟩,
    ⟨none, 64, (.store 9 (.t 4) (.t 25)), none, [0, 0]⟩,
    ⟨(some 5), 5, (.mv (.k (.c (.s (.pv (.int .i64 1)))))), none, [1, 0, 1]⟩])
  .ret) .skip))
  (.seq (.draw [⟨(some 27), 27, (.fld 0 (.t 2)), none, []⟩,
    ⟨(some 28), 28, (.load true 3 (.t 27)), none, [0]⟩,
    ⟨(some 29), 29, (.fld 0 (.t 3)), none, []⟩,
    ⟨(some 30), 30, (.load false 1 (.t 29)), none, [2]⟩,
    ⟨(some 31), 31, (.fld 1 (.t 3)), none, []⟩,
    ⟨(some 32), 32, (.load false 1 (.t 31)), none, [4]⟩,
    ⟨(some 33), 33, (.call 50 [(.t 32)]), none, [5]⟩,
    ⟨(some 34), 34, (.call 20 [(.t 28), (.t 30), (.t 33)]), none, [1, 3, 6, 6]⟩,
    ⟨(some 26), 26, (.mv (.t 34)), none, [7]⟩,
    ⟨(some 35), 35, (.ext 0 (.t 26)), none, [8]⟩,
    ⟨(some 36), 36, (.ext 1 (.t 26)), none, [8]⟩,
    ⟨(some 6), 6, (.mk 25 3 [[.zc, (.s (.pv (.int .i64 0))), (.s (.pv (.bool false)))]]), none, []⟩,
    ⟨none, 75, (.store 3 (.t 6) (.t 35)), none, [11, 9, 7, 0, 1, 2, 3, 4, 5, 6, 7, 8, 9, 11]⟩,
    ⟨(some 7), 7, (.mv (.t 36)), none, [10, 12, 0, 1, 2, 3, 4, 5, 6, 7, 8, 9, 10, 11, 12]⟩])
  (.seq (.seq (.reg [⟨(some 37), 37, (.mv (.t 7)), none, []⟩,
    ⟨(some 38), 38, (.bin false .neq (.t 37) (.k (.c (.s (.pv (.int .i64 0)))))), none, [0]⟩])
  (.cond (.t 38) (.seq (.reg [⟨(some 39), 39, (.load true 9 (.t 2)), none, []⟩,
    ⟨(some 40), 40, (.mv (.t 7)), none, []⟩,
    ⟨none, 65, (.store 9 (.t 4) (.t 39)), none, [0, 0]⟩,
    ⟨(some 5), 5, (.mv (.t 40)), none, [1, 2, 0, 1, 2]⟩])
  .ret) .skip))
  (.seq (.reg [⟨(some 41), 41, (.load true 3 (.t 6)), none, []⟩,
    ⟨(some 42), 42, (.fld 0 (.t 2)), none, [0]⟩,
    ⟨none, 65, (.store 3 (.t 42) (.t 41)), none, [1, 0, 0]⟩])
  (.seq (.reg [⟨(some 43), 43, (.fld 3 (.t 2)), none, []⟩,
    ⟨(some 44), 44, (.load false 1 (.t 43)), none, [0]⟩,
    ⟨(some 45), 45, (.call 51 [(.t 44)]), none, [1]⟩,
    ⟨(some 46), 46, (.fld 3 (.t 2)), none, [0, 1, 2]⟩,
    ⟨none, 67, (.store 1 (.t 46) (.t 45)), none, [3, 2, 2, 0, 1, 2]⟩])
  (.seq (.draw [⟨(some 47), 47, (.fld 3 (.t 2)), none, []⟩,
    ⟨(some 48), 48, (.load false 1 (.t 47)), none, [0]⟩,
    ⟨(some 49), 49, (.fld 0 (.t 3)), none, []⟩,
    ⟨(some 50), 50, (.load false 1 (.t 49)), none, [2]⟩,
    ⟨(some 51), 51, (.fld 3 (.t 2)), none, []⟩,
    ⟨(some 52), 52, (.load false 1 (.t 51)), none, [4]⟩,
    ⟨(some 53), 53, (.fld 0 (.t 3)), none, []⟩,
    ⟨(some 54), 54, (.load false 1 (.t 53)), none, [6]⟩,
    ⟨(some 55), 55, (.idx 1 (.t 52) (.t 54)), none, [5, 7]⟩,
    ⟨(some 56), 56, (.load false 1 (.t 55)), none, [8]⟩,
    ⟨(some 57), 57, (.call 52 [(.t 56)]), none, [9]⟩,
    ⟨(some 58), 58, (.load true 5 (.t 3)), none, []⟩,
    ⟨(some 59), 59, (.bslice 80 5 [(.s (.pv (.int .i64 0))), (.s (.pv (.int .i64 0))), (.s (.pv (.int .i64 0))), (.s (.pv (.string ⟨#[]⟩))), (.s (.pv (.int .i64 0)))] 1 [(0, 5, (.t 58))]), none, [11]⟩,
    ⟨(some 60), 60, (.app 80 5 48 (.t 57) (.t 59)), none, [10, 12, 10]⟩,
    ⟨(some 61), 61, (.idx 1 (.t 48) (.t 50)), none, [1, 3, 0, 1, 2, 3, 4, 5, 6, 7, 8, 9, 10, 11, 12, 13]⟩,
    ⟨none, 78, (.store 1 (.t 61) (.t 60)), none, [14, 13, 13, 0, 1, 2, 3, 4, 5, 6, 7, 8, 9, 10, 11, 12, 13]⟩])
  (.seq (.reg [⟨(some 62), 62, (.load true 9 (.t 2)), none, []⟩,
    ⟨none, 64, (.store 9 (.t 4) (.t 62)), none, [0, 0]⟩,
    ⟨(some 5), 5, (.mv (.k (.c (.s (.pv (.int .i64 0)))))), none, [1, 0, 1]⟩])
  .ret))))))))
theorem fn27 : FnIs Try.prog 27 ac27 [(.cell 4 true 9), (.t 5)] 63 := ⟨Try.f27, Try.func27, by kernel_rfl, by kernel_rfl, by kernel_rfl⟩
/- lockkeeper/lockkeeperref06.Ask -/
def ac28 : ACode := (.seq (.reg [⟨(some 2), 2, (.box 78 9 (.t 0)), none, []⟩,
    ⟨(some 3), 3, (.box 86 5 (.t 1)), none, []⟩,
    ⟨(some 4), 4, (.mk 78 9 [[.zc, (.s (.pv (.int .i64 0))), (.s (.pv (.bool false))), .zc, .zc, .zc, (.s (.pv (.int .i64 0))), .zc, .zc]]), none, []⟩,
    ⟨(some 5), 5, (.mv (.k (.c (.s (.pv (.int .i64 0)))))), none, []⟩])
  (.seq (.seq (.reg [⟨(some 11), 11, (.load true 9 (.t 2)), none, []⟩,
    ⟨(some 12), 12, (.call 53 [(.t 11)]), none, [0]⟩,
    ⟨(some 13), 13, (.not (.t 12)), none, [1]⟩,
    ⟨(some 14), 14, (.mv (.t 13)), none, [2, 1]⟩,
    ⟨(some 15), 15, (.fld 4 (.t 3)), (some (14, false)), [3]⟩,
    ⟨(some 16), 16, (.load false 1 (.t 15)), (some (14, false)), [4, 3]⟩,
    ⟨(some 17), 17, (.bin false .neq (.t 16) (.k (.c (.s (.pv (.int .i64 0)))))), (some (14, false)), [5, 3]⟩,
    ⟨(some 18), 18, (.pick (.t 14) (.k (.c (.s (.pv (.bool true))))) (.t 17)), none, [3, 6]⟩,
    ⟨(some 19), 19, (.mv (.t 18)), none, [7, 3]⟩,
    ⟨(some 20), 20, (.fld 0 (.t 3)), (some (19, false)), [8]⟩,
    ⟨(some 21), 21, (.load false 1 (.t 20)), (some (19, false)), [9, 8]⟩,
    ⟨(some 22), 22, (.bin false .lss (.t 21) (.k (.c (.s (.pv (.int .i64 0)))))), (some (19, false)), [10, 8]⟩,
    ⟨(some 23), 23, (.pick (.t 19) (.k (.c (.s (.pv (.bool true))))) (.t 22)), none, [8, 11]⟩,
    ⟨(some 24), 24, (.mv (.t 23)), none, [12, 8]⟩,
    ⟨(some 25), 25, (.fld 0 (.t 3)), (some (24, false)), [13]⟩,
    ⟨(some 26), 26, (.load false 1 (.t 25)), (some (24, false)), [14, 13]⟩,
    ⟨(some 27), 27, (.fld 3 (.t 2)), (some (24, false)), [13]⟩,
    ⟨(some 28), 28, (.load false 1 (.t 27)), (some (24, false)), [16, 13]⟩,
    ⟨(some 29), 29, (.len (.t 28)), (some (24, false)), [17, 13]⟩,
    ⟨(some 30), 30, (.bin false .geq (.t 26) (.t 29)), (some (24, false)), [15, 18, 13]⟩,
    ⟨(some 31), 31, (.pick (.t 24) (.k (.c (.s (.pv (.bool true))))) (.t 30)), none, [13, 19]⟩,
    ⟨(some 32), 32, (.mv (.t 31)), none, [20, 13]⟩,
    ⟨(some 33), 33, (.fld 1 (.t 3)), (some (32, false)), [21]⟩,
    ⟨(some 34), 34, (.load false 1 (.t 33)), (some (32, false)), [22, 21]⟩,
    ⟨(some 35), 35, (.fld 2 (.t 3)), (some (32, false)), [21]⟩,
    ⟨(some 36), 36, (.load false 1 (.t 35)), (some (32, false)), [24, 21]⟩,
    ⟨(some 37), 37, (.fld 3 (.t 3)), (some (32, false)), [21]⟩,
    ⟨(some 38), 38, (.load false 1 (.t 37)), (some (32, false)), [26, 21]⟩,
    ⟨(some 39), 39, (.call 54 [(.t 34), (.t 36), (.t 38)]), (some (32, false)), [23, 25, 27, 21, 21]⟩,
    ⟨(some 40), 40, (.not (.t 39)), (some (32, false)), [28, 21]⟩,
    ⟨(some 41), 41, (.pick (.t 32) (.k (.c (.s (.pv (.bool true))))) (.t 40)), none, [21, 29]⟩])
  (.cond (.t 41) (.seq (.reg [⟨(some 42), 42, (.load true 9 (.t 2)), none, []⟩,
    ⟨none, 119, (.store 9 (.t 4) (.t 42)), none, [0, 0]⟩,
    ⟨(some 5), 5, (.mv (.k (.c (.s (.pv (.int .i64 1)))))), none, [1, 0, 1]⟩])
  .ret) .skip))
  (.seq (.seq (.reg [⟨(some 43), 43, (.fld 3 (.t 2)), none, []⟩,
    ⟨(some 44), 44, (.load false 1 (.t 43)), none, [0]⟩,
    ⟨(some 45), 45, (.fld 0 (.t 3)), none, []⟩,
    ⟨(some 46), 46, (.load false 1 (.t 45)), none, [2]⟩,
    ⟨(some 47), 47, (.idx 1 (.t 44) (.t 46)), none, [1, 3]⟩,
    ⟨(some 48), 48, (.load false 1 (.t 47)), none, [4]⟩,
    ⟨(some 49), 49, (.len (.t 48)), none, [5]⟩,
    ⟨(some 50), 50, (.bin false .eql (.t 49) (.k (.c (.s (.pv (.int .i64 200)))))), none, [6]⟩])
  (.cond (.t 50) (.seq (.reg [⟨(some 51), 51, (.load true 9 (.t 2)), none, []⟩,
    ⟨none, 119, (.store 9 (.t 4) (.t 51)), none, [0, 0]⟩,
    ⟨(some 5), 5, (.mv (.k (.c (.s (.pv (.int .i64 7)))))), none, [1, 0, 1]⟩])
  .ret) .skip))
  (.seq (.reg [⟨(some 52), 52, (.fld 4 (.t 2)), none, []⟩,
    ⟨(some 53), 53, (.load true 4 (.t 52)), none, [0]⟩,
    ⟨(some 54), 54, (.fld 8 (.t 2)), none, []⟩,
    ⟨(some 55), 55, (.load false 1 (.t 54)), none, [2]⟩,
    ⟨(some 56), 56, (.build [.zc, (.s (.pv (.int .i64 0))), (.s (.pv (.bool false))), .zc, .zc, .zc, (.s (.pv (.int .i64 0))), .zc, .zc] [(4, 4, (.t 53)), (8, 1, (.t 55))]), none, [1, 3]⟩,
    ⟨(some 6), 6, (.mk 78 9 [[.zc, (.s (.pv (.int .i64 0))), (.s (.pv (.bool false))), .zc, .zc, .zc, (.s (.pv (.int .i64 0))), .zc, .zc]]), none, []⟩,
    ⟨none, 124, (.store 9 (.t 6) (.t 56)), none, [5, 4, 0, 1, 2, 3, 4, 5]⟩])
  (.seq (.draw [⟨(some 57), 57, (.fld 0 (.t 2)), none, []⟩,
    ⟨(some 58), 58, (.fld 1 (.t 57)), none, [0]⟩,
    ⟨(some 59), 59, (.load false 1 (.t 58)), none, [1]⟩,
    ⟨(some 60), 60, (.fld 0 (.t 2)), none, []⟩,
    ⟨(some 61), 61, (.fld 2 (.t 60)), none, [3]⟩,
    ⟨(some 62), 62, (.load false 1 (.t 61)), none, [4]⟩,
    ⟨(some 63), 63, (.fld 0 (.t 6)), none, [0, 1, 2]⟩,
    ⟨(some 64), 64, (.fld 1 (.t 63)), none, [6, 0, 1, 2]⟩,
    ⟨none, 126, (.store 1 (.t 64) (.t 59)), none, [7, 2, 0, 1, 2]⟩,
    ⟨(some 65), 65, (.fld 0 (.t 6)), none, [0, 1, 2, 3, 4, 5, 6, 7, 8]⟩,
    ⟨(some 66), 66, (.fld 2 (.t 65)), none, [9, 0, 1, 2, 3, 4, 5, 6, 7, 8]⟩,
    ⟨none, 129, (.store 1 (.t 66) (.t 62)), none, [10, 5, 8, 0, 1, 2, 3, 4, 5, 6, 7, 8]⟩])
  (.seq (.seq (.reg [⟨(some 7), 7, (.mv (.k (.c (.s (.pv (.int .i64 0)))))), none, []⟩])
  (.block 0 (.loop (.seq (.seq (.reg [⟨(some 67), 67, (.mv (.t 7)), none, []⟩,
    ⟨(some 68), 68, (.fld 3 (.t 2)), none, []⟩,
    ⟨(some 69), 69, (.load false 1 (.t 68)), none, [1]⟩,
    ⟨(some 70), 70, (.len (.t 69)), none, [2]⟩,
    ⟨(some 71), 71, (.bin false .lss (.t 67) (.t 70)), none, [0, 3]⟩])
  (.cond (.t 71) .skip (.exit 0)))
  (.seq (.block 1 (.seq (.reg [⟨(some 74), 74, (.fld 0 (.t 2)), none, []⟩,
    ⟨(some 75), 75, (.fld 0 (.t 74)), none, [0]⟩,
    ⟨(some 76), 76, (.load false 1 (.t 75)), none, [1]⟩,
    ⟨(some 77), 77, (.mv (.t 7)), none, []⟩,
    ⟨(some 78), 78, (.idx 3 (.t 76) (.t 77)), none, [2, 3]⟩,
    ⟨(some 79), 79, (.load true 3 (.t 78)), none, [4]⟩,
    ⟨(some 8), 8, (.mk 36 3 [[(.s (.pv (.int .i64 0))), (.s (.pv (.int .i64 0))), .zc]]), none, []⟩,
    ⟨none, 125, (.store 3 (.t 8) (.t 79)), none, [6, 5, 0, 1, 2, 3, 4, 5, 6]⟩])
  (.seq (.reg [⟨(some 80), 80, (.fld 3 (.t 2)), none, []⟩,
    ⟨(some 81), 81, (.load false 1 (.t 80)), none, [0]⟩,
    ⟨(some 82), 82, (.mv (.t 7)), none, []⟩,
    ⟨(some 83), 83, (.idx 1 (.t 81) (.t 82)), none, [1, 2]⟩,
    ⟨(some 84), 84, (.load false 1 (.t 83)), none, [3]⟩,
    ⟨(some 9), 9, (.mv (.t 84)), none, [4, 0, 1, 2, 3, 4]⟩])
  (.seq (.seq (.reg [⟨(some 85), 85, (.mv (.t 7)), none, []⟩,
    ⟨(some 86), 86, (.fld 0 (.t 3)), none, []⟩,
    ⟨(some 87), 87, (.load false 1 (.t 86)), none, [1]⟩,
    ⟨(some 88), 88, (.bin false .eql (.t 85) (.t 87)), none, [0, 2]⟩])
  (.cond (.t 88) (.seq (.reg [⟨(some 10), 10, (.mv (.k (.c .zc))), none, []⟩])
  (.seq (.reg [⟨(some 89), 89, (.mv (.t 10)), none, []⟩,
    ⟨(some 90), 90, (.fld 2 (.t 8)), none, []⟩,
    ⟨(some 91), 91, (.load false 1 (.t 90)), none, [1]⟩,
    ⟨(some 92), 92, (.app 3 1 8 (.t 89) (.t 91)), none, [0, 2]⟩,
    ⟨(some 10), 10, (.mv (.t 92)), none, [3, 3, 0, 1, 2, 3]⟩])
  (.seq (.reg [⟨(some 93), 93, (.mv (.t 10)), none, []⟩,
    ⟨(some 94), 94, (.fld 1 (.t 3)), none, []⟩,
    ⟨(some 95), 95, (.load false 1 (.t 94)), none, [1]⟩,
    ⟨(some 96), 96, (.call 55 [(.t 95)]), none, [2]⟩,
    ⟨(some 97), 97, (.bslice 3 1 [(.s (.pv (.int .i64 0)))] 1 [(0, 1, (.t 96))]), none, [3]⟩,
    ⟨(some 98), 98, (.app 3 1 8 (.t 93) (.t 97)), none, [0, 4, 3]⟩,
    ⟨(some 99), 99, (.fld 2 (.t 8)), none, [0, 1, 2, 3, 4, 5]⟩,
    ⟨none, 125, (.store 1 (.t 99) (.t 98)), none, [6, 5, 5, 0, 1, 2, 3, 4, 5]⟩])
  (.reg [⟨(some 100), 100, (.mv (.t 9)), none, []⟩,
    ⟨(some 101), 101, (.load true 5 (.t 3)), none, []⟩,
    ⟨(some 102), 102, (.call 56 [(.t 100), (.t 101)]), none, [0, 1]⟩,
    ⟨(some 9), 9, (.mv (.t 102)), none, [2, 2, 0, 1, 2]⟩])))) .skip))
  (.seq (.reg [⟨(some 103), 103, (.fld 0 (.t 6)), none, []⟩,
    ⟨(some 104), 104, (.fld 0 (.t 103)), none, [0]⟩,
    ⟨(some 105), 105, (.load false 1 (.t 104)), none, [1]⟩,
    ⟨(some 106), 106, (.load true 3 (.t 8)), none, []⟩,
    ⟨(some 107), 107, (.bslice 36 3 [(.s (.pv (.int .i64 0))), (.s (.pv (.int .i64 0))), .zc] 1 [(0, 3, (.t 106))]), none, [3]⟩,
    ⟨(some 108), 108, (.app 36 3 40 (.t 105) (.t 107)), none, [2, 4]⟩,
    ⟨(some 109), 109, (.fld 0 (.t 6)), none, [0, 1, 2, 3, 4, 5]⟩,
    ⟨(some 110), 110, (.fld 0 (.t 109)), none, [6, 0, 1, 2, 3, 4, 5]⟩,
    ⟨none, 126, (.store 1 (.t 110) (.t 108)), none, [7, 5, 5, 0, 1, 2, 3, 4, 5]⟩])
  (.reg [⟨(some 111), 111, (.fld 3 (.t 6)), none, []⟩,
    ⟨(some 112), 112, (.load false 1 (.t 111)), none, [0]⟩,
    ⟨(some 113), 113, (.mv (.t 9)), none, []⟩,
    ⟨(some 114), 114, (.bslice 76 1 [.zc] 1 [(0, 1, (.t 113))]), none, [2]⟩,
    ⟨(some 115), 115, (.app 76 1 24 (.t 112) (.t 114)), none, [1, 3]⟩,
    ⟨(some 116), 116, (.fld 3 (.t 6)), none, [0, 1, 2, 3, 4]⟩,
    ⟨none, 124, (.store 1 (.t 116) (.t 115)), none, [5, 4, 4, 0, 1, 2, 3, 4]⟩]))))))
  (.reg [⟨(some 72), 72, (.mv (.t 7)), none, []⟩,
    ⟨(some 73), 73, (.bin false .add (.t 72) (.k (.c (.s (.pv (.int .i64 1)))))), none, [0]⟩,
    ⟨(some 7), 7, (.mv (.t 73)), none, [1, 0, 1]⟩]))))))
  (.seq (.reg [⟨(some 117), 117, (.load true 9 (.t 6)), none, []⟩,
    ⟨none, 119, (.store 9 (.t 4) (.t 117)), none, [0, 0]⟩,
    ⟨(some 5), 5, (.mv (.k (.c (.s (.pv (.int .i64 0)))))), none, [1, 0, 1]⟩])
  .ret)))))))
theorem fn28 : FnIs Try.prog 28 ac28 [(.cell 4 true 9), (.t 5)] 118 := ⟨Try.f28, Try.func28, by kernel_rfl, by kernel_rfl, by kernel_rfl⟩
/- lockkeeper/sched.Pump -/
def ac29 : ACode := (.seq (.reg [⟨(some 1), 1, (.box 68 9 (.t 0)), none, []⟩,
    ⟨(some 2), 2, (.mk 68 9 [[.zc, (.s (.pv (.int .i64 0))), (.s (.pv (.bool false))), .zc, .zc, .zc, (.s (.pv (.int .i64 0))), .zc, .zc]]), none, []⟩])
  (.seq (.seq (.reg [⟨(some 8), 8, (.load true 9 (.t 1)), none, []⟩,
    ⟨(some 9), 9, (.call 37 [(.t 8)]), none, [0]⟩,
    ⟨(some 10), 10, (.not (.t 9)), none, [1]⟩])
  (.cond (.t 10) (.seq (.reg [⟨(some 11), 11, (.load true 9 (.t 1)), none, []⟩,
    ⟨none, 62, (.store 9 (.t 2) (.t 11)), none, [0, 0]⟩])
  .ret) .skip))
  (.seq (.reg [⟨(some 12), 12, (.fld 3 (.t 1)), none, []⟩,
    ⟨(some 13), 13, (.load false 1 (.t 12)), none, [0]⟩,
    ⟨(some 14), 14, (.call 51 [(.t 13)]), none, [1]⟩,
    ⟨(some 15), 15, (.fld 3 (.t 1)), none, [0, 1, 2]⟩,
    ⟨none, 65, (.store 1 (.t 15) (.t 14)), none, [3, 2, 2, 0, 1, 2]⟩])
  (.seq (.block 0 (.loop (.seq (.seq (.reg [⟨(some 16), 16, (.fld 4 (.t 1)), none, []⟩,
    ⟨(some 17), 17, (.fld 3 (.t 16)), none, [0]⟩,
    ⟨(some 18), 18, (.load false 1 (.t 17)), none, [1]⟩,
    ⟨(some 19), 19, (.len (.t 18)), none, [2]⟩,
    ⟨(some 20), 20, (.bin false .lss (.t 19) (.k (.c (.s (.pv (.int .i64 4)))))), none, [3]⟩,
    ⟨(some 21), 21, (.mv (.t 20)), none, [4]⟩,
    ⟨(some 22), 22, (.fld 4 (.t 1)), (some (21, true)), [5]⟩,
    ⟨(some 23), 23, (.fld 2 (.t 22)), (some (21, true)), [6, 5]⟩,
    ⟨(some 24), 24, (.load false 1 (.t 23)), (some (21, true)), [7, 5]⟩,
    ⟨(some 25), 25, (.bin false .lss (.t 24) (.k (.c (.s (.pv (.int .i64 2147483647)))))), (some (21, true)), [8, 5]⟩,
    ⟨(some 26), 26, (.pick (.t 21) (.t 25) (.k (.c (.s (.pv (.bool false)))))), none, [5, 9]⟩])
  (.cond (.t 26) .skip (.exit 0)))
  (.block 1 (.seq (.reg [⟨(some 28), 28, (.fld 0 (.t 1)), none, []⟩,
    ⟨(some 29), 29, (.load true 3 (.t 28)), none, [0]⟩,
    ⟨(some 30), 30, (.call 23 [(.t 29)]), none, [1]⟩,
    ⟨(some 27), 27, (.mv (.t 30)), none, [2]⟩,
    ⟨(some 31), 31, (.ext 0 (.t 27)), none, [3]⟩,
    ⟨(some 32), 32, (.ext 1 (.t 27)), none, [3]⟩,
    ⟨(some 33), 33, (.ext 2 (.t 27)), none, [3]⟩,
    ⟨(some 34), 34, (.ext 3 (.t 27)), none, [3]⟩,
    ⟨(some 3), 3, (.mk 25 3 [[.zc, (.s (.pv (.int .i64 0))), (.s (.pv (.bool false)))]]), none, []⟩,
    ⟨none, 70, (.store 3 (.t 3) (.t 31)), none, [8, 4, 2, 0, 1, 2, 3, 4, 8]⟩,
    ⟨(some 4), 4, (.mv (.t 32)), none, [5, 9, 0, 1, 2, 3, 4, 5, 8, 9]⟩,
    ⟨(some 5), 5, (.mv (.t 33)), none, [6, 10, 0, 1, 2, 3, 4, 5, 6, 8, 9, 10]⟩,
    ⟨(some 6), 6, (.mv (.t 34)), none, [7, 11, 0, 1, 2, 3, 4, 5, 6, 7, 8, 9, 10, 11]⟩])
  (.seq (.seq (.reg [⟨(some 35), 35, (.mv (.t 6)), none, []⟩,
    ⟨(some 36), 36, (.not (.t 35)), none, [0]⟩])
  (.cond (.t 36) (.exit 0) .skip))
  (.seq (.reg [⟨(some 37), 37, (.load true 3 (.t 3)), none, []⟩,
    ⟨(some 38), 38, (.fld 0 (.t 1)), none, [0]⟩,
    ⟨none, 63, (.store 3 (.t 38) (.t 37)), none, [1, 0, 0]⟩])
  (.seq (.reg [⟨(some 39), 39, (.fld 3 (.t 1)), none, []⟩,
    ⟨(some 40), 40, (.load false 1 (.t 39)), none, [0]⟩,
    ⟨(some 41), 41, (.mv (.t 4)), none, []⟩,
    ⟨(some 42), 42, (.idx 1 (.t 40) (.t 41)), none, [1, 2]⟩,
    ⟨(some 43), 43, (.load false 1 (.t 42)), none, [3]⟩,
    ⟨(some 44), 44, (.idx 5 (.t 43) (.k (.c (.s (.pv (.int .i64 0)))))), none, [4]⟩,
    ⟨(some 45), 45, (.load true 5 (.t 44)), none, [5]⟩,
    ⟨(some 7), 7, (.mk 80 5 [[(.s (.pv (.int .i64 0))), (.s (.pv (.int .i64 0))), (.s (.pv (.int .i64 0))), (.s (.pv (.string ⟨#[]⟩))), (.s (.pv (.int .i64 0)))]]), none, []⟩,
    ⟨none, 69, (.store 5 (.t 7) (.t 45)), none, [7, 6, 0, 1, 2, 3, 4, 5, 6, 7]⟩])
  (.seq (.draw [⟨(some 46), 46, (.fld 3 (.t 1)), none, []⟩,
    ⟨(some 47), 47, (.load false 1 (.t 46)), none, [0]⟩,
    ⟨(some 48), 48, (.mv (.t 4)), none, []⟩,
    ⟨(some 49), 49, (.fld 3 (.t 1)), none, []⟩,
    ⟨(some 50), 50, (.load false 1 (.t 49)), none, [3]⟩,
    ⟨(some 51), 51, (.mv (.t 4)), none, []⟩,
    ⟨(some 52), 52, (.idx 1 (.t 50) (.t 51)), none, [4, 5]⟩,
    ⟨(some 53), 53, (.load false 1 (.t 52)), none, [6]⟩,
    ⟨(some 54), 54, (.sub 5 (.t 53) (some (.k (.c (.s (.pv (.int .i64 1)))))) none), none, [7]⟩,
    ⟨(some 55), 55, (.call 52 [(.t 54)]), none, [8]⟩,
    ⟨(some 56), 56, (.idx 1 (.t 47) (.t 48)), none, [1, 2, 0, 1, 2, 3, 4, 5, 6, 7, 8, 9]⟩,
    ⟨none, 72, (.store 1 (.t 56) (.t 55)), none, [10, 9, 9, 0, 1, 2, 3, 4, 5, 6, 7, 8, 9]⟩])
  (.reg [⟨(some 57), 57, (.load true 9 (.t 1)), none, []⟩,
    ⟨(some 58), 58, (.load true 5 (.t 7)), none, []⟩,
    ⟨(some 59), 59, (.call 57 [(.t 57), (.t 58)]), none, [0, 1]⟩,
    ⟨none, 64, (.store 9 (.t 1) (.t 59)), none, [2, 2, 0, 1, 2]⟩]))))))))))
  (.seq (.reg [⟨(some 60), 60, (.load true 9 (.t 1)), none, []⟩,
    ⟨none, 62, (.store 9 (.t 2) (.t 60)), none, [0, 0]⟩])
  .ret)))))
theorem fn29 : FnIs Try.prog 29 ac29 [(.cell 2 true 9)] 61 := ⟨Try.f29, Try.func29, by kernel_rfl, by kernel_rfl, by kernel_rfl⟩
/- lockkeeper/lockkeeperref06.Pump -/
def ac30 : ACode := (.seq (.reg [⟨(some 1), 1, (.box 78 9 (.t 0)), none, []⟩,
    ⟨(some 2), 2, (.mk 78 9 [[.zc, (.s (.pv (.int .i64 0))), (.s (.pv (.bool false))), .zc, .zc, .zc, (.s (.pv (.int .i64 0))), .zc, .zc]]), none, []⟩])
  (.seq (.seq (.reg [⟨(some 9), 9, (.load true 9 (.t 1)), none, []⟩,
    ⟨(some 10), 10, (.call 53 [(.t 9)]), none, [0]⟩,
    ⟨(some 11), 11, (.not (.t 10)), none, [1]⟩])
  (.cond (.t 11) (.seq (.reg [⟨(some 12), 12, (.load true 9 (.t 1)), none, []⟩,
    ⟨none, 85, (.store 9 (.t 2) (.t 12)), none, [0, 0]⟩])
  .ret) .skip))
  (.seq (.seq (.reg [⟨(some 3), 3, (.mv (.k (.c (.s (.pv (.int .i64 0)))))), none, []⟩])
  (.block 0 (.loop (.seq (.seq (.reg [⟨(some 13), 13, (.mv (.t 3)), none, []⟩,
    ⟨(some 14), 14, (.bin false .lss (.t 13) (.k (.c (.s (.pv (.int .i64 4)))))), none, [0]⟩,
    ⟨(some 15), 15, (.mv (.t 14)), none, [1]⟩,
    ⟨(some 16), 16, (.fld 8 (.t 1)), (some (15, true)), [2]⟩,
    ⟨(some 17), 17, (.load false 1 (.t 16)), (some (15, true)), [3, 2]⟩,
    ⟨(some 18), 18, (.len (.t 17)), (some (15, true)), [4, 2]⟩,
    ⟨(some 19), 19, (.bin false .lss (.t 18) (.k (.c (.s (.pv (.int .i64 4)))))), (some (15, true)), [5, 2]⟩,
    ⟨(some 20), 20, (.pick (.t 15) (.t 19) (.k (.c (.s (.pv (.bool false)))))), none, [2, 6]⟩,
    ⟨(some 21), 21, (.mv (.t 20)), none, [7, 2]⟩,
    ⟨(some 22), 22, (.fld 4 (.t 1)), (some (21, true)), [8]⟩,
    ⟨(some 23), 23, (.fld 2 (.t 22)), (some (21, true)), [9, 8]⟩,
    ⟨(some 24), 24, (.load false 1 (.t 23)), (some (21, true)), [10, 8]⟩,
    ⟨(some 25), 25, (.bin false .lss (.t 24) (.k (.c (.s (.pv (.int .i64 2147483647)))))), (some (21, true)), [11, 8]⟩,
    ⟨(some 26), 26, (.pick (.t 21) (.t 25) (.k (.c (.s (.pv (.bool false)))))), none, [8, 12]⟩,
    ⟨(some 27), 27, (.mv (.t 26)), none, [13, 8]⟩,
    ⟨(some 28), 28, (.fld 0 (.t 1)), (some (27, true)), [14]⟩,
    ⟨(some 29), 29, (.load true 3 (.t 28)), (some (27, true)), [15, 14]⟩,
    ⟨(some 30), 30, (.call 58 [(.t 29)]), (some (27, true)), [16, 14, 14]⟩,
    ⟨(some 31), 31, (.pick (.t 27) (.t 30) (.k (.c (.s (.pv (.bool false)))))), none, [14, 17]⟩])
  (.cond (.t 31) .skip (.exit 0)))
  (.seq (.block 1 (.seq (.reg [⟨(some 35), 35, (.fld 0 (.t 1)), none, []⟩,
    ⟨(some 36), 36, (.load true 3 (.t 35)), none, [0]⟩,
    ⟨(some 37), 37, (.call 59 [(.t 36)]), none, [1]⟩,
    ⟨(some 34), 34, (.mv (.t 37)), none, [2]⟩,
    ⟨(some 38), 38, (.ext 0 (.t 34)), none, [3]⟩,
    ⟨(some 39), 39, (.ext 1 (.t 34)), none, [3]⟩,
    ⟨(some 40), 40, (.ext 2 (.t 34)), none, [3]⟩,
    ⟨(some 4), 4, (.mk 28 3 [[.zc, (.s (.pv (.int .i64 0))), (.s (.pv (.bool false)))]]), none, []⟩,
    ⟨none, 92, (.store 3 (.t 4) (.t 38)), none, [7, 4, 2, 0, 1, 2, 3, 4, 7]⟩,
    ⟨(some 5), 5, (.mv (.t 39)), none, [5, 8, 0, 1, 2, 3, 4, 5, 7, 8]⟩,
    ⟨(some 6), 6, (.mv (.t 40)), none, [6, 9, 0, 1, 2, 3, 4, 5, 6, 7, 8, 9]⟩])
  (.seq (.reg [⟨(some 7), 7, (.mv (.k (.c .zc))), none, []⟩])
  (.seq (.seq (.reg [⟨(some 8), 8, (.mv (.k (.c (.s (.pv (.int .i64 0)))))), none, []⟩])
  (.block 2 (.loop (.seq (.seq (.reg [⟨(some 41), 41, (.mv (.t 8)), none, []⟩,
    ⟨(some 42), 42, (.fld 3 (.t 1)), none, []⟩,
    ⟨(some 43), 43, (.load false 1 (.t 42)), none, [1]⟩,
    ⟨(some 44), 44, (.len (.t 43)), none, [2]⟩,
    ⟨(some 45), 45, (.bin false .lss (.t 41) (.t 44)), none, [0, 3]⟩])
  (.cond (.t 45) .skip (.exit 2)))
  (.seq (.block 3 (.seq (.reg [⟨(some 48), 48, (.mv (.t 8)), none, []⟩,
    ⟨(some 49), 49, (.mv (.t 5)), none, []⟩,
    ⟨(some 50), 50, (.bin false .eql (.t 48) (.t 49)), none, [0, 1]⟩])
  (.cond (.t 50) (.reg [⟨(some 51), 51, (.mv (.t 7)), none, []⟩,
    ⟨(some 52), 52, (.fld 3 (.t 1)), none, []⟩,
    ⟨(some 53), 53, (.load false 1 (.t 52)), none, [1]⟩,
    ⟨(some 54), 54, (.mv (.t 8)), none, []⟩,
    ⟨(some 55), 55, (.idx 1 (.t 53) (.t 54)), none, [2, 3]⟩,
    ⟨(some 56), 56, (.load false 1 (.t 55)), none, [4]⟩,
    ⟨(some 57), 57, (.call 60 [(.t 56), (.k (.c (.s (.pv (.int .i64 0)))))]), none, [5]⟩,
    ⟨(some 58), 58, (.bslice 76 1 [.zc] 1 [(0, 1, (.t 57))]), none, [6]⟩,
    ⟨(some 59), 59, (.app 76 1 24 (.t 51) (.t 58)), none, [0, 7, 6]⟩,
    ⟨(some 7), 7, (.mv (.t 59)), none, [8, 8, 0, 1, 2, 3, 4, 5, 6, 7, 8]⟩]) (.reg [⟨(some 60), 60, (.mv (.t 7)), none, []⟩,
    ⟨(some 61), 61, (.fld 3 (.t 1)), none, []⟩,
    ⟨(some 62), 62, (.load false 1 (.t 61)), none, [1]⟩,
    ⟨(some 63), 63, (.mv (.t 8)), none, []⟩,
    ⟨(some 64), 64, (.idx 1 (.t 62) (.t 63)), none, [2, 3]⟩,
    ⟨(some 65), 65, (.load false 1 (.t 64)), none, [4]⟩,
    ⟨(some 66), 66, (.bslice 76 1 [.zc] 1 [(0, 1, (.t 65))]), none, [5]⟩,
    ⟨(some 67), 67, (.app 76 1 24 (.t 60) (.t 66)), none, [0, 6]⟩,
    ⟨(some 7), 7, (.mv (.t 67)), none, [7, 7, 0, 1, 2, 3, 4, 5, 6, 7]⟩]))))
  (.reg [⟨(some 46), 46, (.mv (.t 8)), none, []⟩,
    ⟨(some 47), 47, (.bin false .add (.t 46) (.k (.c (.s (.pv (.int .i64 1)))))), none, [0]⟩,
    ⟨(some 8), 8, (.mv (.t 47)), none, [1, 0, 1]⟩]))))))
  (.draw [⟨(some 68), 68, (.load true 3 (.t 4)), none, []⟩,
    ⟨(some 69), 69, (.mv (.t 7)), none, []⟩,
    ⟨(some 70), 70, (.fld 4 (.t 1)), none, []⟩,
    ⟨(some 71), 71, (.load true 4 (.t 70)), none, [2]⟩,
    ⟨(some 72), 72, (.fld 8 (.t 1)), none, []⟩,
    ⟨(some 73), 73, (.load false 1 (.t 72)), none, [4]⟩,
    ⟨(some 74), 74, (.build [.zc, (.s (.pv (.int .i64 0))), (.s (.pv (.bool false))), .zc, .zc, .zc, (.s (.pv (.int .i64 0))), .zc, .zc] [(0, 3, (.t 68)), (3, 1, (.t 69)), (4, 4, (.t 71)), (8, 1, (.t 73))]), none, [0, 1, 3, 5]⟩,
    ⟨(some 75), 75, (.fld 3 (.t 1)), none, []⟩,
    ⟨(some 76), 76, (.load false 1 (.t 75)), none, [7]⟩,
    ⟨(some 77), 77, (.mv (.t 5)), none, []⟩,
    ⟨(some 78), 78, (.idx 1 (.t 76) (.t 77)), none, [8, 9]⟩,
    ⟨(some 79), 79, (.load false 1 (.t 78)), none, [10]⟩,
    ⟨(some 80), 80, (.idx 5 (.t 79) (.k (.c (.s (.pv (.int .i64 0)))))), none, [11]⟩,
    ⟨(some 81), 81, (.load true 5 (.t 80)), none, [12]⟩,
    ⟨(some 82), 82, (.call 61 [(.t 74), (.t 81)]), none, [6, 13]⟩,
    ⟨none, 99, (.store 9 (.t 1) (.t 82)), none, [14, 14, 0, 1, 2, 3, 4, 5, 6, 7, 8, 9, 10, 11, 12, 13, 14]⟩])))))
  (.reg [⟨(some 32), 32, (.mv (.t 3)), none, []⟩,
    ⟨(some 33), 33, (.bin false .add (.t 32) (.k (.c (.s (.pv (.int .i64 1)))))), none, [0]⟩,
    ⟨(some 3), 3, (.mv (.t 33)), none, [1, 0, 1]⟩]))))))
  (.seq (.reg [⟨(some 83), 83, (.load true 9 (.t 1)), none, []⟩,
    ⟨none, 85, (.store 9 (.t 2) (.t 83)), none, [0, 0]⟩])
  .ret))))
theorem fn30 : FnIs Try.prog 30 ac30 [(.cell 2 true 9)] 84 := ⟨Try.f30, Try.func30, by kernel_rfl, by kernel_rfl, by kernel_rfl⟩
/- lockkeeper/sched.Done -/
def ac31 : ACode := (.seq (.reg [⟨(some 3), 3, (.box 68 9 (.t 0)), none, []⟩,
    ⟨(some 6), 6, (.mk 68 9 [[.zc, (.s (.pv (.int .i64 0))), (.s (.pv (.bool false))), .zc, .zc, .zc, (.s (.pv (.int .i64 0))), .zc, .zc]]), none, []⟩,
    ⟨(some 7), 7, (.mk 80 5 [[(.s (.pv (.int .i64 0))), (.s (.pv (.int .i64 0))), (.s (.pv (.int .i64 0))), (.s (.pv (.string ⟨#[]⟩))), (.s (.pv (.int .i64 0)))]]), none, []⟩,
    ⟨(some 8), 8, (.mv (.k (.c (.s (.pv (.int .i64 0)))))), none, []⟩,
    ⟨(some 9), 9, (.mv (.k (.c (.s (.pv (.bool false)))))), none, [3]⟩])
  (.seq (.seq (.reg [⟨(some 14), 14, (.load true 9 (.t 3)), none, []⟩,
    ⟨(some 15), 15, (.call 37 [(.t 14)]), none, [0]⟩,
    ⟨(some 16), 16, (.not (.t 15)), none, [1]⟩,
    ⟨(some 17), 17, (.mv (.t 16)), none, [2, 1]⟩,
    ⟨(some 18), 18, (.mv (.t 1)), (some (17, false)), [3]⟩,
    ⟨(some 19), 19, (.bin false .lss (.t 18) (.k (.c (.s (.pv (.int .i64 0)))))), (some (17, false)), [4, 3]⟩,
    ⟨(some 20), 20, (.pick (.t 17) (.k (.c (.s (.pv (.bool true))))) (.t 19)), none, [3, 5]⟩,
    ⟨(some 21), 21, (.mv (.t 20)), none, [6, 3]⟩,
    ⟨(some 22), 22, (.mv (.t 1)), (some (21, false)), [7]⟩,
    ⟨(some 23), 23, (.fld 8 (.t 3)), (some (21, false)), [7]⟩,
    ⟨(some 24), 24, (.load false 1 (.t 23)), (some (21, false)), [9, 7]⟩,
    ⟨(some 25), 25, (.len (.t 24)), (some (21, false)), [10, 7]⟩,
    ⟨(some 26), 26, (.bin false .geq (.t 22) (.t 25)), (some (21, false)), [8, 11, 7]⟩,
    ⟨(some 27), 27, (.pick (.t 21) (.k (.c (.s (.pv (.bool true))))) (.t 26)), none, [7, 12]⟩])
  (.cond (.t 27) (.seq (.reg [⟨(some 28), 28, (.load true 9 (.t 3)), none, []⟩,
    ⟨(some 29), 29, (.build [(.s (.pv (.int .i64 0))), (.s (.pv (.int .i64 0))), (.s (.pv (.int .i64 0))), (.s (.pv (.string ⟨#[]⟩))), (.s (.pv (.int .i64 0)))] []), none, []⟩,
    ⟨none, 78, (.store 9 (.t 6) (.t 28)), none, [0, 0]⟩,
    ⟨none, 79, (.store 5 (.t 7) (.t 29)), none, [1, 2, 0, 1, 2]⟩,
    ⟨(some 8), 8, (.mv (.k (.c (.s (.pv (.int .i64 1)))))), none, [3, 0, 1, 2, 3]⟩,
    ⟨(some 9), 9, (.mv (.k (.c (.s (.pv (.bool false)))))), none, [4, 0, 1, 2, 3, 4]⟩])
  .ret) .skip))
  (.seq (.reg [⟨(some 31), 31, (.fld 4 (.t 3)), none, []⟩,
    ⟨(some 32), 32, (.load true 4 (.t 31)), none, [0]⟩,
    ⟨(some 33), 33, (.mv (.t 1)), none, []⟩,
    ⟨(some 34), 34, (.mv (.t 2)), none, []⟩,
    ⟨(some 35), 35, (.call 62 [(.t 32), (.t 33), (.t 34)]), none, [1, 2, 3]⟩,
    ⟨(some 30), 30, (.mv (.t 35)), none, [4]⟩,
    ⟨(some 36), 36, (.ext 0 (.t 30)), none, [5]⟩,
    ⟨(some 37), 37, (.ext 1 (.t 30)), none, [5]⟩,
    ⟨(some 38), 38, (.ext 2 (.t 30)), none, [5]⟩,
    ⟨(some 10), 10, (.mk 65 4 [[.zc, .zc, (.s (.pv (.int .i64 0))), .zc]]), none, []⟩,
    ⟨(some 11), 11, (.mk 129 4 [[(.s (.pv (.int .i64 0))), (.s (.pv (.int .i64 0))), (.s (.pv (.int .i64 0))), (.s (.pv (.string ⟨#[]⟩)))]]), none, []⟩,
    ⟨none, 87, (.store 4 (.t 10) (.t 36)), none, [9, 6, 4, 0, 1, 2, 3, 4, 5, 6, 9, 10]⟩,
    ⟨none, 88, (.store 4 (.t 11) (.t 37)), none, [10, 7, 11, 0, 1, 2, 3, 4, 5, 6, 7, 9, 10, 11]⟩,
    ⟨(some 12), 12, (.mv (.t 38)), none, [8, 12, 0, 1, 2, 3, 4, 5, 6, 7, 8, 9, 10, 11, 12]⟩])
  (.seq (.reg [⟨(some 39), 39, (.fld 8 (.t 3)), none, []⟩,
    ⟨(some 40), 40, (.load false 1 (.t 39)), none, [0]⟩,
    ⟨(some 41), 41, (.mv (.t 1)), none, []⟩,
    ⟨(some 42), 42, (.idx 5 (.t 40) (.t 41)), none, [1, 2]⟩,
    ⟨(some 43), 43, (.load true 5 (.t 42)), none, [3]⟩,
    ⟨(some 13), 13, (.mk 80 5 [[(.s (.pv (.int .i64 0))), (.s (.pv (.int .i64 0))), (.s (.pv (.int .i64 0))), (.s (.pv (.string ⟨#[]⟩))), (.s (.pv (.int .i64 0)))]]), none, []⟩,
    ⟨none, 82, (.store 5 (.t 13) (.t 43)), none, [5, 4, 0, 1, 2, 3, 4, 5]⟩])
  (.seq (.reg [⟨(some 44), 44, (.load true 4 (.t 10)), none, []⟩,
    ⟨(some 45), 45, (.fld 4 (.t 3)), none, [0]⟩,
    ⟨none, 78, (.store 4 (.t 45) (.t 44)), none, [1, 0, 0]⟩])
  (.seq (.reg [⟨(some 46), 46, (.fld 8 (.t 3)), none, []⟩,
    ⟨(some 47), 47, (.load false 1 (.t 46)), none, [0]⟩,
    ⟨(some 48), 48, (.call 52 [(.t 47)]), none, [1]⟩,
    ⟨(some 49), 49, (.mv (.t 1)), none, []⟩,
    ⟨(some 50), 50, (.mv (.t 1)), none, []⟩,
    ⟨(some 51), 51, (.bin false .add (.t 50) (.k (.c (.s (.pv (.int .i64 1)))))), none, [4]⟩,
    ⟨(some 52), 52, (.call 63 [(.t 48), (.t 49), (.t 51)]), none, [2, 3, 5, 2]⟩,
    ⟨(some 53), 53, (.fld 8 (.t 3)), none, [0, 1, 2, 3, 4, 5, 6]⟩,
    ⟨none, 84, (.store 1 (.t 53) (.t 52)), none, [7, 6, 6, 0, 1, 2, 3, 4, 5, 6]⟩])
  (.seq (.seq (.reg [⟨(some 54), 54, (.mv (.t 12)), none, []⟩,
    ⟨(some 55), 55, (.bin false .eql (.t 54) (.k (.c (.s (.pv (.int .i64 8)))))), none, [0]⟩,
    ⟨(some 56), 56, (.mv (.t 55)), none, [1]⟩,
    ⟨(some 57), 57, (.fld 4 (.t 13)), (some (56, true)), [2]⟩,
    ⟨(some 58), 58, (.load false 1 (.t 57)), (some (56, true)), [3, 2]⟩,
    ⟨(some 59), 59, (.bin false .lss (.t 58) (.k (.c (.s (.pv (.int .i64 3)))))), (some (56, true)), [4, 2]⟩,
    ⟨(some 60), 60, (.pick (.t 56) (.t 59) (.k (.c (.s (.pv (.bool false)))))), none, [2, 5]⟩,
    ⟨(some 61), 61, (.mv (.t 60)), none, [6, 2]⟩,
    ⟨(some 62), 62, (.fld 2 (.t 10)), (some (61, true)), [7]⟩,
    ⟨(some 63), 63, (.load false 1 (.t 62)), (some (61, true)), [8, 7]⟩,
    ⟨(some 64), 64, (.bin false .lss (.t 63) (.k (.c (.s (.pv (.int .i64 2147483647)))))), (some (61, true)), [9, 7]⟩,
    ⟨(some 65), 65, (.pick (.t 61) (.t 64) (.k (.c (.s (.pv (.bool false)))))), none, [7, 10]⟩])
  (.cond (.t 65) (.seq (.reg [⟨(some 66), 66, (.load true 9 (.t 3)), none, []⟩,
    ⟨(some 67), 67, (.load true 5 (.t 13)), none, []⟩,
    ⟨(some 68), 68, (.call 57 [(.t 66), (.t 67)]), none, [0, 1]⟩,
    ⟨(some 69), 69, (.build [(.s (.pv (.int .i64 0))), (.s (.pv (.int .i64 0))), (.s (.pv (.int .i64 0))), (.s (.pv (.string ⟨#[]⟩))), (.s (.pv (.int .i64 0)))] []), none, []⟩,
    ⟨none, 80, (.store 9 (.t 6) (.t 68)), none, [2, 2, 0, 1, 2]⟩,
    ⟨none, 81, (.store 5 (.t 7) (.t 69)), none, [3, 4, 0, 1, 2, 3, 4]⟩,
    ⟨(some 8), 8, (.mv (.k (.c (.s (.pv (.int .i64 0)))))), none, [5, 0, 1, 2, 3, 4, 5]⟩,
    ⟨(some 9), 9, (.mv (.k (.c (.s (.pv (.bool false)))))), none, [6, 0, 1, 2, 3, 4, 5, 6]⟩])
  .ret) .skip))
  (.seq (.reg [⟨(some 70), 70, (.fld 3 (.t 11)), none, []⟩,
    ⟨(some 71), 71, (.load false 1 (.t 70)), none, [0]⟩,
    ⟨(some 72), 72, (.fld 3 (.t 13)), none, [0, 1]⟩,
    ⟨none, 79, (.store 1 (.t 72) (.t 71)), none, [2, 1, 0, 1]⟩])
  (.seq (.draw [⟨(some 73), 73, (.load true 9 (.t 3)), none, []⟩,
    ⟨(some 74), 74, (.load true 5 (.t 13)), none, []⟩,
    ⟨(some 75), 75, (.mv (.t 12)), none, []⟩,
    ⟨none, 79, (.store 9 (.t 6) (.t 73)), none, [0, 0]⟩,
    ⟨none, 80, (.store 5 (.t 7) (.t 74)), none, [1, 3, 0, 1, 3]⟩,
    ⟨(some 8), 8, (.mv (.t 75)), none, [2, 4, 0, 1, 2, 3, 4]⟩,
    ⟨(some 9), 9, (.mv (.k (.c (.s (.pv (.bool true)))))), none, [5, 0, 1, 2, 3, 4, 5]⟩])
  .ret)))))))))
theorem fn31 : FnIs Try.prog 31 ac31 [(.cell 6 true 9), (.cell 7 true 5), (.t 8), (.t 9)] 76 := ⟨Try.f31, Try.func31, by kernel_rfl, by kernel_rfl, by kernel_rfl⟩
/- lockkeeper/lockkeeperref06.Done -/
def ac32 : ACode := (.seq (.reg [⟨(some 3), 3, (.box 78 9 (.t 0)), none, []⟩,
    ⟨(some 6), 6, (.mk 78 9 [[.zc, (.s (.pv (.int .i64 0))), (.s (.pv (.bool false))), .zc, .zc, .zc, (.s (.pv (.int .i64 0))), .zc, .zc]]), none, []⟩,
    ⟨(some 7), 7, (.mk 86 5 [[(.s (.pv (.int .i64 0))), (.s (.pv (.int .i64 0))), (.s (.pv (.int .i64 0))), (.s (.pv (.string ⟨#[]⟩))), (.s (.pv (.int .i64 0)))]]), none, []⟩,
    ⟨(some 8), 8, (.mv (.k (.c (.s (.pv (.int .i64 0)))))), none, []⟩,
    ⟨(some 9), 9, (.mv (.k (.c (.s (.pv (.bool false)))))), none, [3]⟩])
  (.seq (.seq (.reg [⟨(some 15), 15, (.load true 9 (.t 3)), none, []⟩,
    ⟨(some 16), 16, (.call 53 [(.t 15)]), none, [0]⟩,
    ⟨(some 17), 17, (.not (.t 16)), none, [1]⟩,
    ⟨(some 18), 18, (.mv (.t 17)), none, [2, 1]⟩,
    ⟨(some 19), 19, (.mv (.t 1)), (some (18, false)), [3]⟩,
    ⟨(some 20), 20, (.bin false .lss (.t 19) (.k (.c (.s (.pv (.int .i64 0)))))), (some (18, false)), [4, 3]⟩,
    ⟨(some 21), 21, (.pick (.t 18) (.k (.c (.s (.pv (.bool true))))) (.t 20)), none, [3, 5]⟩,
    ⟨(some 22), 22, (.mv (.t 21)), none, [6, 3]⟩,
    ⟨(some 23), 23, (.mv (.t 1)), (some (22, false)), [7]⟩,
    ⟨(some 24), 24, (.fld 8 (.t 3)), (some (22, false)), [7]⟩,
    ⟨(some 25), 25, (.load false 1 (.t 24)), (some (22, false)), [9, 7]⟩,
    ⟨(some 26), 26, (.len (.t 25)), (some (22, false)), [10, 7]⟩,
    ⟨(some 27), 27, (.bin false .geq (.t 23) (.t 26)), (some (22, false)), [8, 11, 7]⟩,
    ⟨(some 28), 28, (.pick (.t 22) (.k (.c (.s (.pv (.bool true))))) (.t 27)), none, [7, 12]⟩])
  (.cond (.t 28) (.seq (.reg [⟨(some 29), 29, (.load true 9 (.t 3)), none, []⟩,
    ⟨(some 30), 30, (.build [(.s (.pv (.int .i64 0))), (.s (.pv (.int .i64 0))), (.s (.pv (.int .i64 0))), (.s (.pv (.string ⟨#[]⟩))), (.s (.pv (.int .i64 0)))] []), none, []⟩,
    ⟨none, 79, (.store 9 (.t 6) (.t 29)), none, [0, 0]⟩,
    ⟨none, 80, (.store 5 (.t 7) (.t 30)), none, [1, 2, 0, 1, 2]⟩,
    ⟨(some 8), 8, (.mv (.k (.c (.s (.pv (.int .i64 1)))))), none, [3, 0, 1, 2, 3]⟩,
    ⟨(some 9), 9, (.mv (.k (.c (.s (.pv (.bool false)))))), none, [4, 0, 1, 2, 3, 4]⟩])
  .ret) .skip))
  (.seq (.reg [⟨(some 31), 31, (.fld 8 (.t 3)), none, []⟩,
    ⟨(some 32), 32, (.load false 1 (.t 31)), none, [0]⟩,
    ⟨(some 33), 33, (.mv (.t 1)), none, []⟩,
    ⟨(some 34), 34, (.idx 5 (.t 32) (.t 33)), none, [1, 2]⟩,
    ⟨(some 35), 35, (.load true 5 (.t 34)), none, [3]⟩,
    ⟨(some 10), 10, (.mk 86 5 [[(.s (.pv (.int .i64 0))), (.s (.pv (.int .i64 0))), (.s (.pv (.int .i64 0))), (.s (.pv (.string ⟨#[]⟩))), (.s (.pv (.int .i64 0)))]]), none, []⟩,
    ⟨none, 83, (.store 5 (.t 10) (.t 35)), none, [5, 4, 0, 1, 2, 3, 4, 5]⟩])
  (.seq (.reg [⟨(some 37), 37, (.fld 4 (.t 3)), none, []⟩,
    ⟨(some 38), 38, (.load true 4 (.t 37)), none, [0]⟩,
    ⟨(some 39), 39, (.mv (.t 1)), none, []⟩,
    ⟨(some 40), 40, (.mv (.t 2)), none, []⟩,
    ⟨(some 41), 41, (.call 64 [(.t 38), (.t 39), (.t 40)]), none, [1, 2, 3]⟩,
    ⟨(some 36), 36, (.mv (.t 41)), none, [4]⟩,
    ⟨(some 42), 42, (.ext 0 (.t 36)), none, [5]⟩,
    ⟨(some 43), 43, (.ext 1 (.t 36)), none, [5]⟩,
    ⟨(some 44), 44, (.ext 2 (.t 36)), none, [5]⟩,
    ⟨(some 11), 11, (.mk 75 4 [[.zc, .zc, (.s (.pv (.int .i64 0))), .zc]]), none, []⟩,
    ⟨(some 12), 12, (.mk 133 4 [[(.s (.pv (.int .i64 0))), (.s (.pv (.int .i64 0))), (.s (.pv (.int .i64 0))), (.s (.pv (.string ⟨#[]⟩)))]]), none, []⟩,
    ⟨none, 88, (.store 4 (.t 11) (.t 42)), none, [9, 6, 4, 0, 1, 2, 3, 4, 5, 6, 9, 10]⟩,
    ⟨none, 89, (.store 4 (.t 12) (.t 43)), none, [10, 7, 11, 0, 1, 2, 3, 4, 5, 6, 7, 9, 10, 11]⟩,
    ⟨(some 13), 13, (.mv (.t 44)), none, [8, 12, 0, 1, 2, 3, 4, 5, 6, 7, 8, 9, 10, 11, 12]⟩])
  (.seq (.draw [⟨(some 45), 45, (.fld 0 (.t 3)), none, []⟩,
    ⟨(some 46), 46, (.load true 3 (.t 45)), none, [0]⟩,
    ⟨(some 47), 47, (.fld 3 (.t 3)), none, []⟩,
    ⟨(some 48), 48, (.load false 1 (.t 47)), none, [2]⟩,
    ⟨(some 49), 49, (.load true 4 (.t 11)), none, []⟩,
    ⟨(some 50), 50, (.fld 8 (.t 3)), none, []⟩,
    ⟨(some 51), 51, (.load false 1 (.t 50)), none, [5]⟩,
    ⟨(some 52), 52, (.mv (.t 1)), none, []⟩,
    ⟨(some 53), 53, (.call 60 [(.t 51), (.t 52)]), none, [6, 7]⟩,
    ⟨(some 54), 54, (.build [.zc, (.s (.pv (.int .i64 0))), (.s (.pv (.bool false))), .zc, .zc, .zc, (.s (.pv (.int .i64 0))), .zc, .zc] [(0, 3, (.t 46)), (3, 1, (.t 48)), (4, 4, (.t 49)), (8, 1, (.t 53))]), none, [1, 3, 4, 8]⟩,
    ⟨(some 14), 14, (.mk 78 9 [[.zc, (.s (.pv (.int .i64 0))), (.s (.pv (.bool false))), .zc, .zc, .zc, (.s (.pv (.int .i64 0))), .zc, .zc]]), none, []⟩,
    ⟨none, 88, (.store 9 (.t 14) (.t 54)), none, [10, 9, 8, 0, 1, 2, 3, 4, 5, 6, 7, 8, 9, 10]⟩])
  (.seq (.seq (.reg [⟨(some 55), 55, (.mv (.t 13)), none, []⟩,
    ⟨(some 56), 56, (.bin false .eql (.t 55) (.k (.c (.s (.pv (.int .i64 8)))))), none, [0]⟩,
    ⟨(some 57), 57, (.mv (.t 56)), none, [1]⟩,
    ⟨(some 58), 58, (.fld 4 (.t 10)), (some (57, true)), [2]⟩,
    ⟨(some 59), 59, (.load false 1 (.t 58)), (some (57, true)), [3, 2]⟩,
    ⟨(some 60), 60, (.bin false .lss (.t 59) (.k (.c (.s (.pv (.int .i64 3)))))), (some (57, true)), [4, 2]⟩,
    ⟨(some 61), 61, (.pick (.t 57) (.t 60) (.k (.c (.s (.pv (.bool false)))))), none, [2, 5]⟩,
    ⟨(some 62), 62, (.mv (.t 61)), none, [6, 2]⟩,
    ⟨(some 63), 63, (.fld 2 (.t 11)), (some (62, true)), [7]⟩,
    ⟨(some 64), 64, (.load false 1 (.t 63)), (some (62, true)), [8, 7]⟩,
    ⟨(some 65), 65, (.bin false .lss (.t 64) (.k (.c (.s (.pv (.int .i64 2147483647)))))), (some (62, true)), [9, 7]⟩,
    ⟨(some 66), 66, (.pick (.t 62) (.t 65) (.k (.c (.s (.pv (.bool false)))))), none, [7, 10]⟩])
  (.cond (.t 66) (.seq (.reg [⟨(some 67), 67, (.load true 9 (.t 14)), none, []⟩,
    ⟨(some 68), 68, (.load true 5 (.t 10)), none, []⟩,
    ⟨(some 69), 69, (.call 61 [(.t 67), (.t 68)]), none, [0, 1]⟩,
    ⟨(some 70), 70, (.build [(.s (.pv (.int .i64 0))), (.s (.pv (.int .i64 0))), (.s (.pv (.int .i64 0))), (.s (.pv (.string ⟨#[]⟩))), (.s (.pv (.int .i64 0)))] []), none, []⟩,
    ⟨none, 81, (.store 9 (.t 6) (.t 69)), none, [2, 2, 0, 1, 2]⟩,
    ⟨none, 82, (.store 5 (.t 7) (.t 70)), none, [3, 4, 0, 1, 2, 3, 4]⟩,
    ⟨(some 8), 8, (.mv (.k (.c (.s (.pv (.int .i64 0)))))), none, [5, 0, 1, 2, 3, 4, 5]⟩,
    ⟨(some 9), 9, (.mv (.k (.c (.s (.pv (.bool false)))))), none, [6, 0, 1, 2, 3, 4, 5, 6]⟩])
  .ret) .skip))
  (.seq (.reg [⟨(some 71), 71, (.fld 3 (.t 12)), none, []⟩,
    ⟨(some 72), 72, (.load false 1 (.t 71)), none, [0]⟩,
    ⟨(some 73), 73, (.fld 3 (.t 10)), none, [0, 1]⟩,
    ⟨none, 80, (.store 1 (.t 73) (.t 72)), none, [2, 1, 0, 1]⟩])
  (.seq (.draw [⟨(some 74), 74, (.load true 9 (.t 14)), none, []⟩,
    ⟨(some 75), 75, (.load true 5 (.t 10)), none, []⟩,
    ⟨(some 76), 76, (.mv (.t 13)), none, []⟩,
    ⟨none, 80, (.store 9 (.t 6) (.t 74)), none, [0, 0]⟩,
    ⟨none, 81, (.store 5 (.t 7) (.t 75)), none, [1, 3, 0, 1, 3]⟩,
    ⟨(some 8), 8, (.mv (.t 76)), none, [2, 4, 0, 1, 2, 3, 4]⟩,
    ⟨(some 9), 9, (.mv (.k (.c (.s (.pv (.bool true)))))), none, [5, 0, 1, 2, 3, 4, 5]⟩])
  .ret))))))))
theorem fn32 : FnIs Try.prog 32 ac32 [(.cell 6 true 9), (.cell 7 true 5), (.t 8), (.t 9)] 77 := ⟨Try.f32, Try.func32, by kernel_rfl, by kernel_rfl, by kernel_rfl⟩
/- lockkeeper/sched.Crash -/
def ac33 : ACode := (.seq (.reg [⟨(some 2), 2, (.box 68 9 (.t 0)), none, []⟩,
    ⟨(some 4), 4, (.mk 68 9 [[.zc, (.s (.pv (.int .i64 0))), (.s (.pv (.bool false))), .zc, .zc, .zc, (.s (.pv (.int .i64 0))), .zc, .zc]]), none, []⟩])
  (.seq (.seq (.reg [⟨(some 10), 10, (.load true 9 (.t 2)), none, []⟩,
    ⟨(some 11), 11, (.call 37 [(.t 10)]), none, [0]⟩,
    ⟨(some 12), 12, (.not (.t 11)), none, [1]⟩])
  (.cond (.t 12) (.seq (.reg [⟨(some 13), 13, (.load true 9 (.t 2)), none, []⟩,
    ⟨none, 45, (.store 9 (.t 4) (.t 13)), none, [0, 0]⟩])
  .ret) .skip))
  (.seq (.reg [⟨(some 14), 14, (.fld 0 (.t 2)), none, []⟩,
    ⟨(some 15), 15, (.fld 0 (.t 14)), none, [0]⟩,
    ⟨(some 16), 16, (.load false 1 (.t 15)), none, [1]⟩,
    ⟨(some 17), 17, (.len (.t 16)), none, [2]⟩,
    ⟨(some 18), 18, (.mkSlice 3 1 8 [(.pv (.int .i64 0))] (.t 17) (.t 17)), none, [3, 3]⟩,
    ⟨(some 5), 5, (.mv (.t 18)), none, [4, 0, 1, 2, 3, 4]⟩])
  (.seq (.seq (.reg [⟨(some 19), 19, (.fld 0 (.t 2)), none, []⟩,
    ⟨(some 20), 20, (.fld 0 (.t 19)), none, [0]⟩,
    ⟨(some 21), 21, (.load false 1 (.t 20)), none, [1]⟩,
    ⟨(some 22), 22, (.len (.t 21)), none, [2]⟩,
    ⟨(some 23), 23, (.mv (.k (.c (.s (.pv (.int .i64 0)))))), none, []⟩])
  (.block 0 (.loop (.seq (.reg [⟨(some 24), 24, (.bin false .lss (.t 23) (.t 22)), none, []⟩])
  (.seq (.cond (.t 24) .skip (.exit 0))
  (.seq (.block 1 (.seq (.reg [⟨(some 25), 25, (.mv (.t 23)), none, []⟩,
    ⟨(some 26), 26, (.idx 3 (.t 21) (.t 23)), none, []⟩,
    ⟨(some 27), 27, (.load true 3 (.t 26)), none, [1]⟩,
    ⟨(some 7), 7, (.mk 56 3 [[(.s (.pv (.int .i64 0))), (.s (.pv (.int .i64 0))), .zc]]), none, []⟩,
    ⟨(some 6), 6, (.mv (.t 25)), none, [0, 0, 1, 2, 3]⟩,
    ⟨none, 49, (.store 3 (.t 7) (.t 27)), none, [3, 2, 4, 0, 1, 2, 3, 4]⟩])
  (.reg [⟨(some 28), 28, (.mv (.t 5)), none, []⟩,
    ⟨(some 29), 29, (.mv (.t 6)), none, []⟩,
    ⟨(some 30), 30, (.fld 0 (.t 7)), none, []⟩,
    ⟨(some 31), 31, (.load false 1 (.t 30)), none, [2]⟩,
    ⟨(some 32), 32, (.idx 1 (.t 28) (.t 29)), none, [0, 1, 0, 1, 2, 3]⟩,
    ⟨none, 49, (.store 1 (.t 32) (.t 31)), none, [4, 3, 0, 1, 2, 3]⟩])))
  (.reg [⟨(some 33), 33, (.bin false .add (.t 23) (.k (.c (.s (.pv (.int .i64 1)))))), none, []⟩,
    ⟨(some 23), 23, (.mv (.t 33)), none, [0]⟩])))))))
  (.seq (.reg [⟨(some 35), 35, (.fld 4 (.t 2)), none, []⟩,
    ⟨(some 36), 36, (.load true 4 (.t 35)), none, [0]⟩,
    ⟨(some 37), 37, (.mv (.t 1)), none, []⟩,
    ⟨(some 38), 38, (.call 65 [(.t 36), (.t 37)]), none, [1, 2]⟩,
    ⟨(some 39), 39, (.mv (.t 5)), none, []⟩,
    ⟨(some 40), 40, (.call 25 [(.t 38), (.t 39)]), none, [3, 4, 3]⟩,
    ⟨(some 34), 34, (.mv (.t 40)), none, [5]⟩,
    ⟨(some 41), 41, (.ext 0 (.t 34)), none, [6]⟩,
    ⟨(some 42), 42, (.ext 1 (.t 34)), none, [6]⟩,
    ⟨(some 8), 8, (.mk 68 9 [[.zc, (.s (.pv (.int .i64 0))), (.s (.pv (.bool false))), .zc, .zc, .zc, (.s (.pv (.int .i64 0))), .zc, .zc]]), none, []⟩,
    ⟨none, 54, (.store 9 (.t 8) (.t 41)), none, [9, 7, 5, 0, 1, 2, 3, 4, 5, 6, 7, 9]⟩,
    ⟨(some 9), 9, (.mv (.t 42)), none, [8, 10, 0, 1, 2, 3, 4, 5, 6, 7, 8, 9, 10]⟩])
  (.seq (.reg [⟨(some 43), 43, (.load true 9 (.t 8)), none, []⟩,
    ⟨none, 45, (.store 9 (.t 4) (.t 43)), none, [0, 0]⟩])
  .ret))))))
theorem fn33 : FnIs Try.prog 33 ac33 [(.cell 4 true 9)] 44 := ⟨Try.f33, Try.func33, by kernel_rfl, by kernel_rfl, by kernel_rfl⟩
/- lockkeeper/lockkeeperref06.Crash -/
def ac34 : ACode := (.seq (.reg [⟨(some 2), 2, (.box 78 9 (.t 0)), none, []⟩,
    ⟨(some 4), 4, (.mk 78 9 [[.zc, (.s (.pv (.int .i64 0))), (.s (.pv (.bool false))), .zc, .zc, .zc, (.s (.pv (.int .i64 0))), .zc, .zc]]), none, []⟩])
  (.seq (.draw [⟨(some 7), 7, (.fld 4 (.t 2)), none, []⟩,
    ⟨(some 8), 8, (.fld 0 (.t 7)), none, [0]⟩,
    ⟨(some 9), 9, (.load true 2 (.t 8)), none, [1]⟩,
    ⟨(some 10), 10, (.mv (.t 1)), none, []⟩,
    ⟨(some 11), 11, (.call 66 [(.t 9), (.t 10)]), none, [2, 3]⟩,
    ⟨(some 12), 12, (.fld 4 (.t 2)), none, []⟩,
    ⟨(some 13), 13, (.fld 2 (.t 12)), none, [5]⟩,
    ⟨(some 14), 14, (.load false 1 (.t 13)), none, [6]⟩,
    ⟨(some 15), 15, (.build [.zc, .zc, (.s (.pv (.int .i64 0))), .zc] [(0, 2, (.t 11)), (2, 1, (.t 14))]), none, [4, 7]⟩,
    ⟨(some 16), 16, (.build [.zc, (.s (.pv (.int .i64 0))), (.s (.pv (.bool false))), .zc, .zc, .zc, (.s (.pv (.int .i64 0))), .zc, .zc] [(4, 4, (.t 15))]), none, [8]⟩,
    ⟨(some 5), 5, (.mk 78 9 [[.zc, (.s (.pv (.int .i64 0))), (.s (.pv (.bool false))), .zc, .zc, .zc, (.s (.pv (.int .i64 0))), .zc, .zc]]), none, []⟩,
    ⟨none, 56, (.store 9 (.t 5) (.t 16)), none, [10, 9, 4, 0, 1, 2, 3, 4, 5, 6, 7, 8, 9, 10]⟩])
  (.seq (.seq (.reg [⟨(some 6), 6, (.mv (.k (.c (.s (.pv (.int .i64 0)))))), none, []⟩])
  (.block 0 (.loop (.seq (.seq (.reg [⟨(some 17), 17, (.mv (.t 6)), none, []⟩,
    ⟨(some 18), 18, (.fld 3 (.t 2)), none, []⟩,
    ⟨(some 19), 19, (.load false 1 (.t 18)), none, [1]⟩,
    ⟨(some 20), 20, (.len (.t 19)), none, [2]⟩,
    ⟨(some 21), 21, (.bin false .lss (.t 17) (.t 20)), none, [0, 3]⟩])
  (.cond (.t 21) .skip (.exit 0)))
  (.seq (.block 1 (.seq (.draw [⟨(some 24), 24, (.fld 0 (.t 5)), none, []⟩,
    ⟨(some 25), 25, (.fld 0 (.t 24)), none, [0]⟩,
    ⟨(some 26), 26, (.load false 1 (.t 25)), none, [1]⟩,
    ⟨(some 27), 27, (.fld 0 (.t 2)), none, []⟩,
    ⟨(some 28), 28, (.fld 0 (.t 27)), none, [3]⟩,
    ⟨(some 29), 29, (.load false 1 (.t 28)), none, [4]⟩,
    ⟨(some 30), 30, (.mv (.t 6)), none, []⟩,
    ⟨(some 31), 31, (.idx 3 (.t 29) (.t 30)), none, [5, 6]⟩,
    ⟨(some 32), 32, (.fld 0 (.t 31)), none, [7]⟩,
    ⟨(some 33), 33, (.load false 1 (.t 32)), none, [8]⟩,
    ⟨(some 34), 34, (.build [(.s (.pv (.int .i64 0))), (.s (.pv (.int .i64 0))), .zc] [(0, 1, (.t 33))]), none, [9]⟩,
    ⟨(some 35), 35, (.bslice 36 3 [(.s (.pv (.int .i64 0))), (.s (.pv (.int .i64 0))), .zc] 1 [(0, 3, (.t 34))]), none, [10]⟩,
    ⟨(some 36), 36, (.app 36 3 40 (.t 26) (.t 35)), none, [2, 11]⟩,
    ⟨(some 37), 37, (.fld 0 (.t 5)), none, [0, 1, 2, 3, 4, 5, 6, 7, 8, 9, 10, 11, 12]⟩,
    ⟨(some 38), 38, (.fld 0 (.t 37)), none, [13, 0, 1, 2, 3, 4, 5, 6, 7, 8, 9, 10, 11, 12]⟩,
    ⟨none, 60, (.store 1 (.t 38) (.t 36)), none, [14, 12, 12, 0, 1, 2, 3, 4, 5, 6, 7, 8, 9, 10, 11, 12]⟩])
  (.reg [⟨(some 39), 39, (.fld 3 (.t 5)), none, []⟩,
    ⟨(some 40), 40, (.load false 1 (.t 39)), none, [0]⟩,
    ⟨(some 41), 41, (.bslice 76 1 [.zc] 1 [(0, 1, (.k (.c .zc)))]), none, []⟩,
    ⟨(some 42), 42, (.app 76 1 24 (.t 40) (.t 41)), none, [1, 2]⟩,
    ⟨(some 43), 43, (.fld 3 (.t 5)), none, [0, 1, 2, 3]⟩,
    ⟨none, 50, (.store 1 (.t 43) (.t 42)), none, [4, 3, 3, 0, 1, 2, 3]⟩])))
  (.reg [⟨(some 22), 22, (.mv (.t 6)), none, []⟩,
    ⟨(some 23), 23, (.bin false .add (.t 22) (.k (.c (.s (.pv (.int .i64 1)))))), none, [0]⟩,
    ⟨(some 6), 6, (.mv (.t 23)), none, [1, 0, 1]⟩]))))))
  (.seq (.reg [⟨(some 44), 44, (.load true 9 (.t 5)), none, []⟩,
    ⟨none, 46, (.store 9 (.t 4) (.t 44)), none, [0, 0]⟩])
  .ret))))
theorem fn34 : FnIs Try.prog 34 ac34 [(.cell 4 true 9)] 45 := ⟨Try.f34, Try.func34, by kernel_rfl, by kernel_rfl, by kernel_rfl⟩
/- lockkeeper/lockkeeperlaw06.ref -/
def ac35 : ACode := (.seq (.reg [⟨(some 1), 1, (.box 68 9 (.t 0)), none, []⟩,
    ⟨(some 2), 2, (.mk 78 9 [[.zc, (.s (.pv (.int .i64 0))), (.s (.pv (.bool false))), .zc, .zc, .zc, (.s (.pv (.int .i64 0))), .zc, .zc]]), none, []⟩,
    ⟨(some 3), 3, (.mv (.k (.c (.s (.pv (.bool false)))))), none, []⟩])
  (.seq (.reg [⟨(some 18), 18, (.fld 4 (.t 1)), none, []⟩,
    ⟨(some 19), 19, (.fld 0 (.t 18)), none, [0]⟩,
    ⟨(some 20), 20, (.load true 2 (.t 19)), none, [1]⟩,
    ⟨(some 21), 21, (.fld 4 (.t 1)), none, []⟩,
    ⟨(some 22), 22, (.fld 2 (.t 21)), none, [3]⟩,
    ⟨(some 23), 23, (.load false 1 (.t 22)), none, [4]⟩,
    ⟨(some 24), 24, (.build [.zc, .zc, (.s (.pv (.int .i64 0))), .zc] [(0, 2, (.t 20)), (2, 1, (.t 23))]), none, [2, 5]⟩,
    ⟨(some 25), 25, (.fld 0 (.t 1)), none, []⟩,
    ⟨(some 26), 26, (.fld 1 (.t 25)), none, [7]⟩,
    ⟨(some 27), 27, (.load false 1 (.t 26)), none, [8]⟩,
    ⟨(some 28), 28, (.fld 0 (.t 1)), none, []⟩,
    ⟨(some 29), 29, (.fld 2 (.t 28)), none, [10]⟩,
    ⟨(some 30), 30, (.load false 1 (.t 29)), none, [11]⟩,
    ⟨(some 31), 31, (.build [.zc, (.s (.pv (.int .i64 0))), (.s (.pv (.bool false)))] [(1, 1, (.t 27)), (2, 1, (.t 30))]), none, [9, 12]⟩,
    ⟨(some 32), 32, (.build [.zc, (.s (.pv (.int .i64 0))), (.s (.pv (.bool false))), .zc, .zc, .zc, (.s (.pv (.int .i64 0))), .zc, .zc] [(4, 4, (.t 24)), (0, 3, (.t 31))]), none, [6, 13]⟩,
    ⟨(some 4), 4, (.mk 78 9 [[.zc, (.s (.pv (.int .i64 0))), (.s (.pv (.bool false))), .zc, .zc, .zc, (.s (.pv (.int .i64 0))), .zc, .zc]]), none, []⟩,
    ⟨none, 162, (.store 9 (.t 4) (.t 32)), none, [15, 14, 0, 1, 2, 3, 4, 5, 6, 7, 8, 9, 10, 11, 12, 13, 14, 15]⟩])
  (.seq (.seq (.reg [⟨(some 33), 33, (.fld 4 (.t 1)), none, []⟩,
    ⟨(some 34), 34, (.fld 0 (.t 33)), none, [0]⟩,
    ⟨(some 35), 35, (.load true 2 (.t 34)), none, [1]⟩,
    ⟨(some 36), 36, (.call 67 [(.t 35)]), none, [2]⟩,
    ⟨(some 37), 37, (.not (.t 36)), none, [3]⟩,
    ⟨(some 38), 38, (.mv (.t 37)), none, [4, 3]⟩,
    ⟨(some 39), 39, (.fld 4 (.t 1)), (some (38, false)), [5]⟩,
    ⟨(some 40), 40, (.fld 3 (.t 39)), (some (38, false)), [6, 5]⟩,
    ⟨(some 41), 41, (.load false 1 (.t 40)), (some (38, false)), [7, 5]⟩,
    ⟨(some 42), 42, (.len (.t 41)), (some (38, false)), [8, 5]⟩,
    ⟨(some 43), 43, (.bin false .gtr (.t 42) (.k (.c (.s (.pv (.int .i64 20)))))), (some (38, false)), [9, 5]⟩,
    ⟨(some 44), 44, (.pick (.t 38) (.k (.c (.s (.pv (.bool true))))) (.t 43)), none, [5, 10]⟩,
    ⟨(some 45), 45, (.mv (.t 44)), none, [11, 5]⟩,
    ⟨(some 46), 46, (.fld 0 (.t 1)), (some (45, false)), [12]⟩,
    ⟨(some 47), 47, (.fld 0 (.t 46)), (some (45, false)), [13, 12]⟩,
    ⟨(some 48), 48, (.load false 1 (.t 47)), (some (45, false)), [14, 12]⟩,
    ⟨(some 49), 49, (.len (.t 48)), (some (45, false)), [15, 12]⟩,
    ⟨(some 50), 50, (.bin false .gtr (.t 49) (.k (.c (.s (.pv (.int .i64 20)))))), (some (45, false)), [16, 12]⟩,
    ⟨(some 51), 51, (.pick (.t 45) (.k (.c (.s (.pv (.bool true))))) (.t 50)), none, [12, 17]⟩,
    ⟨(some 52), 52, (.mv (.t 51)), none, [18, 12]⟩,
    ⟨(some 53), 53, (.fld 3 (.t 1)), (some (52, false)), [19]⟩,
    ⟨(some 54), 54, (.load false 1 (.t 53)), (some (52, false)), [20, 19]⟩,
    ⟨(some 55), 55, (.len (.t 54)), (some (52, false)), [21, 19]⟩,
    ⟨(some 56), 56, (.bin false .gtr (.t 55) (.k (.c (.s (.pv (.int .i64 20)))))), (some (52, false)), [22, 19]⟩,
    ⟨(some 57), 57, (.pick (.t 52) (.k (.c (.s (.pv (.bool true))))) (.t 56)), none, [19, 23]⟩,
    ⟨(some 58), 58, (.mv (.t 57)), none, [24, 19]⟩,
    ⟨(some 59), 59, (.fld 8 (.t 1)), (some (58, false)), [25]⟩,
    ⟨(some 60), 60, (.load false 1 (.t 59)), (some (58, false)), [26, 25]⟩,
    ⟨(some 61), 61, (.len (.t 60)), (some (58, false)), [27, 25]⟩,
    ⟨(some 62), 62, (.bin false .gtr (.t 61) (.k (.c (.s (.pv (.int .i64 20)))))), (some (58, false)), [28, 25]⟩,
    ⟨(some 63), 63, (.pick (.t 58) (.k (.c (.s (.pv (.bool true))))) (.t 62)), none, [25, 29]⟩])
  (.cond (.t 63) (.seq (.reg [⟨(some 64), 64, (.load true 9 (.t 4)), none, []⟩,
    ⟨none, 147, (.store 9 (.t 2) (.t 64)), none, [0, 0]⟩,
    ⟨(some 3), 3, (.mv (.k (.c (.s (.pv (.bool false)))))), none, [1, 0, 1]⟩])
  .ret) .skip))
  (.seq (.reg [⟨(some 5), 5, (.mv (.k (.c .zc))), none, []⟩])
  (.seq (.seq (.reg [⟨(some 65), 65, (.fld 4 (.t 1)), none, []⟩,
    ⟨(some 66), 66, (.fld 3 (.t 65)), none, [0]⟩,
    ⟨(some 67), 67, (.load false 1 (.t 66)), none, [1]⟩,
    ⟨(some 68), 68, (.len (.t 67)), none, [2]⟩,
    ⟨(some 69), 69, (.mv (.k (.c (.s (.pv (.int .i64 0)))))), none, []⟩])
  (.block 0 (.loop (.seq (.reg [⟨(some 70), 70, (.bin false .lss (.t 69) (.t 68)), none, []⟩])
  (.seq (.cond (.t 70) .skip (.exit 0))
  (.seq (.block 1 (.seq (.reg [⟨(some 71), 71, (.idx 4 (.t 67) (.t 69)), none, []⟩,
    ⟨(some 72), 72, (.load true 4 (.t 71)), none, [0]⟩,
    ⟨(some 7), 7, (.mk 129 4 [[(.s (.pv (.int .i64 0))), (.s (.pv (.int .i64 0))), (.s (.pv (.int .i64 0))), (.s (.pv (.string ⟨#[]⟩)))]]), none, []⟩,
    ⟨none, 149, (.store 4 (.t 7) (.t 72)), none, [2, 1, 0, 1, 2]⟩])
  (.reg [⟨(some 73), 73, (.mv (.t 5)), none, []⟩,
    ⟨(some 74), 74, (.load true 4 (.t 7)), none, []⟩,
    ⟨(some 75), 75, (.bslice 133 4 [(.s (.pv (.int .i64 0))), (.s (.pv (.int .i64 0))), (.s (.pv (.int .i64 0))), (.s (.pv (.string ⟨#[]⟩)))] 1 [(0, 4, (.t 74))]), none, [1]⟩,
    ⟨(some 76), 76, (.app 133 4 40 (.t 73) (.t 75)), none, [0, 2]⟩,
    ⟨(some 5), 5, (.mv (.t 76)), none, [3, 3, 0, 1, 2, 3]⟩])))
  (.reg [⟨(some 77), 77, (.bin false .add (.t 69) (.k (.c (.s (.pv (.int .i64 1)))))), none, []⟩,
    ⟨(some 69), 69, (.mv (.t 77)), none, [0]⟩])))))))
  (.seq (.reg [⟨(some 8), 8, (.mv (.k (.c .zc))), none, []⟩])
  (.seq (.seq (.reg [⟨(some 78), 78, (.fld 0 (.t 1)), none, []⟩,
    ⟨(some 79), 79, (.fld 0 (.t 78)), none, [0]⟩,
    ⟨(some 80), 80, (.load false 1 (.t 79)), none, [1]⟩,
    ⟨(some 81), 81, (.len (.t 80)), none, [2]⟩,
    ⟨(some 82), 82, (.mv (.k (.c (.s (.pv (.int .i64 0)))))), none, []⟩])
  (.block 2 (.loop (.seq (.reg [⟨(some 83), 83, (.bin false .lss (.t 82) (.t 81)), none, []⟩])
  (.seq (.cond (.t 83) .skip (.exit 2))
  (.seq (.block 3 (.seq (.reg [⟨(some 84), 84, (.idx 3 (.t 80) (.t 82)), none, []⟩,
    ⟨(some 85), 85, (.load true 3 (.t 84)), none, [0]⟩,
    ⟨(some 10), 10, (.mk 56 3 [[(.s (.pv (.int .i64 0))), (.s (.pv (.int .i64 0))), .zc]]), none, []⟩,
    ⟨none, 149, (.store 3 (.t 10) (.t 85)), none, [2, 1, 0, 1, 2]⟩])
  (.seq (.seq (.reg [⟨(some 86), 86, (.fld 2 (.t 10)), none, []⟩,
    ⟨(some 87), 87, (.load false 1 (.t 86)), none, [0]⟩,
    ⟨(some 88), 88, (.len (.t 87)), none, [1]⟩,
    ⟨(some 89), 89, (.bin false .gtr (.t 88) (.k (.c (.s (.pv (.int .i64 220)))))), none, [2]⟩])
  (.cond (.t 89) (.seq (.reg [⟨(some 90), 90, (.load true 9 (.t 4)), none, []⟩,
    ⟨none, 147, (.store 9 (.t 2) (.t 90)), none, [0, 0]⟩,
    ⟨(some 3), 3, (.mv (.k (.c (.s (.pv (.bool false)))))), none, [1, 0, 1]⟩])
  .ret) .skip))
  (.reg [⟨(some 91), 91, (.mv (.t 8)), none, []⟩,
    ⟨(some 92), 92, (.load true 3 (.t 10)), none, []⟩,
    ⟨(some 93), 93, (.bslice 36 3 [(.s (.pv (.int .i64 0))), (.s (.pv (.int .i64 0))), .zc] 1 [(0, 3, (.t 92))]), none, [1]⟩,
    ⟨(some 94), 94, (.app 36 3 40 (.t 91) (.t 93)), none, [0, 2]⟩,
    ⟨(some 8), 8, (.mv (.t 94)), none, [3, 3, 0, 1, 2, 3]⟩]))))
  (.reg [⟨(some 95), 95, (.bin false .add (.t 82) (.k (.c (.s (.pv (.int .i64 1)))))), none, []⟩,
    ⟨(some 82), 82, (.mv (.t 95)), none, [0]⟩])))))))
  (.seq (.reg [⟨(some 96), 96, (.mv (.t 5)), none, []⟩,
    ⟨(some 97), 97, (.mv (.t 8)), none, []⟩,
    ⟨(some 98), 98, (.fld 4 (.t 4)), none, [0]⟩,
    ⟨(some 99), 99, (.fld 3 (.t 98)), none, [2, 0]⟩,
    ⟨none, 150, (.store 1 (.t 99) (.t 96)), none, [3, 0, 0]⟩,
    ⟨(some 100), 100, (.fld 0 (.t 4)), none, [0, 1, 2, 3, 4]⟩,
    ⟨(some 101), 101, (.fld 0 (.t 100)), none, [5, 0, 1, 2, 3, 4]⟩,
    ⟨none, 153, (.store 1 (.t 101) (.t 97)), none, [6, 1, 4, 0, 1, 2, 3, 4]⟩])
  (.seq (.seq (.reg [⟨(some 102), 102, (.fld 3 (.t 1)), none, []⟩,
    ⟨(some 103), 103, (.load false 1 (.t 102)), none, [0]⟩,
    ⟨(some 104), 104, (.len (.t 103)), none, [1]⟩,
    ⟨(some 105), 105, (.mv (.k (.c (.s (.pv (.int .i64 0)))))), none, []⟩])
  (.block 4 (.loop (.seq (.reg [⟨(some 106), 106, (.bin false .lss (.t 105) (.t 104)), none, []⟩])
  (.seq (.cond (.t 106) .skip (.exit 4))
  (.seq (.block 5 (.seq (.reg [⟨(some 107), 107, (.idx 1 (.t 103) (.t 105)), none, []⟩,
    ⟨(some 108), 108, (.load false 1 (.t 107)), none, [0]⟩,
    ⟨(some 12), 12, (.mv (.t 108)), none, [1, 0, 1]⟩])
  (.seq (.seq (.reg [⟨(some 109), 109, (.mv (.t 12)), none, []⟩,
    ⟨(some 110), 110, (.len (.t 109)), none, [0]⟩,
    ⟨(some 111), 111, (.bin false .gtr (.t 110) (.k (.c (.s (.pv (.int .i64 220)))))), none, [1]⟩])
  (.cond (.t 111) (.seq (.reg [⟨(some 112), 112, (.load true 9 (.t 4)), none, []⟩,
    ⟨none, 147, (.store 9 (.t 2) (.t 112)), none, [0, 0]⟩,
    ⟨(some 3), 3, (.mv (.k (.c (.s (.pv (.bool false)))))), none, [1, 0, 1]⟩])
  .ret) .skip))
  (.seq (.reg [⟨(some 13), 13, (.mv (.k (.c .zc))), none, []⟩])
  (.seq (.seq (.reg [⟨(some 113), 113, (.mv (.t 12)), none, []⟩,
    ⟨(some 114), 114, (.len (.t 113)), none, [0]⟩,
    ⟨(some 115), 115, (.mv (.k (.c (.s (.pv (.int .i64 0)))))), none, []⟩])
  (.block 6 (.loop (.seq (.reg [⟨(some 116), 116, (.bin false .lss (.t 115) (.t 114)), none, []⟩])
  (.seq (.cond (.t 116) .skip (.exit 6))
  (.seq (.block 7 (.seq (.reg [⟨(some 117), 117, (.idx 5 (.t 113) (.t 115)), none, []⟩,
    ⟨(some 118), 118, (.load true 5 (.t 117)), none, [0]⟩,
    ⟨(some 15), 15, (.mk 80 5 [[(.s (.pv (.int .i64 0))), (.s (.pv (.int .i64 0))), (.s (.pv (.int .i64 0))), (.s (.pv (.string ⟨#[]⟩))), (.s (.pv (.int .i64 0)))]]), none, []⟩,
    ⟨none, 149, (.store 5 (.t 15) (.t 118)), none, [2, 1, 0, 1, 2]⟩])
  (.reg [⟨(some 119), 119, (.mv (.t 13)), none, []⟩,
    ⟨(some 120), 120, (.load true 5 (.t 15)), none, []⟩,
    ⟨(some 121), 121, (.bslice 86 5 [(.s (.pv (.int .i64 0))), (.s (.pv (.int .i64 0))), (.s (.pv (.int .i64 0))), (.s (.pv (.string ⟨#[]⟩))), (.s (.pv (.int .i64 0)))] 1 [(0, 5, (.t 120))]), none, [1]⟩,
    ⟨(some 122), 122, (.app 86 5 48 (.t 119) (.t 121)), none, [0, 2]⟩,
    ⟨(some 13), 13, (.mv (.t 122)), none, [3, 3, 0, 1, 2, 3]⟩])))
  (.reg [⟨(some 123), 123, (.bin false .add (.t 115) (.k (.c (.s (.pv (.int .i64 1)))))), none, []⟩,
    ⟨(some 115), 115, (.mv (.t 123)), none, [0]⟩])))))))
  (.reg [⟨(some 124), 124, (.fld 3 (.t 4)), none, []⟩,
    ⟨(some 125), 125, (.load false 1 (.t 124)), none, [0]⟩,
    ⟨(some 126), 126, (.mv (.t 13)), none, []⟩,
    ⟨(some 127), 127, (.bslice 76 1 [.zc] 1 [(0, 1, (.t 126))]), none, [2]⟩,
    ⟨(some 128), 128, (.app 76 1 24 (.t 125) (.t 127)), none, [1, 3]⟩,
    ⟨(some 129), 129, (.fld 3 (.t 4)), none, [0, 1, 2, 3, 4]⟩,
    ⟨none, 152, (.store 1 (.t 129) (.t 128)), none, [5, 4, 4, 0, 1, 2, 3, 4]⟩]))))))
  (.reg [⟨(some 130), 130, (.bin false .add (.t 105) (.k (.c (.s (.pv (.int .i64 1)))))), none, []⟩,
    ⟨(some 105), 105, (.mv (.t 130)), none, [0]⟩])))))))
  (.seq (.seq (.reg [⟨(some 131), 131, (.fld 8 (.t 1)), none, []⟩,
    ⟨(some 132), 132, (.load false 1 (.t 131)), none, [0]⟩,
    ⟨(some 133), 133, (.len (.t 132)), none, [1]⟩,
    ⟨(some 134), 134, (.mv (.k (.c (.s (.pv (.int .i64 0)))))), none, []⟩])
  (.block 8 (.loop (.seq (.reg [⟨(some 135), 135, (.bin false .lss (.t 134) (.t 133)), none, []⟩])
  (.seq (.cond (.t 135) .skip (.exit 8))
  (.seq (.block 9 (.seq (.reg [⟨(some 136), 136, (.idx 5 (.t 132) (.t 134)), none, []⟩,
    ⟨(some 137), 137, (.load true 5 (.t 136)), none, [0]⟩,
    ⟨(some 17), 17, (.mk 80 5 [[(.s (.pv (.int .i64 0))), (.s (.pv (.int .i64 0))), (.s (.pv (.int .i64 0))), (.s (.pv (.string ⟨#[]⟩))), (.s (.pv (.int .i64 0)))]]), none, []⟩,
    ⟨none, 149, (.store 5 (.t 17) (.t 137)), none, [2, 1, 0, 1, 2]⟩])
  (.reg [⟨(some 138), 138, (.fld 8 (.t 4)), none, []⟩,
    ⟨(some 139), 139, (.load false 1 (.t 138)), none, [0]⟩,
    ⟨(some 140), 140, (.load true 5 (.t 17)), none, []⟩,
    ⟨(some 141), 141, (.bslice 86 5 [(.s (.pv (.int .i64 0))), (.s (.pv (.int .i64 0))), (.s (.pv (.int .i64 0))), (.s (.pv (.string ⟨#[]⟩))), (.s (.pv (.int .i64 0)))] 1 [(0, 5, (.t 140))]), none, [2]⟩,
    ⟨(some 142), 142, (.app 86 5 48 (.t 139) (.t 141)), none, [1, 3]⟩,
    ⟨(some 143), 143, (.fld 8 (.t 4)), none, [0, 1, 2, 3, 4]⟩,
    ⟨none, 152, (.store 1 (.t 143) (.t 142)), none, [5, 4, 4, 0, 1, 2, 3, 4]⟩])))
  (.reg [⟨(some 144), 144, (.bin false .add (.t 134) (.k (.c (.s (.pv (.int .i64 1)))))), none, []⟩,
    ⟨(some 134), 134, (.mv (.t 144)), none, [0]⟩])))))))
  (.seq (.reg [⟨(some 145), 145, (.load true 9 (.t 4)), none, []⟩,
    ⟨none, 147, (.store 9 (.t 2) (.t 145)), none, [0, 0]⟩,
    ⟨(some 3), 3, (.mv (.k (.c (.s (.pv (.bool true)))))), none, [1, 0, 1]⟩])
  .ret)))))))))))
theorem fn35 : FnIs Try.prog 35 ac35 [(.cell 2 true 9), (.t 3)] 146 := ⟨Try.f35, Try.func35, by kernel_rfl, by kernel_rfl, by kernel_rfl⟩
/- lockkeeper/lockkeeperref06.Same -/
def ac36 : ACode := (.seq (.reg [⟨(some 2), 2, (.box 78 9 (.t 0)), none, []⟩,
    ⟨(some 3), 3, (.box 78 9 (.t 1)), none, []⟩,
    ⟨(some 4), 4, (.mv (.k (.c (.s (.pv (.bool false)))))), none, []⟩])
  (.seq (.seq (.reg [⟨(some 6), 6, (.fld 0 (.t 2)), none, []⟩,
    ⟨(some 7), 7, (.load true 3 (.t 6)), none, [0]⟩,
    ⟨(some 8), 8, (.fld 0 (.t 3)), none, []⟩,
    ⟨(some 9), 9, (.load true 3 (.t 8)), none, [2]⟩,
    ⟨(some 10), 10, (.call 19 [(.t 7), (.t 9)]), none, [1, 3]⟩,
    ⟨(some 11), 11, (.not (.t 10)), none, [4]⟩,
    ⟨(some 12), 12, (.mv (.t 11)), none, [5, 4]⟩,
    ⟨(some 13), 13, (.fld 4 (.t 2)), (some (12, false)), [6]⟩,
    ⟨(some 14), 14, (.load true 4 (.t 13)), (some (12, false)), [7, 6]⟩,
    ⟨(some 15), 15, (.fld 4 (.t 3)), (some (12, false)), [6]⟩,
    ⟨(some 16), 16, (.load true 4 (.t 15)), (some (12, false)), [9, 6]⟩,
    ⟨(some 17), 17, (.call 68 [(.t 14), (.t 16)]), (some (12, false)), [8, 10, 6, 6]⟩,
    ⟨(some 18), 18, (.not (.t 17)), (some (12, false)), [11, 6]⟩,
    ⟨(some 19), 19, (.pick (.t 12) (.k (.c (.s (.pv (.bool true))))) (.t 18)), none, [6, 12]⟩,
    ⟨(some 20), 20, (.mv (.t 19)), none, [13, 11]⟩,
    ⟨(some 21), 21, (.fld 3 (.t 2)), (some (20, false)), [14]⟩,
    ⟨(some 22), 22, (.load false 1 (.t 21)), (some (20, false)), [15, 14]⟩,
    ⟨(some 23), 23, (.len (.t 22)), (some (20, false)), [16, 14]⟩,
    ⟨(some 24), 24, (.fld 3 (.t 3)), (some (20, false)), [14]⟩,
    ⟨(some 25), 25, (.load false 1 (.t 24)), (some (20, false)), [18, 14]⟩,
    ⟨(some 26), 26, (.len (.t 25)), (some (20, false)), [19, 14]⟩,
    ⟨(some 27), 27, (.bin false .neq (.t 23) (.t 26)), (some (20, false)), [17, 20, 14]⟩,
    ⟨(some 28), 28, (.pick (.t 20) (.k (.c (.s (.pv (.bool true))))) (.t 27)), none, [14, 21]⟩])
  (.cond (.t 28) (.seq (.reg [⟨(some 4), 4, (.mv (.k (.c (.s (.pv (.bool false)))))), none, []⟩])
  .ret) .skip))
  (.seq (.seq (.reg [⟨(some 5), 5, (.mv (.k (.c (.s (.pv (.int .i64 0)))))), none, []⟩])
  (.block 0 (.loop (.seq (.seq (.reg [⟨(some 29), 29, (.mv (.t 5)), none, []⟩,
    ⟨(some 30), 30, (.fld 3 (.t 2)), none, []⟩,
    ⟨(some 31), 31, (.load false 1 (.t 30)), none, [1]⟩,
    ⟨(some 32), 32, (.len (.t 31)), none, [2]⟩,
    ⟨(some 33), 33, (.bin false .lss (.t 29) (.t 32)), none, [0, 3]⟩])
  (.cond (.t 33) .skip (.exit 0)))
  (.seq (.block 1 (.seq (.draw [⟨(some 36), 36, (.fld 3 (.t 2)), none, []⟩,
    ⟨(some 37), 37, (.load false 1 (.t 36)), none, [0]⟩,
    ⟨(some 38), 38, (.mv (.t 5)), none, []⟩,
    ⟨(some 39), 39, (.idx 1 (.t 37) (.t 38)), none, [1, 2]⟩,
    ⟨(some 40), 40, (.load false 1 (.t 39)), none, [3]⟩,
    ⟨(some 41), 41, (.fld 3 (.t 3)), none, []⟩,
    ⟨(some 42), 42, (.load false 1 (.t 41)), none, [5]⟩,
    ⟨(some 43), 43, (.mv (.t 5)), none, []⟩,
    ⟨(some 44), 44, (.idx 1 (.t 42) (.t 43)), none, [6, 7]⟩,
    ⟨(some 45), 45, (.load false 1 (.t 44)), none, [8]⟩,
    ⟨(some 46), 46, (.call 69 [(.t 40), (.t 45)]), none, [4, 9]⟩,
    ⟨(some 47), 47, (.not (.t 46)), none, [10]⟩])
  (.cond (.t 47) (.seq (.reg [⟨(some 4), 4, (.mv (.k (.c (.s (.pv (.bool false)))))), none, []⟩])
  .ret) .skip)))
  (.reg [⟨(some 34), 34, (.mv (.t 5)), none, []⟩,
    ⟨(some 35), 35, (.bin false .add (.t 34) (.k (.c (.s (.pv (.int .i64 1)))))), none, [0]⟩,
    ⟨(some 5), 5, (.mv (.t 35)), none, [1, 0, 1]⟩]))))))
  (.seq (.reg [⟨(some 48), 48, (.fld 8 (.t 2)), none, []⟩,
    ⟨(some 49), 49, (.load false 1 (.t 48)), none, [0]⟩,
    ⟨(some 50), 50, (.fld 8 (.t 3)), none, []⟩,
    ⟨(some 51), 51, (.load false 1 (.t 50)), none, [2]⟩,
    ⟨(some 52), 52, (.call 69 [(.t 49), (.t 51)]), none, [1, 3]⟩,
    ⟨(some 4), 4, (.mv (.t 52)), none, [4, 4, 0, 1, 2, 3, 4]⟩])
  .ret))))
theorem fn36 : FnIs Try.prog 36 ac36 [(.t 4)] 53 := ⟨Try.f36, Try.func36, by kernel_rfl, by kernel_rfl, by kernel_rfl⟩
/- lockkeeper/sched.Right -/
def ac37 : ACode := (.seq (.reg [⟨(some 1), 1, (.box 68 9 (.t 0)), none, []⟩,
    ⟨(some 2), 2, (.mv (.k (.c (.s (.pv (.bool false)))))), none, []⟩])
  (.seq (.reg [⟨(some 3), 3, (.fld 0 (.t 1)), none, []⟩,
    ⟨(some 4), 4, (.load true 3 (.t 3)), none, [0]⟩,
    ⟨(some 5), 5, (.call 21 [(.t 4)]), none, [1]⟩,
    ⟨(some 6), 6, (.mv (.t 5)), none, [2, 2]⟩,
    ⟨(some 7), 7, (.fld 4 (.t 1)), (some (6, true)), [3]⟩,
    ⟨(some 8), 8, (.load true 4 (.t 7)), (some (6, true)), [4, 3]⟩,
    ⟨(some 9), 9, (.call 46 [(.t 8)]), (some (6, true)), [5, 3, 3]⟩,
    ⟨(some 10), 10, (.pick (.t 6) (.t 9) (.k (.c (.s (.pv (.bool false)))))), none, [3, 6]⟩,
    ⟨(some 11), 11, (.mv (.t 10)), none, [7, 6]⟩,
    ⟨(some 12), 12, (.load true 9 (.t 1)), (some (11, true)), [8]⟩,
    ⟨(some 13), 13, (.call 70 [(.t 12)]), (some (11, true)), [9, 8, 8]⟩,
    ⟨(some 14), 14, (.pick (.t 11) (.t 13) (.k (.c (.s (.pv (.bool false)))))), none, [8, 10]⟩,
    ⟨(some 15), 15, (.mv (.t 14)), none, [11, 10]⟩,
    ⟨(some 16), 16, (.load true 9 (.t 1)), (some (15, true)), [12]⟩,
    ⟨(some 17), 17, (.call 71 [(.t 16)]), (some (15, true)), [13, 12, 12]⟩,
    ⟨(some 18), 18, (.pick (.t 15) (.t 17) (.k (.c (.s (.pv (.bool false)))))), none, [12, 14]⟩,
    ⟨(some 2), 2, (.mv (.t 18)), none, [15, 14, 0, 1, 2, 3, 4, 5, 6, 7, 8, 9, 10, 11, 12, 13, 14, 15]⟩])
  .ret))
theorem fn37 : FnIs Try.prog 37 ac37 [(.t 2)] 19 := ⟨Try.f37, Try.func37, by kernel_rfl, by kernel_rfl, by kernel_rfl⟩
/- lockkeeper/sched.has -/
def ac48 : ACode := (.seq (.reg [⟨(some 2), 2, (.box 68 9 (.t 0)), none, []⟩,
    ⟨(some 4), 4, (.mv (.k (.c (.s (.pv (.bool false)))))), none, []⟩])
  (.seq (.reg [⟨(some 5), 5, (.mv (.t 1)), none, []⟩,
    ⟨(some 6), 6, (.bin false .geq (.t 5) (.k (.c (.s (.pv (.int .i64 0)))))), none, [0]⟩,
    ⟨(some 7), 7, (.mv (.t 6)), none, [1]⟩,
    ⟨(some 8), 8, (.mv (.t 1)), (some (7, true)), [2]⟩,
    ⟨(some 9), 9, (.fld 0 (.t 2)), (some (7, true)), [2]⟩,
    ⟨(some 10), 10, (.fld 0 (.t 9)), (some (7, true)), [4, 2]⟩,
    ⟨(some 11), 11, (.load false 1 (.t 10)), (some (7, true)), [5, 2]⟩,
    ⟨(some 12), 12, (.len (.t 11)), (some (7, true)), [6, 2]⟩,
    ⟨(some 13), 13, (.bin false .lss (.t 8) (.t 12)), (some (7, true)), [3, 7, 2]⟩,
    ⟨(some 14), 14, (.pick (.t 7) (.t 13) (.k (.c (.s (.pv (.bool false)))))), none, [2, 8]⟩,
    ⟨(some 4), 4, (.mv (.t 14)), none, [9, 2, 0, 1, 2, 3, 4, 5, 6, 7, 8, 9]⟩])
  .ret))
theorem fn48 : FnIs Try.prog 48 ac48 [(.t 4)] 15 := ⟨Try.f48, Try.func48, by kernel_rfl, by kernel_rfl, by kernel_rfl⟩
/- lockkeeper/sched.isNew -/
def ac49 : ACode := (.seq (.reg [⟨(some 2), 2, (.box 65 4 (.t 0)), none, []⟩,
    ⟨(some 3), 3, (.box 80 5 (.t 1)), none, []⟩,
    ⟨(some 4), 4, (.mv (.k (.c (.s (.pv (.bool false)))))), none, []⟩])
  (.seq (.reg [⟨(some 9), 9, (.fld 0 (.t 2)), none, []⟩,
    ⟨(some 10), 10, (.load true 2 (.t 9)), none, [0]⟩,
    ⟨(some 11), 11, (.build [.zc, .zc, (.s (.pv (.int .i64 0))), .zc] [(0, 2, (.t 10))]), none, [1]⟩,
    ⟨(some 12), 12, (.fld 1 (.t 3)), none, []⟩,
    ⟨(some 13), 13, (.load false 1 (.t 12)), none, [3]⟩,
    ⟨(some 14), 14, (.fld 2 (.t 3)), none, []⟩,
    ⟨(some 15), 15, (.load false 1 (.t 14)), none, [5]⟩,
    ⟨(some 16), 16, (.fld 3 (.t 3)), none, []⟩,
    ⟨(some 17), 17, (.load false 1 (.t 16)), none, [7]⟩,
    ⟨(some 18), 18, (.call 79 [(.t 11), (.t 13), (.t 15), (.t 17)]), none, [2, 4, 6, 8]⟩,
    ⟨(some 8), 8, (.mv (.t 18)), none, [9]⟩,
    ⟨(some 19), 19, (.ext 0 (.t 8)), none, [10]⟩,
    ⟨(some 20), 20, (.ext 1 (.t 8)), none, [10]⟩,
    ⟨(some 21), 21, (.ext 2 (.t 8)), none, [10]⟩,
    ⟨(some 5), 5, (.mk 65 4 [[.zc, .zc, (.s (.pv (.int .i64 0))), .zc]]), none, []⟩,
    ⟨none, 44, (.store 4 (.t 5) (.t 19)), none, [14, 11, 9, 0, 1, 2, 3, 4, 5, 6, 7, 8, 9, 10, 11, 14]⟩,
    ⟨(some 6), 6, (.mv (.t 20)), none, [12, 15, 0, 1, 2, 3, 4, 5, 6, 7, 8, 9, 10, 11, 12, 14, 15]⟩,
    ⟨(some 7), 7, (.mv (.t 21)), none, [13, 16, 0, 1, 2, 3, 4, 5, 6, 7, 8, 9, 10, 11, 12, 13, 14, 15, 16]⟩])
  (.seq (.reg [⟨(some 22), 22, (.fld 4 (.t 3)), none, []⟩,
    ⟨(some 23), 23, (.load false 1 (.t 22)), none, [0]⟩,
    ⟨(some 24), 24, (.bin false .eql (.t 23) (.k (.c (.s (.pv (.int .i64 0)))))), none, [1]⟩,
    ⟨(some 25), 25, (.mv (.t 24)), none, [2]⟩,
    ⟨(some 26), 26, (.mv (.t 7)), (some (25, true)), [3]⟩,
    ⟨(some 27), 27, (.bin false .eql (.t 26) (.k (.c (.s (.pv (.int .i64 0)))))), (some (25, true)), [4, 3]⟩,
    ⟨(some 28), 28, (.pick (.t 25) (.t 27) (.k (.c (.s (.pv (.bool false)))))), none, [3, 5]⟩,
    ⟨(some 4), 4, (.mv (.t 28)), none, [6, 3, 0, 1, 2, 3, 4, 5, 6]⟩])
  .ret)))
theorem fn49 : FnIs Try.prog 49 ac49 [(.t 4)] 29 := ⟨Try.f49, Try.func49, by kernel_rfl, by kernel_rfl, by kernel_rfl⟩
/- lockkeeper/sched.cost -/
def ac50 : ACode := (.seq (.reg [⟨(some 2), 2, (.mv (.k (.c (.s (.pv (.int .i64 0)))))), none, []⟩])
  (.seq (.seq (.reg [⟨(some 3), 3, (.mv (.t 0)), none, []⟩])
  (.block 0 (.seq (.reg [⟨(some 5), 5, (.bin false .eql (.t 3) (.k (.c (.s (.pv (.int .i64 1)))))), none, []⟩,
    ⟨(some 4), 4, (.mv (.t 5)), none, [0]⟩])
  (.cond (.t 4) (.seq (.reg [⟨(some 2), 2, (.mv (.k (.c (.s (.pv (.int .i64 2)))))), none, []⟩])
  .ret) (.seq (.reg [⟨(some 7), 7, (.bin false .eql (.t 3) (.k (.c (.s (.pv (.int .i64 2)))))), none, []⟩,
    ⟨(some 6), 6, (.mv (.t 7)), none, [0]⟩])
  (.cond (.t 6) (.seq (.reg [⟨(some 2), 2, (.mv (.k (.c (.s (.pv (.int .i64 4)))))), none, []⟩])
  .ret) (.seq (.reg [⟨(some 9), 9, (.bin false .eql (.t 3) (.k (.c (.s (.pv (.int .i64 3)))))), none, []⟩,
    ⟨(some 8), 8, (.mv (.t 9)), none, [0]⟩])
  (.cond (.t 8) (.seq (.reg [⟨(some 2), 2, (.mv (.k (.c (.s (.pv (.int .i64 1)))))), none, []⟩])
  .ret) .skip))))))))
  (.seq (.reg [⟨(some 2), 2, (.mv (.k (.c (.s (.pv (.int .i64 0)))))), none, []⟩])
  .ret)))
theorem fn50 : FnIs Try.prog 50 ac50 [(.t 2)] 10 := ⟨Try.f50, Try.func50, by kernel_rfl, by kernel_rfl, by kernel_rfl⟩
/- slices.Clone[[][]lockkeeper/sched.Job,[]lockkeeper/sched.Job] -/
def ac51 : ACode := (.seq (.reg [⟨(some 2), 2, (.mv (.k (.c .zc))), none, []⟩])
  (.seq (.seq (.reg [⟨(some 3), 3, (.mv (.t 0)), none, []⟩,
    ⟨(some 4), 4, (.isnil (.t 3)), none, [0]⟩])
  (.cond (.t 4) (.seq (.reg [⟨(some 2), 2, (.mv (.k (.c .zc))), none, []⟩])
  .ret) .skip))
  (.seq (.reg [⟨(some 5), 5, (.bslice 66 1 [.zc] 0 []), none, []⟩,
    ⟨(some 6), 6, (.mv (.t 0)), none, []⟩,
    ⟨(some 7), 7, (.app 66 1 24 (.t 5) (.t 6)), none, [0, 1]⟩,
    ⟨(some 2), 2, (.mv (.t 7)), none, [2, 2, 0, 1, 2]⟩])
  .ret)))
theorem fn51 : FnIs Try.prog 51 ac51 [(.t 2)] 8 := ⟨Try.f51, Try.func51, by kernel_rfl, by kernel_rfl, by kernel_rfl⟩
/- slices.Clone[[]lockkeeper/sched.Job,lockkeeper/sched.Job] -/
def ac52 : ACode := (.seq (.reg [⟨(some 2), 2, (.mv (.k (.c .zc))), none, []⟩])
  (.seq (.seq (.reg [⟨(some 3), 3, (.mv (.t 0)), none, []⟩,
    ⟨(some 4), 4, (.isnil (.t 3)), none, [0]⟩])
  (.cond (.t 4) (.seq (.reg [⟨(some 2), 2, (.mv (.k (.c .zc))), none, []⟩])
  .ret) .skip))
  (.seq (.reg [⟨(some 5), 5, (.bslice 80 5 [(.s (.pv (.int .i64 0))), (.s (.pv (.int .i64 0))), (.s (.pv (.int .i64 0))), (.s (.pv (.string ⟨#[]⟩))), (.s (.pv (.int .i64 0)))] 0 []), none, []⟩,
    ⟨(some 6), 6, (.mv (.t 0)), none, []⟩,
    ⟨(some 7), 7, (.app 80 5 48 (.t 5) (.t 6)), none, [0, 1]⟩,
    ⟨(some 2), 2, (.mv (.t 7)), none, [2, 2, 0, 1, 2]⟩])
  .ret)))
theorem fn52 : FnIs Try.prog 52 ac52 [(.t 2)] 8 := ⟨Try.f52, Try.func52, by kernel_rfl, by kernel_rfl, by kernel_rfl⟩
/- lockkeeper/lockkeeperref06.Right -/
def ac53 : ACode := (.seq (.reg [⟨(some 1), 1, (.box 78 9 (.t 0)), none, []⟩,
    ⟨(some 2), 2, (.mv (.k (.c (.s (.pv (.bool false)))))), none, []⟩])
  (.seq (.seq (.reg [⟨(some 10), 10, (.fld 0 (.t 1)), none, []⟩,
    ⟨(some 11), 11, (.load true 3 (.t 10)), none, [0]⟩,
    ⟨(some 12), 12, (.call 18 [(.t 11)]), none, [1]⟩,
    ⟨(some 13), 13, (.not (.t 12)), none, [2]⟩,
    ⟨(some 14), 14, (.mv (.t 13)), none, [3, 2]⟩,
    ⟨(some 15), 15, (.fld 4 (.t 1)), (some (14, false)), [4]⟩,
    ⟨(some 16), 16, (.load true 4 (.t 15)), (some (14, false)), [5, 4]⟩,
    ⟨(some 17), 17, (.call 80 [(.t 16)]), (some (14, false)), [6, 4, 4]⟩,
    ⟨(some 18), 18, (.not (.t 17)), (some (14, false)), [7, 4]⟩,
    ⟨(some 19), 19, (.pick (.t 14) (.k (.c (.s (.pv (.bool true))))) (.t 18)), none, [4, 8]⟩,
    ⟨(some 20), 20, (.mv (.t 19)), none, [9, 7]⟩,
    ⟨(some 21), 21, (.fld 3 (.t 1)), (some (20, false)), [10]⟩,
    ⟨(some 22), 22, (.load false 1 (.t 21)), (some (20, false)), [11, 10]⟩,
    ⟨(some 23), 23, (.len (.t 22)), (some (20, false)), [12, 10]⟩,
    ⟨(some 24), 24, (.fld 0 (.t 1)), (some (20, false)), [10]⟩,
    ⟨(some 25), 25, (.fld 0 (.t 24)), (some (20, false)), [14, 10]⟩,
    ⟨(some 26), 26, (.load false 1 (.t 25)), (some (20, false)), [15, 10]⟩,
    ⟨(some 27), 27, (.len (.t 26)), (some (20, false)), [16, 10]⟩,
    ⟨(some 28), 28, (.bin false .neq (.t 23) (.t 27)), (some (20, false)), [13, 17, 10]⟩,
    ⟨(some 29), 29, (.pick (.t 20) (.k (.c (.s (.pv (.bool true))))) (.t 28)), none, [10, 18]⟩,
    ⟨(some 30), 30, (.mv (.t 29)), none, [19, 10]⟩,
    ⟨(some 31), 31, (.fld 8 (.t 1)), (some (30, false)), [20]⟩,
    ⟨(some 32), 32, (.load false 1 (.t 31)), (some (30, false)), [21, 20]⟩,
    ⟨(some 33), 33, (.len (.t 32)), (some (30, false)), [22, 20]⟩,
    ⟨(some 34), 34, (.fld 4 (.t 1)), (some (30, false)), [20]⟩,
    ⟨(some 35), 35, (.fld 3 (.t 34)), (some (30, false)), [24, 20]⟩,
    ⟨(some 36), 36, (.load false 1 (.t 35)), (some (30, false)), [25, 20]⟩,
    ⟨(some 37), 37, (.len (.t 36)), (some (30, false)), [26, 20]⟩,
    ⟨(some 38), 38, (.bin false .neq (.t 33) (.t 37)), (some (30, false)), [23, 27, 20]⟩,
    ⟨(some 39), 39, (.pick (.t 30) (.k (.c (.s (.pv (.bool true))))) (.t 38)), none, [20, 28]⟩])
  (.cond (.t 39) (.seq (.reg [⟨(some 2), 2, (.mv (.k (.c (.s (.pv (.bool false)))))), none, []⟩])
  .ret) .skip))
  (.seq (.seq (.reg [⟨(some 3), 3, (.mv (.k (.c (.s (.pv (.int .i64 0)))))), none, []⟩])
  (.block 0 (.loop (.seq (.seq (.reg [⟨(some 40), 40, (.mv (.t 3)), none, []⟩,
    ⟨(some 41), 41, (.fld 3 (.t 1)), none, []⟩,
    ⟨(some 42), 42, (.load false 1 (.t 41)), none, [1]⟩,
    ⟨(some 43), 43, (.len (.t 42)), none, [2]⟩,
    ⟨(some 44), 44, (.bin false .lss (.t 40) (.t 43)), none, [0, 3]⟩])
  (.cond (.t 44) .skip (.exit 0)))
  (.seq (.block 1 (.seq (.reg [⟨(some 47), 47, (.fld 0 (.t 1)), none, []⟩,
    ⟨(some 48), 48, (.fld 0 (.t 47)), none, [0]⟩,
    ⟨(some 49), 49, (.load false 1 (.t 48)), none, [1]⟩,
    ⟨(some 50), 50, (.mv (.t 3)), none, []⟩,
    ⟨(some 51), 51, (.idx 3 (.t 49) (.t 50)), none, [2, 3]⟩,
    ⟨(some 52), 52, (.fld 2 (.t 51)), none, [4]⟩,
    ⟨(some 53), 53, (.load false 1 (.t 52)), none, [5]⟩,
    ⟨(some 4), 4, (.mv (.t 53)), none, [6, 0, 1, 2, 3, 4, 5, 6]⟩])
  (.seq (.seq (.reg [⟨(some 54), 54, (.mv (.t 4)), none, []⟩,
    ⟨(some 55), 55, (.len (.t 54)), none, [0]⟩,
    ⟨(some 56), 56, (.fld 3 (.t 1)), none, []⟩,
    ⟨(some 57), 57, (.load false 1 (.t 56)), none, [2]⟩,
    ⟨(some 58), 58, (.mv (.t 3)), none, []⟩,
    ⟨(some 59), 59, (.idx 1 (.t 57) (.t 58)), none, [3, 4]⟩,
    ⟨(some 60), 60, (.load false 1 (.t 59)), none, [5]⟩,
    ⟨(some 61), 61, (.len (.t 60)), none, [6]⟩,
    ⟨(some 62), 62, (.bin false .neq (.t 55) (.t 61)), none, [1, 7]⟩])
  (.cond (.t 62) (.seq (.reg [⟨(some 2), 2, (.mv (.k (.c (.s (.pv (.bool false)))))), none, []⟩])
  .ret) .skip))
  (.seq (.reg [⟨(some 5), 5, (.mv (.k (.c (.s (.pv (.int .i64 0)))))), none, []⟩])
  (.block 2 (.loop (.seq (.seq (.reg [⟨(some 63), 63, (.mv (.t 5)), none, []⟩,
    ⟨(some 64), 64, (.mv (.t 4)), none, []⟩,
    ⟨(some 65), 65, (.len (.t 64)), none, [1]⟩,
    ⟨(some 66), 66, (.bin false .lss (.t 63) (.t 65)), none, [0, 2]⟩])
  (.cond (.t 66) .skip (.exit 2)))
  (.seq (.block 3 (.seq (.reg [⟨(some 69), 69, (.fld 3 (.t 1)), none, []⟩,
    ⟨(some 70), 70, (.load false 1 (.t 69)), none, [0]⟩,
    ⟨(some 71), 71, (.mv (.t 3)), none, []⟩,
    ⟨(some 72), 72, (.idx 1 (.t 70) (.t 71)), none, [1, 2]⟩,
    ⟨(some 73), 73, (.load false 1 (.t 72)), none, [3]⟩,
    ⟨(some 74), 74, (.mv (.t 5)), none, []⟩,
    ⟨(some 75), 75, (.idx 5 (.t 73) (.t 74)), none, [4, 5]⟩,
    ⟨(some 76), 76, (.load true 5 (.t 75)), none, [6]⟩,
    ⟨(some 6), 6, (.mk 86 5 [[(.s (.pv (.int .i64 0))), (.s (.pv (.int .i64 0))), (.s (.pv (.int .i64 0))), (.s (.pv (.string ⟨#[]⟩))), (.s (.pv (.int .i64 0)))]]), none, []⟩,
    ⟨none, 175, (.store 5 (.t 6) (.t 76)), none, [8, 7, 0, 1, 2, 3, 4, 5, 6, 7, 8]⟩])
  (.seq (.draw [⟨(some 77), 77, (.fld 0 (.t 6)), none, []⟩,
    ⟨(some 78), 78, (.load false 1 (.t 77)), none, [0]⟩,
    ⟨(some 79), 79, (.mv (.t 3)), none, []⟩,
    ⟨(some 80), 80, (.bin false .neq (.t 78) (.t 79)), none, [1, 2]⟩,
    ⟨(some 81), 81, (.mv (.t 80)), none, [3]⟩,
    ⟨(some 82), 82, (.fld 4 (.t 6)), (some (81, false)), [4]⟩,
    ⟨(some 83), 83, (.load false 1 (.t 82)), (some (81, false)), [5, 4]⟩,
    ⟨(some 84), 84, (.bin false .neq (.t 83) (.k (.c (.s (.pv (.int .i64 0)))))), (some (81, false)), [6, 4]⟩,
    ⟨(some 85), 85, (.pick (.t 81) (.k (.c (.s (.pv (.bool true))))) (.t 84)), none, [4, 7]⟩,
    ⟨(some 86), 86, (.mv (.t 85)), none, [8, 4]⟩,
    ⟨(some 87), 87, (.fld 1 (.t 6)), (some (86, false)), [9]⟩,
    ⟨(some 88), 88, (.load false 1 (.t 87)), (some (86, false)), [10, 9]⟩,
    ⟨(some 89), 89, (.call 55 [(.t 88)]), (some (86, false)), [11, 9, 9]⟩,
    ⟨(some 90), 90, (.mv (.t 4)), (some (86, false)), [9]⟩,
    ⟨(some 91), 91, (.mv (.t 5)), (some (86, false)), [9]⟩,
    ⟨(some 92), 92, (.idx 1 (.t 90) (.t 91)), (some (86, false)), [13, 14, 9]⟩,
    ⟨(some 93), 93, (.load false 1 (.t 92)), (some (86, false)), [15, 9]⟩,
    ⟨(some 94), 94, (.bin false .neq (.t 89) (.t 93)), (some (86, false)), [12, 16, 9]⟩,
    ⟨(some 95), 95, (.pick (.t 86) (.k (.c (.s (.pv (.bool true))))) (.t 94)), none, [9, 17]⟩,
    ⟨(some 96), 96, (.mv (.t 95)), none, [18, 12]⟩,
    ⟨(some 97), 97, (.fld 1 (.t 6)), (some (96, false)), [19]⟩,
    ⟨(some 98), 98, (.load false 1 (.t 97)), (some (96, false)), [20, 19]⟩,
    ⟨(some 99), 99, (.fld 2 (.t 6)), (some (96, false)), [19]⟩,
    ⟨(some 100), 100, (.load false 1 (.t 99)), (some (96, false)), [22, 19]⟩,
    ⟨(some 101), 101, (.fld 3 (.t 6)), (some (96, false)), [19]⟩,
    ⟨(some 102), 102, (.load false 1 (.t 101)), (some (96, false)), [24, 19]⟩,
    ⟨(some 103), 103, (.call 54 [(.t 98), (.t 100), (.t 102)]), (some (96, false)), [21, 23, 25, 19, 19]⟩,
    ⟨(some 104), 104, (.not (.t 103)), (some (96, false)), [26, 19]⟩,
    ⟨(some 105), 105, (.pick (.t 96) (.k (.c (.s (.pv (.bool true))))) (.t 104)), none, [19, 27]⟩])
  (.cond (.t 105) (.seq (.reg [⟨(some 2), 2, (.mv (.k (.c (.s (.pv (.bool false)))))), none, []⟩])
  .ret) .skip))))
  (.reg [⟨(some 67), 67, (.mv (.t 5)), none, []⟩,
    ⟨(some 68), 68, (.bin false .add (.t 67) (.k (.c (.s (.pv (.int .i64 1)))))), none, [0]⟩,
    ⟨(some 5), 5, (.mv (.t 68)), none, [1, 0, 1]⟩])))))))))
  (.reg [⟨(some 45), 45, (.mv (.t 3)), none, []⟩,
    ⟨(some 46), 46, (.bin false .add (.t 45) (.k (.c (.s (.pv (.int .i64 1)))))), none, [0]⟩,
    ⟨(some 3), 3, (.mv (.t 46)), none, [1, 0, 1]⟩]))))))
  (.seq (.seq (.reg [⟨(some 7), 7, (.mv (.k (.c (.s (.pv (.int .i64 0)))))), none, []⟩])
  (.block 4 (.loop (.seq (.seq (.reg [⟨(some 106), 106, (.mv (.t 7)), none, []⟩,
    ⟨(some 107), 107, (.fld 8 (.t 1)), none, []⟩,
    ⟨(some 108), 108, (.load false 1 (.t 107)), none, [1]⟩,
    ⟨(some 109), 109, (.len (.t 108)), none, [2]⟩,
    ⟨(some 110), 110, (.bin false .lss (.t 106) (.t 109)), none, [0, 3]⟩])
  (.cond (.t 110) .skip (.exit 4)))
  (.seq (.block 5 (.seq (.draw [⟨(some 113), 113, (.fld 8 (.t 1)), none, []⟩,
    ⟨(some 114), 114, (.load false 1 (.t 113)), none, [0]⟩,
    ⟨(some 115), 115, (.mv (.t 7)), none, []⟩,
    ⟨(some 116), 116, (.idx 5 (.t 114) (.t 115)), none, [1, 2]⟩,
    ⟨(some 117), 117, (.load true 5 (.t 116)), none, [3]⟩,
    ⟨(some 118), 118, (.fld 4 (.t 1)), none, []⟩,
    ⟨(some 119), 119, (.fld 3 (.t 118)), none, [5]⟩,
    ⟨(some 120), 120, (.load false 1 (.t 119)), none, [6]⟩,
    ⟨(some 121), 121, (.mv (.t 7)), none, []⟩,
    ⟨(some 122), 122, (.idx 4 (.t 120) (.t 121)), none, [7, 8]⟩,
    ⟨(some 123), 123, (.load true 4 (.t 122)), none, [9]⟩,
    ⟨(some 8), 8, (.mk 86 5 [[(.s (.pv (.int .i64 0))), (.s (.pv (.int .i64 0))), (.s (.pv (.int .i64 0))), (.s (.pv (.string ⟨#[]⟩))), (.s (.pv (.int .i64 0)))]]), none, []⟩,
    ⟨(some 9), 9, (.mk 133 4 [[(.s (.pv (.int .i64 0))), (.s (.pv (.int .i64 0))), (.s (.pv (.int .i64 0))), (.s (.pv (.string ⟨#[]⟩)))]]), none, []⟩,
    ⟨none, 179, (.store 5 (.t 8) (.t 117)), none, [11, 4, 0, 1, 2, 3, 4, 11, 12]⟩,
    ⟨none, 180, (.store 4 (.t 9) (.t 123)), none, [12, 10, 13, 0, 1, 2, 3, 4, 5, 6, 7, 8, 9, 10, 11, 12, 13]⟩])
  (.seq (.reg [⟨(some 124), 124, (.fld 1 (.t 8)), none, []⟩,
    ⟨(some 125), 125, (.load false 1 (.t 124)), none, [0]⟩,
    ⟨(some 126), 126, (.fld 1 (.t 9)), none, []⟩,
    ⟨(some 127), 127, (.load false 1 (.t 126)), none, [2]⟩,
    ⟨(some 128), 128, (.bin false .neq (.t 125) (.t 127)), none, [1, 3]⟩,
    ⟨(some 129), 129, (.mv (.t 128)), none, [4]⟩,
    ⟨(some 130), 130, (.fld 2 (.t 8)), (some (129, false)), [5]⟩,
    ⟨(some 131), 131, (.load false 1 (.t 130)), (some (129, false)), [6, 5]⟩,
    ⟨(some 132), 132, (.fld 2 (.t 9)), (some (129, false)), [5]⟩,
    ⟨(some 133), 133, (.load false 1 (.t 132)), (some (129, false)), [8, 5]⟩,
    ⟨(some 134), 134, (.bin false .neq (.t 131) (.t 133)), (some (129, false)), [7, 9, 5]⟩,
    ⟨(some 135), 135, (.pick (.t 129) (.k (.c (.s (.pv (.bool true))))) (.t 134)), none, [5, 10]⟩,
    ⟨(some 136), 136, (.mv (.t 135)), none, [11, 5]⟩,
    ⟨(some 137), 137, (.fld 3 (.t 8)), (some (136, false)), [12]⟩,
    ⟨(some 138), 138, (.load false 1 (.t 137)), (some (136, false)), [13, 12]⟩,
    ⟨(some 139), 139, (.fld 3 (.t 9)), (some (136, false)), [12]⟩,
    ⟨(some 140), 140, (.load false 1 (.t 139)), (some (136, false)), [15, 12]⟩,
    ⟨(some 141), 141, (.bin false .neq (.t 138) (.t 140)), (some (136, false)), [14, 16, 12]⟩,
    ⟨(some 142), 142, (.pick (.t 136) (.k (.c (.s (.pv (.bool true))))) (.t 141)), none, [12, 17]⟩,
    ⟨(some 143), 143, (.mv (.t 142)), none, [18, 12]⟩,
    ⟨(some 144), 144, (.fld 0 (.t 8)), (some (143, false)), [19]⟩,
    ⟨(some 145), 145, (.load false 1 (.t 144)), (some (143, false)), [20, 19]⟩,
    ⟨(some 146), 146, (.bin false .lss (.t 145) (.k (.c (.s (.pv (.int .i64 0)))))), (some (143, false)), [21, 19]⟩,
    ⟨(some 147), 147, (.pick (.t 143) (.k (.c (.s (.pv (.bool true))))) (.t 146)), none, [19, 22]⟩,
    ⟨(some 148), 148, (.mv (.t 147)), none, [23, 19]⟩,
    ⟨(some 149), 149, (.fld 0 (.t 8)), (some (148, false)), [24]⟩,
    ⟨(some 150), 150, (.load false 1 (.t 149)), (some (148, false)), [25, 24]⟩,
    ⟨(some 151), 151, (.fld 3 (.t 1)), (some (148, false)), [24]⟩,
    ⟨(some 152), 152, (.load false 1 (.t 151)), (some (148, false)), [27, 24]⟩,
    ⟨(some 153), 153, (.len (.t 152)), (some (148, false)), [28, 24]⟩,
    ⟨(some 154), 154, (.bin false .geq (.t 150) (.t 153)), (some (148, false)), [26, 29, 24]⟩,
    ⟨(some 155), 155, (.pick (.t 148) (.k (.c (.s (.pv (.bool true))))) (.t 154)), none, [24, 30]⟩,
    ⟨(some 156), 156, (.mv (.t 155)), none, [31, 24]⟩,
    ⟨(some 157), 157, (.fld 4 (.t 8)), (some (156, false)), [32]⟩,
    ⟨(some 158), 158, (.load false 1 (.t 157)), (some (156, false)), [33, 32]⟩,
    ⟨(some 159), 159, (.bin false .lss (.t 158) (.k (.c (.s (.pv (.int .i64 1)))))), (some (156, false)), [34, 32]⟩,
    ⟨(some 160), 160, (.pick (.t 156) (.k (.c (.s (.pv (.bool true))))) (.t 159)), none, [32, 35]⟩,
    ⟨(some 161), 161, (.mv (.t 160)), none, [36, 32]⟩,
    ⟨(some 162), 162, (.fld 4 (.t 8)), (some (161, false)), [37]⟩,
    ⟨(some 163), 163, (.load false 1 (.t 162)), (some (161, false)), [38, 37]⟩,
    ⟨(some 164), 164, (.bin false .gtr (.t 163) (.k (.c (.s (.pv (.int .i64 3)))))), (some (161, false)), [39, 37]⟩,
    ⟨(some 165), 165, (.pick (.t 161) (.k (.c (.s (.pv (.bool true))))) (.t 164)), none, [37, 40]⟩])
  (.cond (.t 165) (.seq (.reg [⟨(some 2), 2, (.mv (.k (.c (.s (.pv (.bool false)))))), none, []⟩])
  .ret) .skip))))
  (.reg [⟨(some 111), 111, (.mv (.t 7)), none, []⟩,
    ⟨(some 112), 112, (.bin false .add (.t 111) (.k (.c (.s (.pv (.int .i64 1)))))), none, [0]⟩,
    ⟨(some 7), 7, (.mv (.t 112)), none, [1, 0, 1]⟩]))))))
  (.seq (.reg [⟨(some 2), 2, (.mv (.k (.c (.s (.pv (.bool true)))))), none, []⟩])
  .ret)))))
theorem fn53 : FnIs Try.prog 53 ac53 [(.t 2)] 166 := ⟨Try.f53, Try.func53, by kernel_rfl, by kernel_rfl, by kernel_rfl⟩
/- lockkeeper/lockkeeperref06.Cost -/
def ac55 : ACode := (.seq (.reg [⟨(some 2), 2, (.mv (.k (.c (.s (.pv (.int .i64 0)))))), none, []⟩])
  (.seq (.seq (.reg [⟨(some 3), 3, (.mv (.t 0)), none, []⟩,
    ⟨(some 4), 4, (.bin false .eql (.t 3) (.k (.c (.s (.pv (.int .i64 1)))))), none, [0]⟩])
  (.cond (.t 4) (.seq (.reg [⟨(some 2), 2, (.mv (.k (.c (.s (.pv (.int .i64 2)))))), none, []⟩])
  .ret) .skip))
  (.seq (.seq (.reg [⟨(some 5), 5, (.mv (.t 0)), none, []⟩,
    ⟨(some 6), 6, (.bin false .eql (.t 5) (.k (.c (.s (.pv (.int .i64 2)))))), none, [0]⟩])
  (.cond (.t 6) (.seq (.reg [⟨(some 2), 2, (.mv (.k (.c (.s (.pv (.int .i64 4)))))), none, []⟩])
  .ret) .skip))
  (.seq (.reg [⟨(some 2), 2, (.mv (.k (.c (.s (.pv (.int .i64 1)))))), none, []⟩])
  .ret))))
theorem fn55 : FnIs Try.prog 55 ac55 [(.t 2)] 7 := ⟨Try.f55, Try.func55, by kernel_rfl, by kernel_rfl, by kernel_rfl⟩
/- lockkeeper/lockkeeperref06.behind -/
def ac56 : ACode := (.seq (.reg [⟨(some 3), 3, (.box 86 5 (.t 1)), none, []⟩,
    ⟨(some 4), 4, (.mv (.k (.c .zc))), none, []⟩])
  (.seq (.reg [⟨(some 5), 5, (.mv (.k (.c .zc))), none, []⟩])
  (.seq (.reg [⟨(some 6), 6, (.mv (.t 5)), none, []⟩,
    ⟨(some 7), 7, (.mv (.t 0)), none, []⟩,
    ⟨(some 8), 8, (.app 86 5 48 (.t 6) (.t 7)), none, [0, 1]⟩,
    ⟨(some 5), 5, (.mv (.t 8)), none, [2, 2, 0, 1, 2]⟩])
  (.seq (.reg [⟨(some 9), 9, (.mv (.t 5)), none, []⟩,
    ⟨(some 10), 10, (.load true 5 (.t 3)), none, []⟩,
    ⟨(some 11), 11, (.bslice 86 5 [(.s (.pv (.int .i64 0))), (.s (.pv (.int .i64 0))), (.s (.pv (.int .i64 0))), (.s (.pv (.string ⟨#[]⟩))), (.s (.pv (.int .i64 0)))] 1 [(0, 5, (.t 10))]), none, [1]⟩,
    ⟨(some 12), 12, (.app 86 5 48 (.t 9) (.t 11)), none, [0, 2]⟩,
    ⟨(some 4), 4, (.mv (.t 12)), none, [3, 3, 0, 1, 2, 3]⟩])
  .ret))))
theorem fn56 : FnIs Try.prog 56 ac56 [(.t 4)] 13 := ⟨Try.f56, Try.func56, by kernel_rfl, by kernel_rfl, by kernel_rfl⟩
/- lockkeeper/sched.submit -/
def ac57 : ACode := (.seq (.reg [⟨(some 2), 2, (.box 68 9 (.t 0)), none, []⟩,
    ⟨(some 3), 3, (.box 80 5 (.t 1)), none, []⟩,
    ⟨(some 4), 4, (.mk 68 9 [[.zc, (.s (.pv (.int .i64 0))), (.s (.pv (.bool false))), .zc, .zc, .zc, (.s (.pv (.int .i64 0))), .zc, .zc]]), none, []⟩])
  (.seq (.reg [⟨(some 6), 6, (.fld 4 (.t 2)), none, []⟩,
    ⟨(some 7), 7, (.load true 4 (.t 6)), none, [0]⟩,
    ⟨(some 8), 8, (.fld 1 (.t 3)), none, []⟩,
    ⟨(some 9), 9, (.load false 1 (.t 8)), none, [2]⟩,
    ⟨(some 10), 10, (.fld 2 (.t 3)), none, []⟩,
    ⟨(some 11), 11, (.load false 1 (.t 10)), none, [4]⟩,
    ⟨(some 12), 12, (.fld 3 (.t 3)), none, []⟩,
    ⟨(some 13), 13, (.load false 1 (.t 12)), none, [6]⟩,
    ⟨(some 14), 14, (.call 79 [(.t 7), (.t 9), (.t 11), (.t 13)]), none, [1, 3, 5, 7]⟩,
    ⟨(some 5), 5, (.mv (.t 14)), none, [8]⟩,
    ⟨(some 15), 15, (.ext 0 (.t 5)), none, [9]⟩,
    ⟨(some 16), 16, (.ext 1 (.t 5)), none, [9]⟩,
    ⟨(some 17), 17, (.ext 2 (.t 5)), none, [9]⟩,
    ⟨(some 18), 18, (.fld 4 (.t 2)), none, [0, 1, 2, 3, 4, 5, 6, 7, 8, 9, 10]⟩,
    ⟨none, 45, (.store 4 (.t 18) (.t 15)), none, [13, 10, 8, 0, 1, 2, 3, 4, 5, 6, 7, 8, 9, 10]⟩])
  (.seq (.reg [⟨(some 19), 19, (.fld 4 (.t 3)), none, []⟩,
    ⟨(some 20), 20, (.load false 1 (.t 19)), none, [0]⟩,
    ⟨(some 21), 21, (.bin false .add (.t 20) (.k (.c (.s (.pv (.int .i64 1)))))), none, [1]⟩,
    ⟨(some 22), 22, (.fld 4 (.t 3)), none, [0, 1, 2]⟩,
    ⟨none, 35, (.store 1 (.t 22) (.t 21)), none, [3, 2, 0, 1, 2]⟩])
  (.seq (.draw [⟨(some 23), 23, (.fld 8 (.t 2)), none, []⟩,
    ⟨(some 24), 24, (.load false 1 (.t 23)), none, [0]⟩,
    ⟨(some 25), 25, (.call 52 [(.t 24)]), none, [1]⟩,
    ⟨(some 26), 26, (.load true 5 (.t 3)), none, []⟩,
    ⟨(some 27), 27, (.bslice 80 5 [(.s (.pv (.int .i64 0))), (.s (.pv (.int .i64 0))), (.s (.pv (.int .i64 0))), (.s (.pv (.string ⟨#[]⟩))), (.s (.pv (.int .i64 0)))] 1 [(0, 5, (.t 26))]), none, [3]⟩,
    ⟨(some 28), 28, (.app 80 5 48 (.t 25) (.t 27)), none, [2, 4, 2]⟩,
    ⟨(some 29), 29, (.fld 8 (.t 2)), none, [0, 1, 2, 3, 4, 5]⟩,
    ⟨none, 38, (.store 1 (.t 29) (.t 28)), none, [6, 5, 5, 0, 1, 2, 3, 4, 5]⟩])
  (.seq (.reg [⟨(some 30), 30, (.load true 9 (.t 2)), none, []⟩,
    ⟨none, 32, (.store 9 (.t 4) (.t 30)), none, [0, 0]⟩])
  .ret)))))
theorem fn57 : FnIs Try.prog 57 ac57 [(.cell 4 true 9)] 31 := ⟨Try.f57, Try.func57, by kernel_rfl, by kernel_rfl, by kernel_rfl⟩
/- lockkeeper/lockkeeperref06.without -/
def ac60 : ACode := (.seq (.reg [⟨(some 4), 4, (.mv (.k (.c .zc))), none, []⟩])
  (.seq (.reg [⟨(some 5), 5, (.mv (.k (.c .zc))), none, []⟩])
  (.seq (.seq (.reg [⟨(some 6), 6, (.mv (.k (.c (.s (.pv (.int .i64 0)))))), none, []⟩])
  (.block 0 (.loop (.seq (.seq (.reg [⟨(some 7), 7, (.mv (.t 6)), none, []⟩,
    ⟨(some 8), 8, (.mv (.t 0)), none, []⟩,
    ⟨(some 9), 9, (.len (.t 8)), none, [1]⟩,
    ⟨(some 10), 10, (.bin false .lss (.t 7) (.t 9)), none, [0, 2]⟩])
  (.cond (.t 10) .skip (.exit 0)))
  (.seq (.block 1 (.seq (.reg [⟨(some 13), 13, (.mv (.t 6)), none, []⟩,
    ⟨(some 14), 14, (.mv (.t 1)), none, []⟩,
    ⟨(some 15), 15, (.bin false .neq (.t 13) (.t 14)), none, [0, 1]⟩])
  (.cond (.t 15) (.reg [⟨(some 16), 16, (.mv (.t 5)), none, []⟩,
    ⟨(some 17), 17, (.mv (.t 0)), none, []⟩,
    ⟨(some 18), 18, (.mv (.t 6)), none, []⟩,
    ⟨(some 19), 19, (.idx 5 (.t 17) (.t 18)), none, [1, 2]⟩,
    ⟨(some 20), 20, (.load true 5 (.t 19)), none, [3]⟩,
    ⟨(some 21), 21, (.bslice 86 5 [(.s (.pv (.int .i64 0))), (.s (.pv (.int .i64 0))), (.s (.pv (.int .i64 0))), (.s (.pv (.string ⟨#[]⟩))), (.s (.pv (.int .i64 0)))] 1 [(0, 5, (.t 20))]), none, [4]⟩,
    ⟨(some 22), 22, (.app 86 5 48 (.t 16) (.t 21)), none, [0, 5]⟩,
    ⟨(some 5), 5, (.mv (.t 22)), none, [6, 6, 0, 1, 2, 3, 4, 5, 6]⟩]) .skip)))
  (.reg [⟨(some 11), 11, (.mv (.t 6)), none, []⟩,
    ⟨(some 12), 12, (.bin false .add (.t 11) (.k (.c (.s (.pv (.int .i64 1)))))), none, [0]⟩,
    ⟨(some 6), 6, (.mv (.t 12)), none, [1, 0, 1]⟩]))))))
  (.seq (.reg [⟨(some 23), 23, (.mv (.t 5)), none, []⟩,
    ⟨(some 4), 4, (.mv (.t 23)), none, [0, 0]⟩])
  .ret))))
theorem fn60 : FnIs Try.prog 60 ac60 [(.t 4)] 24 := ⟨Try.f60, Try.func60, by kernel_rfl, by kernel_rfl, by kernel_rfl⟩
/- lockkeeper/lockkeeperref06.again -/
def ac61 : ACode := (.seq (.reg [⟨(some 2), 2, (.box 78 9 (.t 0)), none, []⟩,
    ⟨(some 3), 3, (.box 86 5 (.t 1)), none, []⟩,
    ⟨(some 4), 4, (.mk 78 9 [[.zc, (.s (.pv (.int .i64 0))), (.s (.pv (.bool false))), .zc, .zc, .zc, (.s (.pv (.int .i64 0))), .zc, .zc]]), none, []⟩])
  (.seq (.reg [⟨(some 9), 9, (.fld 4 (.t 2)), none, []⟩,
    ⟨(some 10), 10, (.load true 4 (.t 9)), none, [0]⟩,
    ⟨(some 11), 11, (.fld 1 (.t 3)), none, []⟩,
    ⟨(some 12), 12, (.load false 1 (.t 11)), none, [2]⟩,
    ⟨(some 13), 13, (.fld 2 (.t 3)), none, []⟩,
    ⟨(some 14), 14, (.load false 1 (.t 13)), none, [4]⟩,
    ⟨(some 15), 15, (.fld 3 (.t 3)), none, []⟩,
    ⟨(some 16), 16, (.load false 1 (.t 15)), none, [6]⟩,
    ⟨(some 17), 17, (.call 83 [(.t 10), (.t 12), (.t 14), (.t 16)]), none, [1, 3, 5, 7]⟩,
    ⟨(some 8), 8, (.mv (.t 17)), none, [8]⟩,
    ⟨(some 18), 18, (.ext 0 (.t 8)), none, [9]⟩,
    ⟨(some 19), 19, (.ext 1 (.t 8)), none, [9]⟩,
    ⟨(some 20), 20, (.ext 2 (.t 8)), none, [9]⟩,
    ⟨(some 5), 5, (.mk 75 4 [[.zc, .zc, (.s (.pv (.int .i64 0))), .zc]]), none, []⟩,
    ⟨none, 49, (.store 4 (.t 5) (.t 18)), none, [13, 10, 8, 0, 1, 2, 3, 4, 5, 6, 7, 8, 9, 10, 13]⟩,
    ⟨(some 6), 6, (.mv (.t 19)), none, [11, 14, 0, 1, 2, 3, 4, 5, 6, 7, 8, 9, 10, 11, 13, 14]⟩,
    ⟨(some 7), 7, (.mv (.t 20)), none, [12, 15, 0, 1, 2, 3, 4, 5, 6, 7, 8, 9, 10, 11, 12, 13, 14, 15]⟩])
  (.seq (.reg [⟨(some 21), 21, (.fld 4 (.t 3)), none, []⟩,
    ⟨(some 22), 22, (.load false 1 (.t 21)), none, [0]⟩,
    ⟨(some 23), 23, (.bin false .add (.t 22) (.k (.c (.s (.pv (.int .i64 1)))))), none, [1]⟩,
    ⟨(some 24), 24, (.fld 4 (.t 3)), none, [0, 1, 2]⟩,
    ⟨none, 39, (.store 1 (.t 24) (.t 23)), none, [3, 2, 0, 1, 2]⟩])
  (.seq (.draw [⟨(some 25), 25, (.fld 0 (.t 2)), none, []⟩,
    ⟨(some 26), 26, (.load true 3 (.t 25)), none, [0]⟩,
    ⟨(some 27), 27, (.fld 3 (.t 2)), none, []⟩,
    ⟨(some 28), 28, (.load false 1 (.t 27)), none, [2]⟩,
    ⟨(some 29), 29, (.load true 4 (.t 5)), none, []⟩,
    ⟨(some 30), 30, (.fld 8 (.t 2)), none, []⟩,
    ⟨(some 31), 31, (.load false 1 (.t 30)), none, [5]⟩,
    ⟨(some 32), 32, (.load true 5 (.t 3)), none, []⟩,
    ⟨(some 33), 33, (.call 56 [(.t 31), (.t 32)]), none, [6, 7]⟩,
    ⟨(some 34), 34, (.build [.zc, (.s (.pv (.int .i64 0))), (.s (.pv (.bool false))), .zc, .zc, .zc, (.s (.pv (.int .i64 0))), .zc, .zc] [(0, 3, (.t 26)), (3, 1, (.t 28)), (4, 4, (.t 29)), (8, 1, (.t 33))]), none, [1, 3, 4, 8]⟩,
    ⟨none, 45, (.store 9 (.t 4) (.t 34)), none, [9, 8, 0, 1, 2, 3, 4, 5, 6, 7, 8, 9]⟩])
  .ret))))
theorem fn61 : FnIs Try.prog 61 ac61 [(.cell 4 true 9)] 35 := ⟨Try.f61, Try.func61, by kernel_rfl, by kernel_rfl, by kernel_rfl⟩
/- lockkeeper/lockkeeperref06.jobs -/
def ac69 : ACode := (.seq (.reg [⟨(some 4), 4, (.mv (.k (.c (.s (.pv (.bool false)))))), none, []⟩])
  (.seq (.seq (.reg [⟨(some 6), 6, (.mv (.t 0)), none, []⟩,
    ⟨(some 7), 7, (.len (.t 6)), none, [0]⟩,
    ⟨(some 8), 8, (.mv (.t 1)), none, []⟩,
    ⟨(some 9), 9, (.len (.t 8)), none, [2]⟩,
    ⟨(some 10), 10, (.bin false .neq (.t 7) (.t 9)), none, [1, 3]⟩])
  (.cond (.t 10) (.seq (.reg [⟨(some 4), 4, (.mv (.k (.c (.s (.pv (.bool false)))))), none, []⟩])
  .ret) .skip))
  (.seq (.seq (.reg [⟨(some 5), 5, (.mv (.k (.c (.s (.pv (.int .i64 0)))))), none, []⟩])
  (.block 0 (.loop (.seq (.seq (.reg [⟨(some 11), 11, (.mv (.t 5)), none, []⟩,
    ⟨(some 12), 12, (.mv (.t 0)), none, []⟩,
    ⟨(some 13), 13, (.len (.t 12)), none, [1]⟩,
    ⟨(some 14), 14, (.bin false .lss (.t 11) (.t 13)), none, [0, 2]⟩])
  (.cond (.t 14) .skip (.exit 0)))
  (.seq (.block 1 (.seq (.draw [⟨(some 17), 17, (.mv (.t 0)), none, []⟩,
    ⟨(some 18), 18, (.mv (.t 5)), none, []⟩,
    ⟨(some 19), 19, (.idx 5 (.t 17) (.t 18)), none, [0, 1]⟩,
    ⟨(some 20), 20, (.load true 5 (.t 19)), none, [2]⟩,
    ⟨(some 21), 21, (.mv (.t 1)), none, []⟩,
    ⟨(some 22), 22, (.mv (.t 5)), none, []⟩,
    ⟨(some 23), 23, (.idx 5 (.t 21) (.t 22)), none, [4, 5]⟩,
    ⟨(some 24), 24, (.load true 5 (.t 23)), none, [6]⟩,
    ⟨(some 25), 25, (.eqs true 86 (.t 20) (.t 24)), none, [3, 7]⟩])
  (.cond (.t 25) (.seq (.reg [⟨(some 4), 4, (.mv (.k (.c (.s (.pv (.bool false)))))), none, []⟩])
  .ret) .skip)))
  (.reg [⟨(some 15), 15, (.mv (.t 5)), none, []⟩,
    ⟨(some 16), 16, (.bin false .add (.t 15) (.k (.c (.s (.pv (.int .i64 1)))))), none, [0]⟩,
    ⟨(some 5), 5, (.mv (.t 16)), none, [1, 0, 1]⟩]))))))
  (.seq (.reg [⟨(some 4), 4, (.mv (.k (.c (.s (.pv (.bool true)))))), none, []⟩])
  .ret))))
theorem fn69 : FnIs Try.prog 69 ac69 [(.t 4)] 26 := ⟨Try.f69, Try.func69, by kernel_rfl, by kernel_rfl, by kernel_rfl⟩
/- lockkeeper/sched.waitsRight -/
def ac70 : ACode := (.seq (.reg [⟨(some 1), 1, (.box 68 9 (.t 0)), none, []⟩,
    ⟨(some 2), 2, (.mv (.k (.c (.s (.pv (.bool false)))))), none, []⟩])
  (.seq (.seq (.reg [⟨(some 8), 8, (.fld 3 (.t 1)), none, []⟩,
    ⟨(some 9), 9, (.load false 1 (.t 8)), none, [0]⟩,
    ⟨(some 10), 10, (.len (.t 9)), none, [1]⟩,
    ⟨(some 11), 11, (.fld 0 (.t 1)), none, []⟩,
    ⟨(some 12), 12, (.fld 0 (.t 11)), none, [3]⟩,
    ⟨(some 13), 13, (.load false 1 (.t 12)), none, [4]⟩,
    ⟨(some 14), 14, (.len (.t 13)), none, [5]⟩,
    ⟨(some 15), 15, (.bin false .neq (.t 10) (.t 14)), none, [2, 6]⟩])
  (.cond (.t 15) (.seq (.reg [⟨(some 2), 2, (.mv (.k (.c (.s (.pv (.bool false)))))), none, []⟩])
  .ret) .skip))
  (.seq (.seq (.reg [⟨(some 16), 16, (.fld 3 (.t 1)), none, []⟩,
    ⟨(some 17), 17, (.load false 1 (.t 16)), none, [0]⟩,
    ⟨(some 18), 18, (.len (.t 17)), none, [1]⟩,
    ⟨(some 19), 19, (.mv (.k (.c (.s (.pv (.int .i64 0)))))), none, []⟩])
  (.block 0 (.loop (.seq (.reg [⟨(some 20), 20, (.bin false .lss (.t 19) (.t 18)), none, []⟩])
  (.seq (.cond (.t 20) .skip (.exit 0))
  (.seq (.block 1 (.seq (.reg [⟨(some 21), 21, (.mv (.t 19)), none, []⟩,
    ⟨(some 22), 22, (.idx 1 (.t 17) (.t 19)), none, []⟩,
    ⟨(some 23), 23, (.load false 1 (.t 22)), none, [1]⟩,
    ⟨(some 3), 3, (.mv (.t 21)), none, [0, 0, 1, 2]⟩,
    ⟨(some 4), 4, (.mv (.t 23)), none, [2, 3, 0, 1, 2, 3]⟩])
  (.seq (.reg [⟨(some 24), 24, (.fld 0 (.t 1)), none, []⟩,
    ⟨(some 25), 25, (.fld 0 (.t 24)), none, [0]⟩,
    ⟨(some 26), 26, (.load false 1 (.t 25)), none, [1]⟩,
    ⟨(some 27), 27, (.mv (.t 3)), none, []⟩,
    ⟨(some 28), 28, (.idx 3 (.t 26) (.t 27)), none, [2, 3]⟩,
    ⟨(some 29), 29, (.fld 2 (.t 28)), none, [4]⟩,
    ⟨(some 30), 30, (.load false 1 (.t 29)), none, [5]⟩,
    ⟨(some 5), 5, (.mv (.t 30)), none, [6, 0, 1, 2, 3, 4, 5, 6]⟩])
  (.seq (.seq (.reg [⟨(some 31), 31, (.mv (.t 4)), none, []⟩,
    ⟨(some 32), 32, (.len (.t 31)), none, [0]⟩,
    ⟨(some 33), 33, (.mv (.t 5)), none, []⟩,
    ⟨(some 34), 34, (.len (.t 33)), none, [2]⟩,
    ⟨(some 35), 35, (.bin false .neq (.t 32) (.t 34)), none, [1, 3]⟩])
  (.cond (.t 35) (.seq (.reg [⟨(some 2), 2, (.mv (.k (.c (.s (.pv (.bool false)))))), none, []⟩])
  .ret) .skip))
  (.seq (.reg [⟨(some 36), 36, (.mv (.t 4)), none, []⟩,
    ⟨(some 37), 37, (.len (.t 36)), none, [0]⟩,
    ⟨(some 38), 38, (.mv (.k (.c (.s (.pv (.int .i64 0)))))), none, []⟩])
  (.block 2 (.loop (.seq (.reg [⟨(some 39), 39, (.bin false .lss (.t 38) (.t 37)), none, []⟩])
  (.seq (.cond (.t 39) .skip (.exit 2))
  (.seq (.block 3 (.seq (.reg [⟨(some 40), 40, (.mv (.t 38)), none, []⟩,
    ⟨(some 41), 41, (.idx 5 (.t 36) (.t 38)), none, []⟩,
    ⟨(some 42), 42, (.load true 5 (.t 41)), none, [1]⟩,
    ⟨(some 7), 7, (.mk 80 5 [[(.s (.pv (.int .i64 0))), (.s (.pv (.int .i64 0))), (.s (.pv (.int .i64 0))), (.s (.pv (.string ⟨#[]⟩))), (.s (.pv (.int .i64 0)))]]), none, []⟩,
    ⟨(some 6), 6, (.mv (.t 40)), none, [0, 0, 1, 2, 3]⟩,
    ⟨none, 71, (.store 5 (.t 7) (.t 42)), none, [3, 2, 4, 0, 1, 2, 3, 4]⟩])
  (.seq (.draw [⟨(some 43), 43, (.fld 0 (.t 7)), none, []⟩,
    ⟨(some 44), 44, (.load false 1 (.t 43)), none, [0]⟩,
    ⟨(some 45), 45, (.mv (.t 3)), none, []⟩,
    ⟨(some 46), 46, (.bin false .neq (.t 44) (.t 45)), none, [1, 2]⟩,
    ⟨(some 47), 47, (.mv (.t 46)), none, [3]⟩,
    ⟨(some 48), 48, (.fld 1 (.t 7)), (some (47, false)), [4]⟩,
    ⟨(some 49), 49, (.load false 1 (.t 48)), (some (47, false)), [5, 4]⟩,
    ⟨(some 50), 50, (.call 50 [(.t 49)]), (some (47, false)), [6, 4, 4]⟩,
    ⟨(some 51), 51, (.mv (.t 5)), (some (47, false)), [4]⟩,
    ⟨(some 52), 52, (.mv (.t 6)), (some (47, false)), [4]⟩,
    ⟨(some 53), 53, (.idx 1 (.t 51) (.t 52)), (some (47, false)), [8, 9, 4]⟩,
    ⟨(some 54), 54, (.load false 1 (.t 53)), (some (47, false)), [10, 4]⟩,
    ⟨(some 55), 55, (.bin false .neq (.t 50) (.t 54)), (some (47, false)), [7, 11, 4]⟩,
    ⟨(some 56), 56, (.pick (.t 47) (.k (.c (.s (.pv (.bool true))))) (.t 55)), none, [4, 12]⟩,
    ⟨(some 57), 57, (.mv (.t 56)), none, [13, 7]⟩,
    ⟨(some 58), 58, (.fld 4 (.t 1)), (some (57, false)), [14]⟩,
    ⟨(some 59), 59, (.load true 4 (.t 58)), (some (57, false)), [15, 14]⟩,
    ⟨(some 60), 60, (.load true 5 (.t 7)), (some (57, false)), [14]⟩,
    ⟨(some 61), 61, (.call 49 [(.t 59), (.t 60)]), (some (57, false)), [16, 17, 14, 14]⟩,
    ⟨(some 62), 62, (.not (.t 61)), (some (57, false)), [18, 14]⟩,
    ⟨(some 63), 63, (.pick (.t 57) (.k (.c (.s (.pv (.bool true))))) (.t 62)), none, [14, 19]⟩])
  (.cond (.t 63) (.seq (.reg [⟨(some 2), 2, (.mv (.k (.c (.s (.pv (.bool false)))))), none, []⟩])
  .ret) .skip))))
  (.reg [⟨(some 64), 64, (.bin false .add (.t 38) (.k (.c (.s (.pv (.int .i64 1)))))), none, []⟩,
    ⟨(some 38), 38, (.mv (.t 64)), none, [0]⟩])))))))))))
  (.reg [⟨(some 65), 65, (.bin false .add (.t 19) (.k (.c (.s (.pv (.int .i64 1)))))), none, []⟩,
    ⟨(some 19), 19, (.mv (.t 65)), none, [0]⟩])))))))
  (.seq (.reg [⟨(some 2), 2, (.mv (.k (.c (.s (.pv (.bool true)))))), none, []⟩])
  .ret))))
theorem fn70 : FnIs Try.prog 70 ac70 [(.t 2)] 66 := ⟨Try.f70, Try.func70, by kernel_rfl, by kernel_rfl, by kernel_rfl⟩
/- lockkeeper/sched.flightRight -/
def ac71 : ACode := (.seq (.reg [⟨(some 1), 1, (.box 68 9 (.t 0)), none, []⟩,
    ⟨(some 2), 2, (.mv (.k (.c (.s (.pv (.bool false)))))), none, []⟩])
  (.seq (.seq (.reg [⟨(some 6), 6, (.fld 8 (.t 1)), none, []⟩,
    ⟨(some 7), 7, (.load false 1 (.t 6)), none, [0]⟩,
    ⟨(some 8), 8, (.len (.t 7)), none, [1]⟩,
    ⟨(some 9), 9, (.fld 4 (.t 1)), none, []⟩,
    ⟨(some 10), 10, (.fld 3 (.t 9)), none, [3]⟩,
    ⟨(some 11), 11, (.load false 1 (.t 10)), none, [4]⟩,
    ⟨(some 12), 12, (.len (.t 11)), none, [5]⟩,
    ⟨(some 13), 13, (.bin false .neq (.t 8) (.t 12)), none, [2, 6]⟩])
  (.cond (.t 13) (.seq (.reg [⟨(some 2), 2, (.mv (.k (.c (.s (.pv (.bool false)))))), none, []⟩])
  .ret) .skip))
  (.seq (.seq (.reg [⟨(some 14), 14, (.fld 8 (.t 1)), none, []⟩,
    ⟨(some 15), 15, (.load false 1 (.t 14)), none, [0]⟩,
    ⟨(some 16), 16, (.len (.t 15)), none, [1]⟩,
    ⟨(some 17), 17, (.mv (.k (.c (.s (.pv (.int .i64 0)))))), none, []⟩])
  (.block 0 (.loop (.seq (.reg [⟨(some 18), 18, (.bin false .lss (.t 17) (.t 16)), none, []⟩])
  (.seq (.cond (.t 18) .skip (.exit 0))
  (.seq (.block 1 (.seq (.reg [⟨(some 19), 19, (.mv (.t 17)), none, []⟩,
    ⟨(some 20), 20, (.idx 5 (.t 15) (.t 17)), none, []⟩,
    ⟨(some 21), 21, (.load true 5 (.t 20)), none, [1]⟩,
    ⟨(some 4), 4, (.mk 80 5 [[(.s (.pv (.int .i64 0))), (.s (.pv (.int .i64 0))), (.s (.pv (.int .i64 0))), (.s (.pv (.string ⟨#[]⟩))), (.s (.pv (.int .i64 0)))]]), none, []⟩,
    ⟨(some 3), 3, (.mv (.t 19)), none, [0, 0, 1, 2, 3]⟩,
    ⟨none, 68, (.store 5 (.t 4) (.t 21)), none, [3, 2, 4, 0, 1, 2, 3, 4]⟩])
  (.seq (.reg [⟨(some 22), 22, (.fld 4 (.t 1)), none, []⟩,
    ⟨(some 23), 23, (.fld 3 (.t 22)), none, [0]⟩,
    ⟨(some 24), 24, (.load false 1 (.t 23)), none, [1]⟩,
    ⟨(some 25), 25, (.mv (.t 3)), none, []⟩,
    ⟨(some 26), 26, (.idx 4 (.t 24) (.t 25)), none, [2, 3]⟩,
    ⟨(some 27), 27, (.load true 4 (.t 26)), none, [4]⟩,
    ⟨(some 5), 5, (.mk 129 4 [[(.s (.pv (.int .i64 0))), (.s (.pv (.int .i64 0))), (.s (.pv (.int .i64 0))), (.s (.pv (.string ⟨#[]⟩)))]]), none, []⟩,
    ⟨none, 70, (.store 4 (.t 5) (.t 27)), none, [6, 5, 0, 1, 2, 3, 4, 5, 6]⟩])
  (.seq (.seq (.reg [⟨(some 28), 28, (.fld 1 (.t 4)), none, []⟩,
    ⟨(some 29), 29, (.load false 1 (.t 28)), none, [0]⟩,
    ⟨(some 30), 30, (.fld 1 (.t 5)), none, []⟩,
    ⟨(some 31), 31, (.load false 1 (.t 30)), none, [2]⟩,
    ⟨(some 32), 32, (.bin false .neq (.t 29) (.t 31)), none, [1, 3]⟩,
    ⟨(some 33), 33, (.mv (.t 32)), none, [4]⟩,
    ⟨(some 34), 34, (.fld 2 (.t 4)), (some (33, false)), [5]⟩,
    ⟨(some 35), 35, (.load false 1 (.t 34)), (some (33, false)), [6, 5]⟩,
    ⟨(some 36), 36, (.fld 2 (.t 5)), (some (33, false)), [5]⟩,
    ⟨(some 37), 37, (.load false 1 (.t 36)), (some (33, false)), [8, 5]⟩,
    ⟨(some 38), 38, (.bin false .neq (.t 35) (.t 37)), (some (33, false)), [7, 9, 5]⟩,
    ⟨(some 39), 39, (.pick (.t 33) (.k (.c (.s (.pv (.bool true))))) (.t 38)), none, [5, 10]⟩,
    ⟨(some 40), 40, (.mv (.t 39)), none, [11, 5]⟩,
    ⟨(some 41), 41, (.fld 3 (.t 4)), (some (40, false)), [12]⟩,
    ⟨(some 42), 42, (.load false 1 (.t 41)), (some (40, false)), [13, 12]⟩,
    ⟨(some 43), 43, (.fld 3 (.t 5)), (some (40, false)), [12]⟩,
    ⟨(some 44), 44, (.load false 1 (.t 43)), (some (40, false)), [15, 12]⟩,
    ⟨(some 45), 45, (.bin false .neq (.t 42) (.t 44)), (some (40, false)), [14, 16, 12]⟩,
    ⟨(some 46), 46, (.pick (.t 40) (.k (.c (.s (.pv (.bool true))))) (.t 45)), none, [12, 17]⟩])
  (.cond (.t 46) (.seq (.reg [⟨(some 2), 2, (.mv (.k (.c (.s (.pv (.bool false)))))), none, []⟩])
  .ret) .skip))
  (.seq (.reg [⟨(some 47), 47, (.load true 9 (.t 1)), none, []⟩,
    ⟨(some 48), 48, (.fld 0 (.t 4)), none, []⟩,
    ⟨(some 49), 49, (.load false 1 (.t 48)), none, [1]⟩,
    ⟨(some 50), 50, (.call 48 [(.t 47), (.t 49)]), none, [0, 2]⟩,
    ⟨(some 51), 51, (.not (.t 50)), none, [3]⟩,
    ⟨(some 52), 52, (.mv (.t 51)), none, [4, 3]⟩,
    ⟨(some 53), 53, (.fld 4 (.t 4)), (some (52, false)), [5]⟩,
    ⟨(some 54), 54, (.load false 1 (.t 53)), (some (52, false)), [6, 5]⟩,
    ⟨(some 55), 55, (.bin false .lss (.t 54) (.k (.c (.s (.pv (.int .i64 1)))))), (some (52, false)), [7, 5]⟩,
    ⟨(some 56), 56, (.pick (.t 52) (.k (.c (.s (.pv (.bool true))))) (.t 55)), none, [5, 8]⟩,
    ⟨(some 57), 57, (.mv (.t 56)), none, [9, 5]⟩,
    ⟨(some 58), 58, (.fld 4 (.t 4)), (some (57, false)), [10]⟩,
    ⟨(some 59), 59, (.load false 1 (.t 58)), (some (57, false)), [11, 10]⟩,
    ⟨(some 60), 60, (.bin false .gtr (.t 59) (.k (.c (.s (.pv (.int .i64 3)))))), (some (57, false)), [12, 10]⟩,
    ⟨(some 61), 61, (.pick (.t 57) (.k (.c (.s (.pv (.bool true))))) (.t 60)), none, [10, 13]⟩])
  (.cond (.t 61) (.seq (.reg [⟨(some 2), 2, (.mv (.k (.c (.s (.pv (.bool false)))))), none, []⟩])
  .ret) .skip))))))
  (.reg [⟨(some 62), 62, (.bin false .add (.t 17) (.k (.c (.s (.pv (.int .i64 1)))))), none, []⟩,
    ⟨(some 17), 17, (.mv (.t 62)), none, [0]⟩])))))))
  (.seq (.reg [⟨(some 2), 2, (.mv (.k (.c (.s (.pv (.bool true)))))), none, []⟩])
  .ret))))
theorem fn71 : FnIs Try.prog 71 ac71 [(.t 2)] 63 := ⟨Try.f71, Try.func71, by kernel_rfl, by kernel_rfl, by kernel_rfl⟩

end Go.Proofs.Ytfmbfgoofiojcaa
