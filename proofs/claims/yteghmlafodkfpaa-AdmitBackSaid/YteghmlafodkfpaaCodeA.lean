/- THE PROGRAM's functions, as the abstract machine's code (printed by wip/tools/code.py out of the translation). No condition. -/
import Derived.Test.YteghmlafodkfpaaAm22
import Derived.Test.YteghmlafodkfpaaProg
import Derived.KernelRfl
namespace Go.Proofs.Yteghmlafodkfpaa
set_option maxRecDepth 100000
/- lockkeeper/lockkeeperlaw11.AdmitComes -/
def ac3 : ACode := (.seq (.reg [⟨(some 3), 3, (.box 25 4 (.t 0)), none, []⟩,
    ⟨(some 6), 6, (.mv (.k (.c (.s (.pv (.bool false)))))), none, []⟩])
  (.seq (.reg [⟨(some 27), 27, (.load true 4 (.t 3)), none, []⟩,
    ⟨(some 28), 28, (.call 15 [(.t 27)]), none, [0]⟩,
    ⟨(some 26), 26, (.mv (.t 28)), none, [1]⟩,
    ⟨(some 29), 29, (.ext 0 (.t 26)), none, [2]⟩,
    ⟨(some 30), 30, (.ext 1 (.t 26)), none, [2]⟩,
    ⟨(some 7), 7, (.mk 29 4 [[(.s (.pv (.int .i64 0))), (.s (.pv (.int .i64 0))), .zc, .zc]]), none, []⟩,
    ⟨none, 139, (.store 4 (.t 7) (.t 29)), none, [5, 3, 1, 0, 1, 2, 3, 5]⟩,
    ⟨(some 8), 8, (.mv (.t 30)), none, [4, 6, 0, 1, 2, 3, 4, 5, 6]⟩])
  (.seq (.seq (.reg [⟨(some 31), 31, (.mv (.t 8)), none, []⟩,
    ⟨(some 32), 32, (.not (.t 31)), none, [0]⟩])
  (.cond (.t 32) (.seq (.reg [⟨(some 33), 33, (.call 16 []), none, []⟩,
    ⟨(some 6), 6, (.mv (.t 33)), none, [0, 0, 0]⟩])
  .ret) .skip))
  (.seq (.reg [⟨(some 35), 35, (.load true 4 (.t 3)), none, []⟩,
    ⟨(some 36), 36, (.mv (.t 1)), none, []⟩,
    ⟨(some 37), 37, (.mv (.t 2)), none, []⟩,
    ⟨(some 38), 38, (.call 17 [(.t 35), (.t 36), (.t 37)]), none, [0, 1, 2]⟩,
    ⟨(some 34), 34, (.mv (.t 38)), none, [3]⟩,
    ⟨(some 39), 39, (.ext 0 (.t 34)), none, [4]⟩,
    ⟨(some 40), 40, (.ext 1 (.t 34)), none, [4]⟩,
    ⟨(some 41), 41, (.ext 2 (.t 34)), none, [4]⟩,
    ⟨(some 9), 9, (.mk 25 4 [[(.s (.pv (.int .i64 0))), (.s (.pv (.int .i64 0))), .zc, .zc]]), none, []⟩,
    ⟨none, 142, (.store 4 (.t 9) (.t 39)), none, [8, 5, 3, 0, 1, 2, 3, 4, 5, 8]⟩,
    ⟨(some 10), 10, (.mv (.t 40)), none, [6, 9, 0, 1, 2, 3, 4, 5, 6, 8, 9]⟩,
    ⟨(some 11), 11, (.mv (.t 41)), none, [7, 10, 0, 1, 2, 3, 4, 5, 6, 7, 8, 9, 10]⟩])
  (.seq (.reg [⟨(some 43), 43, (.load true 4 (.t 7)), none, []⟩,
    ⟨(some 44), 44, (.mv (.t 1)), none, []⟩,
    ⟨(some 45), 45, (.mv (.t 2)), none, []⟩,
    ⟨(some 46), 46, (.call 18 [(.t 43), (.t 44), (.t 45)]), none, [0, 1, 2]⟩,
    ⟨(some 42), 42, (.mv (.t 46)), none, [3]⟩,
    ⟨(some 47), 47, (.ext 0 (.t 42)), none, [4]⟩,
    ⟨(some 48), 48, (.ext 1 (.t 42)), none, [4]⟩,
    ⟨(some 49), 49, (.ext 2 (.t 42)), none, [4]⟩,
    ⟨(some 12), 12, (.mk 29 4 [[(.s (.pv (.int .i64 0))), (.s (.pv (.int .i64 0))), .zc, .zc]]), none, []⟩,
    ⟨none, 142, (.store 4 (.t 12) (.t 47)), none, [8, 5, 3, 0, 1, 2, 3, 4, 5, 8]⟩,
    ⟨(some 13), 13, (.mv (.t 48)), none, [6, 9, 0, 1, 2, 3, 4, 5, 6, 8, 9]⟩,
    ⟨(some 14), 14, (.mv (.t 49)), none, [7, 10, 0, 1, 2, 3, 4, 5, 6, 7, 8, 9, 10]⟩])
  (.seq (.reg [⟨(some 51), 51, (.load true 4 (.t 3)), none, []⟩,
    ⟨(some 52), 52, (.mv (.t 1)), none, []⟩,
    ⟨(some 53), 53, (.call 19 [(.t 51), (.t 52)]), none, [0, 1]⟩,
    ⟨(some 50), 50, (.mv (.t 53)), none, [2]⟩,
    ⟨(some 54), 54, (.ext 0 (.t 50)), none, [3]⟩,
    ⟨(some 55), 55, (.ext 1 (.t 50)), none, [3]⟩,
    ⟨(some 56), 56, (.ext 2 (.t 50)), none, [3]⟩,
    ⟨(some 15), 15, (.mk 25 4 [[(.s (.pv (.int .i64 0))), (.s (.pv (.int .i64 0))), .zc, .zc]]), none, []⟩,
    ⟨none, 141, (.store 4 (.t 15) (.t 54)), none, [7, 4, 2, 0, 1, 2, 3, 4, 7]⟩,
    ⟨(some 16), 16, (.mv (.t 55)), none, [5, 8, 0, 1, 2, 3, 4, 5, 7, 8]⟩,
    ⟨(some 17), 17, (.mv (.t 56)), none, [6, 9, 0, 1, 2, 3, 4, 5, 6, 7, 8, 9]⟩])
  (.seq (.reg [⟨(some 58), 58, (.load true 4 (.t 7)), none, []⟩,
    ⟨(some 59), 59, (.mv (.t 1)), none, []⟩,
    ⟨(some 60), 60, (.call 20 [(.t 58), (.t 59)]), none, [0, 1]⟩,
    ⟨(some 57), 57, (.mv (.t 60)), none, [2]⟩,
    ⟨(some 61), 61, (.ext 0 (.t 57)), none, [3]⟩,
    ⟨(some 62), 62, (.ext 1 (.t 57)), none, [3]⟩,
    ⟨(some 63), 63, (.ext 2 (.t 57)), none, [3]⟩,
    ⟨(some 18), 18, (.mk 29 4 [[(.s (.pv (.int .i64 0))), (.s (.pv (.int .i64 0))), .zc, .zc]]), none, []⟩,
    ⟨none, 141, (.store 4 (.t 18) (.t 61)), none, [7, 4, 2, 0, 1, 2, 3, 4, 7]⟩,
    ⟨(some 19), 19, (.mv (.t 62)), none, [5, 8, 0, 1, 2, 3, 4, 5, 7, 8]⟩,
    ⟨(some 20), 20, (.mv (.t 63)), none, [6, 9, 0, 1, 2, 3, 4, 5, 6, 7, 8, 9]⟩])
  (.seq (.reg [⟨(some 65), 65, (.load true 4 (.t 9)), none, []⟩,
    ⟨(some 66), 66, (.call 15 [(.t 65)]), none, [0]⟩,
    ⟨(some 64), 64, (.mv (.t 66)), none, [1]⟩,
    ⟨(some 67), 67, (.ext 0 (.t 64)), none, [2]⟩,
    ⟨(some 68), 68, (.ext 1 (.t 64)), none, [2]⟩,
    ⟨(some 21), 21, (.mk 29 4 [[(.s (.pv (.int .i64 0))), (.s (.pv (.int .i64 0))), .zc, .zc]]), none, []⟩,
    ⟨none, 139, (.store 4 (.t 21) (.t 67)), none, [5, 3, 1, 0, 1, 2, 3, 5]⟩,
    ⟨(some 22), 22, (.mv (.t 68)), none, [4, 6, 0, 1, 2, 3, 4, 5, 6]⟩])
  (.seq (.reg [⟨(some 70), 70, (.load true 4 (.t 15)), none, []⟩,
    ⟨(some 71), 71, (.call 15 [(.t 70)]), none, [0]⟩,
    ⟨(some 69), 69, (.mv (.t 71)), none, [1]⟩,
    ⟨(some 72), 72, (.ext 0 (.t 69)), none, [2]⟩,
    ⟨(some 73), 73, (.ext 1 (.t 69)), none, [2]⟩,
    ⟨(some 23), 23, (.mk 29 4 [[(.s (.pv (.int .i64 0))), (.s (.pv (.int .i64 0))), .zc, .zc]]), none, []⟩,
    ⟨none, 139, (.store 4 (.t 23) (.t 72)), none, [5, 3, 1, 0, 1, 2, 3, 5]⟩,
    ⟨(some 24), 24, (.mv (.t 73)), none, [4, 6, 0, 1, 2, 3, 4, 5, 6]⟩])
  (.seq (.reg [⟨(some 25), 25, (.mv (.k (.c (.s (.pv (.int .i64 0)))))), none, []⟩])
  (.seq (.seq (.reg [⟨(some 74), 74, (.load true 4 (.t 7)), none, []⟩,
    ⟨(some 75), 75, (.call 21 [(.t 74)]), none, [0]⟩])
  (.cond (.t 75) (.draw [⟨(some 76), 76, (.fld 0 (.t 7)), none, []⟩,
    ⟨(some 77), 77, (.load false 1 (.t 76)), none, [0]⟩,
    ⟨(some 78), 78, (.load true 4 (.t 7)), none, []⟩,
    ⟨(some 79), 79, (.call 22 [(.t 78)]), none, [2]⟩,
    ⟨(some 80), 80, (.bin false .sub (.t 77) (.t 79)), none, [1, 3]⟩,
    ⟨(some 25), 25, (.mv (.t 80)), none, [4, 3, 0, 1, 2, 3, 4]⟩]) .skip))
  (.seq (.draw [⟨(some 81), 81, (.mv (.t 22)), none, []⟩,
    ⟨(some 82), 82, (.mv (.t 81)), none, [0]⟩,
    ⟨(some 83), 83, (.mv (.t 24)), (some (82, true)), [1]⟩,
    ⟨(some 84), 84, (.pick (.t 82) (.t 83) (.k (.c (.s (.pv (.bool false)))))), none, [1, 2]⟩,
    ⟨(some 85), 85, (.mv (.t 84)), none, [3, 1]⟩,
    ⟨(some 86), 86, (.load true 4 (.t 21)), (some (85, true)), [4]⟩,
    ⟨(some 87), 87, (.load true 4 (.t 12)), (some (85, true)), [4]⟩,
    ⟨(some 88), 88, (.call 23 [(.t 86), (.t 87)]), (some (85, true)), [5, 6, 4, 4]⟩,
    ⟨(some 89), 89, (.pick (.t 85) (.t 88) (.k (.c (.s (.pv (.bool false)))))), none, [4, 7]⟩,
    ⟨(some 90), 90, (.mv (.t 89)), none, [8, 7]⟩,
    ⟨(some 91), 91, (.mv (.t 10)), (some (90, true)), [9]⟩,
    ⟨(some 92), 92, (.mv (.t 13)), (some (90, true)), [9]⟩,
    ⟨(some 93), 93, (.len (.t 92)), (some (90, true)), [11, 9]⟩,
    ⟨(some 94), 94, (.bin false .gtr (.t 93) (.k (.c (.s (.pv (.int .i64 0)))))), (some (90, true)), [12, 9]⟩,
    ⟨(some 95), 95, (.bin true .eql (.t 91) (.t 94)), (some (90, true)), [10, 13, 9]⟩,
    ⟨(some 96), 96, (.pick (.t 90) (.t 95) (.k (.c (.s (.pv (.bool false)))))), none, [9, 14]⟩,
    ⟨(some 97), 97, (.mv (.t 96)), none, [15, 9]⟩,
    ⟨(some 98), 98, (.mv (.t 11)), (some (97, true)), [16]⟩,
    ⟨(some 99), 99, (.mv (.t 14)), (some (97, true)), [16]⟩,
    ⟨(some 100), 100, (.bin false .eql (.t 98) (.t 99)), (some (97, true)), [17, 18, 16]⟩,
    ⟨(some 101), 101, (.pick (.t 97) (.t 100) (.k (.c (.s (.pv (.bool false)))))), none, [16, 19]⟩,
    ⟨(some 102), 102, (.mv (.t 101)), none, [20, 16]⟩,
    ⟨(some 103), 103, (.load true 4 (.t 23)), (some (102, true)), [21]⟩,
    ⟨(some 104), 104, (.load true 4 (.t 18)), (some (102, true)), [21]⟩,
    ⟨(some 105), 105, (.call 23 [(.t 103), (.t 104)]), (some (102, true)), [22, 23, 21, 21]⟩,
    ⟨(some 106), 106, (.pick (.t 102) (.t 105) (.k (.c (.s (.pv (.bool false)))))), none, [21, 24]⟩,
    ⟨(some 107), 107, (.mv (.t 106)), none, [25, 24]⟩,
    ⟨(some 108), 108, (.mv (.t 16)), (some (107, true)), [26]⟩,
    ⟨(some 109), 109, (.mv (.t 19)), (some (107, true)), [26]⟩,
    ⟨(some 110), 110, (.call 24 [(.t 108), (.t 109)]), (some (107, true)), [27, 28, 26, 26]⟩,
    ⟨(some 111), 111, (.pick (.t 107) (.t 110) (.k (.c (.s (.pv (.bool false)))))), none, [26, 29]⟩,
    ⟨(some 112), 112, (.mv (.t 111)), none, [30, 29]⟩,
    ⟨(some 113), 113, (.mv (.t 17)), (some (112, true)), [31]⟩,
    ⟨(some 114), 114, (.mv (.t 20)), (some (112, true)), [31]⟩,
    ⟨(some 115), 115, (.bin false .eql (.t 113) (.t 114)), (some (112, true)), [32, 33, 31]⟩,
    ⟨(some 116), 116, (.pick (.t 112) (.t 115) (.k (.c (.s (.pv (.bool false)))))), none, [31, 34]⟩,
    ⟨(some 117), 117, (.mv (.t 116)), none, [35, 31]⟩,
    ⟨(some 118), 118, (.load true 4 (.t 3)), (some (117, true)), [36]⟩,
    ⟨(some 119), 119, (.call 25 [(.t 118)]), (some (117, true)), [37, 36, 36]⟩,
    ⟨(some 120), 120, (.load true 4 (.t 7)), (some (117, true)), [36]⟩,
    ⟨(some 121), 121, (.call 21 [(.t 120)]), (some (117, true)), [39, 38, 36]⟩,
    ⟨(some 122), 122, (.bin true .eql (.t 119) (.t 121)), (some (117, true)), [38, 40, 36]⟩,
    ⟨(some 123), 123, (.pick (.t 117) (.t 122) (.k (.c (.s (.pv (.bool false)))))), none, [36, 41]⟩,
    ⟨(some 124), 124, (.mv (.t 123)), none, [42, 40]⟩,
    ⟨(some 125), 125, (.load true 4 (.t 3)), (some (124, true)), [43]⟩,
    ⟨(some 126), 126, (.call 26 [(.t 125)]), (some (124, true)), [44, 43, 43]⟩,
    ⟨(some 127), 127, (.mv (.t 25)), (some (124, true)), [43]⟩,
    ⟨(some 128), 128, (.bin false .eql (.t 126) (.t 127)), (some (124, true)), [45, 46, 43]⟩,
    ⟨(some 129), 129, (.pick (.t 124) (.t 128) (.k (.c (.s (.pv (.bool false)))))), none, [43, 47]⟩,
    ⟨(some 130), 130, (.mv (.t 129)), none, [48, 45]⟩,
    ⟨(some 131), 131, (.call 16 []), (some (130, true)), [49, 49]⟩,
    ⟨(some 132), 132, (.pick (.t 130) (.t 131) (.k (.c (.s (.pv (.bool false)))))), none, [49, 50]⟩,
    ⟨(some 6), 6, (.mv (.t 132)), none, [51, 50, 0, 1, 2, 3, 4, 5, 6, 7, 8, 9, 10, 11, 12, 13, 14, 15, 16, 17, 18, 19, 20, 21, 22, 23, 24, 25, 26, 27, 28, 29, 30, 31, 32, 33, 34, 35, 36, 37, 38, 39, 40, 41, 42, 43, 44, 45, 46, 47, 48, 49, 50, 51]⟩])
  .ret))))))))))))
theorem fn3 : FnIs Try.prog 3 ac3 [(.t 6)] 133 := ⟨Try.f3, Try.func3, by kernel_rfl, by kernel_rfl, by kernel_rfl⟩
/- lockkeeper/lockkeeperlaw11.AdmitPins -/
def ac4 : ACode := (.seq (.reg [⟨(some 2), 2, (.box 25 4 (.t 0)), none, []⟩,
    ⟨(some 4), 4, (.mv (.k (.c (.s (.pv (.bool false)))))), none, []⟩])
  (.seq (.reg [⟨(some 20), 20, (.load true 4 (.t 2)), none, []⟩,
    ⟨(some 21), 21, (.call 15 [(.t 20)]), none, [0]⟩,
    ⟨(some 19), 19, (.mv (.t 21)), none, [1]⟩,
    ⟨(some 22), 22, (.ext 0 (.t 19)), none, [2]⟩,
    ⟨(some 23), 23, (.ext 1 (.t 19)), none, [2]⟩,
    ⟨(some 5), 5, (.mk 29 4 [[(.s (.pv (.int .i64 0))), (.s (.pv (.int .i64 0))), .zc, .zc]]), none, []⟩,
    ⟨none, 94, (.store 4 (.t 5) (.t 22)), none, [5, 3, 1, 0, 1, 2, 3, 5]⟩,
    ⟨(some 6), 6, (.mv (.t 23)), none, [4, 6, 0, 1, 2, 3, 4, 5, 6]⟩])
  (.seq (.seq (.reg [⟨(some 24), 24, (.mv (.t 6)), none, []⟩,
    ⟨(some 25), 25, (.not (.t 24)), none, [0]⟩])
  (.cond (.t 25) (.seq (.reg [⟨(some 26), 26, (.call 16 []), none, []⟩,
    ⟨(some 4), 4, (.mv (.t 26)), none, [0, 0, 0]⟩])
  .ret) .skip))
  (.seq (.reg [⟨(some 28), 28, (.load true 4 (.t 2)), none, []⟩,
    ⟨(some 29), 29, (.mv (.t 1)), none, []⟩,
    ⟨(some 30), 30, (.call 27 [(.t 28), (.t 29)]), none, [0, 1]⟩,
    ⟨(some 27), 27, (.mv (.t 30)), none, [2]⟩,
    ⟨(some 31), 31, (.ext 0 (.t 27)), none, [3]⟩,
    ⟨(some 32), 32, (.ext 1 (.t 27)), none, [3]⟩,
    ⟨(some 7), 7, (.mk 25 4 [[(.s (.pv (.int .i64 0))), (.s (.pv (.int .i64 0))), .zc, .zc]]), none, []⟩,
    ⟨none, 95, (.store 4 (.t 7) (.t 31)), none, [6, 4, 2, 0, 1, 2, 3, 4, 6]⟩,
    ⟨(some 8), 8, (.mv (.t 32)), none, [5, 7, 0, 1, 2, 3, 4, 5, 6, 7]⟩])
  (.seq (.reg [⟨(some 34), 34, (.load true 4 (.t 5)), none, []⟩,
    ⟨(some 35), 35, (.mv (.t 1)), none, []⟩,
    ⟨(some 36), 36, (.call 28 [(.t 34), (.t 35)]), none, [0, 1]⟩,
    ⟨(some 33), 33, (.mv (.t 36)), none, [2]⟩,
    ⟨(some 37), 37, (.ext 0 (.t 33)), none, [3]⟩,
    ⟨(some 38), 38, (.ext 1 (.t 33)), none, [3]⟩,
    ⟨(some 9), 9, (.mk 29 4 [[(.s (.pv (.int .i64 0))), (.s (.pv (.int .i64 0))), .zc, .zc]]), none, []⟩,
    ⟨none, 95, (.store 4 (.t 9) (.t 37)), none, [6, 4, 2, 0, 1, 2, 3, 4, 6]⟩,
    ⟨(some 10), 10, (.mv (.t 38)), none, [5, 7, 0, 1, 2, 3, 4, 5, 6, 7]⟩])
  (.seq (.reg [⟨(some 40), 40, (.load true 4 (.t 2)), none, []⟩,
    ⟨(some 41), 41, (.mv (.t 1)), none, []⟩,
    ⟨(some 42), 42, (.call 29 [(.t 40), (.t 41)]), none, [0, 1]⟩,
    ⟨(some 39), 39, (.mv (.t 42)), none, [2]⟩,
    ⟨(some 43), 43, (.ext 0 (.t 39)), none, [3]⟩,
    ⟨(some 44), 44, (.ext 1 (.t 39)), none, [3]⟩,
    ⟨(some 11), 11, (.mk 25 4 [[(.s (.pv (.int .i64 0))), (.s (.pv (.int .i64 0))), .zc, .zc]]), none, []⟩,
    ⟨none, 95, (.store 4 (.t 11) (.t 43)), none, [6, 4, 2, 0, 1, 2, 3, 4, 6]⟩,
    ⟨(some 12), 12, (.mv (.t 44)), none, [5, 7, 0, 1, 2, 3, 4, 5, 6, 7]⟩])
  (.seq (.reg [⟨(some 46), 46, (.load true 4 (.t 5)), none, []⟩,
    ⟨(some 47), 47, (.mv (.t 1)), none, []⟩,
    ⟨(some 48), 48, (.call 30 [(.t 46), (.t 47)]), none, [0, 1]⟩,
    ⟨(some 45), 45, (.mv (.t 48)), none, [2]⟩,
    ⟨(some 49), 49, (.ext 0 (.t 45)), none, [3]⟩,
    ⟨(some 50), 50, (.ext 1 (.t 45)), none, [3]⟩,
    ⟨(some 13), 13, (.mk 29 4 [[(.s (.pv (.int .i64 0))), (.s (.pv (.int .i64 0))), .zc, .zc]]), none, []⟩,
    ⟨none, 95, (.store 4 (.t 13) (.t 49)), none, [6, 4, 2, 0, 1, 2, 3, 4, 6]⟩,
    ⟨(some 14), 14, (.mv (.t 50)), none, [5, 7, 0, 1, 2, 3, 4, 5, 6, 7]⟩])
  (.seq (.reg [⟨(some 52), 52, (.load true 4 (.t 7)), none, []⟩,
    ⟨(some 53), 53, (.call 15 [(.t 52)]), none, [0]⟩,
    ⟨(some 51), 51, (.mv (.t 53)), none, [1]⟩,
    ⟨(some 54), 54, (.ext 0 (.t 51)), none, [2]⟩,
    ⟨(some 55), 55, (.ext 1 (.t 51)), none, [2]⟩,
    ⟨(some 15), 15, (.mk 29 4 [[(.s (.pv (.int .i64 0))), (.s (.pv (.int .i64 0))), .zc, .zc]]), none, []⟩,
    ⟨none, 94, (.store 4 (.t 15) (.t 54)), none, [5, 3, 1, 0, 1, 2, 3, 5]⟩,
    ⟨(some 16), 16, (.mv (.t 55)), none, [4, 6, 0, 1, 2, 3, 4, 5, 6]⟩])
  (.seq (.reg [⟨(some 57), 57, (.load true 4 (.t 11)), none, []⟩,
    ⟨(some 58), 58, (.call 15 [(.t 57)]), none, [0]⟩,
    ⟨(some 56), 56, (.mv (.t 58)), none, [1]⟩,
    ⟨(some 59), 59, (.ext 0 (.t 56)), none, [2]⟩,
    ⟨(some 60), 60, (.ext 1 (.t 56)), none, [2]⟩,
    ⟨(some 17), 17, (.mk 29 4 [[(.s (.pv (.int .i64 0))), (.s (.pv (.int .i64 0))), .zc, .zc]]), none, []⟩,
    ⟨none, 94, (.store 4 (.t 17) (.t 59)), none, [5, 3, 1, 0, 1, 2, 3, 5]⟩,
    ⟨(some 18), 18, (.mv (.t 60)), none, [4, 6, 0, 1, 2, 3, 4, 5, 6]⟩])
  (.seq (.reg [⟨(some 61), 61, (.mv (.t 16)), none, []⟩,
    ⟨(some 62), 62, (.mv (.t 61)), none, [0]⟩,
    ⟨(some 63), 63, (.mv (.t 18)), (some (62, true)), [1]⟩,
    ⟨(some 64), 64, (.pick (.t 62) (.t 63) (.k (.c (.s (.pv (.bool false)))))), none, [1, 2]⟩,
    ⟨(some 65), 65, (.mv (.t 64)), none, [3, 1]⟩,
    ⟨(some 66), 66, (.load true 4 (.t 15)), (some (65, true)), [4]⟩,
    ⟨(some 67), 67, (.load true 4 (.t 9)), (some (65, true)), [4]⟩,
    ⟨(some 68), 68, (.call 23 [(.t 66), (.t 67)]), (some (65, true)), [5, 6, 4, 4]⟩,
    ⟨(some 69), 69, (.pick (.t 65) (.t 68) (.k (.c (.s (.pv (.bool false)))))), none, [4, 7]⟩,
    ⟨(some 70), 70, (.mv (.t 69)), none, [8, 7]⟩,
    ⟨(some 71), 71, (.mv (.t 8)), (some (70, true)), [9]⟩,
    ⟨(some 72), 72, (.mv (.t 10)), (some (70, true)), [9]⟩,
    ⟨(some 73), 73, (.bin false .eql (.t 71) (.t 72)), (some (70, true)), [10, 11, 9]⟩,
    ⟨(some 74), 74, (.pick (.t 70) (.t 73) (.k (.c (.s (.pv (.bool false)))))), none, [9, 12]⟩,
    ⟨(some 75), 75, (.mv (.t 74)), none, [13, 9]⟩,
    ⟨(some 76), 76, (.load true 4 (.t 17)), (some (75, true)), [14]⟩,
    ⟨(some 77), 77, (.load true 4 (.t 13)), (some (75, true)), [14]⟩,
    ⟨(some 78), 78, (.call 23 [(.t 76), (.t 77)]), (some (75, true)), [15, 16, 14, 14]⟩,
    ⟨(some 79), 79, (.pick (.t 75) (.t 78) (.k (.c (.s (.pv (.bool false)))))), none, [14, 17]⟩,
    ⟨(some 80), 80, (.mv (.t 79)), none, [18, 17]⟩,
    ⟨(some 81), 81, (.mv (.t 12)), (some (80, true)), [19]⟩,
    ⟨(some 82), 82, (.mv (.t 14)), (some (80, true)), [19]⟩,
    ⟨(some 83), 83, (.bin false .eql (.t 81) (.t 82)), (some (80, true)), [20, 21, 19]⟩,
    ⟨(some 84), 84, (.pick (.t 80) (.t 83) (.k (.c (.s (.pv (.bool false)))))), none, [19, 22]⟩,
    ⟨(some 85), 85, (.mv (.t 84)), none, [23, 19]⟩,
    ⟨(some 86), 86, (.call 16 []), (some (85, true)), [24, 24]⟩,
    ⟨(some 87), 87, (.pick (.t 85) (.t 86) (.k (.c (.s (.pv (.bool false)))))), none, [24, 25]⟩,
    ⟨(some 4), 4, (.mv (.t 87)), none, [26, 25, 0, 1, 2, 3, 4, 5, 6, 7, 8, 9, 10, 11, 12, 13, 14, 15, 16, 17, 18, 19, 20, 21, 22, 23, 24, 25, 26]⟩])
  .ret))))))))))
theorem fn4 : FnIs Try.prog 4 ac4 [(.t 4)] 88 := ⟨Try.f4, Try.func4, by kernel_rfl, by kernel_rfl, by kernel_rfl⟩
/- lockkeeper/lockkeeperlaw11.AdmitSafe -/
def ac5 : ACode := (.seq (.reg [⟨(some 6), 6, (.mv (.k (.c (.s (.pv (.bool false)))))), none, []⟩])
  (.seq (.reg [⟨(some 18), 18, (.mv (.t 0)), none, []⟩,
    ⟨(some 19), 19, (.bin false .rem (.t 18) (.k (.c (.s (.pv (.int .u8 8)))))), none, [0]⟩,
    ⟨(some 20), 20, (.conv .i64 (.t 19)), none, [1]⟩,
    ⟨(some 21), 21, (.bin false .add (.k (.c (.s (.pv (.int .i64 1))))) (.t 20)), none, [2]⟩,
    ⟨(some 22), 22, (.mv (.t 1)), none, []⟩,
    ⟨(some 23), 23, (.bin false .rem (.t 22) (.k (.c (.s (.pv (.int .u8 100)))))), none, [4]⟩,
    ⟨(some 24), 24, (.conv .i64 (.t 23)), none, [5]⟩,
    ⟨(some 25), 25, (.bin false .add (.k (.c (.s (.pv (.int .i64 1))))) (.t 24)), none, [6]⟩,
    ⟨(some 26), 26, (.build [(.s (.pv (.int .i64 0))), (.s (.pv (.int .i64 0))), .zc, .zc] [(0, 1, (.t 21)), (1, 1, (.t 25))]), none, [3, 7]⟩,
    ⟨(some 7), 7, (.mk 25 4 [[(.s (.pv (.int .i64 0))), (.s (.pv (.int .i64 0))), .zc, .zc]]), none, []⟩,
    ⟨none, 177, (.store 4 (.t 7) (.t 26)), none, [9, 8, 0, 1, 2, 3, 4, 5, 6, 7, 8, 9]⟩])
  (.seq (.seq (.reg [⟨(some 8), 8, (.mv (.k (.c (.s (.pv (.int .i64 0)))))), none, []⟩])
  (.block 0 (.loop (.seq (.seq (.reg [⟨(some 27), 27, (.mv (.t 8)), none, []⟩,
    ⟨(some 28), 28, (.mv (.t 2)), none, []⟩,
    ⟨(some 29), 29, (.len (.t 28)), none, [1]⟩,
    ⟨(some 30), 30, (.bin false .lss (.t 27) (.t 29)), none, [0, 2]⟩,
    ⟨(some 31), 31, (.mv (.t 30)), none, [3]⟩,
    ⟨(some 32), 32, (.mv (.t 8)), (some (31, true)), [4]⟩,
    ⟨(some 33), 33, (.bin false .lss (.t 32) (.k (.c (.s (.pv (.int .i64 100)))))), (some (31, true)), [5, 4]⟩,
    ⟨(some 34), 34, (.pick (.t 31) (.t 33) (.k (.c (.s (.pv (.bool false)))))), none, [4, 6]⟩])
  (.cond (.t 34) .skip (.exit 0)))
  (.seq (.block 1 (.seq (.draw [⟨(some 38), 38, (.load true 4 (.t 7)), none, []⟩,
    ⟨(some 39), 39, (.mv (.t 2)), none, []⟩,
    ⟨(some 40), 40, (.mv (.t 8)), none, []⟩,
    ⟨(some 41), 41, (.idx 3 (.t 39) (.t 40)), none, [1, 2]⟩,
    ⟨(some 42), 42, (.load true 3 (.t 41)), none, [3]⟩,
    ⟨(some 43), 43, (.call 31 [(.t 38), (.t 42)]), none, [0, 4]⟩,
    ⟨(some 37), 37, (.mv (.t 43)), none, [5]⟩,
    ⟨(some 44), 44, (.ext 0 (.t 37)), none, [6]⟩,
    ⟨(some 45), 45, (.ext 1 (.t 37)), none, [6]⟩,
    ⟨(some 9), 9, (.mk 25 4 [[(.s (.pv (.int .i64 0))), (.s (.pv (.int .i64 0))), .zc, .zc]]), none, []⟩,
    ⟨none, 177, (.store 4 (.t 9) (.t 44)), none, [9, 7, 5, 0, 1, 2, 3, 4, 5, 6, 7, 9]⟩,
    ⟨(some 10), 10, (.mv (.t 45)), none, [8, 10, 0, 1, 2, 3, 4, 5, 6, 7, 8, 9, 10]⟩])
  (.seq (.reg [⟨(some 46), 46, (.load true 4 (.t 9)), none, []⟩,
    ⟨none, 168, (.store 4 (.t 7) (.t 46)), none, [0, 0]⟩])
  (.seq (.seq (.draw [⟨(some 47), 47, (.mv (.t 2)), none, []⟩,
    ⟨(some 48), 48, (.mv (.t 8)), none, []⟩,
    ⟨(some 49), 49, (.idx 3 (.t 47) (.t 48)), none, [0, 1]⟩,
    ⟨(some 50), 50, (.fld 0 (.t 49)), none, [2]⟩,
    ⟨(some 51), 51, (.load false 1 (.t 50)), none, [3]⟩,
    ⟨(some 52), 52, (.bin false .eql (.t 51) (.k (.c (.s (.pv (.int .i64 0)))))), none, [4]⟩,
    ⟨(some 53), 53, (.mv (.t 52)), none, [5]⟩,
    ⟨(some 54), 54, (.mv (.t 10)), (some (53, true)), [6]⟩,
    ⟨(some 55), 55, (.bin false .eql (.t 54) (.k (.c (.s (.pv (.int .i64 11)))))), (some (53, true)), [7, 6]⟩,
    ⟨(some 56), 56, (.mv (.t 2)), (some (53, true)), [6]⟩,
    ⟨(some 57), 57, (.mv (.t 8)), (some (53, true)), [6]⟩,
    ⟨(some 58), 58, (.idx 3 (.t 56) (.t 57)), (some (53, true)), [9, 10, 6]⟩,
    ⟨(some 59), 59, (.fld 1 (.t 58)), (some (53, true)), [11, 6]⟩,
    ⟨(some 60), 60, (.load false 1 (.t 59)), (some (53, true)), [12, 6]⟩,
    ⟨(some 61), 61, (.bin false .geq (.t 60) (.k (.c (.s (.pv (.int .i64 0)))))), (some (53, true)), [13, 6]⟩,
    ⟨(some 62), 62, (.mv (.t 61)), (some (53, true)), [14, 6, 6]⟩,
    ⟨(some 63), 63, (.mv (.t 2)), (some (62, true)), [15]⟩,
    ⟨(some 64), 64, (.mv (.t 8)), (some (62, true)), [15]⟩,
    ⟨(some 65), 65, (.idx 3 (.t 63) (.t 64)), (some (62, true)), [16, 17, 15]⟩,
    ⟨(some 66), 66, (.fld 1 (.t 65)), (some (62, true)), [18, 15]⟩,
    ⟨(some 67), 67, (.load false 1 (.t 66)), (some (62, true)), [19, 15]⟩,
    ⟨(some 68), 68, (.bin false .leq (.t 67) (.k (.c (.s (.pv (.int .i64 2147483647)))))), (some (62, true)), [20, 15]⟩,
    ⟨(some 69), 69, (.pick (.t 62) (.t 68) (.k (.c (.s (.pv (.bool false)))))), (some (53, true)), [15, 21, 6]⟩,
    ⟨(some 70), 70, (.mv (.t 69)), (some (53, true)), [22, 15, 6]⟩,
    ⟨(some 71), 71, (.mv (.t 2)), (some (70, true)), [23]⟩,
    ⟨(some 72), 72, (.mv (.t 8)), (some (70, true)), [23]⟩,
    ⟨(some 73), 73, (.idx 3 (.t 71) (.t 72)), (some (70, true)), [24, 25, 23]⟩,
    ⟨(some 74), 74, (.fld 2 (.t 73)), (some (70, true)), [26, 23]⟩,
    ⟨(some 75), 75, (.load false 1 (.t 74)), (some (70, true)), [27, 23]⟩,
    ⟨(some 76), 76, (.bin false .lss (.t 75) (.k (.c (.s (.pv (.int .i64 1)))))), (some (70, true)), [28, 23]⟩,
    ⟨(some 77), 77, (.mv (.t 76)), (some (70, true)), [29, 23, 23]⟩,
    ⟨(some 78), 78, (.mv (.t 2)), (some (77, false)), [30]⟩,
    ⟨(some 79), 79, (.mv (.t 8)), (some (77, false)), [30]⟩,
    ⟨(some 80), 80, (.idx 3 (.t 78) (.t 79)), (some (77, false)), [31, 32, 30]⟩,
    ⟨(some 81), 81, (.fld 2 (.t 80)), (some (77, false)), [33, 30]⟩,
    ⟨(some 82), 82, (.load false 1 (.t 81)), (some (77, false)), [34, 30]⟩,
    ⟨(some 83), 83, (.fld 0 (.t 7)), (some (77, false)), [30]⟩,
    ⟨(some 84), 84, (.load false 1 (.t 83)), (some (77, false)), [36, 30]⟩,
    ⟨(some 85), 85, (.fld 1 (.t 7)), (some (77, false)), [30]⟩,
    ⟨(some 86), 86, (.load false 1 (.t 85)), (some (77, false)), [38, 30]⟩,
    ⟨(some 87), 87, (.mm false (.t 84) (.t 86)), (some (77, false)), [37, 39, 30]⟩,
    ⟨(some 88), 88, (.bin false .gtr (.t 82) (.t 87)), (some (77, false)), [35, 40, 30]⟩,
    ⟨(some 89), 89, (.pick (.t 77) (.k (.c (.s (.pv (.bool true))))) (.t 88)), (some (70, true)), [30, 41, 23]⟩,
    ⟨(some 90), 90, (.pick (.t 70) (.t 89) (.k (.c (.s (.pv (.bool false)))))), (some (53, true)), [23, 42, 6]⟩,
    ⟨(some 91), 91, (.bin true .neq (.t 55) (.t 90)), (some (53, true)), [8, 43, 6]⟩,
    ⟨(some 92), 92, (.pick (.t 53) (.t 91) (.k (.c (.s (.pv (.bool false)))))), none, [6, 44]⟩])
  (.cond (.t 92) (.seq (.reg [⟨(some 6), 6, (.mv (.k (.c (.s (.pv (.bool false)))))), none, []⟩])
  .ret) .skip))
  (.seq (.reg [⟨(some 11), 11, (.mv (.k (.c (.s (.pv (.int .i64 0)))))), none, []⟩,
    ⟨(some 12), 12, (.mv (.k (.c (.s (.pv (.bool false)))))), none, [0, 0]⟩,
    ⟨(some 13), 13, (.mv (.k (.c (.s (.pv (.bool false)))))), none, [1, 0, 1]⟩])
  (.seq (.seq (.reg [⟨(some 93), 93, (.fld 2 (.t 7)), none, []⟩,
    ⟨(some 94), 94, (.load false 1 (.t 93)), none, [0]⟩,
    ⟨(some 95), 95, (.len (.t 94)), none, [1]⟩,
    ⟨(some 96), 96, (.mv (.k (.c (.s (.pv (.int .i64 0)))))), none, []⟩])
  (.block 2 (.loop (.seq (.reg [⟨(some 97), 97, (.bin false .lss (.t 96) (.t 95)), none, []⟩])
  (.seq (.cond (.t 97) .skip (.exit 2))
  (.seq (.block 3 (.seq (.reg [⟨(some 98), 98, (.idx 3 (.t 94) (.t 96)), none, []⟩,
    ⟨(some 99), 99, (.load true 3 (.t 98)), none, [0]⟩,
    ⟨(some 15), 15, (.mk 59 3 [[(.s (.pv (.int .i64 0))), (.s (.pv (.int .i64 0))), (.s (.pv (.int .i64 0)))]]), none, []⟩,
    ⟨none, 170, (.store 3 (.t 15) (.t 99)), none, [2, 1, 0, 1, 2]⟩])
  (.seq (.reg [⟨(some 100), 100, (.mv (.t 11)), none, []⟩,
    ⟨(some 101), 101, (.fld 2 (.t 15)), none, []⟩,
    ⟨(some 102), 102, (.load false 1 (.t 101)), none, [1]⟩,
    ⟨(some 103), 103, (.bin false .add (.t 100) (.t 102)), none, [0, 2]⟩,
    ⟨(some 11), 11, (.mv (.t 103)), none, [3, 0, 1, 2, 3]⟩])
  (.seq (.seq (.reg [⟨(some 104), 104, (.fld 2 (.t 15)), none, []⟩,
    ⟨(some 105), 105, (.load false 1 (.t 104)), none, [0]⟩,
    ⟨(some 106), 106, (.bin false .lss (.t 105) (.k (.c (.s (.pv (.int .i64 0)))))), none, [1]⟩,
    ⟨(some 107), 107, (.mv (.t 106)), none, [2]⟩,
    ⟨(some 108), 108, (.fld 2 (.t 15)), (some (107, false)), [3]⟩,
    ⟨(some 109), 109, (.load false 1 (.t 108)), (some (107, false)), [4, 3]⟩,
    ⟨(some 110), 110, (.fld 1 (.t 15)), (some (107, false)), [3]⟩,
    ⟨(some 111), 111, (.load false 1 (.t 110)), (some (107, false)), [6, 3]⟩,
    ⟨(some 112), 112, (.bin false .gtr (.t 109) (.t 111)), (some (107, false)), [5, 7, 3]⟩,
    ⟨(some 113), 113, (.pick (.t 107) (.k (.c (.s (.pv (.bool true))))) (.t 112)), none, [3, 8]⟩])
  (.cond (.t 113) (.seq (.reg [⟨(some 6), 6, (.mv (.k (.c (.s (.pv (.bool false)))))), none, []⟩])
  .ret) .skip))
  (.seq (.seq (.reg [⟨(some 114), 114, (.fld 2 (.t 15)), none, []⟩,
    ⟨(some 115), 115, (.load false 1 (.t 114)), none, [0]⟩,
    ⟨(some 116), 116, (.fld 1 (.t 15)), none, []⟩,
    ⟨(some 117), 117, (.load false 1 (.t 116)), none, [2]⟩,
    ⟨(some 118), 118, (.bin false .lss (.t 115) (.t 117)), none, [1, 3]⟩])
  (.cond (.t 118) (.seq (.reg [⟨(some 12), 12, (.mv (.k (.c (.s (.pv (.bool true)))))), none, []⟩])
  (.seq (.reg [⟨(some 120), 120, (.load true 4 (.t 7)), none, []⟩,
    ⟨(some 121), 121, (.fld 0 (.t 15)), none, []⟩,
    ⟨(some 122), 122, (.load false 1 (.t 121)), none, [1]⟩,
    ⟨(some 123), 123, (.call 27 [(.t 120), (.t 122)]), none, [0, 2]⟩,
    ⟨(some 119), 119, (.mv (.t 123)), none, [3]⟩,
    ⟨(some 124), 124, (.ext 0 (.t 119)), none, [4]⟩,
    ⟨(some 125), 125, (.ext 1 (.t 119)), none, [4]⟩,
    ⟨(some 16), 16, (.mk 25 4 [[(.s (.pv (.int .i64 0))), (.s (.pv (.int .i64 0))), .zc, .zc]]), none, []⟩,
    ⟨none, 175, (.store 4 (.t 16) (.t 124)), none, [7, 5, 3, 0, 1, 2, 3, 4, 5, 7]⟩,
    ⟨(some 17), 17, (.mv (.t 125)), none, [6, 8, 0, 1, 2, 3, 4, 5, 6, 7, 8]⟩])
  (.reg [⟨(some 126), 126, (.mv (.t 13)), none, []⟩,
    ⟨(some 127), 127, (.mv (.t 126)), none, [0]⟩,
    ⟨(some 128), 128, (.mv (.t 17)), (some (127, false)), [1]⟩,
    ⟨(some 129), 129, (.bin false .eql (.t 128) (.k (.c (.s (.pv (.int .i64 0)))))), (some (127, false)), [2, 1]⟩,
    ⟨(some 130), 130, (.pick (.t 127) (.k (.c (.s (.pv (.bool true))))) (.t 129)), none, [1, 3]⟩,
    ⟨(some 13), 13, (.mv (.t 130)), none, [4, 1, 0, 1, 2, 3, 4]⟩]))) .skip))
  (.reg [⟨(some 131), 131, (.mv (.t 13)), none, []⟩,
    ⟨(some 132), 132, (.mv (.t 131)), none, [0]⟩,
    ⟨(some 133), 133, (.fld 2 (.t 15)), (some (132, false)), [1]⟩,
    ⟨(some 134), 134, (.load false 1 (.t 133)), (some (132, false)), [2, 1]⟩,
    ⟨(some 135), 135, (.fld 1 (.t 15)), (some (132, false)), [1]⟩,
    ⟨(some 136), 136, (.load false 1 (.t 135)), (some (132, false)), [4, 1]⟩,
    ⟨(some 137), 137, (.bin false .eql (.t 134) (.t 136)), (some (132, false)), [3, 5, 1]⟩,
    ⟨(some 138), 138, (.pick (.t 132) (.k (.c (.s (.pv (.bool true))))) (.t 137)), none, [1, 6]⟩,
    ⟨(some 13), 13, (.mv (.t 138)), none, [7, 1, 0, 1, 2, 3, 4, 5, 6, 7]⟩]))))))
  (.reg [⟨(some 139), 139, (.bin false .add (.t 96) (.k (.c (.s (.pv (.int .i64 1)))))), none, []⟩,
    ⟨(some 96), 96, (.mv (.t 139)), none, [0]⟩])))))))
  (.seq (.reg [⟨(some 140), 140, (.mv (.t 11)), none, []⟩,
    ⟨(some 141), 141, (.fld 0 (.t 7)), none, []⟩,
    ⟨(some 142), 142, (.load false 1 (.t 141)), none, [1]⟩,
    ⟨(some 143), 143, (.bin false .gtr (.t 140) (.t 142)), none, [0, 2]⟩,
    ⟨(some 144), 144, (.mv (.t 143)), none, [3]⟩,
    ⟨(some 145), 145, (.fld 0 (.t 7)), (some (144, false)), [4]⟩,
    ⟨(some 146), 146, (.load false 1 (.t 145)), (some (144, false)), [5, 4]⟩,
    ⟨(some 147), 147, (.mv (.t 11)), (some (144, false)), [4]⟩,
    ⟨(some 148), 148, (.bin false .sub (.t 146) (.t 147)), (some (144, false)), [6, 7, 4]⟩,
    ⟨(some 149), 149, (.fld 2 (.t 7)), (some (144, false)), [4]⟩,
    ⟨(some 150), 150, (.load false 1 (.t 149)), (some (144, false)), [9, 4]⟩,
    ⟨(some 151), 151, (.call 32 [(.t 148), (.t 150)]), (some (144, false)), [8, 10, 4, 4]⟩,
    ⟨(some 152), 152, (.not (.t 151)), (some (144, false)), [11, 4]⟩,
    ⟨(some 153), 153, (.pick (.t 144) (.k (.c (.s (.pv (.bool true))))) (.t 152)), none, [4, 12]⟩,
    ⟨(some 154), 154, (.mv (.t 153)), none, [13, 11]⟩,
    ⟨(some 155), 155, (.mv (.t 12)), (some (154, false)), [14]⟩,
    ⟨(some 156), 156, (.mv (.t 155)), (some (154, false)), [15, 14, 14]⟩,
    ⟨(some 157), 157, (.mv (.t 13)), (some (156, true)), [16]⟩,
    ⟨(some 158), 158, (.not (.t 157)), (some (156, true)), [17, 16]⟩,
    ⟨(some 159), 159, (.pick (.t 156) (.t 158) (.k (.c (.s (.pv (.bool false)))))), (some (154, false)), [16, 18, 14]⟩,
    ⟨(some 160), 160, (.pick (.t 154) (.k (.c (.s (.pv (.bool true))))) (.t 159)), none, [14, 19]⟩,
    ⟨(some 161), 161, (.mv (.t 160)), none, [20, 16]⟩,
    ⟨(some 162), 162, (.load true 4 (.t 7)), (some (161, false)), [21]⟩,
    ⟨(some 163), 163, (.call 25 [(.t 162)]), (some (161, false)), [22, 21, 21]⟩,
    ⟨(some 164), 164, (.not (.t 163)), (some (161, false)), [23, 21]⟩,
    ⟨(some 165), 165, (.pick (.t 161) (.k (.c (.s (.pv (.bool true))))) (.t 164)), none, [21, 24]⟩])
  (.cond (.t 165) (.seq (.reg [⟨(some 6), 6, (.mv (.k (.c (.s (.pv (.bool false)))))), none, []⟩])
  .ret) .skip))))))))
  (.reg [⟨(some 35), 35, (.mv (.t 8)), none, []⟩,
    ⟨(some 36), 36, (.bin false .add (.t 35) (.k (.c (.s (.pv (.int .i64 1)))))), none, [0]⟩,
    ⟨(some 8), 8, (.mv (.t 36)), none, [1, 0, 1]⟩]))))))
  (.seq (.reg [⟨(some 166), 166, (.call 16 []), none, []⟩,
    ⟨(some 6), 6, (.mv (.t 166)), none, [0, 0, 0]⟩])
  .ret))))
theorem fn5 : FnIs Try.prog 5 ac5 [(.t 6)] 167 := ⟨Try.f5, Try.func5, by kernel_rfl, by kernel_rfl, by kernel_rfl⟩
/- lockkeeper/lockkeeperlaw11.AdmitEnds -/
def ac6 : ACode := (.seq (.reg [⟨(some 1), 1, (.box 25 4 (.t 0)), none, []⟩,
    ⟨(some 2), 2, (.mv (.k (.c (.s (.pv (.bool false)))))), none, []⟩])
  (.seq (.reg [⟨(some 13), 13, (.load true 4 (.t 1)), none, []⟩,
    ⟨(some 14), 14, (.call 15 [(.t 13)]), none, [0]⟩,
    ⟨(some 12), 12, (.mv (.t 14)), none, [1]⟩,
    ⟨(some 15), 15, (.ext 0 (.t 12)), none, [2]⟩,
    ⟨(some 16), 16, (.ext 1 (.t 12)), none, [2]⟩,
    ⟨(some 3), 3, (.mk 29 4 [[(.s (.pv (.int .i64 0))), (.s (.pv (.int .i64 0))), .zc, .zc]]), none, []⟩,
    ⟨none, 96, (.store 4 (.t 3) (.t 15)), none, [5, 3, 1, 0, 1, 2, 3, 5]⟩,
    ⟨(some 4), 4, (.mv (.t 16)), none, [4, 6, 0, 1, 2, 3, 4, 5, 6]⟩])
  (.seq (.seq (.reg [⟨(some 17), 17, (.mv (.t 4)), none, []⟩,
    ⟨(some 18), 18, (.not (.t 17)), none, [0]⟩,
    ⟨(some 19), 19, (.mv (.t 18)), none, [1]⟩,
    ⟨(some 20), 20, (.load true 4 (.t 3)), (some (19, false)), [2]⟩,
    ⟨(some 21), 21, (.call 21 [(.t 20)]), (some (19, false)), [3, 2, 2]⟩,
    ⟨(some 22), 22, (.not (.t 21)), (some (19, false)), [4, 2]⟩,
    ⟨(some 23), 23, (.pick (.t 19) (.k (.c (.s (.pv (.bool true))))) (.t 22)), none, [2, 5]⟩])
  (.cond (.t 23) (.seq (.reg [⟨(some 24), 24, (.call 16 []), none, []⟩,
    ⟨(some 2), 2, (.mv (.t 24)), none, [0, 0, 0]⟩])
  .ret) .skip))
  (.seq (.reg [⟨(some 5), 5, (.mv (.k (.c .zc))), none, []⟩])
  (.seq (.reg [⟨(some 25), 25, (.fld 2 (.t 1)), none, []⟩,
    ⟨(some 26), 26, (.load false 1 (.t 25)), none, [0]⟩,
    ⟨(some 27), 27, (.len (.t 26)), none, [1]⟩,
    ⟨(some 28), 28, (.fld 3 (.t 1)), none, []⟩,
    ⟨(some 29), 29, (.load false 1 (.t 28)), none, [3]⟩,
    ⟨(some 30), 30, (.len (.t 29)), none, [4]⟩,
    ⟨(some 31), 31, (.bin false .add (.t 27) (.t 30)), none, [2, 5]⟩,
    ⟨(some 6), 6, (.mv (.t 31)), none, [6, 0, 1, 2, 3, 4, 5, 6]⟩])
  (.seq (.seq (.reg [⟨(some 32), 32, (.mv (.t 6)), none, []⟩,
    ⟨(some 33), 33, (.mv (.k (.c (.s (.pv (.int .i64 0)))))), none, []⟩])
  (.block 0 (.loop (.seq (.reg [⟨(some 34), 34, (.bin false .lss (.t 33) (.t 32)), none, []⟩])
  (.seq (.cond (.t 34) .skip (.exit 0))
  (.seq (.block 1 (.seq (.seq (.reg [⟨(some 35), 35, (.fld 2 (.t 1)), none, []⟩,
    ⟨(some 36), 36, (.load false 1 (.t 35)), none, [0]⟩,
    ⟨(some 37), 37, (.len (.t 36)), none, [1]⟩,
    ⟨(some 38), 38, (.bin false .eql (.t 37) (.k (.c (.s (.pv (.int .i64 0)))))), none, [2]⟩])
  (.cond (.t 38) (.seq (.reg [⟨(some 2), 2, (.mv (.k (.c (.s (.pv (.bool false)))))), none, []⟩])
  .ret) .skip))
  (.seq (.draw [⟨(some 40), 40, (.load true 4 (.t 1)), none, []⟩,
    ⟨(some 41), 41, (.fld 2 (.t 1)), none, []⟩,
    ⟨(some 42), 42, (.load false 1 (.t 41)), none, [1]⟩,
    ⟨(some 43), 43, (.idx 3 (.t 42) (.k (.c (.s (.pv (.int .i64 0)))))), none, [2]⟩,
    ⟨(some 44), 44, (.fld 0 (.t 43)), none, [3]⟩,
    ⟨(some 45), 45, (.load false 1 (.t 44)), none, [4]⟩,
    ⟨(some 46), 46, (.call 19 [(.t 40), (.t 45)]), none, [0, 5]⟩,
    ⟨(some 39), 39, (.mv (.t 46)), none, [6]⟩,
    ⟨(some 47), 47, (.ext 0 (.t 39)), none, [7]⟩,
    ⟨(some 48), 48, (.ext 1 (.t 39)), none, [7]⟩,
    ⟨(some 49), 49, (.ext 2 (.t 39)), none, [7]⟩,
    ⟨(some 7), 7, (.mk 25 4 [[(.s (.pv (.int .i64 0))), (.s (.pv (.int .i64 0))), .zc, .zc]]), none, []⟩,
    ⟨none, 102, (.store 4 (.t 7) (.t 47)), none, [11, 8, 6, 0, 1, 2, 3, 4, 5, 6, 7, 8, 11]⟩,
    ⟨(some 8), 8, (.mv (.t 48)), none, [9, 12, 0, 1, 2, 3, 4, 5, 6, 7, 8, 9, 11, 12]⟩,
    ⟨(some 9), 9, (.mv (.t 49)), none, [10, 13, 0, 1, 2, 3, 4, 5, 6, 7, 8, 9, 10, 11, 12, 13]⟩])
  (.seq (.seq (.reg [⟨(some 50), 50, (.mv (.t 9)), none, []⟩,
    ⟨(some 51), 51, (.bin false .neq (.t 50) (.k (.c (.s (.pv (.int .i64 0)))))), none, [0]⟩])
  (.cond (.t 51) (.seq (.reg [⟨(some 2), 2, (.mv (.k (.c (.s (.pv (.bool false)))))), none, []⟩])
  .ret) .skip))
  (.seq (.reg [⟨(some 52), 52, (.mv (.t 5)), none, []⟩,
    ⟨(some 53), 53, (.mv (.t 8)), none, []⟩,
    ⟨(some 54), 54, (.app 3 1 8 (.t 52) (.t 53)), none, [0, 1]⟩,
    ⟨(some 5), 5, (.mv (.t 54)), none, [2, 2, 0, 1, 2]⟩])
  (.reg [⟨(some 55), 55, (.load true 4 (.t 7)), none, []⟩,
    ⟨none, 91, (.store 4 (.t 1) (.t 55)), none, [0, 0]⟩]))))))
  (.reg [⟨(some 56), 56, (.bin false .add (.t 33) (.k (.c (.s (.pv (.int .i64 1)))))), none, []⟩,
    ⟨(some 33), 33, (.mv (.t 56)), none, [0]⟩])))))))
  (.seq (.seq (.reg [⟨(some 57), 57, (.mv (.t 5)), none, []⟩,
    ⟨(some 58), 58, (.len (.t 57)), none, [0]⟩,
    ⟨(some 59), 59, (.fld 3 (.t 3)), none, []⟩,
    ⟨(some 60), 60, (.load false 1 (.t 59)), none, [2]⟩,
    ⟨(some 61), 61, (.len (.t 60)), none, [3]⟩,
    ⟨(some 62), 62, (.bin false .neq (.t 58) (.t 61)), none, [1, 4]⟩,
    ⟨(some 63), 63, (.mv (.t 62)), none, [5]⟩,
    ⟨(some 64), 64, (.fld 2 (.t 1)), (some (63, false)), [6]⟩,
    ⟨(some 65), 65, (.load false 1 (.t 64)), (some (63, false)), [7, 6]⟩,
    ⟨(some 66), 66, (.len (.t 65)), (some (63, false)), [8, 6]⟩,
    ⟨(some 67), 67, (.fld 3 (.t 1)), (some (63, false)), [6]⟩,
    ⟨(some 68), 68, (.load false 1 (.t 67)), (some (63, false)), [10, 6]⟩,
    ⟨(some 69), 69, (.len (.t 68)), (some (63, false)), [11, 6]⟩,
    ⟨(some 70), 70, (.bin false .add (.t 66) (.t 69)), (some (63, false)), [9, 12, 6]⟩,
    ⟨(some 71), 71, (.bin false .neq (.t 70) (.k (.c (.s (.pv (.int .i64 0)))))), (some (63, false)), [13, 6]⟩,
    ⟨(some 72), 72, (.pick (.t 63) (.k (.c (.s (.pv (.bool true))))) (.t 71)), none, [6, 14]⟩])
  (.cond (.t 72) (.seq (.reg [⟨(some 2), 2, (.mv (.k (.c (.s (.pv (.bool false)))))), none, []⟩])
  .ret) .skip))
  (.seq (.seq (.reg [⟨(some 73), 73, (.fld 3 (.t 3)), none, []⟩,
    ⟨(some 74), 74, (.load false 1 (.t 73)), none, [0]⟩,
    ⟨(some 75), 75, (.len (.t 74)), none, [1]⟩,
    ⟨(some 76), 76, (.mv (.k (.c (.s (.pv (.int .i64 0)))))), none, []⟩])
  (.block 2 (.loop (.seq (.reg [⟨(some 77), 77, (.bin false .lss (.t 76) (.t 75)), none, []⟩])
  (.seq (.cond (.t 77) .skip (.exit 2))
  (.seq (.block 3 (.seq (.reg [⟨(some 78), 78, (.mv (.t 76)), none, []⟩,
    ⟨(some 79), 79, (.idx 2 (.t 74) (.t 76)), none, []⟩,
    ⟨(some 80), 80, (.load true 2 (.t 79)), none, [1]⟩,
    ⟨(some 11), 11, (.mk 63 2 [[(.s (.pv (.int .i64 0))), (.s (.pv (.int .i64 0)))]]), none, []⟩,
    ⟨(some 10), 10, (.mv (.t 78)), none, [0, 0, 1, 2, 3]⟩,
    ⟨none, 95, (.store 2 (.t 11) (.t 80)), none, [3, 2, 4, 0, 1, 2, 3, 4]⟩])
  (.seq (.draw [⟨(some 81), 81, (.mv (.t 5)), none, []⟩,
    ⟨(some 82), 82, (.mv (.t 10)), none, []⟩,
    ⟨(some 83), 83, (.idx 1 (.t 81) (.t 82)), none, [0, 1]⟩,
    ⟨(some 84), 84, (.load false 1 (.t 83)), none, [2]⟩,
    ⟨(some 85), 85, (.fld 0 (.t 11)), none, []⟩,
    ⟨(some 86), 86, (.load false 1 (.t 85)), none, [4]⟩,
    ⟨(some 87), 87, (.bin false .neq (.t 84) (.t 86)), none, [3, 5]⟩])
  (.cond (.t 87) (.seq (.reg [⟨(some 2), 2, (.mv (.k (.c (.s (.pv (.bool false)))))), none, []⟩])
  .ret) .skip))))
  (.reg [⟨(some 88), 88, (.bin false .add (.t 76) (.k (.c (.s (.pv (.int .i64 1)))))), none, []⟩,
    ⟨(some 76), 76, (.mv (.t 88)), none, [0]⟩])))))))
  (.seq (.reg [⟨(some 89), 89, (.call 16 []), none, []⟩,
    ⟨(some 2), 2, (.mv (.t 89)), none, [0, 0, 0]⟩])
  .ret)))))))))
theorem fn6 : FnIs Try.prog 6 ac6 [(.t 2)] 90 := ⟨Try.f6, Try.func6, by kernel_rfl, by kernel_rfl, by kernel_rfl⟩
/- lockkeeper/lockkeeperlaw11.AdmitBack -/
def ac7 : ACode := (.seq (.reg [⟨(some 2), 2, (.box 25 4 (.t 0)), none, []⟩,
    ⟨(some 4), 4, (.mv (.k (.c (.s (.pv (.bool false)))))), none, []⟩])
  (.seq (.reg [⟨(some 22), 22, (.load true 4 (.t 2)), none, []⟩,
    ⟨(some 23), 23, (.call 15 [(.t 22)]), none, [0]⟩,
    ⟨(some 21), 21, (.mv (.t 23)), none, [1]⟩,
    ⟨(some 24), 24, (.ext 0 (.t 21)), none, [2]⟩,
    ⟨(some 25), 25, (.ext 1 (.t 21)), none, [2]⟩,
    ⟨(some 5), 5, (.mk 29 4 [[(.s (.pv (.int .i64 0))), (.s (.pv (.int .i64 0))), .zc, .zc]]), none, []⟩,
    ⟨none, 119, (.store 4 (.t 5) (.t 24)), none, [5, 3, 1, 0, 1, 2, 3, 5]⟩,
    ⟨(some 6), 6, (.mv (.t 25)), none, [4, 6, 0, 1, 2, 3, 4, 5, 6]⟩])
  (.seq (.seq (.reg [⟨(some 26), 26, (.mv (.t 6)), none, []⟩,
    ⟨(some 27), 27, (.not (.t 26)), none, [0]⟩,
    ⟨(some 28), 28, (.mv (.t 27)), none, [1]⟩,
    ⟨(some 29), 29, (.load true 4 (.t 5)), (some (28, false)), [2]⟩,
    ⟨(some 30), 30, (.call 21 [(.t 29)]), (some (28, false)), [3, 2, 2]⟩,
    ⟨(some 31), 31, (.not (.t 30)), (some (28, false)), [4, 2]⟩,
    ⟨(some 32), 32, (.pick (.t 28) (.k (.c (.s (.pv (.bool true))))) (.t 31)), none, [2, 5]⟩])
  (.cond (.t 32) (.seq (.reg [⟨(some 33), 33, (.call 16 []), none, []⟩,
    ⟨(some 4), 4, (.mv (.t 33)), none, [0, 0, 0]⟩])
  .ret) .skip))
  (.seq (.reg [⟨(some 35), 35, (.load true 4 (.t 2)), none, []⟩,
    ⟨(some 36), 36, (.mv (.t 1)), none, []⟩,
    ⟨(some 37), 37, (.call 27 [(.t 35), (.t 36)]), none, [0, 1]⟩,
    ⟨(some 34), 34, (.mv (.t 37)), none, [2]⟩,
    ⟨(some 38), 38, (.ext 0 (.t 34)), none, [3]⟩,
    ⟨(some 39), 39, (.ext 1 (.t 34)), none, [3]⟩,
    ⟨(some 7), 7, (.mk 25 4 [[(.s (.pv (.int .i64 0))), (.s (.pv (.int .i64 0))), .zc, .zc]]), none, []⟩,
    ⟨none, 120, (.store 4 (.t 7) (.t 38)), none, [6, 4, 2, 0, 1, 2, 3, 4, 6]⟩,
    ⟨(some 8), 8, (.mv (.t 39)), none, [5, 7, 0, 1, 2, 3, 4, 5, 6, 7]⟩])
  (.seq (.seq (.reg [⟨(some 40), 40, (.mv (.t 8)), none, []⟩,
    ⟨(some 41), 41, (.bin false .eql (.t 40) (.k (.c (.s (.pv (.int .i64 0)))))), none, [0]⟩])
  (.cond (.t 41) (.seq (.reg [⟨(some 43), 43, (.load true 4 (.t 7)), none, []⟩,
    ⟨(some 44), 44, (.mv (.t 1)), none, []⟩,
    ⟨(some 45), 45, (.call 29 [(.t 43), (.t 44)]), none, [0, 1]⟩,
    ⟨(some 42), 42, (.mv (.t 45)), none, [2]⟩,
    ⟨(some 46), 46, (.ext 0 (.t 42)), none, [3]⟩,
    ⟨(some 47), 47, (.ext 1 (.t 42)), none, [3]⟩,
    ⟨(some 9), 9, (.mk 25 4 [[(.s (.pv (.int .i64 0))), (.s (.pv (.int .i64 0))), .zc, .zc]]), none, []⟩,
    ⟨none, 120, (.store 4 (.t 9) (.t 46)), none, [6, 4, 2, 0, 1, 2, 3, 4, 6]⟩,
    ⟨(some 10), 10, (.mv (.t 47)), none, [5, 7, 0, 1, 2, 3, 4, 5, 6, 7]⟩])
  (.seq (.reg [⟨(some 49), 49, (.load true 4 (.t 9)), none, []⟩,
    ⟨(some 50), 50, (.call 15 [(.t 49)]), none, [0]⟩,
    ⟨(some 48), 48, (.mv (.t 50)), none, [1]⟩,
    ⟨(some 51), 51, (.ext 0 (.t 48)), none, [2]⟩,
    ⟨(some 52), 52, (.ext 1 (.t 48)), none, [2]⟩,
    ⟨(some 11), 11, (.mk 29 4 [[(.s (.pv (.int .i64 0))), (.s (.pv (.int .i64 0))), .zc, .zc]]), none, []⟩,
    ⟨none, 119, (.store 4 (.t 11) (.t 51)), none, [5, 3, 1, 0, 1, 2, 3, 5]⟩,
    ⟨(some 12), 12, (.mv (.t 52)), none, [4, 6, 0, 1, 2, 3, 4, 5, 6]⟩])
  (.seq (.draw [⟨(some 53), 53, (.mv (.t 10)), none, []⟩,
    ⟨(some 54), 54, (.bin false .neq (.t 53) (.k (.c (.s (.pv (.int .i64 0)))))), none, [0]⟩,
    ⟨(some 55), 55, (.mv (.t 54)), none, [1]⟩,
    ⟨(some 56), 56, (.mv (.t 12)), (some (55, false)), [2]⟩,
    ⟨(some 57), 57, (.not (.t 56)), (some (55, false)), [3, 2]⟩,
    ⟨(some 58), 58, (.pick (.t 55) (.k (.c (.s (.pv (.bool true))))) (.t 57)), none, [2, 4]⟩,
    ⟨(some 59), 59, (.mv (.t 58)), none, [5, 2]⟩,
    ⟨(some 60), 60, (.load true 4 (.t 5)), (some (59, false)), [6]⟩,
    ⟨(some 61), 61, (.load true 4 (.t 11)), (some (59, false)), [6]⟩,
    ⟨(some 62), 62, (.call 23 [(.t 60), (.t 61)]), (some (59, false)), [7, 8, 6, 6]⟩,
    ⟨(some 63), 63, (.not (.t 62)), (some (59, false)), [9, 6]⟩,
    ⟨(some 64), 64, (.pick (.t 59) (.k (.c (.s (.pv (.bool true))))) (.t 63)), none, [6, 10]⟩,
    ⟨(some 65), 65, (.mv (.t 64)), none, [11, 9]⟩,
    ⟨(some 66), 66, (.load true 4 (.t 7)), (some (65, false)), [12]⟩,
    ⟨(some 67), 67, (.call 26 [(.t 66)]), (some (65, false)), [13, 12, 12]⟩,
    ⟨(some 68), 68, (.load true 4 (.t 2)), (some (65, false)), [12]⟩,
    ⟨(some 69), 69, (.call 26 [(.t 68)]), (some (65, false)), [15, 14, 12]⟩,
    ⟨(some 70), 70, (.bin false .sub (.t 69) (.k (.c (.s (.pv (.int .i64 1)))))), (some (65, false)), [16, 12]⟩,
    ⟨(some 71), 71, (.bin false .neq (.t 67) (.t 70)), (some (65, false)), [14, 17, 12]⟩,
    ⟨(some 72), 72, (.pick (.t 65) (.k (.c (.s (.pv (.bool true))))) (.t 71)), none, [12, 18]⟩])
  (.cond (.t 72) (.seq (.reg [⟨(some 4), 4, (.mv (.k (.c (.s (.pv (.bool false)))))), none, []⟩])
  .ret) .skip)))) .skip))
  (.seq (.reg [⟨(some 74), 74, (.load true 4 (.t 2)), none, []⟩,
    ⟨(some 75), 75, (.mv (.t 1)), none, []⟩,
    ⟨(some 76), 76, (.call 17 [(.t 74), (.t 75), (.k (.c (.s (.pv (.int .i64 1)))))]), none, [0, 1]⟩,
    ⟨(some 73), 73, (.mv (.t 76)), none, [2]⟩,
    ⟨(some 77), 77, (.ext 0 (.t 73)), none, [3]⟩,
    ⟨(some 78), 78, (.ext 1 (.t 73)), none, [3]⟩,
    ⟨(some 79), 79, (.ext 2 (.t 73)), none, [3]⟩,
    ⟨(some 13), 13, (.mk 25 4 [[(.s (.pv (.int .i64 0))), (.s (.pv (.int .i64 0))), .zc, .zc]]), none, []⟩,
    ⟨none, 121, (.store 4 (.t 13) (.t 77)), none, [7, 4, 2, 0, 1, 2, 3, 4, 7]⟩,
    ⟨(some 14), 14, (.mv (.t 78)), none, [5, 8, 0, 1, 2, 3, 4, 5, 7, 8]⟩,
    ⟨(some 15), 15, (.mv (.t 79)), none, [6, 9, 0, 1, 2, 3, 4, 5, 6, 7, 8, 9]⟩])
  (.seq (.seq (.reg [⟨(some 80), 80, (.mv (.t 15)), none, []⟩,
    ⟨(some 81), 81, (.bin false .neq (.t 80) (.k (.c (.s (.pv (.int .i64 0)))))), none, [0]⟩])
  (.cond (.t 81) (.seq (.reg [⟨(some 82), 82, (.call 16 []), none, []⟩,
    ⟨(some 4), 4, (.mv (.t 82)), none, [0, 0, 0]⟩])
  .ret) .skip))
  (.seq (.reg [⟨(some 84), 84, (.load true 4 (.t 13)), none, []⟩,
    ⟨(some 85), 85, (.mv (.t 1)), none, []⟩,
    ⟨(some 86), 86, (.call 19 [(.t 84), (.t 85)]), none, [0, 1]⟩,
    ⟨(some 83), 83, (.mv (.t 86)), none, [2]⟩,
    ⟨(some 87), 87, (.ext 0 (.t 83)), none, [3]⟩,
    ⟨(some 88), 88, (.ext 1 (.t 83)), none, [3]⟩,
    ⟨(some 89), 89, (.ext 2 (.t 83)), none, [3]⟩,
    ⟨(some 16), 16, (.mk 25 4 [[(.s (.pv (.int .i64 0))), (.s (.pv (.int .i64 0))), .zc, .zc]]), none, []⟩,
    ⟨none, 121, (.store 4 (.t 16) (.t 87)), none, [7, 4, 2, 0, 1, 2, 3, 4, 7]⟩,
    ⟨(some 17), 17, (.mv (.t 88)), none, [5, 8, 0, 1, 2, 3, 4, 5, 7, 8]⟩,
    ⟨(some 18), 18, (.mv (.t 89)), none, [6, 9, 0, 1, 2, 3, 4, 5, 6, 7, 8, 9]⟩])
  (.seq (.reg [⟨(some 91), 91, (.load true 4 (.t 16)), none, []⟩,
    ⟨(some 92), 92, (.call 15 [(.t 91)]), none, [0]⟩,
    ⟨(some 90), 90, (.mv (.t 92)), none, [1]⟩,
    ⟨(some 93), 93, (.ext 0 (.t 90)), none, [2]⟩,
    ⟨(some 94), 94, (.ext 1 (.t 90)), none, [2]⟩,
    ⟨(some 19), 19, (.mk 29 4 [[(.s (.pv (.int .i64 0))), (.s (.pv (.int .i64 0))), .zc, .zc]]), none, []⟩,
    ⟨none, 119, (.store 4 (.t 19) (.t 93)), none, [5, 3, 1, 0, 1, 2, 3, 5]⟩,
    ⟨(some 20), 20, (.mv (.t 94)), none, [4, 6, 0, 1, 2, 3, 4, 5, 6]⟩])
  (.seq (.reg [⟨(some 95), 95, (.mv (.t 18)), none, []⟩,
    ⟨(some 96), 96, (.bin false .eql (.t 95) (.k (.c (.s (.pv (.int .i64 0)))))), none, [0]⟩,
    ⟨(some 97), 97, (.mv (.t 96)), none, [1]⟩,
    ⟨(some 98), 98, (.mv (.t 17)), (some (97, true)), [2]⟩,
    ⟨(some 99), 99, (.len (.t 98)), (some (97, true)), [3, 2]⟩,
    ⟨(some 100), 100, (.bin false .eql (.t 99) (.k (.c (.s (.pv (.int .i64 0)))))), (some (97, true)), [4, 2]⟩,
    ⟨(some 101), 101, (.pick (.t 97) (.t 100) (.k (.c (.s (.pv (.bool false)))))), none, [2, 5]⟩,
    ⟨(some 102), 102, (.mv (.t 101)), none, [6, 2]⟩,
    ⟨(some 103), 103, (.mv (.t 20)), (some (102, true)), [7]⟩,
    ⟨(some 104), 104, (.pick (.t 102) (.t 103) (.k (.c (.s (.pv (.bool false)))))), none, [7, 8]⟩,
    ⟨(some 105), 105, (.mv (.t 104)), none, [9, 7]⟩,
    ⟨(some 106), 106, (.load true 4 (.t 5)), (some (105, true)), [10]⟩,
    ⟨(some 107), 107, (.load true 4 (.t 19)), (some (105, true)), [10]⟩,
    ⟨(some 108), 108, (.call 23 [(.t 106), (.t 107)]), (some (105, true)), [11, 12, 10, 10]⟩,
    ⟨(some 109), 109, (.pick (.t 105) (.t 108) (.k (.c (.s (.pv (.bool false)))))), none, [10, 13]⟩,
    ⟨(some 110), 110, (.mv (.t 109)), none, [14, 13]⟩,
    ⟨(some 111), 111, (.call 16 []), (some (110, true)), [15, 15]⟩,
    ⟨(some 112), 112, (.pick (.t 110) (.t 111) (.k (.c (.s (.pv (.bool false)))))), none, [15, 16]⟩,
    ⟨(some 4), 4, (.mv (.t 112)), none, [17, 16, 0, 1, 2, 3, 4, 5, 6, 7, 8, 9, 10, 11, 12, 13, 14, 15, 16, 17]⟩])
  .ret))))))))))
theorem fn7 : FnIs Try.prog 7 ac7 [(.t 4)] 113 := ⟨Try.f7, Try.func7, by kernel_rfl, by kernel_rfl, by kernel_rfl⟩
/- lockkeeper/lockkeeperlaw11.AdmitOnes -/
def ac8 : ACode := (.seq (.reg [⟨(some 2), 2, (.mv (.k (.c (.s (.pv (.bool false)))))), none, []⟩])
  (.seq (.reg [⟨(some 17), 17, (.mv (.t 0)), none, []⟩,
    ⟨(some 18), 18, (.bin false .rem (.t 17) (.k (.c (.s (.pv (.int .u8 8)))))), none, [0]⟩,
    ⟨(some 19), 19, (.conv .i64 (.t 18)), none, [1]⟩,
    ⟨(some 20), 20, (.bin false .add (.k (.c (.s (.pv (.int .i64 1))))) (.t 19)), none, [2]⟩,
    ⟨(some 3), 3, (.mv (.t 20)), none, [3, 0, 1, 2, 3]⟩])
  (.seq (.reg [⟨(some 21), 21, (.mv (.t 3)), none, []⟩,
    ⟨(some 22), 22, (.build [(.s (.pv (.int .i64 0))), (.s (.pv (.int .i64 0))), .zc, .zc] [(0, 1, (.t 21)), (1, 1, (.k (.c (.s (.pv (.int .i64 1))))))]), none, [0]⟩,
    ⟨(some 4), 4, (.mk 25 4 [[(.s (.pv (.int .i64 0))), (.s (.pv (.int .i64 0))), .zc, .zc]]), none, []⟩,
    ⟨none, 92, (.store 4 (.t 4) (.t 22)), none, [2, 1, 0, 1, 2]⟩])
  (.seq (.seq (.reg [⟨(some 23), 23, (.mv (.t 3)), none, []⟩,
    ⟨(some 24), 24, (.bin false .mul (.k (.c (.s (.pv (.int .i64 2))))) (.t 23)), none, [0]⟩,
    ⟨(some 25), 25, (.mm false (.t 24) (.k (.c (.s (.pv (.int .i64 8)))))), none, [1]⟩,
    ⟨(some 26), 26, (.mv (.k (.c (.s (.pv (.int .i64 0)))))), none, []⟩])
  (.block 0 (.loop (.seq (.reg [⟨(some 27), 27, (.bin false .lss (.t 26) (.t 25)), none, []⟩])
  (.seq (.cond (.t 27) .skip (.exit 0))
  (.seq (.block 1 (.seq (.reg [⟨(some 28), 28, (.mv (.t 26)), none, []⟩,
    ⟨(some 5), 5, (.mv (.t 28)), none, [0, 0]⟩])
  (.seq (.reg [⟨(some 30), 30, (.load true 4 (.t 4)), none, []⟩,
    ⟨(some 31), 31, (.mv (.t 5)), none, []⟩,
    ⟨(some 32), 32, (.call 17 [(.t 30), (.t 31), (.k (.c (.s (.pv (.int .i64 1)))))]), none, [0, 1]⟩,
    ⟨(some 29), 29, (.mv (.t 32)), none, [2]⟩,
    ⟨(some 33), 33, (.ext 0 (.t 29)), none, [3]⟩,
    ⟨(some 34), 34, (.ext 1 (.t 29)), none, [3]⟩,
    ⟨(some 35), 35, (.ext 2 (.t 29)), none, [3]⟩,
    ⟨(some 6), 6, (.mk 25 4 [[(.s (.pv (.int .i64 0))), (.s (.pv (.int .i64 0))), .zc, .zc]]), none, []⟩,
    ⟨none, 97, (.store 4 (.t 6) (.t 33)), none, [7, 4, 2, 0, 1, 2, 3, 4, 7]⟩,
    ⟨(some 7), 7, (.mv (.t 34)), none, [5, 8, 0, 1, 2, 3, 4, 5, 7, 8]⟩,
    ⟨(some 8), 8, (.mv (.t 35)), none, [6, 9, 0, 1, 2, 3, 4, 5, 6, 7, 8, 9]⟩])
  (.seq (.seq (.reg [⟨(some 36), 36, (.mv (.t 7)), none, []⟩,
    ⟨(some 37), 37, (.not (.t 36)), none, [0]⟩,
    ⟨(some 38), 38, (.mv (.t 37)), none, [1]⟩,
    ⟨(some 39), 39, (.mv (.t 8)), (some (38, false)), [2]⟩,
    ⟨(some 40), 40, (.bin false .neq (.t 39) (.k (.c (.s (.pv (.int .i64 0)))))), (some (38, false)), [3, 2]⟩,
    ⟨(some 41), 41, (.pick (.t 38) (.k (.c (.s (.pv (.bool true))))) (.t 40)), none, [2, 4]⟩])
  (.cond (.t 41) (.seq (.reg [⟨(some 2), 2, (.mv (.k (.c (.s (.pv (.bool false)))))), none, []⟩])
  .ret) .skip))
  (.reg [⟨(some 42), 42, (.load true 4 (.t 6)), none, []⟩,
    ⟨none, 90, (.store 4 (.t 4) (.t 42)), none, [0, 0]⟩])))))
  (.reg [⟨(some 43), 43, (.bin false .add (.t 26) (.k (.c (.s (.pv (.int .i64 1)))))), none, []⟩,
    ⟨(some 26), 26, (.mv (.t 43)), none, [0]⟩])))))))
  (.seq (.seq (.reg [⟨(some 44), 44, (.mv (.t 3)), none, []⟩,
    ⟨(some 45), 45, (.mv (.k (.c (.s (.pv (.int .i64 0)))))), none, []⟩])
  (.block 2 (.loop (.seq (.reg [⟨(some 46), 46, (.bin false .lss (.t 45) (.t 44)), none, []⟩])
  (.seq (.cond (.t 46) .skip (.exit 2))
  (.seq (.block 3 (.seq (.reg [⟨(some 47), 47, (.mv (.t 45)), none, []⟩,
    ⟨(some 9), 9, (.mv (.t 47)), none, [0, 0]⟩])
  (.seq (.reg [⟨(some 49), 49, (.load true 4 (.t 4)), none, []⟩,
    ⟨(some 50), 50, (.mv (.t 9)), none, []⟩,
    ⟨(some 51), 51, (.call 27 [(.t 49), (.t 50)]), none, [0, 1]⟩,
    ⟨(some 48), 48, (.mv (.t 51)), none, [2]⟩,
    ⟨(some 52), 52, (.ext 0 (.t 48)), none, [3]⟩,
    ⟨(some 53), 53, (.ext 1 (.t 48)), none, [3]⟩,
    ⟨(some 10), 10, (.mk 25 4 [[(.s (.pv (.int .i64 0))), (.s (.pv (.int .i64 0))), .zc, .zc]]), none, []⟩,
    ⟨none, 96, (.store 4 (.t 10) (.t 52)), none, [6, 4, 2, 0, 1, 2, 3, 4, 6]⟩,
    ⟨(some 11), 11, (.mv (.t 53)), none, [5, 7, 0, 1, 2, 3, 4, 5, 6, 7]⟩])
  (.seq (.seq (.reg [⟨(some 54), 54, (.mv (.t 11)), none, []⟩,
    ⟨(some 55), 55, (.bin false .neq (.t 54) (.k (.c (.s (.pv (.int .i64 0)))))), none, [0]⟩])
  (.cond (.t 55) (.seq (.reg [⟨(some 2), 2, (.mv (.k (.c (.s (.pv (.bool false)))))), none, []⟩])
  .ret) .skip))
  (.reg [⟨(some 56), 56, (.load true 4 (.t 10)), none, []⟩,
    ⟨none, 90, (.store 4 (.t 4) (.t 56)), none, [0, 0]⟩])))))
  (.reg [⟨(some 57), 57, (.bin false .add (.t 45) (.k (.c (.s (.pv (.int .i64 1)))))), none, []⟩,
    ⟨(some 45), 45, (.mv (.t 57)), none, [0]⟩])))))))
  (.seq (.reg [⟨(some 59), 59, (.load true 4 (.t 4)), none, []⟩,
    ⟨(some 60), 60, (.mv (.t 3)), none, []⟩,
    ⟨(some 61), 61, (.call 27 [(.t 59), (.t 60)]), none, [0, 1]⟩,
    ⟨(some 58), 58, (.mv (.t 61)), none, [2]⟩,
    ⟨(some 62), 62, (.ext 0 (.t 58)), none, [3]⟩,
    ⟨(some 63), 63, (.ext 1 (.t 58)), none, [3]⟩,
    ⟨(some 12), 12, (.mk 25 4 [[(.s (.pv (.int .i64 0))), (.s (.pv (.int .i64 0))), .zc, .zc]]), none, []⟩,
    ⟨none, 96, (.store 4 (.t 12) (.t 62)), none, [6, 4, 2, 0, 1, 2, 3, 4, 6]⟩,
    ⟨(some 13), 13, (.mv (.t 63)), none, [5, 7, 0, 1, 2, 3, 4, 5, 6, 7]⟩])
  (.seq (.reg [⟨(some 14), 14, (.mv (.k (.c (.s (.pv (.int .i64 6)))))), none, []⟩])
  (.seq (.seq (.reg [⟨(some 64), 64, (.mv (.t 3)), none, []⟩,
    ⟨(some 65), 65, (.mv (.t 3)), none, []⟩,
    ⟨(some 66), 66, (.bin false .mul (.k (.c (.s (.pv (.int .i64 2))))) (.t 65)), none, [1]⟩,
    ⟨(some 67), 67, (.mm false (.t 66) (.k (.c (.s (.pv (.int .i64 8)))))), none, [2]⟩,
    ⟨(some 68), 68, (.bin false .geq (.t 64) (.t 67)), none, [0, 3]⟩])
  (.cond (.t 68) (.reg [⟨(some 14), 14, (.mv (.k (.c (.s (.pv (.int .i64 3)))))), none, []⟩]) .skip))
  (.seq (.reg [⟨(some 70), 70, (.load true 4 (.t 4)), none, []⟩,
    ⟨(some 71), 71, (.call 27 [(.t 70), (.k (.c (.s (.pv (.int .i64 0)))))]), none, [0]⟩,
    ⟨(some 69), 69, (.mv (.t 71)), none, [1]⟩,
    ⟨(some 72), 72, (.ext 0 (.t 69)), none, [2]⟩,
    ⟨(some 73), 73, (.ext 1 (.t 69)), none, [2]⟩,
    ⟨(some 15), 15, (.mk 25 4 [[(.s (.pv (.int .i64 0))), (.s (.pv (.int .i64 0))), .zc, .zc]]), none, []⟩,
    ⟨none, 95, (.store 4 (.t 15) (.t 72)), none, [5, 3, 1, 0, 1, 2, 3, 5]⟩,
    ⟨(some 16), 16, (.mv (.t 73)), none, [4, 6, 0, 1, 2, 3, 4, 5, 6]⟩])
  (.seq (.reg [⟨(some 74), 74, (.mv (.t 13)), none, []⟩,
    ⟨(some 75), 75, (.mv (.t 14)), none, []⟩,
    ⟨(some 76), 76, (.bin false .eql (.t 74) (.t 75)), none, [0, 1]⟩,
    ⟨(some 77), 77, (.mv (.t 76)), none, [2]⟩,
    ⟨(some 78), 78, (.mv (.t 16)), (some (77, true)), [3]⟩,
    ⟨(some 79), 79, (.bin false .eql (.t 78) (.k (.c (.s (.pv (.int .i64 10)))))), (some (77, true)), [4, 3]⟩,
    ⟨(some 80), 80, (.pick (.t 77) (.t 79) (.k (.c (.s (.pv (.bool false)))))), none, [3, 5]⟩,
    ⟨(some 81), 81, (.mv (.t 80)), none, [6, 3]⟩,
    ⟨(some 82), 82, (.load true 4 (.t 4)), (some (81, true)), [7]⟩,
    ⟨(some 83), 83, (.call 26 [(.t 82)]), (some (81, true)), [8, 7, 7]⟩,
    ⟨(some 84), 84, (.bin false .eql (.t 83) (.k (.c (.s (.pv (.int .i64 0)))))), (some (81, true)), [9, 7]⟩,
    ⟨(some 85), 85, (.pick (.t 81) (.t 84) (.k (.c (.s (.pv (.bool false)))))), none, [7, 10]⟩,
    ⟨(some 86), 86, (.mv (.t 85)), none, [11, 9]⟩,
    ⟨(some 87), 87, (.call 16 []), (some (86, true)), [12, 12]⟩,
    ⟨(some 88), 88, (.pick (.t 86) (.t 87) (.k (.c (.s (.pv (.bool false)))))), none, [12, 13]⟩,
    ⟨(some 2), 2, (.mv (.t 88)), none, [14, 13, 0, 1, 2, 3, 4, 5, 6, 7, 8, 9, 10, 11, 12, 13, 14]⟩])
  .ret))))))))))
theorem fn8 : FnIs Try.prog 8 ac8 [(.t 2)] 89 := ⟨Try.f8, Try.func8, by kernel_rfl, by kernel_rfl, by kernel_rfl⟩
/- lockkeeper/lockkeeperlaw11.ref -/
def ac15 : ACode := (.seq (.reg [⟨(some 1), 1, (.box 25 4 (.t 0)), none, []⟩,
    ⟨(some 2), 2, (.mk 29 4 [[(.s (.pv (.int .i64 0))), (.s (.pv (.int .i64 0))), .zc, .zc]]), none, []⟩,
    ⟨(some 3), 3, (.mv (.k (.c (.s (.pv (.bool false)))))), none, []⟩])
  (.seq (.reg [⟨(some 11), 11, (.fld 0 (.t 1)), none, []⟩,
    ⟨(some 12), 12, (.load false 1 (.t 11)), none, [0]⟩,
    ⟨(some 13), 13, (.fld 1 (.t 1)), none, []⟩,
    ⟨(some 14), 14, (.load false 1 (.t 13)), none, [2]⟩,
    ⟨(some 15), 15, (.build [(.s (.pv (.int .i64 0))), (.s (.pv (.int .i64 0))), .zc, .zc] [(0, 1, (.t 12)), (1, 1, (.t 14))]), none, [1, 3]⟩,
    ⟨(some 4), 4, (.mk 29 4 [[(.s (.pv (.int .i64 0))), (.s (.pv (.int .i64 0))), .zc, .zc]]), none, []⟩,
    ⟨none, 62, (.store 4 (.t 4) (.t 15)), none, [5, 4, 0, 1, 2, 3, 4, 5]⟩])
  (.seq (.seq (.reg [⟨(some 16), 16, (.fld 2 (.t 1)), none, []⟩,
    ⟨(some 17), 17, (.load false 1 (.t 16)), none, [0]⟩,
    ⟨(some 18), 18, (.len (.t 17)), none, [1]⟩,
    ⟨(some 19), 19, (.bin false .gtr (.t 18) (.k (.c (.s (.pv (.int .i64 40)))))), none, [2]⟩,
    ⟨(some 20), 20, (.mv (.t 19)), none, [3]⟩,
    ⟨(some 21), 21, (.fld 3 (.t 1)), (some (20, false)), [4]⟩,
    ⟨(some 22), 22, (.load false 1 (.t 21)), (some (20, false)), [5, 4]⟩,
    ⟨(some 23), 23, (.len (.t 22)), (some (20, false)), [6, 4]⟩,
    ⟨(some 24), 24, (.bin false .gtr (.t 23) (.k (.c (.s (.pv (.int .i64 60)))))), (some (20, false)), [7, 4]⟩,
    ⟨(some 25), 25, (.pick (.t 20) (.k (.c (.s (.pv (.bool true))))) (.t 24)), none, [4, 8]⟩])
  (.cond (.t 25) (.seq (.reg [⟨(some 26), 26, (.load true 4 (.t 4)), none, []⟩,
    ⟨none, 57, (.store 4 (.t 2) (.t 26)), none, [0, 0]⟩,
    ⟨(some 3), 3, (.mv (.k (.c (.s (.pv (.bool false)))))), none, [1, 0, 1]⟩])
  .ret) .skip))
  (.seq (.reg [⟨(some 5), 5, (.mv (.k (.c .zc))), none, []⟩])
  (.seq (.seq (.reg [⟨(some 27), 27, (.fld 2 (.t 1)), none, []⟩,
    ⟨(some 28), 28, (.load false 1 (.t 27)), none, [0]⟩,
    ⟨(some 29), 29, (.len (.t 28)), none, [1]⟩,
    ⟨(some 30), 30, (.mv (.k (.c (.s (.pv (.int .i64 0)))))), none, []⟩])
  (.block 0 (.loop (.seq (.reg [⟨(some 31), 31, (.bin false .lss (.t 30) (.t 29)), none, []⟩])
  (.seq (.cond (.t 31) .skip (.exit 0))
  (.seq (.block 1 (.seq (.reg [⟨(some 32), 32, (.idx 3 (.t 28) (.t 30)), none, []⟩,
    ⟨(some 33), 33, (.load true 3 (.t 32)), none, [0]⟩,
    ⟨(some 7), 7, (.mk 59 3 [[(.s (.pv (.int .i64 0))), (.s (.pv (.int .i64 0))), (.s (.pv (.int .i64 0)))]]), none, []⟩,
    ⟨none, 59, (.store 3 (.t 7) (.t 33)), none, [2, 1, 0, 1, 2]⟩])
  (.reg [⟨(some 34), 34, (.mv (.t 5)), none, []⟩,
    ⟨(some 35), 35, (.load true 3 (.t 7)), none, []⟩,
    ⟨(some 36), 36, (.bslice 100 3 [(.s (.pv (.int .i64 0))), (.s (.pv (.int .i64 0))), (.s (.pv (.int .i64 0)))] 1 [(0, 3, (.t 35))]), none, [1]⟩,
    ⟨(some 37), 37, (.app 100 3 24 (.t 34) (.t 36)), none, [0, 2]⟩,
    ⟨(some 5), 5, (.mv (.t 37)), none, [3, 3, 0, 1, 2, 3]⟩])))
  (.reg [⟨(some 38), 38, (.bin false .add (.t 30) (.k (.c (.s (.pv (.int .i64 1)))))), none, []⟩,
    ⟨(some 30), 30, (.mv (.t 38)), none, [0]⟩])))))))
  (.seq (.reg [⟨(some 8), 8, (.mv (.k (.c .zc))), none, []⟩])
  (.seq (.seq (.reg [⟨(some 39), 39, (.fld 3 (.t 1)), none, []⟩,
    ⟨(some 40), 40, (.load false 1 (.t 39)), none, [0]⟩,
    ⟨(some 41), 41, (.len (.t 40)), none, [1]⟩,
    ⟨(some 42), 42, (.mv (.k (.c (.s (.pv (.int .i64 0)))))), none, []⟩])
  (.block 2 (.loop (.seq (.reg [⟨(some 43), 43, (.bin false .lss (.t 42) (.t 41)), none, []⟩])
  (.seq (.cond (.t 43) .skip (.exit 2))
  (.seq (.block 3 (.seq (.reg [⟨(some 44), 44, (.idx 2 (.t 40) (.t 42)), none, []⟩,
    ⟨(some 45), 45, (.load true 2 (.t 44)), none, [0]⟩,
    ⟨(some 10), 10, (.mk 101 2 [[(.s (.pv (.int .i64 0))), (.s (.pv (.int .i64 0)))]]), none, []⟩,
    ⟨none, 59, (.store 2 (.t 10) (.t 45)), none, [2, 1, 0, 1, 2]⟩])
  (.reg [⟨(some 46), 46, (.mv (.t 8)), none, []⟩,
    ⟨(some 47), 47, (.load true 2 (.t 10)), none, []⟩,
    ⟨(some 48), 48, (.bslice 63 2 [(.s (.pv (.int .i64 0))), (.s (.pv (.int .i64 0)))] 1 [(0, 2, (.t 47))]), none, [1]⟩,
    ⟨(some 49), 49, (.app 63 2 16 (.t 46) (.t 48)), none, [0, 2]⟩,
    ⟨(some 8), 8, (.mv (.t 49)), none, [3, 3, 0, 1, 2, 3]⟩])))
  (.reg [⟨(some 50), 50, (.bin false .add (.t 42) (.k (.c (.s (.pv (.int .i64 1)))))), none, []⟩,
    ⟨(some 42), 42, (.mv (.t 50)), none, [0]⟩])))))))
  (.seq (.reg [⟨(some 51), 51, (.mv (.t 5)), none, []⟩,
    ⟨(some 52), 52, (.mv (.t 8)), none, []⟩,
    ⟨(some 53), 53, (.fld 2 (.t 4)), none, [0]⟩,
    ⟨none, 59, (.store 1 (.t 53) (.t 51)), none, [2, 0, 0]⟩,
    ⟨(some 54), 54, (.fld 3 (.t 4)), none, [0, 1, 2, 3]⟩,
    ⟨none, 61, (.store 1 (.t 54) (.t 52)), none, [4, 1, 3, 0, 1, 2, 3]⟩])
  (.seq (.reg [⟨(some 55), 55, (.load true 4 (.t 4)), none, []⟩,
    ⟨none, 57, (.store 4 (.t 2) (.t 55)), none, [0, 0]⟩,
    ⟨(some 3), 3, (.mv (.k (.c (.s (.pv (.bool true)))))), none, [1, 0, 1]⟩])
  .ret)))))))))
theorem fn15 : FnIs Try.prog 15 ac15 [(.cell 2 true 4), (.t 3)] 56 := ⟨Try.f15, Try.func15, by kernel_rfl, by kernel_rfl, by kernel_rfl⟩
/- lockkeeper/lockkeeperlaw11.awake -/
def ac16 : ACode := (.seq (.reg [⟨(some 0), 0, (.mv (.k (.c (.s (.pv (.bool false)))))), none, []⟩])
  (.seq (.reg [⟨(some 18), 18, (.build [(.s (.pv (.int .i64 0))), (.s (.pv (.int .i64 0))), .zc, .zc] [(0, 1, (.k (.c (.s (.pv (.int .i64 2)))))), (1, 1, (.k (.c (.s (.pv (.int .i64 2))))))]), none, []⟩,
    ⟨(some 19), 19, (.call 17 [(.t 18), (.k (.c (.s (.pv (.int .i64 1))))), (.k (.c (.s (.pv (.int .i64 2)))))]), none, [0]⟩,
    ⟨(some 17), 17, (.mv (.t 19)), none, [1]⟩,
    ⟨(some 20), 20, (.ext 0 (.t 17)), none, [2]⟩,
    ⟨(some 21), 21, (.ext 1 (.t 17)), none, [2]⟩,
    ⟨(some 22), 22, (.ext 2 (.t 17)), none, [2]⟩,
    ⟨(some 1), 1, (.mk 25 4 [[(.s (.pv (.int .i64 0))), (.s (.pv (.int .i64 0))), .zc, .zc]]), none, []⟩,
    ⟨none, 119, (.store 4 (.t 1) (.t 20)), none, [6, 3, 1, 0, 1, 2, 3, 6]⟩,
    ⟨(some 2), 2, (.mv (.t 21)), none, [4, 7, 0, 1, 2, 3, 4, 6, 7]⟩,
    ⟨(some 3), 3, (.mv (.t 22)), none, [5, 8, 0, 1, 2, 3, 4, 5, 6, 7, 8]⟩])
  (.seq (.reg [⟨(some 24), 24, (.load true 4 (.t 1)), none, []⟩,
    ⟨(some 25), 25, (.call 17 [(.t 24), (.k (.c (.s (.pv (.int .i64 2))))), (.k (.c (.s (.pv (.int .i64 2)))))]), none, [0]⟩,
    ⟨(some 23), 23, (.mv (.t 25)), none, [1]⟩,
    ⟨(some 26), 26, (.ext 0 (.t 23)), none, [2]⟩,
    ⟨(some 27), 27, (.ext 1 (.t 23)), none, [2]⟩,
    ⟨(some 28), 28, (.ext 2 (.t 23)), none, [2]⟩,
    ⟨none, 118, (.store 4 (.t 1) (.t 26)), none, [3, 1, 0, 1, 2, 3]⟩,
    ⟨(some 4), 4, (.mv (.t 27)), none, [4, 6, 0, 1, 2, 3, 4, 6]⟩,
    ⟨(some 5), 5, (.mv (.t 28)), none, [5, 7, 0, 1, 2, 3, 4, 5, 6, 7]⟩])
  (.seq (.reg [⟨(some 30), 30, (.load true 4 (.t 1)), none, []⟩,
    ⟨(some 31), 31, (.call 17 [(.t 30), (.k (.c (.s (.pv (.int .i64 3))))), (.k (.c (.s (.pv (.int .i64 1)))))]), none, [0]⟩,
    ⟨(some 29), 29, (.mv (.t 31)), none, [1]⟩,
    ⟨(some 32), 32, (.ext 0 (.t 29)), none, [2]⟩,
    ⟨(some 33), 33, (.ext 1 (.t 29)), none, [2]⟩,
    ⟨(some 34), 34, (.ext 2 (.t 29)), none, [2]⟩,
    ⟨none, 118, (.store 4 (.t 1) (.t 32)), none, [3, 1, 0, 1, 2, 3]⟩,
    ⟨(some 6), 6, (.mv (.t 33)), none, [4, 6, 0, 1, 2, 3, 4, 6]⟩,
    ⟨(some 7), 7, (.mv (.t 34)), none, [5, 7, 0, 1, 2, 3, 4, 5, 6, 7]⟩])
  (.seq (.reg [⟨(some 36), 36, (.load true 4 (.t 1)), none, []⟩,
    ⟨(some 37), 37, (.call 27 [(.t 36), (.k (.c (.s (.pv (.int .i64 1)))))]), none, [0]⟩,
    ⟨(some 35), 35, (.mv (.t 37)), none, [1]⟩,
    ⟨(some 38), 38, (.ext 0 (.t 35)), none, [2]⟩,
    ⟨(some 39), 39, (.ext 1 (.t 35)), none, [2]⟩,
    ⟨none, 117, (.store 4 (.t 1) (.t 38)), none, [3, 1, 0, 1, 2, 3]⟩,
    ⟨(some 8), 8, (.mv (.t 39)), none, [4, 5, 0, 1, 2, 3, 4, 5]⟩])
  (.seq (.reg [⟨(some 41), 41, (.load true 4 (.t 1)), none, []⟩,
    ⟨(some 42), 42, (.call 27 [(.t 41), (.k (.c (.s (.pv (.int .i64 2)))))]), none, [0]⟩,
    ⟨(some 40), 40, (.mv (.t 42)), none, [1]⟩,
    ⟨(some 43), 43, (.ext 0 (.t 40)), none, [2]⟩,
    ⟨(some 44), 44, (.ext 1 (.t 40)), none, [2]⟩,
    ⟨(some 9), 9, (.mk 25 4 [[(.s (.pv (.int .i64 0))), (.s (.pv (.int .i64 0))), .zc, .zc]]), none, []⟩,
    ⟨none, 118, (.store 4 (.t 9) (.t 43)), none, [5, 3, 1, 0, 1, 2, 3, 5]⟩,
    ⟨(some 10), 10, (.mv (.t 44)), none, [4, 6, 0, 1, 2, 3, 4, 5, 6]⟩])
  (.seq (.reg [⟨(some 46), 46, (.load true 4 (.t 1)), none, []⟩,
    ⟨(some 47), 47, (.call 17 [(.t 46), (.k (.c (.s (.pv (.int .i64 4))))), (.k (.c (.s (.pv (.int .i64 3)))))]), none, [0]⟩,
    ⟨(some 45), 45, (.mv (.t 47)), none, [1]⟩,
    ⟨(some 48), 48, (.ext 0 (.t 45)), none, [2]⟩,
    ⟨(some 49), 49, (.ext 1 (.t 45)), none, [2]⟩,
    ⟨(some 50), 50, (.ext 2 (.t 45)), none, [2]⟩,
    ⟨(some 11), 11, (.mk 25 4 [[(.s (.pv (.int .i64 0))), (.s (.pv (.int .i64 0))), .zc, .zc]]), none, []⟩,
    ⟨none, 119, (.store 4 (.t 11) (.t 48)), none, [6, 3, 1, 0, 1, 2, 3, 6]⟩,
    ⟨(some 12), 12, (.mv (.t 49)), none, [4, 7, 0, 1, 2, 3, 4, 6, 7]⟩,
    ⟨(some 13), 13, (.mv (.t 50)), none, [5, 8, 0, 1, 2, 3, 4, 5, 6, 7, 8]⟩])
  (.seq (.reg [⟨(some 52), 52, (.load true 4 (.t 1)), none, []⟩,
    ⟨(some 53), 53, (.call 19 [(.t 52), (.k (.c (.s (.pv (.int .i64 1)))))]), none, [0]⟩,
    ⟨(some 51), 51, (.mv (.t 53)), none, [1]⟩,
    ⟨(some 54), 54, (.ext 0 (.t 51)), none, [2]⟩,
    ⟨(some 55), 55, (.ext 1 (.t 51)), none, [2]⟩,
    ⟨(some 56), 56, (.ext 2 (.t 51)), none, [2]⟩,
    ⟨(some 14), 14, (.mk 25 4 [[(.s (.pv (.int .i64 0))), (.s (.pv (.int .i64 0))), .zc, .zc]]), none, []⟩,
    ⟨none, 119, (.store 4 (.t 14) (.t 54)), none, [6, 3, 1, 0, 1, 2, 3, 6]⟩,
    ⟨(some 15), 15, (.mv (.t 55)), none, [4, 7, 0, 1, 2, 3, 4, 6, 7]⟩,
    ⟨(some 16), 16, (.mv (.t 56)), none, [5, 8, 0, 1, 2, 3, 4, 5, 6, 7, 8]⟩])
  (.seq (.reg [⟨(some 57), 57, (.mv (.t 2)), none, []⟩,
    ⟨(some 58), 58, (.mv (.t 57)), none, [0]⟩,
    ⟨(some 59), 59, (.mv (.t 3)), (some (58, true)), [1]⟩,
    ⟨(some 60), 60, (.bin false .eql (.t 59) (.k (.c (.s (.pv (.int .i64 0)))))), (some (58, true)), [2, 1]⟩,
    ⟨(some 61), 61, (.pick (.t 58) (.t 60) (.k (.c (.s (.pv (.bool false)))))), none, [1, 3]⟩,
    ⟨(some 62), 62, (.mv (.t 61)), none, [4, 1]⟩,
    ⟨(some 63), 63, (.mv (.t 4)), (some (62, true)), [5]⟩,
    ⟨(some 64), 64, (.pick (.t 62) (.t 63) (.k (.c (.s (.pv (.bool false)))))), none, [5, 6]⟩,
    ⟨(some 65), 65, (.mv (.t 64)), none, [7, 5]⟩,
    ⟨(some 66), 66, (.mv (.t 5)), (some (65, true)), [8]⟩,
    ⟨(some 67), 67, (.bin false .eql (.t 66) (.k (.c (.s (.pv (.int .i64 0)))))), (some (65, true)), [9, 8]⟩,
    ⟨(some 68), 68, (.pick (.t 65) (.t 67) (.k (.c (.s (.pv (.bool false)))))), none, [8, 10]⟩,
    ⟨(some 69), 69, (.mv (.t 68)), none, [11, 8]⟩,
    ⟨(some 70), 70, (.mv (.t 6)), (some (69, true)), [12]⟩,
    ⟨(some 71), 71, (.not (.t 70)), (some (69, true)), [13, 12]⟩,
    ⟨(some 72), 72, (.pick (.t 69) (.t 71) (.k (.c (.s (.pv (.bool false)))))), none, [12, 14]⟩,
    ⟨(some 73), 73, (.mv (.t 72)), none, [15, 12]⟩,
    ⟨(some 74), 74, (.mv (.t 7)), (some (73, true)), [16]⟩,
    ⟨(some 75), 75, (.bin false .eql (.t 74) (.k (.c (.s (.pv (.int .i64 0)))))), (some (73, true)), [17, 16]⟩,
    ⟨(some 76), 76, (.pick (.t 73) (.t 75) (.k (.c (.s (.pv (.bool false)))))), none, [16, 18]⟩,
    ⟨(some 77), 77, (.mv (.t 76)), none, [19, 16]⟩,
    ⟨(some 78), 78, (.mv (.t 8)), (some (77, true)), [20]⟩,
    ⟨(some 79), 79, (.bin false .eql (.t 78) (.k (.c (.s (.pv (.int .i64 0)))))), (some (77, true)), [21, 20]⟩,
    ⟨(some 80), 80, (.pick (.t 77) (.t 79) (.k (.c (.s (.pv (.bool false)))))), none, [20, 22]⟩,
    ⟨(some 81), 81, (.mv (.t 80)), none, [23, 20]⟩,
    ⟨(some 82), 82, (.mv (.t 10)), (some (81, true)), [24]⟩,
    ⟨(some 83), 83, (.bin false .eql (.t 82) (.k (.c (.s (.pv (.int .i64 6)))))), (some (81, true)), [25, 24]⟩,
    ⟨(some 84), 84, (.pick (.t 81) (.t 83) (.k (.c (.s (.pv (.bool false)))))), none, [24, 26]⟩,
    ⟨(some 85), 85, (.mv (.t 84)), none, [27, 24]⟩,
    ⟨(some 86), 86, (.mv (.t 13)), (some (85, true)), [28]⟩,
    ⟨(some 87), 87, (.bin false .eql (.t 86) (.k (.c (.s (.pv (.int .i64 11)))))), (some (85, true)), [29, 28]⟩,
    ⟨(some 88), 88, (.pick (.t 85) (.t 87) (.k (.c (.s (.pv (.bool false)))))), none, [28, 30]⟩,
    ⟨(some 89), 89, (.mv (.t 88)), none, [31, 28]⟩,
    ⟨(some 90), 90, (.mv (.t 15)), (some (89, true)), [32]⟩,
    ⟨(some 91), 91, (.bslice 3 1 [(.s (.pv (.int .i64 0)))] 1 [(0, 1, (.k (.c (.s (.pv (.int .i64 3))))))]), (some (89, true)), [32]⟩,
    ⟨(some 92), 92, (.call 24 [(.t 90), (.t 91)]), (some (89, true)), [33, 34, 32, 32]⟩,
    ⟨(some 93), 93, (.pick (.t 89) (.t 92) (.k (.c (.s (.pv (.bool false)))))), none, [32, 35]⟩,
    ⟨(some 94), 94, (.mv (.t 93)), none, [36, 35]⟩,
    ⟨(some 95), 95, (.mv (.t 16)), (some (94, true)), [37]⟩,
    ⟨(some 96), 96, (.bin false .eql (.t 95) (.k (.c (.s (.pv (.int .i64 0)))))), (some (94, true)), [38, 37]⟩,
    ⟨(some 97), 97, (.pick (.t 94) (.t 96) (.k (.c (.s (.pv (.bool false)))))), none, [37, 39]⟩,
    ⟨(some 98), 98, (.mv (.t 97)), none, [40, 37]⟩,
    ⟨(some 99), 99, (.load true 4 (.t 1)), (some (98, true)), [41]⟩,
    ⟨(some 100), 100, (.call 26 [(.t 99)]), (some (98, true)), [42, 41, 41]⟩,
    ⟨(some 101), 101, (.bin false .eql (.t 100) (.k (.c (.s (.pv (.int .i64 1)))))), (some (98, true)), [43, 41]⟩,
    ⟨(some 102), 102, (.pick (.t 98) (.t 101) (.k (.c (.s (.pv (.bool false)))))), none, [41, 44]⟩,
    ⟨(some 103), 103, (.mv (.t 102)), none, [45, 43]⟩,
    ⟨(some 104), 104, (.load true 4 (.t 14)), (some (103, true)), [46]⟩,
    ⟨(some 105), 105, (.call 26 [(.t 104)]), (some (103, true)), [47, 46, 46]⟩,
    ⟨(some 106), 106, (.bin false .eql (.t 105) (.k (.c (.s (.pv (.int .i64 2)))))), (some (103, true)), [48, 46]⟩,
    ⟨(some 107), 107, (.pick (.t 103) (.t 106) (.k (.c (.s (.pv (.bool false)))))), none, [46, 49]⟩,
    ⟨(some 108), 108, (.mv (.t 107)), none, [50, 48]⟩,
    ⟨(some 109), 109, (.load true 4 (.t 14)), (some (108, true)), [51]⟩,
    ⟨(some 110), 110, (.call 25 [(.t 109)]), (some (108, true)), [52, 51, 51]⟩,
    ⟨(some 111), 111, (.pick (.t 108) (.t 110) (.k (.c (.s (.pv (.bool false)))))), none, [51, 53]⟩,
    ⟨(some 0), 0, (.mv (.t 111)), none, [54, 53, 0, 1, 2, 3, 4, 5, 6, 7, 8, 9, 10, 11, 12, 13, 14, 15, 16, 17, 18, 19, 20, 21, 22, 23, 24, 25, 26, 27, 28, 29, 30, 31, 32, 33, 34, 35, 36, 37, 38, 39, 40, 41, 42, 43, 44, 45, 46, 47, 48, 49, 50, 51, 52, 53, 54]⟩])
  .ret)))))))))
theorem fn16 : FnIs Try.prog 16 ac16 [(.t 0)] 112 := ⟨Try.f16, Try.func16, by kernel_rfl, by kernel_rfl, by kernel_rfl⟩
/- lockkeeper/admit.Begin -/
def ac17 : ACode := (.seq (.reg [⟨(some 3), 3, (.box 25 4 (.t 0)), none, []⟩,
    ⟨(some 6), 6, (.mk 25 4 [[(.s (.pv (.int .i64 0))), (.s (.pv (.int .i64 0))), .zc, .zc]]), none, []⟩,
    ⟨(some 7), 7, (.mv (.k (.c (.s (.pv (.bool false)))))), none, []⟩,
    ⟨(some 8), 8, (.mv (.k (.c (.s (.pv (.int .i64 0)))))), none, [2]⟩])
  (.seq (.block 0 (.seq (.reg [⟨(some 10), 10, (.load true 4 (.t 3)), none, []⟩,
    ⟨(some 11), 11, (.call 25 [(.t 10)]), none, [0]⟩,
    ⟨(some 12), 12, (.not (.t 11)), none, [1]⟩,
    ⟨(some 13), 13, (.mv (.t 12)), none, [2, 1]⟩,
    ⟨(some 14), 14, (.mv (.t 1)), (some (13, false)), [3]⟩,
    ⟨(some 15), 15, (.call 52 [(.t 14)]), (some (13, false)), [4, 3, 3]⟩,
    ⟨(some 16), 16, (.not (.t 15)), (some (13, false)), [5, 3]⟩,
    ⟨(some 17), 17, (.pick (.t 13) (.k (.c (.s (.pv (.bool true))))) (.t 16)), none, [3, 6]⟩,
    ⟨(some 9), 9, (.mv (.t 17)), none, [7, 5]⟩])
  (.cond (.t 9) (.seq (.reg [⟨(some 18), 18, (.load true 4 (.t 3)), none, []⟩,
    ⟨none, 67, (.store 4 (.t 6) (.t 18)), none, [0, 0]⟩,
    ⟨(some 7), 7, (.mv (.k (.c (.s (.pv (.bool false)))))), none, [1, 0, 1]⟩,
    ⟨(some 8), 8, (.mv (.k (.c (.s (.pv (.int .i64 1)))))), none, [2, 0, 1, 2]⟩])
  .ret) (.seq (.reg [⟨(some 20), 20, (.load true 4 (.t 3)), none, []⟩,
    ⟨(some 21), 21, (.mv (.t 2)), none, []⟩,
    ⟨(some 22), 22, (.call 53 [(.t 20), (.t 21)]), none, [0, 1]⟩,
    ⟨(some 23), 23, (.not (.t 22)), none, [2]⟩,
    ⟨(some 19), 19, (.mv (.t 23)), none, [3, 2]⟩])
  (.cond (.t 19) (.seq (.reg [⟨(some 24), 24, (.load true 4 (.t 3)), none, []⟩,
    ⟨none, 67, (.store 4 (.t 6) (.t 24)), none, [0, 0]⟩,
    ⟨(some 7), 7, (.mv (.k (.c (.s (.pv (.bool false)))))), none, [1, 0, 1]⟩,
    ⟨(some 8), 8, (.mv (.k (.c (.s (.pv (.int .i64 11)))))), none, [2, 0, 1, 2]⟩])
  .ret) (.seq (.reg [⟨(some 26), 26, (.load true 4 (.t 3)), none, []⟩,
    ⟨(some 27), 27, (.mv (.t 1)), none, []⟩,
    ⟨(some 28), 28, (.call 54 [(.t 26), (.t 27)]), none, [0, 1]⟩,
    ⟨(some 29), 29, (.bin false .geq (.t 28) (.k (.c (.s (.pv (.int .i64 0)))))), none, [2]⟩,
    ⟨(some 30), 30, (.mv (.t 29)), none, [3, 2]⟩,
    ⟨(some 31), 31, (.load true 4 (.t 3)), (some (30, false)), [4]⟩,
    ⟨(some 32), 32, (.mv (.t 1)), (some (30, false)), [4]⟩,
    ⟨(some 33), 33, (.call 55 [(.t 31), (.t 32)]), (some (30, false)), [5, 6, 4, 4]⟩,
    ⟨(some 34), 34, (.bin false .geq (.t 33) (.k (.c (.s (.pv (.int .i64 0)))))), (some (30, false)), [7, 4]⟩,
    ⟨(some 35), 35, (.pick (.t 30) (.k (.c (.s (.pv (.bool true))))) (.t 34)), none, [4, 8]⟩,
    ⟨(some 25), 25, (.mv (.t 35)), none, [9, 7]⟩])
  (.cond (.t 25) (.seq (.reg [⟨(some 36), 36, (.load true 4 (.t 3)), none, []⟩,
    ⟨none, 67, (.store 4 (.t 6) (.t 36)), none, [0, 0]⟩,
    ⟨(some 7), 7, (.mv (.k (.c (.s (.pv (.bool false)))))), none, [1, 0, 1]⟩,
    ⟨(some 8), 8, (.mv (.k (.c (.s (.pv (.int .i64 4)))))), none, [2, 0, 1, 2]⟩])
  .ret) (.seq (.reg [⟨(some 38), 38, (.fld 2 (.t 3)), none, []⟩,
    ⟨(some 39), 39, (.load false 1 (.t 38)), none, [0]⟩,
    ⟨(some 40), 40, (.len (.t 39)), none, [1]⟩,
    ⟨(some 41), 41, (.fld 3 (.t 3)), none, []⟩,
    ⟨(some 42), 42, (.load false 1 (.t 41)), none, [3]⟩,
    ⟨(some 43), 43, (.len (.t 42)), none, [4]⟩,
    ⟨(some 44), 44, (.bin false .add (.t 40) (.t 43)), none, [2, 5]⟩,
    ⟨(some 45), 45, (.bin false .eql (.t 44) (.k (.c (.s (.pv (.int .i64 40)))))), none, [6]⟩,
    ⟨(some 37), 37, (.mv (.t 45)), none, [7]⟩])
  (.cond (.t 37) (.seq (.reg [⟨(some 46), 46, (.load true 4 (.t 3)), none, []⟩,
    ⟨none, 67, (.store 4 (.t 6) (.t 46)), none, [0, 0]⟩,
    ⟨(some 7), 7, (.mv (.k (.c (.s (.pv (.bool false)))))), none, [1, 0, 1]⟩,
    ⟨(some 8), 8, (.mv (.k (.c (.s (.pv (.int .i64 7)))))), none, [2, 0, 1, 2]⟩])
  .ret) .skip)))))))))
  (.seq (.reg [⟨(some 47), 47, (.fld 3 (.t 3)), none, []⟩,
    ⟨(some 48), 48, (.load false 1 (.t 47)), none, [0]⟩,
    ⟨(some 49), 49, (.call 56 [(.t 48)]), none, [1]⟩,
    ⟨(some 50), 50, (.mv (.t 1)), none, []⟩,
    ⟨(some 51), 51, (.mv (.t 2)), none, []⟩,
    ⟨(some 52), 52, (.build [(.s (.pv (.int .i64 0))), (.s (.pv (.int .i64 0)))] [(0, 1, (.t 50)), (1, 1, (.t 51))]), none, [3, 4]⟩,
    ⟨(some 53), 53, (.bslice 101 2 [(.s (.pv (.int .i64 0))), (.s (.pv (.int .i64 0)))] 1 [(0, 2, (.t 52))]), none, [5]⟩,
    ⟨(some 54), 54, (.app 101 2 16 (.t 49) (.t 53)), none, [2, 6, 2]⟩,
    ⟨(some 55), 55, (.fld 3 (.t 3)), none, [0, 1, 2, 3, 4, 5, 6, 7]⟩,
    ⟨none, 75, (.store 1 (.t 55) (.t 54)), none, [8, 7, 7, 0, 1, 2, 3, 4, 5, 6, 7]⟩])
  (.seq (.reg [⟨(some 57), 57, (.load true 4 (.t 3)), none, []⟩,
    ⟨(some 58), 58, (.call 57 [(.t 57)]), none, [0]⟩,
    ⟨(some 56), 56, (.mv (.t 58)), none, [1]⟩,
    ⟨(some 59), 59, (.ext 0 (.t 56)), none, [2]⟩,
    ⟨(some 60), 60, (.ext 1 (.t 56)), none, [2]⟩,
    ⟨none, 71, (.store 4 (.t 3) (.t 59)), none, [3, 1, 0, 1, 2, 3]⟩])
  (.seq (.draw [⟨(some 61), 61, (.load true 4 (.t 3)), none, []⟩,
    ⟨(some 62), 62, (.load true 4 (.t 3)), none, []⟩,
    ⟨(some 63), 63, (.mv (.t 1)), none, []⟩,
    ⟨(some 64), 64, (.call 54 [(.t 62), (.t 63)]), none, [1, 2]⟩,
    ⟨(some 65), 65, (.bin false .geq (.t 64) (.k (.c (.s (.pv (.int .i64 0)))))), none, [3]⟩,
    ⟨none, 71, (.store 4 (.t 6) (.t 61)), none, [0, 3, 0]⟩,
    ⟨(some 7), 7, (.mv (.t 65)), none, [4, 5, 0, 1, 2, 3, 4, 5]⟩,
    ⟨(some 8), 8, (.mv (.k (.c (.s (.pv (.int .i64 0)))))), none, [6, 0, 1, 2, 3, 4, 5, 6]⟩])
  .ret)))))
theorem fn17 : FnIs Try.prog 17 ac17 [(.cell 6 true 4), (.t 7), (.t 8)] 66 := ⟨Try.f17, Try.func17, by kernel_rfl, by kernel_rfl, by kernel_rfl⟩
/- lockkeeper/lockkeeperref11.Begin -/
def ac18 : ACode := (.seq (.reg [⟨(some 3), 3, (.box 29 4 (.t 0)), none, []⟩,
    ⟨(some 6), 6, (.mk 29 4 [[(.s (.pv (.int .i64 0))), (.s (.pv (.int .i64 0))), .zc, .zc]]), none, []⟩,
    ⟨(some 7), 7, (.mv (.k (.c .zc))), none, []⟩,
    ⟨(some 8), 8, (.mv (.k (.c (.s (.pv (.int .i64 0)))))), none, [2]⟩])
  (.seq (.seq (.reg [⟨(some 12), 12, (.load true 4 (.t 3)), none, []⟩,
    ⟨(some 13), 13, (.call 21 [(.t 12)]), none, [0]⟩,
    ⟨(some 14), 14, (.not (.t 13)), none, [1]⟩,
    ⟨(some 15), 15, (.mv (.t 14)), none, [2, 1]⟩,
    ⟨(some 16), 16, (.mv (.t 1)), (some (15, false)), [3]⟩,
    ⟨(some 17), 17, (.bin false .lss (.t 16) (.k (.c (.s (.pv (.int .i64 0)))))), (some (15, false)), [4, 3]⟩,
    ⟨(some 18), 18, (.pick (.t 15) (.k (.c (.s (.pv (.bool true))))) (.t 17)), none, [3, 5]⟩,
    ⟨(some 19), 19, (.mv (.t 18)), none, [6, 3]⟩,
    ⟨(some 20), 20, (.mv (.t 1)), (some (19, false)), [7]⟩,
    ⟨(some 21), 21, (.bin false .gtr (.t 20) (.k (.c (.s (.pv (.int .i64 2147483647)))))), (some (19, false)), [8, 7]⟩,
    ⟨(some 22), 22, (.pick (.t 19) (.k (.c (.s (.pv (.bool true))))) (.t 21)), none, [7, 9]⟩])
  (.cond (.t 22) (.seq (.reg [⟨(some 23), 23, (.load true 4 (.t 3)), none, []⟩,
    ⟨none, 71, (.store 4 (.t 6) (.t 23)), none, [0, 0]⟩,
    ⟨(some 7), 7, (.mv (.k (.c .zc))), none, [1, 0, 1]⟩,
    ⟨(some 8), 8, (.mv (.k (.c (.s (.pv (.int .i64 1)))))), none, [2, 0, 1, 2]⟩])
  .ret) .skip))
  (.seq (.seq (.reg [⟨(some 24), 24, (.mv (.t 2)), none, []⟩,
    ⟨(some 25), 25, (.bin false .lss (.t 24) (.k (.c (.s (.pv (.int .i64 1)))))), none, [0]⟩,
    ⟨(some 26), 26, (.mv (.t 25)), none, [1]⟩,
    ⟨(some 27), 27, (.mv (.t 2)), (some (26, false)), [2]⟩,
    ⟨(some 28), 28, (.load true 4 (.t 3)), (some (26, false)), [2]⟩,
    ⟨(some 29), 29, (.call 58 [(.t 28)]), (some (26, false)), [4, 2, 2]⟩,
    ⟨(some 30), 30, (.bin false .gtr (.t 27) (.t 29)), (some (26, false)), [3, 5, 2]⟩,
    ⟨(some 31), 31, (.pick (.t 26) (.k (.c (.s (.pv (.bool true))))) (.t 30)), none, [2, 6]⟩])
  (.cond (.t 31) (.seq (.reg [⟨(some 32), 32, (.load true 4 (.t 3)), none, []⟩,
    ⟨none, 71, (.store 4 (.t 6) (.t 32)), none, [0, 0]⟩,
    ⟨(some 7), 7, (.mv (.k (.c .zc))), none, [1, 0, 1]⟩,
    ⟨(some 8), 8, (.mv (.k (.c (.s (.pv (.int .i64 11)))))), none, [2, 0, 1, 2]⟩])
  .ret) .skip))
  (.seq (.seq (.reg [⟨(some 33), 33, (.load true 4 (.t 3)), none, []⟩,
    ⟨(some 34), 34, (.mv (.t 1)), none, []⟩,
    ⟨(some 35), 35, (.call 59 [(.t 33), (.t 34)]), none, [0, 1]⟩,
    ⟨(some 36), 36, (.bin false .gtr (.t 35) (.k (.c (.s (.pv (.int .i64 0)))))), none, [2]⟩])
  (.cond (.t 36) (.seq (.reg [⟨(some 37), 37, (.load true 4 (.t 3)), none, []⟩,
    ⟨none, 71, (.store 4 (.t 6) (.t 37)), none, [0, 0]⟩,
    ⟨(some 7), 7, (.mv (.k (.c .zc))), none, [1, 0, 1]⟩,
    ⟨(some 8), 8, (.mv (.k (.c (.s (.pv (.int .i64 4)))))), none, [2, 0, 1, 2]⟩])
  .ret) .skip))
  (.seq (.seq (.reg [⟨(some 38), 38, (.fld 2 (.t 3)), none, []⟩,
    ⟨(some 39), 39, (.load false 1 (.t 38)), none, [0]⟩,
    ⟨(some 40), 40, (.len (.t 39)), none, [1]⟩,
    ⟨(some 41), 41, (.fld 3 (.t 3)), none, []⟩,
    ⟨(some 42), 42, (.load false 1 (.t 41)), none, [3]⟩,
    ⟨(some 43), 43, (.len (.t 42)), none, [4]⟩,
    ⟨(some 44), 44, (.bin false .add (.t 40) (.t 43)), none, [2, 5]⟩,
    ⟨(some 45), 45, (.bin false .eql (.t 44) (.k (.c (.s (.pv (.int .i64 40)))))), none, [6]⟩])
  (.cond (.t 45) (.seq (.reg [⟨(some 46), 46, (.load true 4 (.t 3)), none, []⟩,
    ⟨none, 71, (.store 4 (.t 6) (.t 46)), none, [0, 0]⟩,
    ⟨(some 7), 7, (.mv (.k (.c .zc))), none, [1, 0, 1]⟩,
    ⟨(some 8), 8, (.mv (.k (.c (.s (.pv (.int .i64 7)))))), none, [2, 0, 1, 2]⟩])
  .ret) .skip))
  (.seq (.reg [⟨(some 9), 9, (.mv (.k (.c .zc))), none, []⟩])
  (.seq (.reg [⟨(some 47), 47, (.mv (.t 9)), none, []⟩,
    ⟨(some 48), 48, (.fld 3 (.t 3)), none, []⟩,
    ⟨(some 49), 49, (.load false 1 (.t 48)), none, [1]⟩,
    ⟨(some 50), 50, (.app 63 2 16 (.t 47) (.t 49)), none, [0, 2]⟩,
    ⟨(some 9), 9, (.mv (.t 50)), none, [3, 3, 0, 1, 2, 3]⟩])
  (.seq (.draw [⟨(some 52), 52, (.fld 0 (.t 3)), none, []⟩,
    ⟨(some 53), 53, (.load false 1 (.t 52)), none, [0]⟩,
    ⟨(some 54), 54, (.fld 1 (.t 3)), none, []⟩,
    ⟨(some 55), 55, (.load false 1 (.t 54)), none, [2]⟩,
    ⟨(some 56), 56, (.fld 2 (.t 3)), none, []⟩,
    ⟨(some 57), 57, (.load false 1 (.t 56)), none, [4]⟩,
    ⟨(some 58), 58, (.mv (.t 9)), none, []⟩,
    ⟨(some 59), 59, (.mv (.t 1)), none, []⟩,
    ⟨(some 60), 60, (.mv (.t 2)), none, []⟩,
    ⟨(some 61), 61, (.build [(.s (.pv (.int .i64 0))), (.s (.pv (.int .i64 0)))] [(0, 1, (.t 59)), (1, 1, (.t 60))]), none, [7, 8]⟩,
    ⟨(some 62), 62, (.bslice 63 2 [(.s (.pv (.int .i64 0))), (.s (.pv (.int .i64 0)))] 1 [(0, 2, (.t 61))]), none, [9]⟩,
    ⟨(some 63), 63, (.app 63 2 16 (.t 58) (.t 62)), none, [6, 10]⟩,
    ⟨(some 64), 64, (.build [(.s (.pv (.int .i64 0))), (.s (.pv (.int .i64 0))), .zc, .zc] [(0, 1, (.t 53)), (1, 1, (.t 55)), (2, 1, (.t 57)), (3, 1, (.t 63))]), none, [1, 3, 5, 11]⟩,
    ⟨(some 65), 65, (.call 60 [(.t 64)]), none, [12, 11]⟩,
    ⟨(some 51), 51, (.mv (.t 65)), none, [13]⟩,
    ⟨(some 66), 66, (.ext 0 (.t 51)), none, [14]⟩,
    ⟨(some 67), 67, (.ext 1 (.t 51)), none, [14]⟩,
    ⟨(some 10), 10, (.mk 29 4 [[(.s (.pv (.int .i64 0))), (.s (.pv (.int .i64 0))), .zc, .zc]]), none, []⟩,
    ⟨none, 88, (.store 4 (.t 10) (.t 66)), none, [17, 15, 13, 0, 1, 2, 3, 4, 5, 6, 7, 8, 9, 10, 11, 12, 13, 14, 15, 17]⟩,
    ⟨(some 11), 11, (.mv (.t 67)), none, [16, 18, 0, 1, 2, 3, 4, 5, 6, 7, 8, 9, 10, 11, 12, 13, 14, 15, 16, 17, 18]⟩])
  (.seq (.reg [⟨(some 68), 68, (.load true 4 (.t 10)), none, []⟩,
    ⟨(some 69), 69, (.mv (.t 11)), none, []⟩,
    ⟨none, 72, (.store 4 (.t 6) (.t 68)), none, [0, 0]⟩,
    ⟨(some 7), 7, (.mv (.t 69)), none, [1, 2, 0, 1, 2]⟩,
    ⟨(some 8), 8, (.mv (.k (.c (.s (.pv (.int .i64 0)))))), none, [3, 0, 1, 2, 3]⟩])
  .ret)))))))))
theorem fn18 : FnIs Try.prog 18 ac18 [(.cell 6 true 4), (.t 7), (.t 8)] 70 := ⟨Try.f18, Try.func18, by kernel_rfl, by kernel_rfl, by kernel_rfl⟩
/- lockkeeper/admit.End -/
def ac19 : ACode := (.seq (.reg [⟨(some 2), 2, (.box 25 4 (.t 0)), none, []⟩,
    ⟨(some 4), 4, (.mk 25 4 [[(.s (.pv (.int .i64 0))), (.s (.pv (.int .i64 0))), .zc, .zc]]), none, []⟩,
    ⟨(some 5), 5, (.mv (.k (.c .zc))), none, []⟩,
    ⟨(some 6), 6, (.mv (.k (.c (.s (.pv (.int .i64 0)))))), none, [2]⟩])
  (.seq (.seq (.reg [⟨(some 10), 10, (.load true 4 (.t 2)), none, []⟩,
    ⟨(some 11), 11, (.call 25 [(.t 10)]), none, [0]⟩,
    ⟨(some 12), 12, (.not (.t 11)), none, [1]⟩])
  (.cond (.t 12) (.seq (.reg [⟨(some 13), 13, (.load true 4 (.t 2)), none, []⟩,
    ⟨none, 49, (.store 4 (.t 4) (.t 13)), none, [0, 0]⟩,
    ⟨(some 5), 5, (.mv (.k (.c .zc))), none, [1, 0, 1]⟩,
    ⟨(some 6), 6, (.mv (.k (.c (.s (.pv (.int .i64 1)))))), none, [2, 0, 1, 2]⟩])
  .ret) .skip))
  (.seq (.seq (.reg [⟨(some 14), 14, (.load true 4 (.t 2)), none, []⟩,
    ⟨(some 15), 15, (.mv (.t 1)), none, []⟩,
    ⟨(some 16), 16, (.call 54 [(.t 14), (.t 15)]), none, [0, 1]⟩,
    ⟨(some 7), 7, (.mv (.t 16)), none, [2, 2, 0, 1, 2]⟩])
  (.seq (.reg [⟨(some 17), 17, (.mv (.t 7)), none, []⟩,
    ⟨(some 18), 18, (.bin false .geq (.t 17) (.k (.c (.s (.pv (.int .i64 0)))))), none, [0]⟩])
  (.cond (.t 18) (.reg [⟨(some 19), 19, (.fld 2 (.t 2)), none, []⟩,
    ⟨(some 20), 20, (.load false 1 (.t 19)), none, [0]⟩,
    ⟨(some 21), 21, (.call 62 [(.t 20)]), none, [1]⟩,
    ⟨(some 22), 22, (.mv (.t 7)), none, []⟩,
    ⟨(some 23), 23, (.mv (.t 7)), none, []⟩,
    ⟨(some 24), 24, (.bin false .add (.t 23) (.k (.c (.s (.pv (.int .i64 1)))))), none, [4]⟩,
    ⟨(some 25), 25, (.call 61 [(.t 21), (.t 22), (.t 24)]), none, [2, 3, 5, 2]⟩,
    ⟨(some 26), 26, (.fld 2 (.t 2)), none, [0, 1, 2, 3, 4, 5, 6]⟩,
    ⟨none, 56, (.store 1 (.t 26) (.t 25)), none, [7, 6, 6, 0, 1, 2, 3, 4, 5, 6]⟩]) (.seq (.reg [⟨(some 27), 27, (.load true 4 (.t 2)), none, []⟩,
    ⟨(some 28), 28, (.mv (.t 1)), none, []⟩,
    ⟨(some 29), 29, (.call 55 [(.t 27), (.t 28)]), none, [0, 1]⟩,
    ⟨(some 8), 8, (.mv (.t 29)), none, [2, 2, 0, 1, 2]⟩])
  (.seq (.reg [⟨(some 30), 30, (.mv (.t 8)), none, []⟩,
    ⟨(some 31), 31, (.bin false .geq (.t 30) (.k (.c (.s (.pv (.int .i64 0)))))), none, [0]⟩])
  (.cond (.t 31) (.reg [⟨(some 32), 32, (.fld 3 (.t 2)), none, []⟩,
    ⟨(some 33), 33, (.load false 1 (.t 32)), none, [0]⟩,
    ⟨(some 34), 34, (.call 56 [(.t 33)]), none, [1]⟩,
    ⟨(some 35), 35, (.mv (.t 8)), none, []⟩,
    ⟨(some 36), 36, (.mv (.t 8)), none, []⟩,
    ⟨(some 37), 37, (.bin false .add (.t 36) (.k (.c (.s (.pv (.int .i64 1)))))), none, [4]⟩,
    ⟨(some 38), 38, (.call 63 [(.t 34), (.t 35), (.t 37)]), none, [2, 3, 5, 2]⟩,
    ⟨(some 39), 39, (.fld 3 (.t 2)), none, [0, 1, 2, 3, 4, 5, 6]⟩,
    ⟨none, 56, (.store 1 (.t 39) (.t 38)), none, [7, 6, 6, 0, 1, 2, 3, 4, 5, 6]⟩]) (.seq (.reg [⟨(some 40), 40, (.load true 4 (.t 2)), none, []⟩,
    ⟨none, 49, (.store 4 (.t 4) (.t 40)), none, [0, 0]⟩,
    ⟨(some 5), 5, (.mv (.k (.c .zc))), none, [1, 0, 1]⟩,
    ⟨(some 6), 6, (.mv (.k (.c (.s (.pv (.int .i64 3)))))), none, [2, 0, 1, 2]⟩])
  .ret)))))))
  (.seq (.reg [⟨(some 42), 42, (.load true 4 (.t 2)), none, []⟩,
    ⟨(some 43), 43, (.call 57 [(.t 42)]), none, [0]⟩,
    ⟨(some 41), 41, (.mv (.t 43)), none, [1]⟩,
    ⟨(some 44), 44, (.ext 0 (.t 41)), none, [2]⟩,
    ⟨(some 45), 45, (.ext 1 (.t 41)), none, [2]⟩,
    ⟨none, 53, (.store 4 (.t 2) (.t 44)), none, [3, 1, 0, 1, 2, 3]⟩,
    ⟨(some 9), 9, (.mv (.t 45)), none, [4, 5, 0, 1, 2, 3, 4, 5]⟩])
  (.seq (.reg [⟨(some 46), 46, (.load true 4 (.t 2)), none, []⟩,
    ⟨(some 47), 47, (.mv (.t 9)), none, []⟩,
    ⟨none, 50, (.store 4 (.t 4) (.t 46)), none, [0, 0]⟩,
    ⟨(some 5), 5, (.mv (.t 47)), none, [1, 2, 0, 1, 2]⟩,
    ⟨(some 6), 6, (.mv (.k (.c (.s (.pv (.int .i64 0)))))), none, [3, 0, 1, 2, 3]⟩])
  .ret)))))
theorem fn19 : FnIs Try.prog 19 ac19 [(.cell 4 true 4), (.t 5), (.t 6)] 48 := ⟨Try.f19, Try.func19, by kernel_rfl, by kernel_rfl, by kernel_rfl⟩
/- lockkeeper/lockkeeperref11.End -/
def ac20 : ACode := (.seq (.reg [⟨(some 2), 2, (.box 29 4 (.t 0)), none, []⟩,
    ⟨(some 4), 4, (.mk 29 4 [[(.s (.pv (.int .i64 0))), (.s (.pv (.int .i64 0))), .zc, .zc]]), none, []⟩,
    ⟨(some 5), 5, (.mv (.k (.c .zc))), none, []⟩,
    ⟨(some 6), 6, (.mv (.k (.c (.s (.pv (.int .i64 0)))))), none, [2]⟩])
  (.seq (.seq (.reg [⟨(some 12), 12, (.load true 4 (.t 2)), none, []⟩,
    ⟨(some 13), 13, (.call 21 [(.t 12)]), none, [0]⟩,
    ⟨(some 14), 14, (.not (.t 13)), none, [1]⟩])
  (.cond (.t 14) (.seq (.reg [⟨(some 15), 15, (.load true 4 (.t 2)), none, []⟩,
    ⟨none, 84, (.store 4 (.t 4) (.t 15)), none, [0, 0]⟩,
    ⟨(some 5), 5, (.mv (.k (.c .zc))), none, [1, 0, 1]⟩,
    ⟨(some 6), 6, (.mv (.k (.c (.s (.pv (.int .i64 1)))))), none, [2, 0, 1, 2]⟩])
  .ret) .skip))
  (.seq (.seq (.reg [⟨(some 16), 16, (.load true 4 (.t 2)), none, []⟩,
    ⟨(some 17), 17, (.mv (.t 1)), none, []⟩,
    ⟨(some 18), 18, (.call 59 [(.t 16), (.t 17)]), none, [0, 1]⟩,
    ⟨(some 19), 19, (.bin false .eql (.t 18) (.k (.c (.s (.pv (.int .i64 0)))))), none, [2]⟩])
  (.cond (.t 19) (.seq (.reg [⟨(some 20), 20, (.load true 4 (.t 2)), none, []⟩,
    ⟨none, 84, (.store 4 (.t 4) (.t 20)), none, [0, 0]⟩,
    ⟨(some 5), 5, (.mv (.k (.c .zc))), none, [1, 0, 1]⟩,
    ⟨(some 6), 6, (.mv (.k (.c (.s (.pv (.int .i64 3)))))), none, [2, 0, 1, 2]⟩])
  .ret) .skip))
  (.seq (.reg [⟨(some 21), 21, (.fld 0 (.t 2)), none, []⟩,
    ⟨(some 22), 22, (.load false 1 (.t 21)), none, [0]⟩,
    ⟨(some 23), 23, (.fld 1 (.t 2)), none, []⟩,
    ⟨(some 24), 24, (.load false 1 (.t 23)), none, [2]⟩,
    ⟨(some 25), 25, (.build [(.s (.pv (.int .i64 0))), (.s (.pv (.int .i64 0))), .zc, .zc] [(0, 1, (.t 22)), (1, 1, (.t 24))]), none, [1, 3]⟩,
    ⟨(some 7), 7, (.mk 29 4 [[(.s (.pv (.int .i64 0))), (.s (.pv (.int .i64 0))), .zc, .zc]]), none, []⟩,
    ⟨none, 89, (.store 4 (.t 7) (.t 25)), none, [5, 4, 0, 1, 2, 3, 4, 5]⟩])
  (.seq (.seq (.reg [⟨(some 8), 8, (.mv (.k (.c (.s (.pv (.int .i64 0)))))), none, []⟩])
  (.block 0 (.loop (.seq (.seq (.reg [⟨(some 26), 26, (.mv (.t 8)), none, []⟩,
    ⟨(some 27), 27, (.fld 2 (.t 2)), none, []⟩,
    ⟨(some 28), 28, (.load false 1 (.t 27)), none, [1]⟩,
    ⟨(some 29), 29, (.len (.t 28)), none, [2]⟩,
    ⟨(some 30), 30, (.bin false .lss (.t 26) (.t 29)), none, [0, 3]⟩])
  (.cond (.t 30) .skip (.exit 0)))
  (.seq (.block 1 (.seq (.reg [⟨(some 33), 33, (.fld 2 (.t 2)), none, []⟩,
    ⟨(some 34), 34, (.load false 1 (.t 33)), none, [0]⟩,
    ⟨(some 35), 35, (.mv (.t 8)), none, []⟩,
    ⟨(some 36), 36, (.idx 3 (.t 34) (.t 35)), none, [1, 2]⟩,
    ⟨(some 37), 37, (.fld 0 (.t 36)), none, [3]⟩,
    ⟨(some 38), 38, (.load false 1 (.t 37)), none, [4]⟩,
    ⟨(some 39), 39, (.mv (.t 1)), none, []⟩,
    ⟨(some 40), 40, (.bin false .neq (.t 38) (.t 39)), none, [5, 6]⟩])
  (.cond (.t 40) (.draw [⟨(some 41), 41, (.fld 2 (.t 7)), none, []⟩,
    ⟨(some 42), 42, (.load false 1 (.t 41)), none, [0]⟩,
    ⟨(some 43), 43, (.fld 2 (.t 2)), none, []⟩,
    ⟨(some 44), 44, (.load false 1 (.t 43)), none, [2]⟩,
    ⟨(some 45), 45, (.mv (.t 8)), none, []⟩,
    ⟨(some 46), 46, (.idx 3 (.t 44) (.t 45)), none, [3, 4]⟩,
    ⟨(some 47), 47, (.load true 3 (.t 46)), none, [5]⟩,
    ⟨(some 48), 48, (.bslice 100 3 [(.s (.pv (.int .i64 0))), (.s (.pv (.int .i64 0))), (.s (.pv (.int .i64 0)))] 1 [(0, 3, (.t 47))]), none, [6]⟩,
    ⟨(some 49), 49, (.app 100 3 24 (.t 42) (.t 48)), none, [1, 7]⟩,
    ⟨(some 50), 50, (.fld 2 (.t 7)), none, [0, 1, 2, 3, 4, 5, 6, 7, 8]⟩,
    ⟨none, 93, (.store 1 (.t 50) (.t 49)), none, [9, 8, 8, 0, 1, 2, 3, 4, 5, 6, 7, 8]⟩]) .skip)))
  (.reg [⟨(some 31), 31, (.mv (.t 8)), none, []⟩,
    ⟨(some 32), 32, (.bin false .add (.t 31) (.k (.c (.s (.pv (.int .i64 1)))))), none, [0]⟩,
    ⟨(some 8), 8, (.mv (.t 32)), none, [1, 0, 1]⟩]))))))
  (.seq (.seq (.reg [⟨(some 9), 9, (.mv (.k (.c (.s (.pv (.int .i64 0)))))), none, []⟩])
  (.block 2 (.loop (.seq (.seq (.reg [⟨(some 51), 51, (.mv (.t 9)), none, []⟩,
    ⟨(some 52), 52, (.fld 3 (.t 2)), none, []⟩,
    ⟨(some 53), 53, (.load false 1 (.t 52)), none, [1]⟩,
    ⟨(some 54), 54, (.len (.t 53)), none, [2]⟩,
    ⟨(some 55), 55, (.bin false .lss (.t 51) (.t 54)), none, [0, 3]⟩])
  (.cond (.t 55) .skip (.exit 2)))
  (.seq (.block 3 (.seq (.reg [⟨(some 58), 58, (.fld 3 (.t 2)), none, []⟩,
    ⟨(some 59), 59, (.load false 1 (.t 58)), none, [0]⟩,
    ⟨(some 60), 60, (.mv (.t 9)), none, []⟩,
    ⟨(some 61), 61, (.idx 2 (.t 59) (.t 60)), none, [1, 2]⟩,
    ⟨(some 62), 62, (.fld 0 (.t 61)), none, [3]⟩,
    ⟨(some 63), 63, (.load false 1 (.t 62)), none, [4]⟩,
    ⟨(some 64), 64, (.mv (.t 1)), none, []⟩,
    ⟨(some 65), 65, (.bin false .neq (.t 63) (.t 64)), none, [5, 6]⟩])
  (.cond (.t 65) (.draw [⟨(some 66), 66, (.fld 3 (.t 7)), none, []⟩,
    ⟨(some 67), 67, (.load false 1 (.t 66)), none, [0]⟩,
    ⟨(some 68), 68, (.fld 3 (.t 2)), none, []⟩,
    ⟨(some 69), 69, (.load false 1 (.t 68)), none, [2]⟩,
    ⟨(some 70), 70, (.mv (.t 9)), none, []⟩,
    ⟨(some 71), 71, (.idx 2 (.t 69) (.t 70)), none, [3, 4]⟩,
    ⟨(some 72), 72, (.load true 2 (.t 71)), none, [5]⟩,
    ⟨(some 73), 73, (.bslice 63 2 [(.s (.pv (.int .i64 0))), (.s (.pv (.int .i64 0)))] 1 [(0, 2, (.t 72))]), none, [6]⟩,
    ⟨(some 74), 74, (.app 63 2 16 (.t 67) (.t 73)), none, [1, 7]⟩,
    ⟨(some 75), 75, (.fld 3 (.t 7)), none, [0, 1, 2, 3, 4, 5, 6, 7, 8]⟩,
    ⟨none, 93, (.store 1 (.t 75) (.t 74)), none, [9, 8, 8, 0, 1, 2, 3, 4, 5, 6, 7, 8]⟩]) .skip)))
  (.reg [⟨(some 56), 56, (.mv (.t 9)), none, []⟩,
    ⟨(some 57), 57, (.bin false .add (.t 56) (.k (.c (.s (.pv (.int .i64 1)))))), none, [0]⟩,
    ⟨(some 9), 9, (.mv (.t 57)), none, [1, 0, 1]⟩]))))))
  (.seq (.reg [⟨(some 77), 77, (.load true 4 (.t 7)), none, []⟩,
    ⟨(some 78), 78, (.call 60 [(.t 77)]), none, [0]⟩,
    ⟨(some 76), 76, (.mv (.t 78)), none, [1]⟩,
    ⟨(some 79), 79, (.ext 0 (.t 76)), none, [2]⟩,
    ⟨(some 80), 80, (.ext 1 (.t 76)), none, [2]⟩,
    ⟨(some 10), 10, (.mk 29 4 [[(.s (.pv (.int .i64 0))), (.s (.pv (.int .i64 0))), .zc, .zc]]), none, []⟩,
    ⟨none, 89, (.store 4 (.t 10) (.t 79)), none, [5, 3, 1, 0, 1, 2, 3, 5]⟩,
    ⟨(some 11), 11, (.mv (.t 80)), none, [4, 6, 0, 1, 2, 3, 4, 5, 6]⟩])
  (.seq (.reg [⟨(some 81), 81, (.load true 4 (.t 10)), none, []⟩,
    ⟨(some 82), 82, (.mv (.t 11)), none, []⟩,
    ⟨none, 85, (.store 4 (.t 4) (.t 81)), none, [0, 0]⟩,
    ⟨(some 5), 5, (.mv (.t 82)), none, [1, 2, 0, 1, 2]⟩,
    ⟨(some 6), 6, (.mv (.k (.c (.s (.pv (.int .i64 0)))))), none, [3, 0, 1, 2, 3]⟩])
  .ret))))))))
theorem fn20 : FnIs Try.prog 20 ac20 [(.cell 4 true 4), (.t 5), (.t 6)] 83 := ⟨Try.f20, Try.func20, by kernel_rfl, by kernel_rfl, by kernel_rfl⟩
/- lockkeeper/lockkeeperref11.Right -/
def ac21 : ACode := (.seq (.reg [⟨(some 1), 1, (.box 29 4 (.t 0)), none, []⟩,
    ⟨(some 2), 2, (.mv (.k (.c (.s (.pv (.bool false)))))), none, []⟩])
  (.seq (.seq (.reg [⟨(some 7), 7, (.fld 0 (.t 1)), none, []⟩,
    ⟨(some 8), 8, (.load false 1 (.t 7)), none, [0]⟩,
    ⟨(some 9), 9, (.bin false .lss (.t 8) (.k (.c (.s (.pv (.int .i64 1)))))), none, [1]⟩,
    ⟨(some 10), 10, (.mv (.t 9)), none, [2]⟩,
    ⟨(some 11), 11, (.fld 0 (.t 1)), (some (10, false)), [3]⟩,
    ⟨(some 12), 12, (.load false 1 (.t 11)), (some (10, false)), [4, 3]⟩,
    ⟨(some 13), 13, (.bin false .gtr (.t 12) (.k (.c (.s (.pv (.int .i64 8)))))), (some (10, false)), [5, 3]⟩,
    ⟨(some 14), 14, (.pick (.t 10) (.k (.c (.s (.pv (.bool true))))) (.t 13)), none, [3, 6]⟩,
    ⟨(some 15), 15, (.mv (.t 14)), none, [7, 3]⟩,
    ⟨(some 16), 16, (.fld 1 (.t 1)), (some (15, false)), [8]⟩,
    ⟨(some 17), 17, (.load false 1 (.t 16)), (some (15, false)), [9, 8]⟩,
    ⟨(some 18), 18, (.bin false .lss (.t 17) (.k (.c (.s (.pv (.int .i64 1)))))), (some (15, false)), [10, 8]⟩,
    ⟨(some 19), 19, (.pick (.t 15) (.k (.c (.s (.pv (.bool true))))) (.t 18)), none, [8, 11]⟩,
    ⟨(some 20), 20, (.mv (.t 19)), none, [12, 8]⟩,
    ⟨(some 21), 21, (.fld 1 (.t 1)), (some (20, false)), [13]⟩,
    ⟨(some 22), 22, (.load false 1 (.t 21)), (some (20, false)), [14, 13]⟩,
    ⟨(some 23), 23, (.bin false .gtr (.t 22) (.k (.c (.s (.pv (.int .i64 100)))))), (some (20, false)), [15, 13]⟩,
    ⟨(some 24), 24, (.pick (.t 20) (.k (.c (.s (.pv (.bool true))))) (.t 23)), none, [13, 16]⟩,
    ⟨(some 25), 25, (.mv (.t 24)), none, [17, 13]⟩,
    ⟨(some 26), 26, (.fld 2 (.t 1)), (some (25, false)), [18]⟩,
    ⟨(some 27), 27, (.load false 1 (.t 26)), (some (25, false)), [19, 18]⟩,
    ⟨(some 28), 28, (.len (.t 27)), (some (25, false)), [20, 18]⟩,
    ⟨(some 29), 29, (.fld 3 (.t 1)), (some (25, false)), [18]⟩,
    ⟨(some 30), 30, (.load false 1 (.t 29)), (some (25, false)), [22, 18]⟩,
    ⟨(some 31), 31, (.len (.t 30)), (some (25, false)), [23, 18]⟩,
    ⟨(some 32), 32, (.bin false .add (.t 28) (.t 31)), (some (25, false)), [21, 24, 18]⟩,
    ⟨(some 33), 33, (.bin false .gtr (.t 32) (.k (.c (.s (.pv (.int .i64 40)))))), (some (25, false)), [25, 18]⟩,
    ⟨(some 34), 34, (.pick (.t 25) (.k (.c (.s (.pv (.bool true))))) (.t 33)), none, [18, 26]⟩,
    ⟨(some 35), 35, (.mv (.t 34)), none, [27, 18]⟩,
    ⟨(some 36), 36, (.fld 2 (.t 1)), (some (35, false)), [28]⟩,
    ⟨(some 37), 37, (.load false 1 (.t 36)), (some (35, false)), [29, 28]⟩,
    ⟨(some 38), 38, (.call 64 [(.t 37)]), (some (35, false)), [30, 28, 28]⟩,
    ⟨(some 39), 39, (.not (.t 38)), (some (35, false)), [31, 28]⟩,
    ⟨(some 40), 40, (.pick (.t 35) (.k (.c (.s (.pv (.bool true))))) (.t 39)), none, [28, 32]⟩])
  (.cond (.t 40) (.seq (.reg [⟨(some 2), 2, (.mv (.k (.c (.s (.pv (.bool false)))))), none, []⟩])
  .ret) .skip))
  (.seq (.seq (.reg [⟨(some 3), 3, (.mv (.k (.c (.s (.pv (.int .i64 0)))))), none, []⟩])
  (.block 0 (.loop (.seq (.seq (.reg [⟨(some 41), 41, (.mv (.t 3)), none, []⟩,
    ⟨(some 42), 42, (.fld 2 (.t 1)), none, []⟩,
    ⟨(some 43), 43, (.load false 1 (.t 42)), none, [1]⟩,
    ⟨(some 44), 44, (.len (.t 43)), none, [2]⟩,
    ⟨(some 45), 45, (.bin false .lss (.t 41) (.t 44)), none, [0, 3]⟩])
  (.cond (.t 45) .skip (.exit 0)))
  (.seq (.block 1 (.seq (.reg [⟨(some 48), 48, (.fld 2 (.t 1)), none, []⟩,
    ⟨(some 49), 49, (.load false 1 (.t 48)), none, [0]⟩,
    ⟨(some 50), 50, (.mv (.t 3)), none, []⟩,
    ⟨(some 51), 51, (.idx 3 (.t 49) (.t 50)), none, [1, 2]⟩,
    ⟨(some 52), 52, (.load true 3 (.t 51)), none, [3]⟩,
    ⟨(some 4), 4, (.mk 100 3 [[(.s (.pv (.int .i64 0))), (.s (.pv (.int .i64 0))), (.s (.pv (.int .i64 0)))]]), none, []⟩,
    ⟨none, 122, (.store 3 (.t 4) (.t 52)), none, [5, 4, 0, 1, 2, 3, 4, 5]⟩])
  (.seq (.draw [⟨(some 53), 53, (.fld 1 (.t 4)), none, []⟩,
    ⟨(some 54), 54, (.load false 1 (.t 53)), none, [0]⟩,
    ⟨(some 55), 55, (.bin false .lss (.t 54) (.k (.c (.s (.pv (.int .i64 1)))))), none, [1]⟩,
    ⟨(some 56), 56, (.mv (.t 55)), none, [2]⟩,
    ⟨(some 57), 57, (.fld 1 (.t 4)), (some (56, false)), [3]⟩,
    ⟨(some 58), 58, (.load false 1 (.t 57)), (some (56, false)), [4, 3]⟩,
    ⟨(some 59), 59, (.load true 4 (.t 1)), (some (56, false)), [3]⟩,
    ⟨(some 60), 60, (.call 58 [(.t 59)]), (some (56, false)), [6, 3, 3]⟩,
    ⟨(some 61), 61, (.bin false .gtr (.t 58) (.t 60)), (some (56, false)), [5, 7, 3]⟩,
    ⟨(some 62), 62, (.pick (.t 56) (.k (.c (.s (.pv (.bool true))))) (.t 61)), none, [3, 8]⟩,
    ⟨(some 63), 63, (.mv (.t 62)), none, [9, 7]⟩,
    ⟨(some 64), 64, (.load true 4 (.t 1)), (some (63, false)), [10]⟩,
    ⟨(some 65), 65, (.fld 0 (.t 4)), (some (63, false)), [10]⟩,
    ⟨(some 66), 66, (.load false 1 (.t 65)), (some (63, false)), [12, 10]⟩,
    ⟨(some 67), 67, (.call 59 [(.t 64), (.t 66)]), (some (63, false)), [11, 13, 10, 10]⟩,
    ⟨(some 68), 68, (.bin false .neq (.t 67) (.k (.c (.s (.pv (.int .i64 1)))))), (some (63, false)), [14, 10]⟩,
    ⟨(some 69), 69, (.pick (.t 63) (.k (.c (.s (.pv (.bool true))))) (.t 68)), none, [10, 15]⟩])
  (.cond (.t 69) (.seq (.reg [⟨(some 2), 2, (.mv (.k (.c (.s (.pv (.bool false)))))), none, []⟩])
  .ret) .skip))))
  (.reg [⟨(some 46), 46, (.mv (.t 3)), none, []⟩,
    ⟨(some 47), 47, (.bin false .add (.t 46) (.k (.c (.s (.pv (.int .i64 1)))))), none, [0]⟩,
    ⟨(some 3), 3, (.mv (.t 47)), none, [1, 0, 1]⟩]))))))
  (.seq (.seq (.reg [⟨(some 5), 5, (.mv (.k (.c (.s (.pv (.int .i64 0)))))), none, []⟩])
  (.block 2 (.loop (.seq (.seq (.reg [⟨(some 70), 70, (.mv (.t 5)), none, []⟩,
    ⟨(some 71), 71, (.fld 3 (.t 1)), none, []⟩,
    ⟨(some 72), 72, (.load false 1 (.t 71)), none, [1]⟩,
    ⟨(some 73), 73, (.len (.t 72)), none, [2]⟩,
    ⟨(some 74), 74, (.bin false .lss (.t 70) (.t 73)), none, [0, 3]⟩])
  (.cond (.t 74) .skip (.exit 2)))
  (.seq (.block 3 (.seq (.reg [⟨(some 77), 77, (.fld 3 (.t 1)), none, []⟩,
    ⟨(some 78), 78, (.load false 1 (.t 77)), none, [0]⟩,
    ⟨(some 79), 79, (.mv (.t 5)), none, []⟩,
    ⟨(some 80), 80, (.idx 2 (.t 78) (.t 79)), none, [1, 2]⟩,
    ⟨(some 81), 81, (.load true 2 (.t 80)), none, [3]⟩,
    ⟨(some 6), 6, (.mk 63 2 [[(.s (.pv (.int .i64 0))), (.s (.pv (.int .i64 0)))]]), none, []⟩,
    ⟨none, 122, (.store 2 (.t 6) (.t 81)), none, [5, 4, 0, 1, 2, 3, 4, 5]⟩])
  (.seq (.draw [⟨(some 82), 82, (.fld 0 (.t 6)), none, []⟩,
    ⟨(some 83), 83, (.load false 1 (.t 82)), none, [0]⟩,
    ⟨(some 84), 84, (.bin false .lss (.t 83) (.k (.c (.s (.pv (.int .i64 0)))))), none, [1]⟩,
    ⟨(some 85), 85, (.mv (.t 84)), none, [2]⟩,
    ⟨(some 86), 86, (.fld 0 (.t 6)), (some (85, false)), [3]⟩,
    ⟨(some 87), 87, (.load false 1 (.t 86)), (some (85, false)), [4, 3]⟩,
    ⟨(some 88), 88, (.bin false .gtr (.t 87) (.k (.c (.s (.pv (.int .i64 2147483647)))))), (some (85, false)), [5, 3]⟩,
    ⟨(some 89), 89, (.pick (.t 85) (.k (.c (.s (.pv (.bool true))))) (.t 88)), none, [3, 6]⟩,
    ⟨(some 90), 90, (.mv (.t 89)), none, [7, 3]⟩,
    ⟨(some 91), 91, (.fld 1 (.t 6)), (some (90, false)), [8]⟩,
    ⟨(some 92), 92, (.load false 1 (.t 91)), (some (90, false)), [9, 8]⟩,
    ⟨(some 93), 93, (.bin false .lss (.t 92) (.k (.c (.s (.pv (.int .i64 1)))))), (some (90, false)), [10, 8]⟩,
    ⟨(some 94), 94, (.pick (.t 90) (.k (.c (.s (.pv (.bool true))))) (.t 93)), none, [8, 11]⟩,
    ⟨(some 95), 95, (.mv (.t 94)), none, [12, 8]⟩,
    ⟨(some 96), 96, (.fld 1 (.t 6)), (some (95, false)), [13]⟩,
    ⟨(some 97), 97, (.load false 1 (.t 96)), (some (95, false)), [14, 13]⟩,
    ⟨(some 98), 98, (.load true 4 (.t 1)), (some (95, false)), [13]⟩,
    ⟨(some 99), 99, (.call 58 [(.t 98)]), (some (95, false)), [16, 13, 13]⟩,
    ⟨(some 100), 100, (.bin false .gtr (.t 97) (.t 99)), (some (95, false)), [15, 17, 13]⟩,
    ⟨(some 101), 101, (.pick (.t 95) (.k (.c (.s (.pv (.bool true))))) (.t 100)), none, [13, 18]⟩,
    ⟨(some 102), 102, (.mv (.t 101)), none, [19, 17]⟩,
    ⟨(some 103), 103, (.load true 4 (.t 1)), (some (102, false)), [20]⟩,
    ⟨(some 104), 104, (.fld 0 (.t 6)), (some (102, false)), [20]⟩,
    ⟨(some 105), 105, (.load false 1 (.t 104)), (some (102, false)), [22, 20]⟩,
    ⟨(some 106), 106, (.call 59 [(.t 103), (.t 105)]), (some (102, false)), [21, 23, 20, 20]⟩,
    ⟨(some 107), 107, (.bin false .neq (.t 106) (.k (.c (.s (.pv (.int .i64 1)))))), (some (102, false)), [24, 20]⟩,
    ⟨(some 108), 108, (.pick (.t 102) (.k (.c (.s (.pv (.bool true))))) (.t 107)), none, [20, 25]⟩])
  (.cond (.t 108) (.seq (.reg [⟨(some 2), 2, (.mv (.k (.c (.s (.pv (.bool false)))))), none, []⟩])
  .ret) .skip))))
  (.reg [⟨(some 75), 75, (.mv (.t 5)), none, []⟩,
    ⟨(some 76), 76, (.bin false .add (.t 75) (.k (.c (.s (.pv (.int .i64 1)))))), none, [0]⟩,
    ⟨(some 5), 5, (.mv (.t 76)), none, [1, 0, 1]⟩]))))))
  (.seq (.reg [⟨(some 109), 109, (.load true 4 (.t 1)), none, []⟩,
    ⟨(some 110), 110, (.call 65 [(.t 109)]), none, [0]⟩,
    ⟨(some 111), 111, (.not (.t 110)), none, [1]⟩,
    ⟨(some 112), 112, (.mv (.t 111)), none, [2, 1]⟩,
    ⟨(some 113), 113, (.load true 4 (.t 1)), (some (112, true)), [3]⟩,
    ⟨(some 114), 114, (.call 66 [(.t 113)]), (some (112, true)), [4, 3, 3]⟩,
    ⟨(some 115), 115, (.pick (.t 112) (.t 114) (.k (.c (.s (.pv (.bool false)))))), none, [3, 5]⟩,
    ⟨(some 2), 2, (.mv (.t 115)), none, [6, 5, 0, 1, 2, 3, 4, 5, 6]⟩])
  .ret)))))
theorem fn21 : FnIs Try.prog 21 ac21 [(.t 2)] 116 := ⟨Try.f21, Try.func21, by kernel_rfl, by kernel_rfl, by kernel_rfl⟩
/- lockkeeper/lockkeeperref11.Held -/
def ac22 : ACode := (.seq (.reg [⟨(some 1), 1, (.box 29 4 (.t 0)), none, []⟩,
    ⟨(some 2), 2, (.mv (.k (.c (.s (.pv (.int .i64 0)))))), none, []⟩])
  (.seq (.reg [⟨(some 3), 3, (.mv (.k (.c (.s (.pv (.int .i64 0)))))), none, []⟩])
  (.seq (.seq (.reg [⟨(some 4), 4, (.mv (.k (.c (.s (.pv (.int .i64 0)))))), none, []⟩])
  (.block 0 (.loop (.seq (.seq (.reg [⟨(some 5), 5, (.mv (.t 4)), none, []⟩,
    ⟨(some 6), 6, (.fld 2 (.t 1)), none, []⟩,
    ⟨(some 7), 7, (.load false 1 (.t 6)), none, [1]⟩,
    ⟨(some 8), 8, (.len (.t 7)), none, [2]⟩,
    ⟨(some 9), 9, (.bin false .lss (.t 5) (.t 8)), none, [0, 3]⟩])
  (.cond (.t 9) .skip (.exit 0)))
  (.seq (.block 1 (.reg [⟨(some 12), 12, (.mv (.t 3)), none, []⟩,
    ⟨(some 13), 13, (.fld 2 (.t 1)), none, []⟩,
    ⟨(some 14), 14, (.load false 1 (.t 13)), none, [1]⟩,
    ⟨(some 15), 15, (.mv (.t 4)), none, []⟩,
    ⟨(some 16), 16, (.idx 3 (.t 14) (.t 15)), none, [2, 3]⟩,
    ⟨(some 17), 17, (.fld 2 (.t 16)), none, [4]⟩,
    ⟨(some 18), 18, (.load false 1 (.t 17)), none, [5]⟩,
    ⟨(some 19), 19, (.bin false .add (.t 12) (.t 18)), none, [0, 6]⟩,
    ⟨(some 3), 3, (.mv (.t 19)), none, [7, 0, 1, 2, 3, 4, 5, 6, 7]⟩]))
  (.reg [⟨(some 10), 10, (.mv (.t 4)), none, []⟩,
    ⟨(some 11), 11, (.bin false .add (.t 10) (.k (.c (.s (.pv (.int .i64 1)))))), none, [0]⟩,
    ⟨(some 4), 4, (.mv (.t 11)), none, [1, 0, 1]⟩]))))))
  (.seq (.reg [⟨(some 20), 20, (.mv (.t 3)), none, []⟩,
    ⟨(some 2), 2, (.mv (.t 20)), none, [0, 0]⟩])
  .ret))))
theorem fn22 : FnIs Try.prog 22 ac22 [(.t 2)] 21 := ⟨Try.f22, Try.func22, by kernel_rfl, by kernel_rfl, by kernel_rfl⟩
/- lockkeeper/lockkeeperref11.Same -/
def ac23 : ACode := (.seq (.reg [⟨(some 2), 2, (.box 29 4 (.t 0)), none, []⟩,
    ⟨(some 3), 3, (.box 29 4 (.t 1)), none, []⟩,
    ⟨(some 4), 4, (.mv (.k (.c (.s (.pv (.bool false)))))), none, []⟩])
  (.seq (.seq (.reg [⟨(some 7), 7, (.fld 0 (.t 2)), none, []⟩,
    ⟨(some 8), 8, (.load false 1 (.t 7)), none, [0]⟩,
    ⟨(some 9), 9, (.fld 0 (.t 3)), none, []⟩,
    ⟨(some 10), 10, (.load false 1 (.t 9)), none, [2]⟩,
    ⟨(some 11), 11, (.bin false .neq (.t 8) (.t 10)), none, [1, 3]⟩,
    ⟨(some 12), 12, (.mv (.t 11)), none, [4]⟩,
    ⟨(some 13), 13, (.fld 1 (.t 2)), (some (12, false)), [5]⟩,
    ⟨(some 14), 14, (.load false 1 (.t 13)), (some (12, false)), [6, 5]⟩,
    ⟨(some 15), 15, (.fld 1 (.t 3)), (some (12, false)), [5]⟩,
    ⟨(some 16), 16, (.load false 1 (.t 15)), (some (12, false)), [8, 5]⟩,
    ⟨(some 17), 17, (.bin false .neq (.t 14) (.t 16)), (some (12, false)), [7, 9, 5]⟩,
    ⟨(some 18), 18, (.pick (.t 12) (.k (.c (.s (.pv (.bool true))))) (.t 17)), none, [5, 10]⟩,
    ⟨(some 19), 19, (.mv (.t 18)), none, [11, 5]⟩,
    ⟨(some 20), 20, (.fld 2 (.t 2)), (some (19, false)), [12]⟩,
    ⟨(some 21), 21, (.load false 1 (.t 20)), (some (19, false)), [13, 12]⟩,
    ⟨(some 22), 22, (.len (.t 21)), (some (19, false)), [14, 12]⟩,
    ⟨(some 23), 23, (.fld 2 (.t 3)), (some (19, false)), [12]⟩,
    ⟨(some 24), 24, (.load false 1 (.t 23)), (some (19, false)), [16, 12]⟩,
    ⟨(some 25), 25, (.len (.t 24)), (some (19, false)), [17, 12]⟩,
    ⟨(some 26), 26, (.bin false .neq (.t 22) (.t 25)), (some (19, false)), [15, 18, 12]⟩,
    ⟨(some 27), 27, (.pick (.t 19) (.k (.c (.s (.pv (.bool true))))) (.t 26)), none, [12, 19]⟩,
    ⟨(some 28), 28, (.mv (.t 27)), none, [20, 12]⟩,
    ⟨(some 29), 29, (.fld 3 (.t 2)), (some (28, false)), [21]⟩,
    ⟨(some 30), 30, (.load false 1 (.t 29)), (some (28, false)), [22, 21]⟩,
    ⟨(some 31), 31, (.len (.t 30)), (some (28, false)), [23, 21]⟩,
    ⟨(some 32), 32, (.fld 3 (.t 3)), (some (28, false)), [21]⟩,
    ⟨(some 33), 33, (.load false 1 (.t 32)), (some (28, false)), [25, 21]⟩,
    ⟨(some 34), 34, (.len (.t 33)), (some (28, false)), [26, 21]⟩,
    ⟨(some 35), 35, (.bin false .neq (.t 31) (.t 34)), (some (28, false)), [24, 27, 21]⟩,
    ⟨(some 36), 36, (.pick (.t 28) (.k (.c (.s (.pv (.bool true))))) (.t 35)), none, [21, 28]⟩])
  (.cond (.t 36) (.seq (.reg [⟨(some 4), 4, (.mv (.k (.c (.s (.pv (.bool false)))))), none, []⟩])
  .ret) .skip))
  (.seq (.seq (.reg [⟨(some 5), 5, (.mv (.k (.c (.s (.pv (.int .i64 0)))))), none, []⟩])
  (.block 0 (.loop (.seq (.seq (.reg [⟨(some 37), 37, (.mv (.t 5)), none, []⟩,
    ⟨(some 38), 38, (.fld 2 (.t 2)), none, []⟩,
    ⟨(some 39), 39, (.load false 1 (.t 38)), none, [1]⟩,
    ⟨(some 40), 40, (.len (.t 39)), none, [2]⟩,
    ⟨(some 41), 41, (.bin false .lss (.t 37) (.t 40)), none, [0, 3]⟩])
  (.cond (.t 41) .skip (.exit 0)))
  (.seq (.block 1 (.seq (.draw [⟨(some 44), 44, (.fld 2 (.t 2)), none, []⟩,
    ⟨(some 45), 45, (.load false 1 (.t 44)), none, [0]⟩,
    ⟨(some 46), 46, (.mv (.t 5)), none, []⟩,
    ⟨(some 47), 47, (.idx 3 (.t 45) (.t 46)), none, [1, 2]⟩,
    ⟨(some 48), 48, (.load true 3 (.t 47)), none, [3]⟩,
    ⟨(some 49), 49, (.fld 2 (.t 3)), none, []⟩,
    ⟨(some 50), 50, (.load false 1 (.t 49)), none, [5]⟩,
    ⟨(some 51), 51, (.mv (.t 5)), none, []⟩,
    ⟨(some 52), 52, (.idx 3 (.t 50) (.t 51)), none, [6, 7]⟩,
    ⟨(some 53), 53, (.load true 3 (.t 52)), none, [8]⟩,
    ⟨(some 54), 54, (.eqs true 100 (.t 48) (.t 53)), none, [4, 9]⟩])
  (.cond (.t 54) (.seq (.reg [⟨(some 4), 4, (.mv (.k (.c (.s (.pv (.bool false)))))), none, []⟩])
  .ret) .skip)))
  (.reg [⟨(some 42), 42, (.mv (.t 5)), none, []⟩,
    ⟨(some 43), 43, (.bin false .add (.t 42) (.k (.c (.s (.pv (.int .i64 1)))))), none, [0]⟩,
    ⟨(some 5), 5, (.mv (.t 43)), none, [1, 0, 1]⟩]))))))
  (.seq (.seq (.reg [⟨(some 6), 6, (.mv (.k (.c (.s (.pv (.int .i64 0)))))), none, []⟩])
  (.block 2 (.loop (.seq (.seq (.reg [⟨(some 55), 55, (.mv (.t 6)), none, []⟩,
    ⟨(some 56), 56, (.fld 3 (.t 2)), none, []⟩,
    ⟨(some 57), 57, (.load false 1 (.t 56)), none, [1]⟩,
    ⟨(some 58), 58, (.len (.t 57)), none, [2]⟩,
    ⟨(some 59), 59, (.bin false .lss (.t 55) (.t 58)), none, [0, 3]⟩])
  (.cond (.t 59) .skip (.exit 2)))
  (.seq (.block 3 (.seq (.draw [⟨(some 62), 62, (.fld 3 (.t 2)), none, []⟩,
    ⟨(some 63), 63, (.load false 1 (.t 62)), none, [0]⟩,
    ⟨(some 64), 64, (.mv (.t 6)), none, []⟩,
    ⟨(some 65), 65, (.idx 2 (.t 63) (.t 64)), none, [1, 2]⟩,
    ⟨(some 66), 66, (.load true 2 (.t 65)), none, [3]⟩,
    ⟨(some 67), 67, (.fld 3 (.t 3)), none, []⟩,
    ⟨(some 68), 68, (.load false 1 (.t 67)), none, [5]⟩,
    ⟨(some 69), 69, (.mv (.t 6)), none, []⟩,
    ⟨(some 70), 70, (.idx 2 (.t 68) (.t 69)), none, [6, 7]⟩,
    ⟨(some 71), 71, (.load true 2 (.t 70)), none, [8]⟩,
    ⟨(some 72), 72, (.eqs true 63 (.t 66) (.t 71)), none, [4, 9]⟩])
  (.cond (.t 72) (.seq (.reg [⟨(some 4), 4, (.mv (.k (.c (.s (.pv (.bool false)))))), none, []⟩])
  .ret) .skip)))
  (.reg [⟨(some 60), 60, (.mv (.t 6)), none, []⟩,
    ⟨(some 61), 61, (.bin false .add (.t 60) (.k (.c (.s (.pv (.int .i64 1)))))), none, [0]⟩,
    ⟨(some 6), 6, (.mv (.t 61)), none, [1, 0, 1]⟩]))))))
  (.seq (.reg [⟨(some 4), 4, (.mv (.k (.c (.s (.pv (.bool true)))))), none, []⟩])
  .ret)))))
theorem fn23 : FnIs Try.prog 23 ac23 [(.t 4)] 73 := ⟨Try.f23, Try.func23, by kernel_rfl, by kernel_rfl, by kernel_rfl⟩
/- lockkeeper/lockkeeperref08.Equal -/
def ac24 : ACode := (.seq (.reg [⟨(some 4), 4, (.mv (.k (.c (.s (.pv (.bool false)))))), none, []⟩])
  (.seq (.seq (.reg [⟨(some 6), 6, (.mv (.t 0)), none, []⟩,
    ⟨(some 7), 7, (.len (.t 6)), none, [0]⟩,
    ⟨(some 8), 8, (.mv (.t 1)), none, []⟩,
    ⟨(some 9), 9, (.len (.t 8)), none, [2]⟩,
    ⟨(some 10), 10, (.bin false .neq (.t 7) (.t 9)), none, [1, 3]⟩])
  (.cond (.t 10) (.seq (.reg [⟨(some 4), 4, (.mv (.k (.c (.s (.pv (.bool false)))))), none, []⟩])
  .ret) .skip))
  (.seq (.seq (.reg [⟨(some 5), 5, (.mv (.k (.c (.s (.pv (.int .i64 0)))))), none, []⟩])
  (.block 0 (.loop (.seq (.seq (.reg [⟨(some 11), 11, (.mv (.t 5)), none, []⟩,
    ⟨(some 12), 12, (.mv (.t 0)), none, []⟩,
    ⟨(some 13), 13, (.len (.t 12)), none, [1]⟩,
    ⟨(some 14), 14, (.bin false .lss (.t 11) (.t 13)), none, [0, 2]⟩])
  (.cond (.t 14) .skip (.exit 0)))
  (.seq (.block 1 (.seq (.draw [⟨(some 17), 17, (.mv (.t 0)), none, []⟩,
    ⟨(some 18), 18, (.mv (.t 5)), none, []⟩,
    ⟨(some 19), 19, (.idx 1 (.t 17) (.t 18)), none, [0, 1]⟩,
    ⟨(some 20), 20, (.load false 1 (.t 19)), none, [2]⟩,
    ⟨(some 21), 21, (.mv (.t 1)), none, []⟩,
    ⟨(some 22), 22, (.mv (.t 5)), none, []⟩,
    ⟨(some 23), 23, (.idx 1 (.t 21) (.t 22)), none, [4, 5]⟩,
    ⟨(some 24), 24, (.load false 1 (.t 23)), none, [6]⟩,
    ⟨(some 25), 25, (.bin false .neq (.t 20) (.t 24)), none, [3, 7]⟩])
  (.cond (.t 25) (.seq (.reg [⟨(some 4), 4, (.mv (.k (.c (.s (.pv (.bool false)))))), none, []⟩])
  .ret) .skip)))
  (.reg [⟨(some 15), 15, (.mv (.t 5)), none, []⟩,
    ⟨(some 16), 16, (.bin false .add (.t 15) (.k (.c (.s (.pv (.int .i64 1)))))), none, [0]⟩,
    ⟨(some 5), 5, (.mv (.t 16)), none, [1, 0, 1]⟩]))))))
  (.seq (.reg [⟨(some 4), 4, (.mv (.k (.c (.s (.pv (.bool true)))))), none, []⟩])
  .ret))))
theorem fn24 : FnIs Try.prog 24 ac24 [(.t 4)] 26 := ⟨Try.f24, Try.func24, by kernel_rfl, by kernel_rfl, by kernel_rfl⟩
/- lockkeeper/admit.Right -/
def ac25 : ACode := (.seq (.reg [⟨(some 1), 1, (.box 25 4 (.t 0)), none, []⟩,
    ⟨(some 2), 2, (.mv (.k (.c (.s (.pv (.bool false)))))), none, []⟩])
  (.seq (.seq (.reg [⟨(some 3), 3, (.fld 0 (.t 1)), none, []⟩,
    ⟨(some 4), 4, (.load false 1 (.t 3)), none, [0]⟩,
    ⟨(some 5), 5, (.bin false .lss (.t 4) (.k (.c (.s (.pv (.int .i64 1)))))), none, [1]⟩,
    ⟨(some 6), 6, (.mv (.t 5)), none, [2]⟩,
    ⟨(some 7), 7, (.fld 0 (.t 1)), (some (6, false)), [3]⟩,
    ⟨(some 8), 8, (.load false 1 (.t 7)), (some (6, false)), [4, 3]⟩,
    ⟨(some 9), 9, (.bin false .gtr (.t 8) (.k (.c (.s (.pv (.int .i64 8)))))), (some (6, false)), [5, 3]⟩,
    ⟨(some 10), 10, (.pick (.t 6) (.k (.c (.s (.pv (.bool true))))) (.t 9)), none, [3, 6]⟩,
    ⟨(some 11), 11, (.mv (.t 10)), none, [7, 3]⟩,
    ⟨(some 12), 12, (.fld 1 (.t 1)), (some (11, false)), [8]⟩,
    ⟨(some 13), 13, (.load false 1 (.t 12)), (some (11, false)), [9, 8]⟩,
    ⟨(some 14), 14, (.bin false .lss (.t 13) (.k (.c (.s (.pv (.int .i64 1)))))), (some (11, false)), [10, 8]⟩,
    ⟨(some 15), 15, (.pick (.t 11) (.k (.c (.s (.pv (.bool true))))) (.t 14)), none, [8, 11]⟩,
    ⟨(some 16), 16, (.mv (.t 15)), none, [12, 8]⟩,
    ⟨(some 17), 17, (.fld 1 (.t 1)), (some (16, false)), [13]⟩,
    ⟨(some 18), 18, (.load false 1 (.t 17)), (some (16, false)), [14, 13]⟩,
    ⟨(some 19), 19, (.bin false .gtr (.t 18) (.k (.c (.s (.pv (.int .i64 100)))))), (some (16, false)), [15, 13]⟩,
    ⟨(some 20), 20, (.pick (.t 16) (.k (.c (.s (.pv (.bool true))))) (.t 19)), none, [13, 16]⟩])
  (.cond (.t 20) (.seq (.reg [⟨(some 2), 2, (.mv (.k (.c (.s (.pv (.bool false)))))), none, []⟩])
  .ret) .skip))
  (.seq (.seq (.reg [⟨(some 21), 21, (.fld 2 (.t 1)), none, []⟩,
    ⟨(some 22), 22, (.load false 1 (.t 21)), none, [0]⟩,
    ⟨(some 23), 23, (.call 67 [(.t 22)]), none, [1]⟩,
    ⟨(some 24), 24, (.not (.t 23)), none, [2]⟩,
    ⟨(some 25), 25, (.mv (.t 24)), none, [3, 2]⟩,
    ⟨(some 26), 26, (.fld 2 (.t 1)), (some (25, false)), [4]⟩,
    ⟨(some 27), 27, (.load false 1 (.t 26)), (some (25, false)), [5, 4]⟩,
    ⟨(some 28), 28, (.len (.t 27)), (some (25, false)), [6, 4]⟩,
    ⟨(some 29), 29, (.fld 3 (.t 1)), (some (25, false)), [4]⟩,
    ⟨(some 30), 30, (.load false 1 (.t 29)), (some (25, false)), [8, 4]⟩,
    ⟨(some 31), 31, (.len (.t 30)), (some (25, false)), [9, 4]⟩,
    ⟨(some 32), 32, (.bin false .add (.t 28) (.t 31)), (some (25, false)), [7, 10, 4]⟩,
    ⟨(some 33), 33, (.bin false .gtr (.t 32) (.k (.c (.s (.pv (.int .i64 40)))))), (some (25, false)), [11, 4]⟩,
    ⟨(some 34), 34, (.pick (.t 25) (.k (.c (.s (.pv (.bool true))))) (.t 33)), none, [4, 12]⟩])
  (.cond (.t 34) (.seq (.reg [⟨(some 2), 2, (.mv (.k (.c (.s (.pv (.bool false)))))), none, []⟩])
  .ret) .skip))
  (.seq (.draw [⟨(some 35), 35, (.load true 4 (.t 1)), none, []⟩,
    ⟨(some 36), 36, (.call 68 [(.t 35)]), none, [0]⟩,
    ⟨(some 37), 37, (.mv (.t 36)), none, [1, 1]⟩,
    ⟨(some 38), 38, (.load true 4 (.t 1)), (some (37, true)), [2]⟩,
    ⟨(some 39), 39, (.call 69 [(.t 38)]), (some (37, true)), [3, 2, 2]⟩,
    ⟨(some 40), 40, (.fld 2 (.t 1)), (some (37, true)), [2]⟩,
    ⟨(some 41), 41, (.load false 1 (.t 40)), (some (37, true)), [5, 2]⟩,
    ⟨(some 42), 42, (.call 32 [(.t 39), (.t 41)]), (some (37, true)), [4, 6, 4, 2]⟩,
    ⟨(some 43), 43, (.pick (.t 37) (.t 42) (.k (.c (.s (.pv (.bool false)))))), none, [2, 7]⟩,
    ⟨(some 44), 44, (.mv (.t 43)), none, [8, 7]⟩,
    ⟨(some 45), 45, (.load true 4 (.t 1)), (some (44, true)), [9]⟩,
    ⟨(some 46), 46, (.call 70 [(.t 45)]), (some (44, true)), [10, 9, 9]⟩,
    ⟨(some 47), 47, (.not (.t 46)), (some (44, true)), [11, 9]⟩,
    ⟨(some 48), 48, (.pick (.t 44) (.t 47) (.k (.c (.s (.pv (.bool false)))))), none, [9, 12]⟩,
    ⟨(some 2), 2, (.mv (.t 48)), none, [13, 11, 0, 1, 2, 3, 4, 5, 6, 7, 8, 9, 10, 11, 12, 13]⟩])
  .ret))))
theorem fn25 : FnIs Try.prog 25 ac25 [(.t 2)] 49 := ⟨Try.f25, Try.func25, by kernel_rfl, by kernel_rfl, by kernel_rfl⟩
/- lockkeeper/admit.Free -/
def ac26 : ACode := (.seq (.reg [⟨(some 1), 1, (.box 25 4 (.t 0)), none, []⟩,
    ⟨(some 2), 2, (.mv (.k (.c (.s (.pv (.int .i64 0)))))), none, []⟩])
  (.seq (.seq (.reg [⟨(some 3), 3, (.load true 4 (.t 1)), none, []⟩,
    ⟨(some 4), 4, (.call 25 [(.t 3)]), none, [0]⟩,
    ⟨(some 5), 5, (.not (.t 4)), none, [1]⟩])
  (.cond (.t 5) (.seq (.reg [⟨(some 2), 2, (.mv (.k (.c (.s (.pv (.int .i64 0)))))), none, []⟩])
  .ret) .skip))
  (.seq (.reg [⟨(some 6), 6, (.load true 4 (.t 1)), none, []⟩,
    ⟨(some 7), 7, (.call 69 [(.t 6)]), none, [0]⟩,
    ⟨(some 2), 2, (.mv (.t 7)), none, [1, 1, 0, 1]⟩])
  .ret)))
theorem fn26 : FnIs Try.prog 26 ac26 [(.t 2)] 8 := ⟨Try.f26, Try.func26, by kernel_rfl, by kernel_rfl, by kernel_rfl⟩
/- lockkeeper/admit.Pin -/
def ac27 : ACode := (.seq (.reg [⟨(some 2), 2, (.box 25 4 (.t 0)), none, []⟩,
    ⟨(some 4), 4, (.mk 25 4 [[(.s (.pv (.int .i64 0))), (.s (.pv (.int .i64 0))), .zc, .zc]]), none, []⟩,
    ⟨(some 5), 5, (.mv (.k (.c (.s (.pv (.int .i64 0)))))), none, []⟩])
  (.seq (.seq (.reg [⟨(some 8), 8, (.load true 4 (.t 2)), none, []⟩,
    ⟨(some 9), 9, (.call 25 [(.t 8)]), none, [0]⟩,
    ⟨(some 10), 10, (.not (.t 9)), none, [1]⟩])
  (.cond (.t 10) (.seq (.reg [⟨(some 11), 11, (.load true 4 (.t 2)), none, []⟩,
    ⟨none, 44, (.store 4 (.t 4) (.t 11)), none, [0, 0]⟩,
    ⟨(some 5), 5, (.mv (.k (.c (.s (.pv (.int .i64 1)))))), none, [1, 0, 1]⟩])
  .ret) .skip))
  (.seq (.reg [⟨(some 12), 12, (.load true 4 (.t 2)), none, []⟩,
    ⟨(some 13), 13, (.mv (.t 1)), none, []⟩,
    ⟨(some 14), 14, (.call 54 [(.t 12), (.t 13)]), none, [0, 1]⟩,
    ⟨(some 6), 6, (.mv (.t 14)), none, [2, 2, 0, 1, 2]⟩])
  (.seq (.seq (.reg [⟨(some 15), 15, (.mv (.t 6)), none, []⟩,
    ⟨(some 16), 16, (.bin false .lss (.t 15) (.k (.c (.s (.pv (.int .i64 0)))))), none, [0]⟩])
  (.cond (.t 16) (.seq (.reg [⟨(some 17), 17, (.load true 4 (.t 2)), none, []⟩,
    ⟨none, 44, (.store 4 (.t 4) (.t 17)), none, [0, 0]⟩,
    ⟨(some 5), 5, (.mv (.k (.c (.s (.pv (.int .i64 3)))))), none, [1, 0, 1]⟩])
  .ret) .skip))
  (.seq (.seq (.draw [⟨(some 18), 18, (.fld 2 (.t 2)), none, []⟩,
    ⟨(some 19), 19, (.load false 1 (.t 18)), none, [0]⟩,
    ⟨(some 20), 20, (.mv (.t 6)), none, []⟩,
    ⟨(some 21), 21, (.idx 3 (.t 19) (.t 20)), none, [1, 2]⟩,
    ⟨(some 22), 22, (.fld 2 (.t 21)), none, [3]⟩,
    ⟨(some 23), 23, (.load false 1 (.t 22)), none, [4]⟩,
    ⟨(some 24), 24, (.fld 2 (.t 2)), none, []⟩,
    ⟨(some 25), 25, (.load false 1 (.t 24)), none, [6]⟩,
    ⟨(some 26), 26, (.mv (.t 6)), none, []⟩,
    ⟨(some 27), 27, (.idx 3 (.t 25) (.t 26)), none, [7, 8]⟩,
    ⟨(some 28), 28, (.fld 1 (.t 27)), none, [9]⟩,
    ⟨(some 29), 29, (.load false 1 (.t 28)), none, [10]⟩,
    ⟨(some 30), 30, (.bin false .eql (.t 23) (.t 29)), none, [5, 11]⟩])
  (.cond (.t 30) (.seq (.reg [⟨(some 31), 31, (.load true 4 (.t 2)), none, []⟩,
    ⟨none, 44, (.store 4 (.t 4) (.t 31)), none, [0, 0]⟩,
    ⟨(some 5), 5, (.mv (.k (.c (.s (.pv (.int .i64 10)))))), none, [1, 0, 1]⟩])
  .ret) .skip))
  (.seq (.reg [⟨(some 32), 32, (.load true 4 (.t 2)), none, []⟩,
    ⟨(some 33), 33, (.mv (.t 6)), none, []⟩,
    ⟨(some 34), 34, (.call 71 [(.t 32), (.t 33), (.k (.c (.s (.pv (.int .i64 1)))))]), none, [0, 1]⟩,
    ⟨(some 7), 7, (.mk 25 4 [[(.s (.pv (.int .i64 0))), (.s (.pv (.int .i64 0))), .zc, .zc]]), none, []⟩,
    ⟨none, 47, (.store 4 (.t 7) (.t 34)), none, [3, 2, 2, 0, 1, 2, 3]⟩])
  (.seq (.seq (.draw [⟨(some 35), 35, (.load true 4 (.t 7)), none, []⟩,
    ⟨(some 36), 36, (.call 69 [(.t 35)]), none, [0]⟩,
    ⟨(some 37), 37, (.fld 2 (.t 7)), none, []⟩,
    ⟨(some 38), 38, (.load false 1 (.t 37)), none, [2]⟩,
    ⟨(some 39), 39, (.call 32 [(.t 36), (.t 38)]), none, [1, 3, 1]⟩,
    ⟨(some 40), 40, (.not (.t 39)), none, [4]⟩])
  (.cond (.t 40) (.seq (.reg [⟨(some 41), 41, (.load true 4 (.t 2)), none, []⟩,
    ⟨none, 44, (.store 4 (.t 4) (.t 41)), none, [0, 0]⟩,
    ⟨(some 5), 5, (.mv (.k (.c (.s (.pv (.int .i64 6)))))), none, [1, 0, 1]⟩])
  .ret) .skip))
  (.seq (.reg [⟨(some 42), 42, (.load true 4 (.t 7)), none, []⟩,
    ⟨none, 44, (.store 4 (.t 4) (.t 42)), none, [0, 0]⟩,
    ⟨(some 5), 5, (.mv (.k (.c (.s (.pv (.int .i64 0)))))), none, [1, 0, 1]⟩])
  .ret))))))))
theorem fn27 : FnIs Try.prog 27 ac27 [(.cell 4 true 4), (.t 5)] 43 := ⟨Try.f27, Try.func27, by kernel_rfl, by kernel_rfl, by kernel_rfl⟩
/- lockkeeper/lockkeeperref11.Pin -/
def ac28 : ACode := (.seq (.reg [⟨(some 2), 2, (.box 29 4 (.t 0)), none, []⟩,
    ⟨(some 4), 4, (.mk 29 4 [[(.s (.pv (.int .i64 0))), (.s (.pv (.int .i64 0))), .zc, .zc]]), none, []⟩,
    ⟨(some 5), 5, (.mv (.k (.c (.s (.pv (.int .i64 0)))))), none, []⟩])
  (.seq (.seq (.reg [⟨(some 9), 9, (.load true 4 (.t 2)), none, []⟩,
    ⟨(some 10), 10, (.call 21 [(.t 9)]), none, [0]⟩,
    ⟨(some 11), 11, (.not (.t 10)), none, [1]⟩])
  (.cond (.t 11) (.seq (.reg [⟨(some 12), 12, (.load true 4 (.t 2)), none, []⟩,
    ⟨none, 37, (.store 4 (.t 4) (.t 12)), none, [0, 0]⟩,
    ⟨(some 5), 5, (.mv (.k (.c (.s (.pv (.int .i64 1)))))), none, [1, 0, 1]⟩])
  .ret) .skip))
  (.seq (.reg [⟨(some 14), 14, (.load true 4 (.t 2)), none, []⟩,
    ⟨(some 15), 15, (.mv (.t 1)), none, []⟩,
    ⟨(some 16), 16, (.call 72 [(.t 14), (.t 15)]), none, [0, 1]⟩,
    ⟨(some 13), 13, (.mv (.t 16)), none, [2]⟩,
    ⟨(some 17), 17, (.ext 0 (.t 13)), none, [3]⟩,
    ⟨(some 18), 18, (.ext 1 (.t 13)), none, [3]⟩,
    ⟨(some 6), 6, (.mk 100 3 [[(.s (.pv (.int .i64 0))), (.s (.pv (.int .i64 0))), (.s (.pv (.int .i64 0)))]]), none, []⟩,
    ⟨none, 43, (.store 3 (.t 6) (.t 17)), none, [6, 4, 2, 0, 1, 2, 3, 4, 6]⟩,
    ⟨(some 7), 7, (.mv (.t 18)), none, [5, 7, 0, 1, 2, 3, 4, 5, 6, 7]⟩])
  (.seq (.seq (.reg [⟨(some 19), 19, (.mv (.t 7)), none, []⟩,
    ⟨(some 20), 20, (.not (.t 19)), none, [0]⟩])
  (.cond (.t 20) (.seq (.reg [⟨(some 21), 21, (.load true 4 (.t 2)), none, []⟩,
    ⟨none, 37, (.store 4 (.t 4) (.t 21)), none, [0, 0]⟩,
    ⟨(some 5), 5, (.mv (.k (.c (.s (.pv (.int .i64 3)))))), none, [1, 0, 1]⟩])
  .ret) .skip))
  (.seq (.seq (.reg [⟨(some 22), 22, (.fld 2 (.t 6)), none, []⟩,
    ⟨(some 23), 23, (.load false 1 (.t 22)), none, [0]⟩,
    ⟨(some 24), 24, (.fld 1 (.t 6)), none, []⟩,
    ⟨(some 25), 25, (.load false 1 (.t 24)), none, [2]⟩,
    ⟨(some 26), 26, (.bin false .eql (.t 23) (.t 25)), none, [1, 3]⟩])
  (.cond (.t 26) (.seq (.reg [⟨(some 27), 27, (.load true 4 (.t 2)), none, []⟩,
    ⟨none, 37, (.store 4 (.t 4) (.t 27)), none, [0, 0]⟩,
    ⟨(some 5), 5, (.mv (.k (.c (.s (.pv (.int .i64 10)))))), none, [1, 0, 1]⟩])
  .ret) .skip))
  (.seq (.reg [⟨(some 28), 28, (.load true 4 (.t 2)), none, []⟩,
    ⟨(some 29), 29, (.mv (.t 1)), none, []⟩,
    ⟨(some 30), 30, (.call 73 [(.t 28), (.t 29), (.k (.c (.s (.pv (.int .i64 1)))))]), none, [0, 1]⟩,
    ⟨(some 8), 8, (.mk 29 4 [[(.s (.pv (.int .i64 0))), (.s (.pv (.int .i64 0))), .zc, .zc]]), none, []⟩,
    ⟨none, 40, (.store 4 (.t 8) (.t 30)), none, [3, 2, 2, 0, 1, 2, 3]⟩])
  (.seq (.seq (.reg [⟨(some 31), 31, (.load true 4 (.t 8)), none, []⟩,
    ⟨(some 32), 32, (.call 66 [(.t 31)]), none, [0]⟩,
    ⟨(some 33), 33, (.not (.t 32)), none, [1]⟩])
  (.cond (.t 33) (.seq (.reg [⟨(some 34), 34, (.load true 4 (.t 2)), none, []⟩,
    ⟨none, 37, (.store 4 (.t 4) (.t 34)), none, [0, 0]⟩,
    ⟨(some 5), 5, (.mv (.k (.c (.s (.pv (.int .i64 6)))))), none, [1, 0, 1]⟩])
  .ret) .skip))
  (.seq (.reg [⟨(some 35), 35, (.load true 4 (.t 8)), none, []⟩,
    ⟨none, 37, (.store 4 (.t 4) (.t 35)), none, [0, 0]⟩,
    ⟨(some 5), 5, (.mv (.k (.c (.s (.pv (.int .i64 0)))))), none, [1, 0, 1]⟩])
  .ret))))))))
theorem fn28 : FnIs Try.prog 28 ac28 [(.cell 4 true 4), (.t 5)] 36 := ⟨Try.f28, Try.func28, by kernel_rfl, by kernel_rfl, by kernel_rfl⟩
/- lockkeeper/admit.Unpin -/
def ac29 : ACode := (.seq (.reg [⟨(some 2), 2, (.box 25 4 (.t 0)), none, []⟩,
    ⟨(some 4), 4, (.mk 25 4 [[(.s (.pv (.int .i64 0))), (.s (.pv (.int .i64 0))), .zc, .zc]]), none, []⟩,
    ⟨(some 5), 5, (.mv (.k (.c (.s (.pv (.int .i64 0)))))), none, []⟩])
  (.seq (.seq (.reg [⟨(some 7), 7, (.load true 4 (.t 2)), none, []⟩,
    ⟨(some 8), 8, (.call 25 [(.t 7)]), none, [0]⟩,
    ⟨(some 9), 9, (.not (.t 8)), none, [1]⟩])
  (.cond (.t 9) (.seq (.reg [⟨(some 10), 10, (.load true 4 (.t 2)), none, []⟩,
    ⟨none, 29, (.store 4 (.t 4) (.t 10)), none, [0, 0]⟩,
    ⟨(some 5), 5, (.mv (.k (.c (.s (.pv (.int .i64 1)))))), none, [1, 0, 1]⟩])
  .ret) .skip))
  (.seq (.reg [⟨(some 11), 11, (.load true 4 (.t 2)), none, []⟩,
    ⟨(some 12), 12, (.mv (.t 1)), none, []⟩,
    ⟨(some 13), 13, (.call 54 [(.t 11), (.t 12)]), none, [0, 1]⟩,
    ⟨(some 6), 6, (.mv (.t 13)), none, [2, 2, 0, 1, 2]⟩])
  (.seq (.seq (.reg [⟨(some 14), 14, (.mv (.t 6)), none, []⟩,
    ⟨(some 15), 15, (.bin false .lss (.t 14) (.k (.c (.s (.pv (.int .i64 0)))))), none, [0]⟩])
  (.cond (.t 15) (.seq (.reg [⟨(some 16), 16, (.load true 4 (.t 2)), none, []⟩,
    ⟨none, 29, (.store 4 (.t 4) (.t 16)), none, [0, 0]⟩,
    ⟨(some 5), 5, (.mv (.k (.c (.s (.pv (.int .i64 3)))))), none, [1, 0, 1]⟩])
  .ret) .skip))
  (.seq (.seq (.reg [⟨(some 17), 17, (.fld 2 (.t 2)), none, []⟩,
    ⟨(some 18), 18, (.load false 1 (.t 17)), none, [0]⟩,
    ⟨(some 19), 19, (.mv (.t 6)), none, []⟩,
    ⟨(some 20), 20, (.idx 3 (.t 18) (.t 19)), none, [1, 2]⟩,
    ⟨(some 21), 21, (.fld 2 (.t 20)), none, [3]⟩,
    ⟨(some 22), 22, (.load false 1 (.t 21)), none, [4]⟩,
    ⟨(some 23), 23, (.bin false .eql (.t 22) (.k (.c (.s (.pv (.int .i64 0)))))), none, [5]⟩])
  (.cond (.t 23) (.seq (.reg [⟨(some 24), 24, (.load true 4 (.t 2)), none, []⟩,
    ⟨none, 29, (.store 4 (.t 4) (.t 24)), none, [0, 0]⟩,
    ⟨(some 5), 5, (.mv (.k (.c (.s (.pv (.int .i64 12)))))), none, [1, 0, 1]⟩])
  .ret) .skip))
  (.seq (.reg [⟨(some 25), 25, (.load true 4 (.t 2)), none, []⟩,
    ⟨(some 26), 26, (.mv (.t 6)), none, []⟩,
    ⟨(some 27), 27, (.call 71 [(.t 25), (.t 26), (.k (.c (.s (.pv (.int .i64 (-1))))))]), none, [0, 1]⟩,
    ⟨none, 31, (.store 4 (.t 4) (.t 27)), none, [2, 2, 0, 1, 2]⟩,
    ⟨(some 5), 5, (.mv (.k (.c (.s (.pv (.int .i64 0)))))), none, [3, 0, 1, 2, 3]⟩])
  .ret))))))
theorem fn29 : FnIs Try.prog 29 ac29 [(.cell 4 true 4), (.t 5)] 28 := ⟨Try.f29, Try.func29, by kernel_rfl, by kernel_rfl, by kernel_rfl⟩
/- lockkeeper/lockkeeperref11.Unpin -/
def ac30 : ACode := (.seq (.reg [⟨(some 2), 2, (.box 29 4 (.t 0)), none, []⟩,
    ⟨(some 4), 4, (.mk 29 4 [[(.s (.pv (.int .i64 0))), (.s (.pv (.int .i64 0))), .zc, .zc]]), none, []⟩,
    ⟨(some 5), 5, (.mv (.k (.c (.s (.pv (.int .i64 0)))))), none, []⟩])
  (.seq (.seq (.reg [⟨(some 8), 8, (.load true 4 (.t 2)), none, []⟩,
    ⟨(some 9), 9, (.call 21 [(.t 8)]), none, [0]⟩,
    ⟨(some 10), 10, (.not (.t 9)), none, [1]⟩])
  (.cond (.t 10) (.seq (.reg [⟨(some 11), 11, (.load true 4 (.t 2)), none, []⟩,
    ⟨none, 29, (.store 4 (.t 4) (.t 11)), none, [0, 0]⟩,
    ⟨(some 5), 5, (.mv (.k (.c (.s (.pv (.int .i64 1)))))), none, [1, 0, 1]⟩])
  .ret) .skip))
  (.seq (.reg [⟨(some 13), 13, (.load true 4 (.t 2)), none, []⟩,
    ⟨(some 14), 14, (.mv (.t 1)), none, []⟩,
    ⟨(some 15), 15, (.call 72 [(.t 13), (.t 14)]), none, [0, 1]⟩,
    ⟨(some 12), 12, (.mv (.t 15)), none, [2]⟩,
    ⟨(some 16), 16, (.ext 0 (.t 12)), none, [3]⟩,
    ⟨(some 17), 17, (.ext 1 (.t 12)), none, [3]⟩,
    ⟨(some 6), 6, (.mk 100 3 [[(.s (.pv (.int .i64 0))), (.s (.pv (.int .i64 0))), (.s (.pv (.int .i64 0)))]]), none, []⟩,
    ⟨none, 35, (.store 3 (.t 6) (.t 16)), none, [6, 4, 2, 0, 1, 2, 3, 4, 6]⟩,
    ⟨(some 7), 7, (.mv (.t 17)), none, [5, 7, 0, 1, 2, 3, 4, 5, 6, 7]⟩])
  (.seq (.seq (.reg [⟨(some 18), 18, (.mv (.t 7)), none, []⟩,
    ⟨(some 19), 19, (.not (.t 18)), none, [0]⟩])
  (.cond (.t 19) (.seq (.reg [⟨(some 20), 20, (.load true 4 (.t 2)), none, []⟩,
    ⟨none, 29, (.store 4 (.t 4) (.t 20)), none, [0, 0]⟩,
    ⟨(some 5), 5, (.mv (.k (.c (.s (.pv (.int .i64 3)))))), none, [1, 0, 1]⟩])
  .ret) .skip))
  (.seq (.seq (.reg [⟨(some 21), 21, (.fld 2 (.t 6)), none, []⟩,
    ⟨(some 22), 22, (.load false 1 (.t 21)), none, [0]⟩,
    ⟨(some 23), 23, (.bin false .eql (.t 22) (.k (.c (.s (.pv (.int .i64 0)))))), none, [1]⟩])
  (.cond (.t 23) (.seq (.reg [⟨(some 24), 24, (.load true 4 (.t 2)), none, []⟩,
    ⟨none, 29, (.store 4 (.t 4) (.t 24)), none, [0, 0]⟩,
    ⟨(some 5), 5, (.mv (.k (.c (.s (.pv (.int .i64 12)))))), none, [1, 0, 1]⟩])
  .ret) .skip))
  (.seq (.reg [⟨(some 25), 25, (.load true 4 (.t 2)), none, []⟩,
    ⟨(some 26), 26, (.mv (.t 1)), none, []⟩,
    ⟨(some 27), 27, (.call 73 [(.t 25), (.t 26), (.k (.c (.s (.pv (.int .i64 (-1))))))]), none, [0, 1]⟩,
    ⟨none, 31, (.store 4 (.t 4) (.t 27)), none, [2, 2, 0, 1, 2]⟩,
    ⟨(some 5), 5, (.mv (.k (.c (.s (.pv (.int .i64 0)))))), none, [3, 0, 1, 2, 3]⟩])
  .ret))))))
theorem fn30 : FnIs Try.prog 30 ac30 [(.cell 4 true 4), (.t 5)] 28 := ⟨Try.f30, Try.func30, by kernel_rfl, by kernel_rfl, by kernel_rfl⟩
/- lockkeeper/lockkeeperlaw11.do -/
def ac31 : ACode := (.seq (.reg [⟨(some 2), 2, (.box 25 4 (.t 0)), none, []⟩,
    ⟨(some 3), 3, (.box 57 3 (.t 1)), none, []⟩,
    ⟨(some 4), 4, (.mk 25 4 [[(.s (.pv (.int .i64 0))), (.s (.pv (.int .i64 0))), .zc, .zc]]), none, []⟩,
    ⟨(some 5), 5, (.mv (.k (.c (.s (.pv (.int .i64 0)))))), none, []⟩])
  (.seq (.seq (.reg [⟨(some 12), 12, (.fld 0 (.t 3)), none, []⟩,
    ⟨(some 13), 13, (.load false 1 (.t 12)), none, [0]⟩])
  (.block 0 (.seq (.reg [⟨(some 15), 15, (.bin false .eql (.t 13) (.k (.c (.s (.pv (.int .i64 0)))))), none, []⟩,
    ⟨(some 14), 14, (.mv (.t 15)), none, [0]⟩])
  (.cond (.t 14) (.seq (.reg [⟨(some 17), 17, (.load true 4 (.t 2)), none, []⟩,
    ⟨(some 18), 18, (.fld 1 (.t 3)), none, []⟩,
    ⟨(some 19), 19, (.load false 1 (.t 18)), none, [1]⟩,
    ⟨(some 20), 20, (.fld 2 (.t 3)), none, []⟩,
    ⟨(some 21), 21, (.load false 1 (.t 20)), none, [3]⟩,
    ⟨(some 22), 22, (.call 17 [(.t 17), (.t 19), (.t 21)]), none, [0, 2, 4]⟩,
    ⟨(some 16), 16, (.mv (.t 22)), none, [5]⟩,
    ⟨(some 23), 23, (.ext 0 (.t 16)), none, [6]⟩,
    ⟨(some 24), 24, (.ext 1 (.t 16)), none, [6]⟩,
    ⟨(some 25), 25, (.ext 2 (.t 16)), none, [6]⟩,
    ⟨(some 6), 6, (.mk 25 4 [[(.s (.pv (.int .i64 0))), (.s (.pv (.int .i64 0))), .zc, .zc]]), none, []⟩,
    ⟨none, 65, (.store 4 (.t 6) (.t 23)), none, [10, 7, 5, 0, 1, 2, 3, 4, 5, 6, 7, 10]⟩,
    ⟨(some 7), 7, (.mv (.t 24)), none, [8, 11, 0, 1, 2, 3, 4, 5, 6, 7, 8, 10, 11]⟩,
    ⟨(some 8), 8, (.mv (.t 25)), none, [9, 12, 0, 1, 2, 3, 4, 5, 6, 7, 8, 9, 10, 11, 12]⟩])
  (.seq (.reg [⟨(some 26), 26, (.load true 4 (.t 6)), none, []⟩,
    ⟨(some 27), 27, (.mv (.t 8)), none, []⟩,
    ⟨none, 56, (.store 4 (.t 4) (.t 26)), none, [0, 0]⟩,
    ⟨(some 5), 5, (.mv (.t 27)), none, [1, 2, 0, 1, 2]⟩])
  .ret)) (.seq (.reg [⟨(some 29), 29, (.bin false .eql (.t 13) (.k (.c (.s (.pv (.int .i64 1)))))), none, []⟩,
    ⟨(some 28), 28, (.mv (.t 29)), none, [0]⟩])
  (.cond (.t 28) (.seq (.reg [⟨(some 30), 30, (.load true 4 (.t 2)), none, []⟩,
    ⟨(some 31), 31, (.fld 1 (.t 3)), none, []⟩,
    ⟨(some 32), 32, (.load false 1 (.t 31)), none, [1]⟩,
    ⟨(some 33), 33, (.call 27 [(.t 30), (.t 32)]), none, [0, 2]⟩,
    ⟨(some 34), 34, (.ext 0 (.t 33)), none, [3]⟩,
    ⟨(some 35), 35, (.ext 1 (.t 33)), none, [3]⟩,
    ⟨none, 60, (.store 4 (.t 4) (.t 34)), none, [4, 3, 0, 1, 2, 3, 4, 5]⟩,
    ⟨(some 5), 5, (.mv (.t 35)), none, [5, 6, 0, 1, 2, 3, 4, 5, 6]⟩])
  .ret) (.seq (.reg [⟨(some 37), 37, (.bin false .eql (.t 13) (.k (.c (.s (.pv (.int .i64 2)))))), none, []⟩,
    ⟨(some 36), 36, (.mv (.t 37)), none, [0]⟩])
  (.cond (.t 36) (.seq (.reg [⟨(some 38), 38, (.load true 4 (.t 2)), none, []⟩,
    ⟨(some 39), 39, (.fld 1 (.t 3)), none, []⟩,
    ⟨(some 40), 40, (.load false 1 (.t 39)), none, [1]⟩,
    ⟨(some 41), 41, (.call 29 [(.t 38), (.t 40)]), none, [0, 2]⟩,
    ⟨(some 42), 42, (.ext 0 (.t 41)), none, [3]⟩,
    ⟨(some 43), 43, (.ext 1 (.t 41)), none, [3]⟩,
    ⟨none, 60, (.store 4 (.t 4) (.t 42)), none, [4, 3, 0, 1, 2, 3, 4, 5]⟩,
    ⟨(some 5), 5, (.mv (.t 43)), none, [5, 6, 0, 1, 2, 3, 4, 5, 6]⟩])
  .ret) .skip))))))))
  (.seq (.reg [⟨(some 45), 45, (.load true 4 (.t 2)), none, []⟩,
    ⟨(some 46), 46, (.fld 1 (.t 3)), none, []⟩,
    ⟨(some 47), 47, (.load false 1 (.t 46)), none, [1]⟩,
    ⟨(some 48), 48, (.call 19 [(.t 45), (.t 47)]), none, [0, 2]⟩,
    ⟨(some 44), 44, (.mv (.t 48)), none, [3]⟩,
    ⟨(some 49), 49, (.ext 0 (.t 44)), none, [4]⟩,
    ⟨(some 50), 50, (.ext 1 (.t 44)), none, [4]⟩,
    ⟨(some 51), 51, (.ext 2 (.t 44)), none, [4]⟩,
    ⟨(some 9), 9, (.mk 25 4 [[(.s (.pv (.int .i64 0))), (.s (.pv (.int .i64 0))), .zc, .zc]]), none, []⟩,
    ⟨none, 63, (.store 4 (.t 9) (.t 49)), none, [8, 5, 3, 0, 1, 2, 3, 4, 5, 8]⟩,
    ⟨(some 10), 10, (.mv (.t 50)), none, [6, 9, 0, 1, 2, 3, 4, 5, 6, 8, 9]⟩,
    ⟨(some 11), 11, (.mv (.t 51)), none, [7, 10, 0, 1, 2, 3, 4, 5, 6, 7, 8, 9, 10]⟩])
  (.seq (.reg [⟨(some 52), 52, (.load true 4 (.t 9)), none, []⟩,
    ⟨(some 53), 53, (.mv (.t 11)), none, []⟩,
    ⟨none, 56, (.store 4 (.t 4) (.t 52)), none, [0, 0]⟩,
    ⟨(some 5), 5, (.mv (.t 53)), none, [1, 2, 0, 1, 2]⟩])
  .ret))))
theorem fn31 : FnIs Try.prog 31 ac31 [(.cell 4 true 4), (.t 5)] 54 := ⟨Try.f31, Try.func31, by kernel_rfl, by kernel_rfl, by kernel_rfl⟩
/- lockkeeper/bank.Safe -/
def ac32 : ACode := (.seq (.reg [⟨(some 4), 4, (.mv (.k (.c (.s (.pv (.bool false)))))), none, []⟩])
  (.seq (.reg [⟨(some 8), 8, (.mv (.t 0)), none, []⟩,
    ⟨(some 9), 9, (.mv (.t 1)), none, []⟩,
    ⟨(some 10), 10, (.call 74 [(.t 8), (.t 9)]), none, [0, 1]⟩,
    ⟨(some 7), 7, (.mv (.t 10)), none, [2]⟩,
    ⟨(some 11), 11, (.ext 0 (.t 7)), none, [3]⟩,
    ⟨(some 12), 12, (.ext 1 (.t 7)), none, [3]⟩,
    ⟨(some 5), 5, (.mv (.t 11)), none, [4, 2, 0, 1, 2, 3, 4]⟩,
    ⟨(some 6), 6, (.mv (.t 12)), none, [5, 6, 0, 1, 2, 3, 4, 5, 6]⟩])
  (.seq (.reg [⟨(some 13), 13, (.mv (.t 6)), none, []⟩,
    ⟨(some 4), 4, (.mv (.t 13)), none, [0, 0]⟩])
  .ret)))
theorem fn32 : FnIs Try.prog 32 ac32 [(.t 4)] 14 := ⟨Try.f32, Try.func32, by kernel_rfl, by kernel_rfl, by kernel_rfl⟩
/- lockkeeper/admit.isWho -/
def ac52 : ACode := (.seq (.reg [⟨(some 2), 2, (.mv (.k (.c (.s (.pv (.bool false)))))), none, []⟩])
  (.seq (.reg [⟨(some 3), 3, (.mv (.t 0)), none, []⟩,
    ⟨(some 4), 4, (.bin false .geq (.t 3) (.k (.c (.s (.pv (.int .i64 0)))))), none, [0]⟩,
    ⟨(some 5), 5, (.mv (.t 4)), none, [1]⟩,
    ⟨(some 6), 6, (.mv (.t 0)), (some (5, true)), [2]⟩,
    ⟨(some 7), 7, (.bin false .leq (.t 6) (.k (.c (.s (.pv (.int .i64 2147483647)))))), (some (5, true)), [3, 2]⟩,
    ⟨(some 8), 8, (.pick (.t 5) (.t 7) (.k (.c (.s (.pv (.bool false)))))), none, [2, 4]⟩,
    ⟨(some 2), 2, (.mv (.t 8)), none, [5, 2, 0, 1, 2, 3, 4, 5]⟩])
  .ret))
theorem fn52 : FnIs Try.prog 52 ac52 [(.t 2)] 9 := ⟨Try.f52, Try.func52, by kernel_rfl, by kernel_rfl, by kernel_rfl⟩
/- lockkeeper/admit.isClaim -/
def ac53 : ACode := (.seq (.reg [⟨(some 2), 2, (.box 25 4 (.t 0)), none, []⟩,
    ⟨(some 4), 4, (.mv (.k (.c (.s (.pv (.bool false)))))), none, []⟩])
  (.seq (.reg [⟨(some 5), 5, (.mv (.t 1)), none, []⟩,
    ⟨(some 6), 6, (.bin false .geq (.t 5) (.k (.c (.s (.pv (.int .i64 1)))))), none, [0]⟩,
    ⟨(some 7), 7, (.mv (.t 6)), none, [1]⟩,
    ⟨(some 8), 8, (.mv (.t 1)), (some (7, true)), [2]⟩,
    ⟨(some 9), 9, (.fld 0 (.t 2)), (some (7, true)), [2]⟩,
    ⟨(some 10), 10, (.load false 1 (.t 9)), (some (7, true)), [4, 2]⟩,
    ⟨(some 11), 11, (.fld 1 (.t 2)), (some (7, true)), [2]⟩,
    ⟨(some 12), 12, (.load false 1 (.t 11)), (some (7, true)), [6, 2]⟩,
    ⟨(some 13), 13, (.mm false (.t 10) (.t 12)), (some (7, true)), [5, 7, 2]⟩,
    ⟨(some 14), 14, (.bin false .leq (.t 8) (.t 13)), (some (7, true)), [3, 8, 2]⟩,
    ⟨(some 15), 15, (.pick (.t 7) (.t 14) (.k (.c (.s (.pv (.bool false)))))), none, [2, 9]⟩,
    ⟨(some 4), 4, (.mv (.t 15)), none, [10, 2, 0, 1, 2, 3, 4, 5, 6, 7, 8, 9, 10]⟩])
  .ret))
theorem fn53 : FnIs Try.prog 53 ac53 [(.t 4)] 16 := ⟨Try.f53, Try.func53, by kernel_rfl, by kernel_rfl, by kernel_rfl⟩
/- lockkeeper/admit.client -/
def ac54 : ACode := (.seq (.reg [⟨(some 2), 2, (.box 25 4 (.t 0)), none, []⟩,
    ⟨(some 3), 3, (.box 3 1 (.t 1)), none, []⟩,
    ⟨(some 4), 4, (.mv (.k (.c (.s (.pv (.int .i64 0)))))), none, []⟩])
  (.seq (.reg [⟨(some 5), 5, (.fld 2 (.t 2)), none, []⟩,
    ⟨(some 6), 6, (.load false 1 (.t 5)), none, [0]⟩,
    ⟨(some 7), 7, (.clo 95 [(.t 3)]), none, []⟩,
    ⟨(some 8), 8, (.call 94 [(.t 6), (.t 7)]), none, [1, 2]⟩,
    ⟨(some 4), 4, (.mv (.t 8)), none, [3, 3, 0, 1, 2, 3]⟩])
  .ret))
theorem fn54 : FnIs Try.prog 54 ac54 [(.t 4)] 9 := ⟨Try.f54, Try.func54, by kernel_rfl, by kernel_rfl, by kernel_rfl⟩
/- lockkeeper/admit.ticket -/
def ac55 : ACode := (.seq (.reg [⟨(some 2), 2, (.box 25 4 (.t 0)), none, []⟩,
    ⟨(some 3), 3, (.box 3 1 (.t 1)), none, []⟩,
    ⟨(some 4), 4, (.mv (.k (.c (.s (.pv (.int .i64 0)))))), none, []⟩])
  (.seq (.reg [⟨(some 5), 5, (.fld 3 (.t 2)), none, []⟩,
    ⟨(some 6), 6, (.load false 1 (.t 5)), none, [0]⟩,
    ⟨(some 7), 7, (.clo 97 [(.t 3)]), none, []⟩,
    ⟨(some 8), 8, (.call 96 [(.t 6), (.t 7)]), none, [1, 2]⟩,
    ⟨(some 4), 4, (.mv (.t 8)), none, [3, 3, 0, 1, 2, 3]⟩])
  .ret))
theorem fn55 : FnIs Try.prog 55 ac55 [(.t 4)] 9 := ⟨Try.f55, Try.func55, by kernel_rfl, by kernel_rfl, by kernel_rfl⟩
/- slices.Clone[[]lockkeeper/admit.Ticket,lockkeeper/admit.Ticket] -/
def ac56 : ACode := (.seq (.reg [⟨(some 2), 2, (.mv (.k (.c .zc))), none, []⟩])
  (.seq (.seq (.reg [⟨(some 3), 3, (.mv (.t 0)), none, []⟩,
    ⟨(some 4), 4, (.isnil (.t 3)), none, [0]⟩])
  (.cond (.t 4) (.seq (.reg [⟨(some 2), 2, (.mv (.k (.c .zc))), none, []⟩])
  .ret) .skip))
  (.seq (.reg [⟨(some 5), 5, (.bslice 101 2 [(.s (.pv (.int .i64 0))), (.s (.pv (.int .i64 0)))] 0 []), none, []⟩,
    ⟨(some 6), 6, (.mv (.t 0)), none, []⟩,
    ⟨(some 7), 7, (.app 101 2 16 (.t 5) (.t 6)), none, [0, 1]⟩,
    ⟨(some 2), 2, (.mv (.t 7)), none, [2, 2, 0, 1, 2]⟩])
  .ret)))
theorem fn56 : FnIs Try.prog 56 ac56 [(.t 2)] 8 := ⟨Try.f56, Try.func56, by kernel_rfl, by kernel_rfl, by kernel_rfl⟩
/- lockkeeper/admit.enter -/
def ac57 : ACode := (.seq (.reg [⟨(some 1), 1, (.box 25 4 (.t 0)), none, []⟩,
    ⟨(some 2), 2, (.mk 25 4 [[(.s (.pv (.int .i64 0))), (.s (.pv (.int .i64 0))), .zc, .zc]]), none, []⟩,
    ⟨(some 3), 3, (.mv (.k (.c .zc))), none, []⟩])
  (.seq (.reg [⟨(some 4), 4, (.mv (.k (.c .zc))), none, []⟩])
  (.seq (.block 0 (.loop (.seq (.seq (.reg [⟨(some 6), 6, (.load true 4 (.t 1)), none, []⟩,
    ⟨(some 7), 7, (.call 70 [(.t 6)]), none, [0]⟩])
  (.cond (.t 7) .skip (.exit 0)))
  (.block 1 (.seq (.reg [⟨(some 8), 8, (.fld 3 (.t 1)), none, []⟩,
    ⟨(some 9), 9, (.load false 1 (.t 8)), none, [0]⟩,
    ⟨(some 10), 10, (.idx 2 (.t 9) (.k (.c (.s (.pv (.int .i64 0)))))), none, [1]⟩,
    ⟨(some 11), 11, (.load true 2 (.t 10)), none, [2]⟩,
    ⟨(some 5), 5, (.mk 101 2 [[(.s (.pv (.int .i64 0))), (.s (.pv (.int .i64 0)))]]), none, []⟩,
    ⟨none, 40, (.store 2 (.t 5) (.t 11)), none, [4, 3, 0, 1, 2, 3, 4]⟩])
  (.seq (.reg [⟨(some 12), 12, (.fld 3 (.t 1)), none, []⟩,
    ⟨(some 13), 13, (.load false 1 (.t 12)), none, [0]⟩,
    ⟨(some 14), 14, (.sub 2 (.t 13) (some (.k (.c (.s (.pv (.int .i64 1)))))) none), none, [1]⟩,
    ⟨(some 15), 15, (.call 56 [(.t 14)]), none, [2]⟩,
    ⟨(some 16), 16, (.fld 3 (.t 1)), none, [0, 1, 2, 3]⟩,
    ⟨none, 40, (.store 1 (.t 16) (.t 15)), none, [4, 3, 3, 0, 1, 2, 3]⟩])
  (.seq (.draw [⟨(some 17), 17, (.fld 2 (.t 1)), none, []⟩,
    ⟨(some 18), 18, (.load false 1 (.t 17)), none, [0]⟩,
    ⟨(some 19), 19, (.call 62 [(.t 18)]), none, [1]⟩,
    ⟨(some 20), 20, (.fld 0 (.t 5)), none, []⟩,
    ⟨(some 21), 21, (.load false 1 (.t 20)), none, [3]⟩,
    ⟨(some 22), 22, (.fld 1 (.t 5)), none, []⟩,
    ⟨(some 23), 23, (.load false 1 (.t 22)), none, [5]⟩,
    ⟨(some 24), 24, (.build [(.s (.pv (.int .i64 0))), (.s (.pv (.int .i64 0))), (.s (.pv (.int .i64 0)))] [(0, 1, (.t 21)), (1, 1, (.t 23))]), none, [4, 6]⟩,
    ⟨(some 25), 25, (.bslice 59 3 [(.s (.pv (.int .i64 0))), (.s (.pv (.int .i64 0))), (.s (.pv (.int .i64 0)))] 1 [(0, 3, (.t 24))]), none, [7]⟩,
    ⟨(some 26), 26, (.app 59 3 24 (.t 19) (.t 25)), none, [2, 8, 2]⟩,
    ⟨(some 27), 27, (.fld 2 (.t 1)), none, [0, 1, 2, 3, 4, 5, 6, 7, 8, 9]⟩,
    ⟨none, 46, (.store 1 (.t 27) (.t 26)), none, [10, 9, 9, 0, 1, 2, 3, 4, 5, 6, 7, 8, 9]⟩])
  (.reg [⟨(some 28), 28, (.mv (.t 4)), none, []⟩,
    ⟨(some 29), 29, (.fld 0 (.t 5)), none, []⟩,
    ⟨(some 30), 30, (.load false 1 (.t 29)), none, [1]⟩,
    ⟨(some 31), 31, (.bslice 3 1 [(.s (.pv (.int .i64 0)))] 1 [(0, 1, (.t 30))]), none, [2]⟩,
    ⟨(some 32), 32, (.app 3 1 8 (.t 28) (.t 31)), none, [0, 3]⟩,
    ⟨(some 4), 4, (.mv (.t 32)), none, [4, 4, 0, 1, 2, 3, 4]⟩]))))))))
  (.seq (.reg [⟨(some 33), 33, (.load true 4 (.t 1)), none, []⟩,
    ⟨(some 34), 34, (.mv (.t 4)), none, []⟩,
    ⟨none, 37, (.store 4 (.t 2) (.t 33)), none, [0, 0]⟩,
    ⟨(some 3), 3, (.mv (.t 34)), none, [1, 2, 0, 1, 2]⟩])
  .ret))))
theorem fn57 : FnIs Try.prog 57 ac57 [(.cell 2 true 4), (.t 3)] 35 := ⟨Try.f57, Try.func57, by kernel_rfl, by kernel_rfl, by kernel_rfl⟩
/- lockkeeper/lockkeeperref11.Least -/
def ac58 : ACode := (.seq (.reg [⟨(some 1), 1, (.box 29 4 (.t 0)), none, []⟩,
    ⟨(some 2), 2, (.mv (.k (.c (.s (.pv (.int .i64 0)))))), none, []⟩])
  (.seq (.seq (.reg [⟨(some 3), 3, (.fld 0 (.t 1)), none, []⟩,
    ⟨(some 4), 4, (.load false 1 (.t 3)), none, [0]⟩,
    ⟨(some 5), 5, (.fld 1 (.t 1)), none, []⟩,
    ⟨(some 6), 6, (.load false 1 (.t 5)), none, [2]⟩,
    ⟨(some 7), 7, (.bin false .lss (.t 4) (.t 6)), none, [1, 3]⟩])
  (.cond (.t 7) (.seq (.reg [⟨(some 8), 8, (.fld 0 (.t 1)), none, []⟩,
    ⟨(some 9), 9, (.load false 1 (.t 8)), none, [0]⟩,
    ⟨(some 2), 2, (.mv (.t 9)), none, [1, 0, 1]⟩])
  .ret) .skip))
  (.seq (.reg [⟨(some 10), 10, (.fld 1 (.t 1)), none, []⟩,
    ⟨(some 11), 11, (.load false 1 (.t 10)), none, [0]⟩,
    ⟨(some 2), 2, (.mv (.t 11)), none, [1, 0, 1]⟩])
  .ret)))
theorem fn58 : FnIs Try.prog 58 ac58 [(.t 2)] 12 := ⟨Try.f58, Try.func58, by kernel_rfl, by kernel_rfl, by kernel_rfl⟩
/- lockkeeper/lockkeeperref11.In -/
def ac59 : ACode := (.seq (.reg [⟨(some 2), 2, (.box 29 4 (.t 0)), none, []⟩,
    ⟨(some 4), 4, (.mv (.k (.c (.s (.pv (.int .i64 0)))))), none, []⟩])
  (.seq (.reg [⟨(some 5), 5, (.mv (.k (.c (.s (.pv (.int .i64 0)))))), none, []⟩])
  (.seq (.seq (.reg [⟨(some 6), 6, (.mv (.k (.c (.s (.pv (.int .i64 0)))))), none, []⟩])
  (.block 0 (.loop (.seq (.seq (.reg [⟨(some 8), 8, (.mv (.t 6)), none, []⟩,
    ⟨(some 9), 9, (.fld 2 (.t 2)), none, []⟩,
    ⟨(some 10), 10, (.load false 1 (.t 9)), none, [1]⟩,
    ⟨(some 11), 11, (.len (.t 10)), none, [2]⟩,
    ⟨(some 12), 12, (.bin false .lss (.t 8) (.t 11)), none, [0, 3]⟩])
  (.cond (.t 12) .skip (.exit 0)))
  (.seq (.block 1 (.seq (.reg [⟨(some 15), 15, (.fld 2 (.t 2)), none, []⟩,
    ⟨(some 16), 16, (.load false 1 (.t 15)), none, [0]⟩,
    ⟨(some 17), 17, (.mv (.t 6)), none, []⟩,
    ⟨(some 18), 18, (.idx 3 (.t 16) (.t 17)), none, [1, 2]⟩,
    ⟨(some 19), 19, (.fld 0 (.t 18)), none, [3]⟩,
    ⟨(some 20), 20, (.load false 1 (.t 19)), none, [4]⟩,
    ⟨(some 21), 21, (.mv (.t 1)), none, []⟩,
    ⟨(some 22), 22, (.bin false .eql (.t 20) (.t 21)), none, [5, 6]⟩])
  (.cond (.t 22) (.reg [⟨(some 23), 23, (.mv (.t 5)), none, []⟩,
    ⟨(some 24), 24, (.bin false .add (.t 23) (.k (.c (.s (.pv (.int .i64 1)))))), none, [0]⟩,
    ⟨(some 5), 5, (.mv (.t 24)), none, [1, 0, 1]⟩]) .skip)))
  (.reg [⟨(some 13), 13, (.mv (.t 6)), none, []⟩,
    ⟨(some 14), 14, (.bin false .add (.t 13) (.k (.c (.s (.pv (.int .i64 1)))))), none, [0]⟩,
    ⟨(some 6), 6, (.mv (.t 14)), none, [1, 0, 1]⟩]))))))
  (.seq (.seq (.reg [⟨(some 7), 7, (.mv (.k (.c (.s (.pv (.int .i64 0)))))), none, []⟩])
  (.block 2 (.loop (.seq (.seq (.reg [⟨(some 25), 25, (.mv (.t 7)), none, []⟩,
    ⟨(some 26), 26, (.fld 3 (.t 2)), none, []⟩,
    ⟨(some 27), 27, (.load false 1 (.t 26)), none, [1]⟩,
    ⟨(some 28), 28, (.len (.t 27)), none, [2]⟩,
    ⟨(some 29), 29, (.bin false .lss (.t 25) (.t 28)), none, [0, 3]⟩])
  (.cond (.t 29) .skip (.exit 2)))
  (.seq (.block 3 (.seq (.reg [⟨(some 32), 32, (.fld 3 (.t 2)), none, []⟩,
    ⟨(some 33), 33, (.load false 1 (.t 32)), none, [0]⟩,
    ⟨(some 34), 34, (.mv (.t 7)), none, []⟩,
    ⟨(some 35), 35, (.idx 2 (.t 33) (.t 34)), none, [1, 2]⟩,
    ⟨(some 36), 36, (.fld 0 (.t 35)), none, [3]⟩,
    ⟨(some 37), 37, (.load false 1 (.t 36)), none, [4]⟩,
    ⟨(some 38), 38, (.mv (.t 1)), none, []⟩,
    ⟨(some 39), 39, (.bin false .eql (.t 37) (.t 38)), none, [5, 6]⟩])
  (.cond (.t 39) (.reg [⟨(some 40), 40, (.mv (.t 5)), none, []⟩,
    ⟨(some 41), 41, (.bin false .add (.t 40) (.k (.c (.s (.pv (.int .i64 1)))))), none, [0]⟩,
    ⟨(some 5), 5, (.mv (.t 41)), none, [1, 0, 1]⟩]) .skip)))
  (.reg [⟨(some 30), 30, (.mv (.t 7)), none, []⟩,
    ⟨(some 31), 31, (.bin false .add (.t 30) (.k (.c (.s (.pv (.int .i64 1)))))), none, [0]⟩,
    ⟨(some 7), 7, (.mv (.t 31)), none, [1, 0, 1]⟩]))))))
  (.seq (.reg [⟨(some 42), 42, (.mv (.t 5)), none, []⟩,
    ⟨(some 4), 4, (.mv (.t 42)), none, [0, 0]⟩])
  .ret)))))
theorem fn59 : FnIs Try.prog 59 ac59 [(.t 4)] 43 := ⟨Try.f59, Try.func59, by kernel_rfl, by kernel_rfl, by kernel_rfl⟩
/- lockkeeper/lockkeeperref11.let -/
def ac60 : ACode := (.seq (.reg [⟨(some 1), 1, (.box 29 4 (.t 0)), none, []⟩,
    ⟨(some 2), 2, (.mk 29 4 [[(.s (.pv (.int .i64 0))), (.s (.pv (.int .i64 0))), .zc, .zc]]), none, []⟩,
    ⟨(some 3), 3, (.mv (.k (.c .zc))), none, []⟩])
  (.seq (.reg [⟨(some 4), 4, (.mv (.k (.c .zc))), none, []⟩])
  (.seq (.block 0 (.loop (.seq (.seq (.reg [⟨(some 6), 6, (.load true 4 (.t 1)), none, []⟩,
    ⟨(some 7), 7, (.call 65 [(.t 6)]), none, [0]⟩])
  (.cond (.t 7) .skip (.exit 0)))
  (.block 1 (.seq (.reg [⟨(some 5), 5, (.mv (.k (.c .zc))), none, []⟩])
  (.seq (.reg [⟨(some 8), 8, (.mv (.t 5)), none, []⟩,
    ⟨(some 9), 9, (.fld 2 (.t 1)), none, []⟩,
    ⟨(some 10), 10, (.load false 1 (.t 9)), none, [1]⟩,
    ⟨(some 11), 11, (.app 100 3 24 (.t 8) (.t 10)), none, [0, 2]⟩,
    ⟨(some 5), 5, (.mv (.t 11)), none, [3, 3, 0, 1, 2, 3]⟩])
  (.seq (.reg [⟨(some 12), 12, (.mv (.t 4)), none, []⟩,
    ⟨(some 13), 13, (.fld 3 (.t 1)), none, []⟩,
    ⟨(some 14), 14, (.load false 1 (.t 13)), none, [1]⟩,
    ⟨(some 15), 15, (.idx 2 (.t 14) (.k (.c (.s (.pv (.int .i64 0)))))), none, [2]⟩,
    ⟨(some 16), 16, (.fld 0 (.t 15)), none, [3]⟩,
    ⟨(some 17), 17, (.load false 1 (.t 16)), none, [4]⟩,
    ⟨(some 18), 18, (.bslice 3 1 [(.s (.pv (.int .i64 0)))] 1 [(0, 1, (.t 17))]), none, [5]⟩,
    ⟨(some 19), 19, (.app 3 1 8 (.t 12) (.t 18)), none, [0, 6]⟩,
    ⟨(some 4), 4, (.mv (.t 19)), none, [7, 7, 0, 1, 2, 3, 4, 5, 6, 7]⟩])
  (.draw [⟨(some 20), 20, (.fld 0 (.t 1)), none, []⟩,
    ⟨(some 21), 21, (.load false 1 (.t 20)), none, [0]⟩,
    ⟨(some 22), 22, (.fld 1 (.t 1)), none, []⟩,
    ⟨(some 23), 23, (.load false 1 (.t 22)), none, [2]⟩,
    ⟨(some 24), 24, (.mv (.t 5)), none, []⟩,
    ⟨(some 25), 25, (.fld 3 (.t 1)), none, []⟩,
    ⟨(some 26), 26, (.load false 1 (.t 25)), none, [5]⟩,
    ⟨(some 27), 27, (.idx 2 (.t 26) (.k (.c (.s (.pv (.int .i64 0)))))), none, [6]⟩,
    ⟨(some 28), 28, (.fld 0 (.t 27)), none, [7]⟩,
    ⟨(some 29), 29, (.load false 1 (.t 28)), none, [8]⟩,
    ⟨(some 30), 30, (.fld 3 (.t 1)), none, []⟩,
    ⟨(some 31), 31, (.load false 1 (.t 30)), none, [10]⟩,
    ⟨(some 32), 32, (.idx 2 (.t 31) (.k (.c (.s (.pv (.int .i64 0)))))), none, [11]⟩,
    ⟨(some 33), 33, (.fld 1 (.t 32)), none, [12]⟩,
    ⟨(some 34), 34, (.load false 1 (.t 33)), none, [13]⟩,
    ⟨(some 35), 35, (.build [(.s (.pv (.int .i64 0))), (.s (.pv (.int .i64 0))), (.s (.pv (.int .i64 0)))] [(0, 1, (.t 29)), (1, 1, (.t 34))]), none, [9, 14]⟩,
    ⟨(some 36), 36, (.bslice 100 3 [(.s (.pv (.int .i64 0))), (.s (.pv (.int .i64 0))), (.s (.pv (.int .i64 0)))] 1 [(0, 3, (.t 35))]), none, [15]⟩,
    ⟨(some 37), 37, (.app 100 3 24 (.t 24) (.t 36)), none, [4, 16]⟩,
    ⟨(some 38), 38, (.fld 3 (.t 1)), none, []⟩,
    ⟨(some 39), 39, (.load false 1 (.t 38)), none, [18]⟩,
    ⟨(some 40), 40, (.sub 2 (.t 39) (some (.k (.c (.s (.pv (.int .i64 1)))))) none), none, [19]⟩,
    ⟨(some 41), 41, (.build [(.s (.pv (.int .i64 0))), (.s (.pv (.int .i64 0))), .zc, .zc] [(0, 1, (.t 21)), (1, 1, (.t 23)), (2, 1, (.t 37)), (3, 1, (.t 40))]), none, [1, 3, 17, 20]⟩,
    ⟨none, 66, (.store 4 (.t 1) (.t 41)), none, [21, 17, 0, 1, 2, 3, 4, 5, 6, 7, 8, 9, 10, 11, 12, 13, 14, 15, 16, 17, 18, 19, 20, 21]⟩]))))))))
  (.seq (.reg [⟨(some 42), 42, (.load true 4 (.t 1)), none, []⟩,
    ⟨(some 43), 43, (.mv (.t 4)), none, []⟩,
    ⟨none, 46, (.store 4 (.t 2) (.t 42)), none, [0, 0]⟩,
    ⟨(some 3), 3, (.mv (.t 43)), none, [1, 2, 0, 1, 2]⟩])
  .ret))))
theorem fn60 : FnIs Try.prog 60 ac60 [(.cell 2 true 4), (.t 3)] 44 := ⟨Try.f60, Try.func60, by kernel_rfl, by kernel_rfl, by kernel_rfl⟩
/- slices.Clone[[]lockkeeper/bank.Client,lockkeeper/bank.Client] -/
def ac62 : ACode := (.seq (.reg [⟨(some 2), 2, (.mv (.k (.c .zc))), none, []⟩])
  (.seq (.seq (.reg [⟨(some 3), 3, (.mv (.t 0)), none, []⟩,
    ⟨(some 4), 4, (.isnil (.t 3)), none, [0]⟩])
  (.cond (.t 4) (.seq (.reg [⟨(some 2), 2, (.mv (.k (.c .zc))), none, []⟩])
  .ret) .skip))
  (.seq (.reg [⟨(some 5), 5, (.bslice 59 3 [(.s (.pv (.int .i64 0))), (.s (.pv (.int .i64 0))), (.s (.pv (.int .i64 0)))] 0 []), none, []⟩,
    ⟨(some 6), 6, (.mv (.t 0)), none, []⟩,
    ⟨(some 7), 7, (.app 59 3 24 (.t 5) (.t 6)), none, [0, 1]⟩,
    ⟨(some 2), 2, (.mv (.t 7)), none, [2, 2, 0, 1, 2]⟩])
  .ret)))
theorem fn62 : FnIs Try.prog 62 ac62 [(.t 2)] 8 := ⟨Try.f62, Try.func62, by kernel_rfl, by kernel_rfl, by kernel_rfl⟩
/- lockkeeper/lockkeeperref10.Right -/
def ac64 : ACode := (.seq (.reg [⟨(some 2), 2, (.mv (.k (.c (.s (.pv (.bool false)))))), none, []⟩])
  (.seq (.seq (.reg [⟨(some 6), 6, (.mv (.t 0)), none, []⟩,
    ⟨(some 7), 7, (.len (.t 6)), none, [0]⟩,
    ⟨(some 8), 8, (.bin false .gtr (.t 7) (.k (.c (.s (.pv (.int .i64 8)))))), none, [1]⟩])
  (.cond (.t 8) (.seq (.reg [⟨(some 2), 2, (.mv (.k (.c (.s (.pv (.bool false)))))), none, []⟩])
  .ret) .skip))
  (.seq (.seq (.reg [⟨(some 3), 3, (.mv (.k (.c (.s (.pv (.int .i64 0)))))), none, []⟩])
  (.block 0 (.loop (.seq (.seq (.reg [⟨(some 9), 9, (.mv (.t 3)), none, []⟩,
    ⟨(some 10), 10, (.mv (.t 0)), none, []⟩,
    ⟨(some 11), 11, (.len (.t 10)), none, [1]⟩,
    ⟨(some 12), 12, (.bin false .lss (.t 9) (.t 11)), none, [0, 2]⟩])
  (.cond (.t 12) .skip (.exit 0)))
  (.seq (.block 1 (.seq (.reg [⟨(some 15), 15, (.mv (.t 0)), none, []⟩,
    ⟨(some 16), 16, (.mv (.t 3)), none, []⟩,
    ⟨(some 17), 17, (.idx 3 (.t 15) (.t 16)), none, [0, 1]⟩,
    ⟨(some 18), 18, (.load true 3 (.t 17)), none, [2]⟩,
    ⟨(some 4), 4, (.mk 100 3 [[(.s (.pv (.int .i64 0))), (.s (.pv (.int .i64 0))), (.s (.pv (.int .i64 0)))]]), none, []⟩,
    ⟨none, 67, (.store 3 (.t 4) (.t 18)), none, [4, 3, 0, 1, 2, 3, 4]⟩])
  (.seq (.seq (.reg [⟨(some 19), 19, (.fld 0 (.t 4)), none, []⟩,
    ⟨(some 20), 20, (.load false 1 (.t 19)), none, [0]⟩,
    ⟨(some 21), 21, (.bin false .lss (.t 20) (.k (.c (.s (.pv (.int .i64 0)))))), none, [1]⟩,
    ⟨(some 22), 22, (.mv (.t 21)), none, [2]⟩,
    ⟨(some 23), 23, (.fld 0 (.t 4)), (some (22, false)), [3]⟩,
    ⟨(some 24), 24, (.load false 1 (.t 23)), (some (22, false)), [4, 3]⟩,
    ⟨(some 25), 25, (.bin false .gtr (.t 24) (.k (.c (.s (.pv (.int .i64 2147483647)))))), (some (22, false)), [5, 3]⟩,
    ⟨(some 26), 26, (.pick (.t 22) (.k (.c (.s (.pv (.bool true))))) (.t 25)), none, [3, 6]⟩,
    ⟨(some 27), 27, (.mv (.t 26)), none, [7, 3]⟩,
    ⟨(some 28), 28, (.fld 1 (.t 4)), (some (27, false)), [8]⟩,
    ⟨(some 29), 29, (.load false 1 (.t 28)), (some (27, false)), [9, 8]⟩,
    ⟨(some 30), 30, (.bin false .lss (.t 29) (.k (.c (.s (.pv (.int .i64 0)))))), (some (27, false)), [10, 8]⟩,
    ⟨(some 31), 31, (.pick (.t 27) (.k (.c (.s (.pv (.bool true))))) (.t 30)), none, [8, 11]⟩,
    ⟨(some 32), 32, (.mv (.t 31)), none, [12, 8]⟩,
    ⟨(some 33), 33, (.fld 1 (.t 4)), (some (32, false)), [13]⟩,
    ⟨(some 34), 34, (.load false 1 (.t 33)), (some (32, false)), [14, 13]⟩,
    ⟨(some 35), 35, (.bin false .gtr (.t 34) (.k (.c (.s (.pv (.int .i64 100)))))), (some (32, false)), [15, 13]⟩,
    ⟨(some 36), 36, (.pick (.t 32) (.k (.c (.s (.pv (.bool true))))) (.t 35)), none, [13, 16]⟩,
    ⟨(some 37), 37, (.mv (.t 36)), none, [17, 13]⟩,
    ⟨(some 38), 38, (.fld 2 (.t 4)), (some (37, false)), [18]⟩,
    ⟨(some 39), 39, (.load false 1 (.t 38)), (some (37, false)), [19, 18]⟩,
    ⟨(some 40), 40, (.bin false .lss (.t 39) (.k (.c (.s (.pv (.int .i64 0)))))), (some (37, false)), [20, 18]⟩,
    ⟨(some 41), 41, (.pick (.t 37) (.k (.c (.s (.pv (.bool true))))) (.t 40)), none, [18, 21]⟩,
    ⟨(some 42), 42, (.mv (.t 41)), none, [22, 18]⟩,
    ⟨(some 43), 43, (.fld 2 (.t 4)), (some (42, false)), [23]⟩,
    ⟨(some 44), 44, (.load false 1 (.t 43)), (some (42, false)), [24, 23]⟩,
    ⟨(some 45), 45, (.fld 1 (.t 4)), (some (42, false)), [23]⟩,
    ⟨(some 46), 46, (.load false 1 (.t 45)), (some (42, false)), [26, 23]⟩,
    ⟨(some 47), 47, (.bin false .gtr (.t 44) (.t 46)), (some (42, false)), [25, 27, 23]⟩,
    ⟨(some 48), 48, (.pick (.t 42) (.k (.c (.s (.pv (.bool true))))) (.t 47)), none, [23, 28]⟩])
  (.cond (.t 48) (.seq (.reg [⟨(some 2), 2, (.mv (.k (.c (.s (.pv (.bool false)))))), none, []⟩])
  .ret) .skip))
  (.seq (.reg [⟨(some 5), 5, (.mv (.k (.c (.s (.pv (.int .i64 0)))))), none, []⟩])
  (.block 2 (.loop (.seq (.seq (.reg [⟨(some 49), 49, (.mv (.t 5)), none, []⟩,
    ⟨(some 50), 50, (.mv (.t 3)), none, []⟩,
    ⟨(some 51), 51, (.bin false .lss (.t 49) (.t 50)), none, [0, 1]⟩])
  (.cond (.t 51) .skip (.exit 2)))
  (.seq (.block 3 (.seq (.draw [⟨(some 54), 54, (.mv (.t 0)), none, []⟩,
    ⟨(some 55), 55, (.mv (.t 5)), none, []⟩,
    ⟨(some 56), 56, (.idx 3 (.t 54) (.t 55)), none, [0, 1]⟩,
    ⟨(some 57), 57, (.fld 0 (.t 56)), none, [2]⟩,
    ⟨(some 58), 58, (.load false 1 (.t 57)), none, [3]⟩,
    ⟨(some 59), 59, (.fld 0 (.t 4)), none, []⟩,
    ⟨(some 60), 60, (.load false 1 (.t 59)), none, [5]⟩,
    ⟨(some 61), 61, (.bin false .eql (.t 58) (.t 60)), none, [4, 6]⟩])
  (.cond (.t 61) (.seq (.reg [⟨(some 2), 2, (.mv (.k (.c (.s (.pv (.bool false)))))), none, []⟩])
  .ret) .skip)))
  (.reg [⟨(some 52), 52, (.mv (.t 5)), none, []⟩,
    ⟨(some 53), 53, (.bin false .add (.t 52) (.k (.c (.s (.pv (.int .i64 1)))))), none, [0]⟩,
    ⟨(some 5), 5, (.mv (.t 53)), none, [1, 0, 1]⟩])))))))))
  (.reg [⟨(some 13), 13, (.mv (.t 3)), none, []⟩,
    ⟨(some 14), 14, (.bin false .add (.t 13) (.k (.c (.s (.pv (.int .i64 1)))))), none, [0]⟩,
    ⟨(some 3), 3, (.mv (.t 14)), none, [1, 0, 1]⟩]))))))
  (.seq (.reg [⟨(some 2), 2, (.mv (.k (.c (.s (.pv (.bool true)))))), none, []⟩])
  .ret))))
theorem fn64 : FnIs Try.prog 64 ac64 [(.t 2)] 62 := ⟨Try.f64, Try.func64, by kernel_rfl, by kernel_rfl, by kernel_rfl⟩
/- lockkeeper/lockkeeperref11.may -/
def ac65 : ACode := (.seq (.reg [⟨(some 1), 1, (.box 29 4 (.t 0)), none, []⟩,
    ⟨(some 2), 2, (.mv (.k (.c (.s (.pv (.bool false)))))), none, []⟩])
  (.seq (.seq (.reg [⟨(some 5), 5, (.fld 3 (.t 1)), none, []⟩,
    ⟨(some 6), 6, (.load false 1 (.t 5)), none, [0]⟩,
    ⟨(some 7), 7, (.len (.t 6)), none, [1]⟩,
    ⟨(some 8), 8, (.bin false .eql (.t 7) (.k (.c (.s (.pv (.int .i64 0)))))), none, [2]⟩,
    ⟨(some 9), 9, (.mv (.t 8)), none, [3]⟩,
    ⟨(some 10), 10, (.fld 2 (.t 1)), (some (9, false)), [4]⟩,
    ⟨(some 11), 11, (.load false 1 (.t 10)), (some (9, false)), [5, 4]⟩,
    ⟨(some 12), 12, (.len (.t 11)), (some (9, false)), [6, 4]⟩,
    ⟨(some 13), 13, (.bin false .gtr (.t 12) (.k (.c (.s (.pv (.int .i64 7)))))), (some (9, false)), [7, 4]⟩,
    ⟨(some 14), 14, (.pick (.t 9) (.k (.c (.s (.pv (.bool true))))) (.t 13)), none, [4, 8]⟩])
  (.cond (.t 14) (.seq (.reg [⟨(some 2), 2, (.mv (.k (.c (.s (.pv (.bool false)))))), none, []⟩])
  .ret) .skip))
  (.seq (.reg [⟨(some 15), 15, (.fld 3 (.t 1)), none, []⟩,
    ⟨(some 16), 16, (.load false 1 (.t 15)), none, [0]⟩,
    ⟨(some 17), 17, (.idx 2 (.t 16) (.k (.c (.s (.pv (.int .i64 0)))))), none, [1]⟩,
    ⟨(some 18), 18, (.fld 1 (.t 17)), none, [2]⟩,
    ⟨(some 19), 19, (.load false 1 (.t 18)), none, [3]⟩,
    ⟨(some 3), 3, (.mv (.t 19)), none, [4, 0, 1, 2, 3, 4]⟩])
  (.seq (.seq (.reg [⟨(some 4), 4, (.mv (.k (.c (.s (.pv (.int .i64 0)))))), none, []⟩])
  (.block 0 (.loop (.seq (.seq (.reg [⟨(some 20), 20, (.mv (.t 4)), none, []⟩,
    ⟨(some 21), 21, (.fld 2 (.t 1)), none, []⟩,
    ⟨(some 22), 22, (.load false 1 (.t 21)), none, [1]⟩,
    ⟨(some 23), 23, (.len (.t 22)), none, [2]⟩,
    ⟨(some 24), 24, (.bin false .lss (.t 20) (.t 23)), none, [0, 3]⟩])
  (.cond (.t 24) .skip (.exit 0)))
  (.seq (.block 1 (.reg [⟨(some 27), 27, (.mv (.t 3)), none, []⟩,
    ⟨(some 28), 28, (.fld 2 (.t 1)), none, []⟩,
    ⟨(some 29), 29, (.load false 1 (.t 28)), none, [1]⟩,
    ⟨(some 30), 30, (.mv (.t 4)), none, []⟩,
    ⟨(some 31), 31, (.idx 3 (.t 29) (.t 30)), none, [2, 3]⟩,
    ⟨(some 32), 32, (.fld 1 (.t 31)), none, [4]⟩,
    ⟨(some 33), 33, (.load false 1 (.t 32)), none, [5]⟩,
    ⟨(some 34), 34, (.bin false .add (.t 27) (.t 33)), none, [0, 6]⟩,
    ⟨(some 3), 3, (.mv (.t 34)), none, [7, 0, 1, 2, 3, 4, 5, 6, 7]⟩]))
  (.reg [⟨(some 25), 25, (.mv (.t 4)), none, []⟩,
    ⟨(some 26), 26, (.bin false .add (.t 25) (.k (.c (.s (.pv (.int .i64 1)))))), none, [0]⟩,
    ⟨(some 4), 4, (.mv (.t 26)), none, [1, 0, 1]⟩]))))))
  (.seq (.reg [⟨(some 35), 35, (.mv (.t 3)), none, []⟩,
    ⟨(some 36), 36, (.fld 0 (.t 1)), none, []⟩,
    ⟨(some 37), 37, (.load false 1 (.t 36)), none, [1]⟩,
    ⟨(some 38), 38, (.bin false .mul (.k (.c (.s (.pv (.int .i64 2))))) (.t 37)), none, [2]⟩,
    ⟨(some 39), 39, (.bin false .leq (.t 35) (.t 38)), none, [0, 3]⟩,
    ⟨(some 2), 2, (.mv (.t 39)), none, [4, 0, 1, 2, 3, 4]⟩])
  .ret)))))
theorem fn65 : FnIs Try.prog 65 ac65 [(.t 2)] 40 := ⟨Try.f65, Try.func65, by kernel_rfl, by kernel_rfl, by kernel_rfl⟩
/- lockkeeper/lockkeeperref11.Safe -/
def ac66 : ACode := (.seq (.reg [⟨(some 1), 1, (.box 29 4 (.t 0)), none, []⟩,
    ⟨(some 2), 2, (.mv (.k (.c (.s (.pv (.bool false)))))), none, []⟩])
  (.seq (.draw [⟨(some 4), 4, (.fld 0 (.t 1)), none, []⟩,
    ⟨(some 5), 5, (.load false 1 (.t 4)), none, [0]⟩,
    ⟨(some 6), 6, (.load true 4 (.t 1)), none, []⟩,
    ⟨(some 7), 7, (.call 22 [(.t 6)]), none, [2]⟩,
    ⟨(some 8), 8, (.bin false .sub (.t 5) (.t 7)), none, [1, 3]⟩,
    ⟨(some 3), 3, (.mv (.t 8)), none, [4, 3, 0, 1, 2, 3, 4]⟩])
  (.seq (.draw [⟨(some 9), 9, (.mv (.t 3)), none, []⟩,
    ⟨(some 10), 10, (.bin false .geq (.t 9) (.k (.c (.s (.pv (.int .i64 0)))))), none, [0]⟩,
    ⟨(some 11), 11, (.mv (.t 10)), none, [1]⟩,
    ⟨(some 12), 12, (.mv (.t 3)), (some (11, true)), [2]⟩,
    ⟨(some 13), 13, (.fld 2 (.t 1)), (some (11, true)), [2]⟩,
    ⟨(some 14), 14, (.load false 1 (.t 13)), (some (11, true)), [4, 2]⟩,
    ⟨(some 15), 15, (.call 98 [(.t 12), (.t 14)]), (some (11, true)), [3, 5, 2, 2]⟩,
    ⟨(some 16), 16, (.len (.t 15)), (some (11, true)), [6, 2]⟩,
    ⟨(some 17), 17, (.fld 2 (.t 1)), (some (11, true)), [2]⟩,
    ⟨(some 18), 18, (.load false 1 (.t 17)), (some (11, true)), [8, 2]⟩,
    ⟨(some 19), 19, (.len (.t 18)), (some (11, true)), [9, 2]⟩,
    ⟨(some 20), 20, (.bin false .eql (.t 16) (.t 19)), (some (11, true)), [7, 10, 2]⟩,
    ⟨(some 21), 21, (.pick (.t 11) (.t 20) (.k (.c (.s (.pv (.bool false)))))), none, [2, 11]⟩,
    ⟨(some 2), 2, (.mv (.t 21)), none, [12, 6, 0, 1, 2, 3, 4, 5, 6, 7, 8, 9, 10, 11, 12]⟩])
  .ret)))
theorem fn66 : FnIs Try.prog 66 ac66 [(.t 2)] 22 := ⟨Try.f66, Try.func66, by kernel_rfl, by kernel_rfl, by kernel_rfl⟩
/- lockkeeper/bank.Right -/
def ac67 : ACode := (.seq (.reg [⟨(some 2), 2, (.mv (.k (.c (.s (.pv (.bool false)))))), none, []⟩])
  (.seq (.seq (.reg [⟨(some 7), 7, (.mv (.t 0)), none, []⟩,
    ⟨(some 8), 8, (.len (.t 7)), none, [0]⟩,
    ⟨(some 9), 9, (.bin false .gtr (.t 8) (.k (.c (.s (.pv (.int .i64 8)))))), none, [1]⟩])
  (.cond (.t 9) (.seq (.reg [⟨(some 2), 2, (.mv (.k (.c (.s (.pv (.bool false)))))), none, []⟩])
  .ret) .skip))
  (.seq (.seq (.reg [⟨(some 10), 10, (.mv (.t 0)), none, []⟩,
    ⟨(some 11), 11, (.len (.t 10)), none, [0]⟩,
    ⟨(some 12), 12, (.mv (.k (.c (.s (.pv (.int .i64 0)))))), none, []⟩])
  (.block 0 (.loop (.seq (.reg [⟨(some 13), 13, (.bin false .lss (.t 12) (.t 11)), none, []⟩])
  (.seq (.cond (.t 13) .skip (.exit 0))
  (.seq (.block 1 (.seq (.reg [⟨(some 14), 14, (.mv (.t 12)), none, []⟩,
    ⟨(some 15), 15, (.idx 3 (.t 10) (.t 12)), none, []⟩,
    ⟨(some 16), 16, (.load true 3 (.t 15)), none, [1]⟩,
    ⟨(some 4), 4, (.mk 59 3 [[(.s (.pv (.int .i64 0))), (.s (.pv (.int .i64 0))), (.s (.pv (.int .i64 0)))]]), none, []⟩,
    ⟨(some 3), 3, (.mv (.t 14)), none, [0, 0, 1, 2, 3]⟩,
    ⟨none, 67, (.store 3 (.t 4) (.t 16)), none, [3, 2, 4, 0, 1, 2, 3, 4]⟩])
  (.seq (.seq (.reg [⟨(some 17), 17, (.fld 0 (.t 4)), none, []⟩,
    ⟨(some 18), 18, (.load false 1 (.t 17)), none, [0]⟩,
    ⟨(some 19), 19, (.bin false .lss (.t 18) (.k (.c (.s (.pv (.int .i64 0)))))), none, [1]⟩,
    ⟨(some 20), 20, (.mv (.t 19)), none, [2]⟩,
    ⟨(some 21), 21, (.fld 0 (.t 4)), (some (20, false)), [3]⟩,
    ⟨(some 22), 22, (.load false 1 (.t 21)), (some (20, false)), [4, 3]⟩,
    ⟨(some 23), 23, (.bin false .gtr (.t 22) (.k (.c (.s (.pv (.int .i64 2147483647)))))), (some (20, false)), [5, 3]⟩,
    ⟨(some 24), 24, (.pick (.t 20) (.k (.c (.s (.pv (.bool true))))) (.t 23)), none, [3, 6]⟩,
    ⟨(some 25), 25, (.mv (.t 24)), none, [7, 3]⟩,
    ⟨(some 26), 26, (.fld 1 (.t 4)), (some (25, false)), [8]⟩,
    ⟨(some 27), 27, (.load false 1 (.t 26)), (some (25, false)), [9, 8]⟩,
    ⟨(some 28), 28, (.bin false .lss (.t 27) (.k (.c (.s (.pv (.int .i64 0)))))), (some (25, false)), [10, 8]⟩,
    ⟨(some 29), 29, (.pick (.t 25) (.k (.c (.s (.pv (.bool true))))) (.t 28)), none, [8, 11]⟩,
    ⟨(some 30), 30, (.mv (.t 29)), none, [12, 8]⟩,
    ⟨(some 31), 31, (.fld 1 (.t 4)), (some (30, false)), [13]⟩,
    ⟨(some 32), 32, (.load false 1 (.t 31)), (some (30, false)), [14, 13]⟩,
    ⟨(some 33), 33, (.bin false .gtr (.t 32) (.k (.c (.s (.pv (.int .i64 100)))))), (some (30, false)), [15, 13]⟩,
    ⟨(some 34), 34, (.pick (.t 30) (.k (.c (.s (.pv (.bool true))))) (.t 33)), none, [13, 16]⟩,
    ⟨(some 35), 35, (.mv (.t 34)), none, [17, 13]⟩,
    ⟨(some 36), 36, (.fld 2 (.t 4)), (some (35, false)), [18]⟩,
    ⟨(some 37), 37, (.load false 1 (.t 36)), (some (35, false)), [19, 18]⟩,
    ⟨(some 38), 38, (.bin false .lss (.t 37) (.k (.c (.s (.pv (.int .i64 0)))))), (some (35, false)), [20, 18]⟩,
    ⟨(some 39), 39, (.pick (.t 35) (.k (.c (.s (.pv (.bool true))))) (.t 38)), none, [18, 21]⟩,
    ⟨(some 40), 40, (.mv (.t 39)), none, [22, 18]⟩,
    ⟨(some 41), 41, (.fld 2 (.t 4)), (some (40, false)), [23]⟩,
    ⟨(some 42), 42, (.load false 1 (.t 41)), (some (40, false)), [24, 23]⟩,
    ⟨(some 43), 43, (.fld 1 (.t 4)), (some (40, false)), [23]⟩,
    ⟨(some 44), 44, (.load false 1 (.t 43)), (some (40, false)), [26, 23]⟩,
    ⟨(some 45), 45, (.bin false .gtr (.t 42) (.t 44)), (some (40, false)), [25, 27, 23]⟩,
    ⟨(some 46), 46, (.pick (.t 40) (.k (.c (.s (.pv (.bool true))))) (.t 45)), none, [23, 28]⟩])
  (.cond (.t 46) (.seq (.reg [⟨(some 2), 2, (.mv (.k (.c (.s (.pv (.bool false)))))), none, []⟩])
  .ret) .skip))
  (.seq (.reg [⟨(some 47), 47, (.mv (.t 0)), none, []⟩,
    ⟨(some 48), 48, (.mv (.t 3)), none, []⟩,
    ⟨(some 49), 49, (.sub 3 (.t 47) none (some (.t 48))), none, [0, 1]⟩,
    ⟨(some 50), 50, (.len (.t 49)), none, [2]⟩,
    ⟨(some 51), 51, (.mv (.k (.c (.s (.pv (.int .i64 0)))))), none, []⟩])
  (.block 2 (.loop (.seq (.reg [⟨(some 52), 52, (.bin false .lss (.t 51) (.t 50)), none, []⟩])
  (.seq (.cond (.t 52) .skip (.exit 2))
  (.seq (.block 3 (.seq (.reg [⟨(some 53), 53, (.idx 3 (.t 49) (.t 51)), none, []⟩,
    ⟨(some 54), 54, (.load true 3 (.t 53)), none, [0]⟩,
    ⟨(some 6), 6, (.mk 59 3 [[(.s (.pv (.int .i64 0))), (.s (.pv (.int .i64 0))), (.s (.pv (.int .i64 0)))]]), none, []⟩,
    ⟨none, 65, (.store 3 (.t 6) (.t 54)), none, [2, 1, 0, 1, 2]⟩])
  (.seq (.reg [⟨(some 55), 55, (.fld 0 (.t 6)), none, []⟩,
    ⟨(some 56), 56, (.load false 1 (.t 55)), none, [0]⟩,
    ⟨(some 57), 57, (.fld 0 (.t 4)), none, []⟩,
    ⟨(some 58), 58, (.load false 1 (.t 57)), none, [2]⟩,
    ⟨(some 59), 59, (.bin false .eql (.t 56) (.t 58)), none, [1, 3]⟩])
  (.cond (.t 59) (.seq (.reg [⟨(some 2), 2, (.mv (.k (.c (.s (.pv (.bool false)))))), none, []⟩])
  .ret) .skip))))
  (.reg [⟨(some 60), 60, (.bin false .add (.t 51) (.k (.c (.s (.pv (.int .i64 1)))))), none, []⟩,
    ⟨(some 51), 51, (.mv (.t 60)), none, [0]⟩]))))))))))
  (.reg [⟨(some 61), 61, (.bin false .add (.t 12) (.k (.c (.s (.pv (.int .i64 1)))))), none, []⟩,
    ⟨(some 12), 12, (.mv (.t 61)), none, [0]⟩])))))))
  (.seq (.reg [⟨(some 2), 2, (.mv (.k (.c (.s (.pv (.bool true)))))), none, []⟩])
  .ret))))
theorem fn67 : FnIs Try.prog 67 ac67 [(.t 2)] 62 := ⟨Try.f67, Try.func67, by kernel_rfl, by kernel_rfl, by kernel_rfl⟩
/- lockkeeper/admit.people -/
def ac68 : ACode := (.seq (.reg [⟨(some 1), 1, (.box 25 4 (.t 0)), none, []⟩,
    ⟨(some 2), 2, (.mv (.k (.c (.s (.pv (.bool false)))))), none, []⟩])
  (.seq (.seq (.reg [⟨(some 7), 7, (.fld 2 (.t 1)), none, []⟩,
    ⟨(some 8), 8, (.load false 1 (.t 7)), none, [0]⟩,
    ⟨(some 9), 9, (.len (.t 8)), none, [1]⟩,
    ⟨(some 10), 10, (.mv (.k (.c (.s (.pv (.int .i64 0)))))), none, []⟩])
  (.block 0 (.loop (.seq (.reg [⟨(some 11), 11, (.bin false .lss (.t 10) (.t 9)), none, []⟩])
  (.seq (.cond (.t 11) .skip (.exit 0))
  (.seq (.block 1 (.seq (.reg [⟨(some 12), 12, (.idx 3 (.t 8) (.t 10)), none, []⟩,
    ⟨(some 13), 13, (.load true 3 (.t 12)), none, [0]⟩,
    ⟨(some 4), 4, (.mk 59 3 [[(.s (.pv (.int .i64 0))), (.s (.pv (.int .i64 0))), (.s (.pv (.int .i64 0)))]]), none, []⟩,
    ⟨none, 58, (.store 3 (.t 4) (.t 13)), none, [2, 1, 0, 1, 2]⟩])
  (.seq (.reg [⟨(some 14), 14, (.load true 4 (.t 1)), none, []⟩,
    ⟨(some 15), 15, (.fld 1 (.t 4)), none, []⟩,
    ⟨(some 16), 16, (.load false 1 (.t 15)), none, [1]⟩,
    ⟨(some 17), 17, (.call 53 [(.t 14), (.t 16)]), none, [0, 2]⟩,
    ⟨(some 18), 18, (.not (.t 17)), none, [3]⟩])
  (.cond (.t 18) (.seq (.reg [⟨(some 2), 2, (.mv (.k (.c (.s (.pv (.bool false)))))), none, []⟩])
  .ret) .skip))))
  (.reg [⟨(some 19), 19, (.bin false .add (.t 10) (.k (.c (.s (.pv (.int .i64 1)))))), none, []⟩,
    ⟨(some 10), 10, (.mv (.t 19)), none, [0]⟩])))))))
  (.seq (.seq (.reg [⟨(some 20), 20, (.fld 3 (.t 1)), none, []⟩,
    ⟨(some 21), 21, (.load false 1 (.t 20)), none, [0]⟩,
    ⟨(some 22), 22, (.len (.t 21)), none, [1]⟩,
    ⟨(some 23), 23, (.mv (.k (.c (.s (.pv (.int .i64 0)))))), none, []⟩])
  (.block 2 (.loop (.seq (.reg [⟨(some 24), 24, (.bin false .lss (.t 23) (.t 22)), none, []⟩])
  (.seq (.cond (.t 24) .skip (.exit 2))
  (.seq (.block 3 (.seq (.reg [⟨(some 25), 25, (.mv (.t 23)), none, []⟩,
    ⟨(some 26), 26, (.idx 2 (.t 21) (.t 23)), none, []⟩,
    ⟨(some 27), 27, (.load true 2 (.t 26)), none, [1]⟩,
    ⟨(some 6), 6, (.mk 101 2 [[(.s (.pv (.int .i64 0))), (.s (.pv (.int .i64 0)))]]), none, []⟩,
    ⟨(some 5), 5, (.mv (.t 25)), none, [0, 0, 1, 2, 3]⟩,
    ⟨none, 60, (.store 2 (.t 6) (.t 27)), none, [3, 2, 4, 0, 1, 2, 3, 4]⟩])
  (.seq (.reg [⟨(some 28), 28, (.fld 0 (.t 6)), none, []⟩,
    ⟨(some 29), 29, (.load false 1 (.t 28)), none, [0]⟩,
    ⟨(some 30), 30, (.call 52 [(.t 29)]), none, [1]⟩,
    ⟨(some 31), 31, (.not (.t 30)), none, [2]⟩,
    ⟨(some 32), 32, (.mv (.t 31)), none, [3, 2]⟩,
    ⟨(some 33), 33, (.load true 4 (.t 1)), (some (32, false)), [4]⟩,
    ⟨(some 34), 34, (.fld 1 (.t 6)), (some (32, false)), [4]⟩,
    ⟨(some 35), 35, (.load false 1 (.t 34)), (some (32, false)), [6, 4]⟩,
    ⟨(some 36), 36, (.call 53 [(.t 33), (.t 35)]), (some (32, false)), [5, 7, 4, 4]⟩,
    ⟨(some 37), 37, (.not (.t 36)), (some (32, false)), [8, 4]⟩,
    ⟨(some 38), 38, (.pick (.t 32) (.k (.c (.s (.pv (.bool true))))) (.t 37)), none, [4, 9]⟩,
    ⟨(some 39), 39, (.mv (.t 38)), none, [10, 8]⟩,
    ⟨(some 40), 40, (.load true 4 (.t 1)), (some (39, false)), [11]⟩,
    ⟨(some 41), 41, (.fld 0 (.t 6)), (some (39, false)), [11]⟩,
    ⟨(some 42), 42, (.load false 1 (.t 41)), (some (39, false)), [13, 11]⟩,
    ⟨(some 43), 43, (.call 54 [(.t 40), (.t 42)]), (some (39, false)), [12, 14, 11, 11]⟩,
    ⟨(some 44), 44, (.bin false .geq (.t 43) (.k (.c (.s (.pv (.int .i64 0)))))), (some (39, false)), [15, 11]⟩,
    ⟨(some 45), 45, (.pick (.t 39) (.k (.c (.s (.pv (.bool true))))) (.t 44)), none, [11, 16]⟩,
    ⟨(some 46), 46, (.mv (.t 45)), none, [17, 15]⟩,
    ⟨(some 47), 47, (.load true 4 (.t 1)), (some (46, false)), [18]⟩,
    ⟨(some 48), 48, (.fld 0 (.t 6)), (some (46, false)), [18]⟩,
    ⟨(some 49), 49, (.load false 1 (.t 48)), (some (46, false)), [20, 18]⟩,
    ⟨(some 50), 50, (.call 55 [(.t 47), (.t 49)]), (some (46, false)), [19, 21, 18, 18]⟩,
    ⟨(some 51), 51, (.mv (.t 5)), (some (46, false)), [18]⟩,
    ⟨(some 52), 52, (.bin false .lss (.t 50) (.t 51)), (some (46, false)), [22, 23, 18]⟩,
    ⟨(some 53), 53, (.pick (.t 46) (.k (.c (.s (.pv (.bool true))))) (.t 52)), none, [18, 24]⟩])
  (.cond (.t 53) (.seq (.reg [⟨(some 2), 2, (.mv (.k (.c (.s (.pv (.bool false)))))), none, []⟩])
  .ret) .skip))))
  (.reg [⟨(some 54), 54, (.bin false .add (.t 23) (.k (.c (.s (.pv (.int .i64 1)))))), none, []⟩,
    ⟨(some 23), 23, (.mv (.t 54)), none, [0]⟩])))))))
  (.seq (.reg [⟨(some 2), 2, (.mv (.k (.c (.s (.pv (.bool true)))))), none, []⟩])
  .ret))))
theorem fn68 : FnIs Try.prog 68 ac68 [(.t 2)] 55 := ⟨Try.f68, Try.func68, by kernel_rfl, by kernel_rfl, by kernel_rfl⟩
/- lockkeeper/admit.free -/
def ac69 : ACode := (.seq (.reg [⟨(some 1), 1, (.box 25 4 (.t 0)), none, []⟩,
    ⟨(some 2), 2, (.mv (.k (.c (.s (.pv (.int .i64 0)))))), none, []⟩])
  (.seq (.reg [⟨(some 6), 6, (.fld 0 (.t 1)), none, []⟩,
    ⟨(some 7), 7, (.load false 1 (.t 6)), none, [0]⟩,
    ⟨(some 3), 3, (.mv (.t 7)), none, [1, 0, 1]⟩])
  (.seq (.seq (.reg [⟨(some 8), 8, (.fld 2 (.t 1)), none, []⟩,
    ⟨(some 9), 9, (.load false 1 (.t 8)), none, [0]⟩,
    ⟨(some 10), 10, (.len (.t 9)), none, [1]⟩,
    ⟨(some 11), 11, (.mv (.k (.c (.s (.pv (.int .i64 0)))))), none, []⟩])
  (.block 0 (.loop (.seq (.reg [⟨(some 12), 12, (.bin false .lss (.t 11) (.t 10)), none, []⟩])
  (.seq (.cond (.t 12) .skip (.exit 0))
  (.seq (.block 1 (.seq (.reg [⟨(some 13), 13, (.idx 3 (.t 9) (.t 11)), none, []⟩,
    ⟨(some 14), 14, (.load true 3 (.t 13)), none, [0]⟩,
    ⟨(some 5), 5, (.mk 59 3 [[(.s (.pv (.int .i64 0))), (.s (.pv (.int .i64 0))), (.s (.pv (.int .i64 0)))]]), none, []⟩,
    ⟨none, 24, (.store 3 (.t 5) (.t 14)), none, [2, 1, 0, 1, 2]⟩])
  (.reg [⟨(some 15), 15, (.mv (.t 3)), none, []⟩,
    ⟨(some 16), 16, (.fld 2 (.t 5)), none, []⟩,
    ⟨(some 17), 17, (.load false 1 (.t 16)), none, [1]⟩,
    ⟨(some 18), 18, (.bin false .sub (.t 15) (.t 17)), none, [0, 2]⟩,
    ⟨(some 3), 3, (.mv (.t 18)), none, [3, 0, 1, 2, 3]⟩])))
  (.reg [⟨(some 19), 19, (.bin false .add (.t 11) (.k (.c (.s (.pv (.int .i64 1)))))), none, []⟩,
    ⟨(some 11), 11, (.mv (.t 19)), none, [0]⟩])))))))
  (.seq (.reg [⟨(some 20), 20, (.mv (.t 3)), none, []⟩,
    ⟨(some 2), 2, (.mv (.t 20)), none, [0, 0]⟩])
  .ret))))
theorem fn69 : FnIs Try.prog 69 ac69 [(.t 2)] 21 := ⟨Try.f69, Try.func69, by kernel_rfl, by kernel_rfl, by kernel_rfl⟩
/- lockkeeper/admit.mayEnter -/
def ac70 : ACode := (.seq (.reg [⟨(some 1), 1, (.box 25 4 (.t 0)), none, []⟩,
    ⟨(some 2), 2, (.mv (.k (.c (.s (.pv (.bool false)))))), none, []⟩])
  (.seq (.seq (.reg [⟨(some 6), 6, (.fld 3 (.t 1)), none, []⟩,
    ⟨(some 7), 7, (.load false 1 (.t 6)), none, [0]⟩,
    ⟨(some 8), 8, (.len (.t 7)), none, [1]⟩,
    ⟨(some 9), 9, (.bin false .eql (.t 8) (.k (.c (.s (.pv (.int .i64 0)))))), none, [2]⟩,
    ⟨(some 10), 10, (.mv (.t 9)), none, [3]⟩,
    ⟨(some 11), 11, (.fld 2 (.t 1)), (some (10, false)), [4]⟩,
    ⟨(some 12), 12, (.load false 1 (.t 11)), (some (10, false)), [5, 4]⟩,
    ⟨(some 13), 13, (.len (.t 12)), (some (10, false)), [6, 4]⟩,
    ⟨(some 14), 14, (.bin false .geq (.t 13) (.k (.c (.s (.pv (.int .i64 8)))))), (some (10, false)), [7, 4]⟩,
    ⟨(some 15), 15, (.pick (.t 10) (.k (.c (.s (.pv (.bool true))))) (.t 14)), none, [4, 8]⟩])
  (.cond (.t 15) (.seq (.reg [⟨(some 2), 2, (.mv (.k (.c (.s (.pv (.bool false)))))), none, []⟩])
  .ret) .skip))
  (.seq (.reg [⟨(some 16), 16, (.fld 3 (.t 1)), none, []⟩,
    ⟨(some 17), 17, (.load false 1 (.t 16)), none, [0]⟩,
    ⟨(some 18), 18, (.idx 2 (.t 17) (.k (.c (.s (.pv (.int .i64 0)))))), none, [1]⟩,
    ⟨(some 19), 19, (.fld 1 (.t 18)), none, [2]⟩,
    ⟨(some 20), 20, (.load false 1 (.t 19)), none, [3]⟩,
    ⟨(some 3), 3, (.mv (.t 20)), none, [4, 0, 1, 2, 3, 4]⟩])
  (.seq (.seq (.reg [⟨(some 21), 21, (.fld 2 (.t 1)), none, []⟩,
    ⟨(some 22), 22, (.load false 1 (.t 21)), none, [0]⟩,
    ⟨(some 23), 23, (.len (.t 22)), none, [1]⟩,
    ⟨(some 24), 24, (.mv (.k (.c (.s (.pv (.int .i64 0)))))), none, []⟩])
  (.block 0 (.loop (.seq (.reg [⟨(some 25), 25, (.bin false .lss (.t 24) (.t 23)), none, []⟩])
  (.seq (.cond (.t 25) .skip (.exit 0))
  (.seq (.block 1 (.seq (.reg [⟨(some 26), 26, (.idx 3 (.t 22) (.t 24)), none, []⟩,
    ⟨(some 27), 27, (.load true 3 (.t 26)), none, [0]⟩,
    ⟨(some 5), 5, (.mk 59 3 [[(.s (.pv (.int .i64 0))), (.s (.pv (.int .i64 0))), (.s (.pv (.int .i64 0)))]]), none, []⟩,
    ⟨none, 41, (.store 3 (.t 5) (.t 27)), none, [2, 1, 0, 1, 2]⟩])
  (.reg [⟨(some 28), 28, (.mv (.t 3)), none, []⟩,
    ⟨(some 29), 29, (.fld 1 (.t 5)), none, []⟩,
    ⟨(some 30), 30, (.load false 1 (.t 29)), none, [1]⟩,
    ⟨(some 31), 31, (.bin false .add (.t 28) (.t 30)), none, [0, 2]⟩,
    ⟨(some 3), 3, (.mv (.t 31)), none, [3, 0, 1, 2, 3]⟩])))
  (.reg [⟨(some 32), 32, (.bin false .add (.t 24) (.k (.c (.s (.pv (.int .i64 1)))))), none, []⟩,
    ⟨(some 24), 24, (.mv (.t 32)), none, [0]⟩])))))))
  (.seq (.reg [⟨(some 33), 33, (.mv (.t 3)), none, []⟩,
    ⟨(some 34), 34, (.fld 0 (.t 1)), none, []⟩,
    ⟨(some 35), 35, (.load false 1 (.t 34)), none, [1]⟩,
    ⟨(some 36), 36, (.bin false .mul (.k (.c (.s (.pv (.int .i64 2))))) (.t 35)), none, [2]⟩,
    ⟨(some 37), 37, (.bin false .leq (.t 33) (.t 36)), none, [0, 3]⟩,
    ⟨(some 2), 2, (.mv (.t 37)), none, [4, 0, 1, 2, 3, 4]⟩])
  .ret)))))
theorem fn70 : FnIs Try.prog 70 ac70 [(.t 2)] 38 := ⟨Try.f70, Try.func70, by kernel_rfl, by kernel_rfl, by kernel_rfl⟩
/- lockkeeper/admit.hold -/
def ac71 : ACode := (.seq (.reg [⟨(some 3), 3, (.box 25 4 (.t 0)), none, []⟩,
    ⟨(some 6), 6, (.mk 25 4 [[(.s (.pv (.int .i64 0))), (.s (.pv (.int .i64 0))), .zc, .zc]]), none, []⟩])
  (.seq (.reg [⟨(some 7), 7, (.fld 2 (.t 3)), none, []⟩,
    ⟨(some 8), 8, (.load false 1 (.t 7)), none, [0]⟩,
    ⟨(some 9), 9, (.call 62 [(.t 8)]), none, [1]⟩,
    ⟨(some 10), 10, (.fld 2 (.t 3)), none, [0, 1, 2]⟩,
    ⟨none, 26, (.store 1 (.t 10) (.t 9)), none, [3, 2, 2, 0, 1, 2]⟩])
  (.seq (.reg [⟨(some 11), 11, (.fld 2 (.t 3)), none, []⟩,
    ⟨(some 12), 12, (.load false 1 (.t 11)), none, [0]⟩,
    ⟨(some 13), 13, (.mv (.t 1)), none, []⟩,
    ⟨(some 14), 14, (.idx 3 (.t 12) (.t 13)), none, [1, 2]⟩,
    ⟨(some 15), 15, (.fld 2 (.t 14)), none, [3]⟩,
    ⟨(some 16), 16, (.load false 1 (.t 15)), none, [4]⟩,
    ⟨(some 17), 17, (.mv (.t 2)), none, []⟩,
    ⟨(some 18), 18, (.bin false .add (.t 16) (.t 17)), none, [5, 6]⟩,
    ⟨(some 19), 19, (.idx 3 (.t 12) (.t 13)), none, [1, 2, 0, 1, 2, 3, 4, 5, 6, 7]⟩,
    ⟨(some 20), 20, (.fld 2 (.t 19)), none, [8, 0, 1, 2, 3, 4, 5, 6, 7]⟩,
    ⟨none, 32, (.store 1 (.t 20) (.t 18)), none, [9, 7, 0, 1, 2, 3, 4, 5, 6, 7]⟩])
  (.seq (.reg [⟨(some 21), 21, (.load true 4 (.t 3)), none, []⟩,
    ⟨none, 23, (.store 4 (.t 6) (.t 21)), none, [0, 0]⟩])
  .ret))))
theorem fn71 : FnIs Try.prog 71 ac71 [(.cell 6 true 4)] 22 := ⟨Try.f71, Try.func71, by kernel_rfl, by kernel_rfl, by kernel_rfl⟩
/- lockkeeper/lockkeeperref11.Client -/
def ac72 : ACode := (.seq (.reg [⟨(some 2), 2, (.box 29 4 (.t 0)), none, []⟩,
    ⟨(some 4), 4, (.mk 100 3 [[(.s (.pv (.int .i64 0))), (.s (.pv (.int .i64 0))), (.s (.pv (.int .i64 0)))]]), none, []⟩,
    ⟨(some 5), 5, (.mv (.k (.c (.s (.pv (.bool false)))))), none, []⟩])
  (.seq (.seq (.reg [⟨(some 6), 6, (.mv (.k (.c (.s (.pv (.int .i64 0)))))), none, []⟩])
  (.block 0 (.loop (.seq (.seq (.reg [⟨(some 7), 7, (.mv (.t 6)), none, []⟩,
    ⟨(some 8), 8, (.fld 2 (.t 2)), none, []⟩,
    ⟨(some 9), 9, (.load false 1 (.t 8)), none, [1]⟩,
    ⟨(some 10), 10, (.len (.t 9)), none, [2]⟩,
    ⟨(some 11), 11, (.bin false .lss (.t 7) (.t 10)), none, [0, 3]⟩])
  (.cond (.t 11) .skip (.exit 0)))
  (.seq (.block 1 (.seq (.reg [⟨(some 14), 14, (.fld 2 (.t 2)), none, []⟩,
    ⟨(some 15), 15, (.load false 1 (.t 14)), none, [0]⟩,
    ⟨(some 16), 16, (.mv (.t 6)), none, []⟩,
    ⟨(some 17), 17, (.idx 3 (.t 15) (.t 16)), none, [1, 2]⟩,
    ⟨(some 18), 18, (.fld 0 (.t 17)), none, [3]⟩,
    ⟨(some 19), 19, (.load false 1 (.t 18)), none, [4]⟩,
    ⟨(some 20), 20, (.mv (.t 1)), none, []⟩,
    ⟨(some 21), 21, (.bin false .eql (.t 19) (.t 20)), none, [5, 6]⟩])
  (.cond (.t 21) (.seq (.reg [⟨(some 22), 22, (.fld 2 (.t 2)), none, []⟩,
    ⟨(some 23), 23, (.load false 1 (.t 22)), none, [0]⟩,
    ⟨(some 24), 24, (.mv (.t 6)), none, []⟩,
    ⟨(some 25), 25, (.idx 3 (.t 23) (.t 24)), none, [1, 2]⟩,
    ⟨(some 26), 26, (.load true 3 (.t 25)), none, [3]⟩,
    ⟨none, 33, (.store 3 (.t 4) (.t 26)), none, [4, 0, 1, 2, 3, 4]⟩,
    ⟨(some 5), 5, (.mv (.k (.c (.s (.pv (.bool true)))))), none, [5, 0, 1, 2, 3, 4, 5]⟩])
  .ret) .skip)))
  (.reg [⟨(some 12), 12, (.mv (.t 6)), none, []⟩,
    ⟨(some 13), 13, (.bin false .add (.t 12) (.k (.c (.s (.pv (.int .i64 1)))))), none, [0]⟩,
    ⟨(some 6), 6, (.mv (.t 13)), none, [1, 0, 1]⟩]))))))
  (.seq (.reg [⟨(some 27), 27, (.build [(.s (.pv (.int .i64 0))), (.s (.pv (.int .i64 0))), (.s (.pv (.int .i64 0)))] []), none, []⟩,
    ⟨none, 29, (.store 3 (.t 4) (.t 27)), none, [0, 0]⟩,
    ⟨(some 5), 5, (.mv (.k (.c (.s (.pv (.bool false)))))), none, [1, 0, 1]⟩])
  .ret)))
theorem fn72 : FnIs Try.prog 72 ac72 [(.cell 4 true 3), (.t 5)] 28 := ⟨Try.f72, Try.func72, by kernel_rfl, by kernel_rfl, by kernel_rfl⟩
/- lockkeeper/lockkeeperref11.more -/
def ac73 : ACode := (.seq (.reg [⟨(some 3), 3, (.box 29 4 (.t 0)), none, []⟩,
    ⟨(some 6), 6, (.mk 29 4 [[(.s (.pv (.int .i64 0))), (.s (.pv (.int .i64 0))), .zc, .zc]]), none, []⟩])
  (.seq (.reg [⟨(some 10), 10, (.fld 0 (.t 3)), none, []⟩,
    ⟨(some 11), 11, (.load false 1 (.t 10)), none, [0]⟩,
    ⟨(some 12), 12, (.fld 1 (.t 3)), none, []⟩,
    ⟨(some 13), 13, (.load false 1 (.t 12)), none, [2]⟩,
    ⟨(some 14), 14, (.fld 3 (.t 3)), none, []⟩,
    ⟨(some 15), 15, (.load false 1 (.t 14)), none, [4]⟩,
    ⟨(some 16), 16, (.build [(.s (.pv (.int .i64 0))), (.s (.pv (.int .i64 0))), .zc, .zc] [(0, 1, (.t 11)), (1, 1, (.t 13)), (3, 1, (.t 15))]), none, [1, 3, 5]⟩,
    ⟨(some 7), 7, (.mk 29 4 [[(.s (.pv (.int .i64 0))), (.s (.pv (.int .i64 0))), .zc, .zc]]), none, []⟩,
    ⟨none, 53, (.store 4 (.t 7) (.t 16)), none, [7, 6, 0, 1, 2, 3, 4, 5, 6, 7]⟩])
  (.seq (.seq (.reg [⟨(some 8), 8, (.mv (.k (.c (.s (.pv (.int .i64 0)))))), none, []⟩])
  (.block 0 (.loop (.seq (.seq (.reg [⟨(some 17), 17, (.mv (.t 8)), none, []⟩,
    ⟨(some 18), 18, (.fld 2 (.t 3)), none, []⟩,
    ⟨(some 19), 19, (.load false 1 (.t 18)), none, [1]⟩,
    ⟨(some 20), 20, (.len (.t 19)), none, [2]⟩,
    ⟨(some 21), 21, (.bin false .lss (.t 17) (.t 20)), none, [0, 3]⟩])
  (.cond (.t 21) .skip (.exit 0)))
  (.seq (.block 1 (.seq (.reg [⟨(some 24), 24, (.fld 2 (.t 3)), none, []⟩,
    ⟨(some 25), 25, (.load false 1 (.t 24)), none, [0]⟩,
    ⟨(some 26), 26, (.mv (.t 8)), none, []⟩,
    ⟨(some 27), 27, (.idx 3 (.t 25) (.t 26)), none, [1, 2]⟩,
    ⟨(some 28), 28, (.load true 3 (.t 27)), none, [3]⟩,
    ⟨(some 9), 9, (.mk 100 3 [[(.s (.pv (.int .i64 0))), (.s (.pv (.int .i64 0))), (.s (.pv (.int .i64 0)))]]), none, []⟩,
    ⟨none, 51, (.store 3 (.t 9) (.t 28)), none, [5, 4, 0, 1, 2, 3, 4, 5]⟩])
  (.seq (.seq (.reg [⟨(some 29), 29, (.fld 0 (.t 9)), none, []⟩,
    ⟨(some 30), 30, (.load false 1 (.t 29)), none, [0]⟩,
    ⟨(some 31), 31, (.mv (.t 1)), none, []⟩,
    ⟨(some 32), 32, (.bin false .eql (.t 30) (.t 31)), none, [1, 2]⟩])
  (.cond (.t 32) (.reg [⟨(some 33), 33, (.fld 2 (.t 9)), none, []⟩,
    ⟨(some 34), 34, (.load false 1 (.t 33)), none, [0]⟩,
    ⟨(some 35), 35, (.mv (.t 2)), none, []⟩,
    ⟨(some 36), 36, (.bin false .add (.t 34) (.t 35)), none, [1, 2]⟩,
    ⟨(some 37), 37, (.fld 2 (.t 9)), none, [0, 1, 2, 3]⟩,
    ⟨none, 50, (.store 1 (.t 37) (.t 36)), none, [4, 3, 0, 1, 2, 3]⟩]) .skip))
  (.reg [⟨(some 38), 38, (.fld 2 (.t 7)), none, []⟩,
    ⟨(some 39), 39, (.load false 1 (.t 38)), none, [0]⟩,
    ⟨(some 40), 40, (.load true 3 (.t 9)), none, []⟩,
    ⟨(some 41), 41, (.bslice 100 3 [(.s (.pv (.int .i64 0))), (.s (.pv (.int .i64 0))), (.s (.pv (.int .i64 0)))] 1 [(0, 3, (.t 40))]), none, [2]⟩,
    ⟨(some 42), 42, (.app 100 3 24 (.t 39) (.t 41)), none, [1, 3]⟩,
    ⟨(some 43), 43, (.fld 2 (.t 7)), none, [0, 1, 2, 3, 4]⟩,
    ⟨none, 51, (.store 1 (.t 43) (.t 42)), none, [5, 4, 4, 0, 1, 2, 3, 4]⟩]))))
  (.reg [⟨(some 22), 22, (.mv (.t 8)), none, []⟩,
    ⟨(some 23), 23, (.bin false .add (.t 22) (.k (.c (.s (.pv (.int .i64 1)))))), none, [0]⟩,
    ⟨(some 8), 8, (.mv (.t 23)), none, [1, 0, 1]⟩]))))))
  (.seq (.reg [⟨(some 44), 44, (.load true 4 (.t 7)), none, []⟩,
    ⟨none, 46, (.store 4 (.t 6) (.t 44)), none, [0, 0]⟩])
  .ret))))
theorem fn73 : FnIs Try.prog 73 ac73 [(.cell 6 true 4)] 45 := ⟨Try.f73, Try.func73, by kernel_rfl, by kernel_rfl, by kernel_rfl⟩
/- lockkeeper/bank.Order -/
def ac74 : ACode := (.seq (.reg [⟨(some 4), 4, (.mv (.k (.c .zc))), none, []⟩,
    ⟨(some 5), 5, (.mv (.k (.c (.s (.pv (.bool false)))))), none, [0]⟩])
  (.seq (.seq (.reg [⟨(some 10), 10, (.mv (.t 1)), none, []⟩,
    ⟨(some 11), 11, (.call 67 [(.t 10)]), none, [0]⟩,
    ⟨(some 12), 12, (.not (.t 11)), none, [1]⟩,
    ⟨(some 13), 13, (.mv (.t 12)), none, [2, 1]⟩,
    ⟨(some 14), 14, (.mv (.t 0)), (some (13, false)), [3]⟩,
    ⟨(some 15), 15, (.bin false .lss (.t 14) (.k (.c (.s (.pv (.int .i64 0)))))), (some (13, false)), [4, 3]⟩,
    ⟨(some 16), 16, (.pick (.t 13) (.k (.c (.s (.pv (.bool true))))) (.t 15)), none, [3, 5]⟩,
    ⟨(some 17), 17, (.mv (.t 16)), none, [6, 3]⟩,
    ⟨(some 18), 18, (.mv (.t 0)), (some (17, false)), [7]⟩,
    ⟨(some 19), 19, (.bin false .gtr (.t 18) (.k (.c (.s (.pv (.int .i64 1000)))))), (some (17, false)), [8, 7]⟩,
    ⟨(some 20), 20, (.pick (.t 17) (.k (.c (.s (.pv (.bool true))))) (.t 19)), none, [7, 9]⟩])
  (.cond (.t 20) (.seq (.reg [⟨(some 4), 4, (.mv (.k (.c .zc))), none, []⟩,
    ⟨(some 5), 5, (.mv (.k (.c (.s (.pv (.bool false)))))), none, [0, 0]⟩])
  .ret) .skip))
  (.seq (.reg [⟨(some 21), 21, (.mv (.t 1)), none, []⟩,
    ⟨(some 22), 22, (.len (.t 21)), none, [0]⟩,
    ⟨(some 23), 23, (.mkSlice 4 1 1 [(.pv (.bool false))] (.t 22) (.t 22)), none, [1, 1]⟩,
    ⟨(some 6), 6, (.mv (.t 23)), none, [2, 0, 1, 2]⟩])
  (.seq (.reg [⟨(some 7), 7, (.mv (.k (.c .zc))), none, []⟩])
  (.block 0 (.loop (.block 1 (.seq (.reg [⟨(some 25), 25, (.mv (.t 0)), none, []⟩,
    ⟨(some 26), 26, (.mv (.t 1)), none, []⟩,
    ⟨(some 27), 27, (.mv (.t 6)), none, []⟩,
    ⟨(some 28), 28, (.call 99 [(.t 25), (.t 26), (.t 27)]), none, [0, 1, 2]⟩,
    ⟨(some 24), 24, (.mv (.t 28)), none, [3]⟩,
    ⟨(some 29), 29, (.ext 0 (.t 24)), none, [4]⟩,
    ⟨(some 30), 30, (.ext 1 (.t 24)), none, [4]⟩,
    ⟨(some 8), 8, (.mv (.t 29)), none, [5, 3, 0, 1, 2, 3, 4, 5]⟩,
    ⟨(some 9), 9, (.mv (.t 30)), none, [6, 7, 0, 1, 2, 3, 4, 5, 6, 7]⟩])
  (.seq (.seq (.reg [⟨(some 31), 31, (.mv (.t 9)), none, []⟩,
    ⟨(some 32), 32, (.not (.t 31)), none, [0]⟩])
  (.cond (.t 32) (.seq (.reg [⟨(some 33), 33, (.mv (.t 7)), none, []⟩,
    ⟨(some 34), 34, (.mv (.t 7)), none, []⟩,
    ⟨(some 35), 35, (.len (.t 34)), none, [1]⟩,
    ⟨(some 36), 36, (.mv (.t 1)), none, []⟩,
    ⟨(some 37), 37, (.len (.t 36)), none, [3]⟩,
    ⟨(some 38), 38, (.bin false .eql (.t 35) (.t 37)), none, [2, 4]⟩,
    ⟨(some 4), 4, (.mv (.t 33)), none, [0, 0]⟩,
    ⟨(some 5), 5, (.mv (.t 38)), none, [5, 6, 0, 1, 2, 3, 4, 5, 6]⟩])
  .ret) .skip))
  (.seq (.reg [⟨(some 39), 39, (.mv (.t 6)), none, []⟩,
    ⟨(some 40), 40, (.mv (.t 8)), none, []⟩,
    ⟨(some 41), 41, (.idx 1 (.t 39) (.t 40)), none, [0, 1, 0, 1]⟩,
    ⟨none, 56, (.store 1 (.t 41) (.k (.c (.s (.pv (.bool true)))))), none, [2, 0, 1]⟩])
  (.seq (.reg [⟨(some 42), 42, (.mv (.t 7)), none, []⟩,
    ⟨(some 43), 43, (.mv (.t 8)), none, []⟩,
    ⟨(some 44), 44, (.bslice 3 1 [(.s (.pv (.int .i64 0)))] 1 [(0, 1, (.t 43))]), none, [1]⟩,
    ⟨(some 45), 45, (.app 3 1 8 (.t 42) (.t 44)), none, [0, 2]⟩,
    ⟨(some 7), 7, (.mv (.t 45)), none, [3, 3, 0, 1, 2, 3]⟩])
  (.reg [⟨(some 46), 46, (.mv (.t 0)), none, []⟩,
    ⟨(some 47), 47, (.mv (.t 1)), none, []⟩,
    ⟨(some 48), 48, (.mv (.t 8)), none, []⟩,
    ⟨(some 49), 49, (.idx 3 (.t 47) (.t 48)), none, [1, 2]⟩,
    ⟨(some 50), 50, (.fld 2 (.t 49)), none, [3]⟩,
    ⟨(some 51), 51, (.load false 1 (.t 50)), none, [4]⟩,
    ⟨(some 52), 52, (.bin false .add (.t 46) (.t 51)), none, [0, 5]⟩,
    ⟨(some 0), 0, (.mv (.t 52)), none, [6, 0, 1, 2, 3, 4, 5, 6]⟩]))))))))))))
theorem fn74 : FnIs Try.prog 74 ac74 [(.t 4), (.t 5)] 53 := ⟨Try.f74, Try.func74, by kernel_rfl, by kernel_rfl, by kernel_rfl⟩
/- slices.IndexFunc[[]lockkeeper/bank.Client,lockkeeper/bank.Client] -/
def ac94 : ACode := (.seq (.reg [⟨(some 4), 4, (.mv (.k (.c (.s (.pv (.int .i64 0)))))), none, []⟩])
  (.seq (.seq (.reg [⟨(some 6), 6, (.mv (.t 0)), none, []⟩,
    ⟨(some 7), 7, (.len (.t 6)), none, [0]⟩,
    ⟨(some 8), 8, (.mv (.k (.c (.s (.pv (.int .i64 0)))))), none, []⟩])
  (.block 0 (.loop (.seq (.reg [⟨(some 9), 9, (.bin false .lss (.t 8) (.t 7)), none, []⟩])
  (.seq (.cond (.t 9) .skip (.exit 0))
  (.seq (.block 1 (.seq (.reg [⟨(some 10), 10, (.mv (.t 8)), none, []⟩,
    ⟨(some 5), 5, (.mv (.t 10)), none, [0, 0]⟩])
  (.seq (.reg [⟨(some 11), 11, (.mv (.t 1)), none, []⟩,
    ⟨(some 12), 12, (.mv (.t 0)), none, []⟩,
    ⟨(some 13), 13, (.mv (.t 5)), none, []⟩,
    ⟨(some 14), 14, (.idx 3 (.t 12) (.t 13)), none, [1, 2]⟩,
    ⟨(some 15), 15, (.load true 3 (.t 14)), none, [3]⟩,
    ⟨(some 16), 16, (.callv (.t 11) [(.t 15)]), none, [0, 4]⟩])
  (.cond (.t 16) (.seq (.reg [⟨(some 17), 17, (.mv (.t 5)), none, []⟩,
    ⟨(some 4), 4, (.mv (.t 17)), none, [0, 0]⟩])
  .ret) .skip))))
  (.reg [⟨(some 18), 18, (.bin false .add (.t 8) (.k (.c (.s (.pv (.int .i64 1)))))), none, []⟩,
    ⟨(some 8), 8, (.mv (.t 18)), none, [0]⟩])))))))
  (.seq (.reg [⟨(some 4), 4, (.mv (.k (.c (.s (.pv (.int .i64 (-1))))))), none, []⟩])
  .ret)))
theorem fn94 : FnIs Try.prog 94 ac94 [(.t 4)] 19 := ⟨Try.f94, Try.func94, by kernel_rfl, by kernel_rfl, by kernel_rfl⟩
/- lockkeeper/admit.client$1 -/
def ac95 : ACode := (.seq (.reg [⟨(some 2), 2, (.box 59 3 (.t 0)), none, []⟩,
    ⟨(some 3), 3, (.mv (.k (.c (.s (.pv (.bool false)))))), none, []⟩])
  (.seq (.reg [⟨(some 4), 4, (.fld 0 (.t 2)), none, []⟩,
    ⟨(some 5), 5, (.load false 1 (.t 4)), none, [0]⟩,
    ⟨(some 6), 6, (.load false 1 (.t 1)), none, []⟩,
    ⟨(some 7), 7, (.bin false .eql (.t 5) (.t 6)), none, [1, 2]⟩,
    ⟨(some 3), 3, (.mv (.t 7)), none, [3, 0, 1, 2, 3]⟩])
  .ret))
theorem fn95 : FnIs Try.prog 95 ac95 [(.t 3)] 8 := ⟨Try.f95, Try.func95, by kernel_rfl, by kernel_rfl, by kernel_rfl⟩
/- slices.IndexFunc[[]lockkeeper/admit.Ticket,lockkeeper/admit.Ticket] -/
def ac96 : ACode := (.seq (.reg [⟨(some 4), 4, (.mv (.k (.c (.s (.pv (.int .i64 0)))))), none, []⟩])
  (.seq (.seq (.reg [⟨(some 6), 6, (.mv (.t 0)), none, []⟩,
    ⟨(some 7), 7, (.len (.t 6)), none, [0]⟩,
    ⟨(some 8), 8, (.mv (.k (.c (.s (.pv (.int .i64 0)))))), none, []⟩])
  (.block 0 (.loop (.seq (.reg [⟨(some 9), 9, (.bin false .lss (.t 8) (.t 7)), none, []⟩])
  (.seq (.cond (.t 9) .skip (.exit 0))
  (.seq (.block 1 (.seq (.reg [⟨(some 10), 10, (.mv (.t 8)), none, []⟩,
    ⟨(some 5), 5, (.mv (.t 10)), none, [0, 0]⟩])
  (.seq (.reg [⟨(some 11), 11, (.mv (.t 1)), none, []⟩,
    ⟨(some 12), 12, (.mv (.t 0)), none, []⟩,
    ⟨(some 13), 13, (.mv (.t 5)), none, []⟩,
    ⟨(some 14), 14, (.idx 2 (.t 12) (.t 13)), none, [1, 2]⟩,
    ⟨(some 15), 15, (.load true 2 (.t 14)), none, [3]⟩,
    ⟨(some 16), 16, (.callv (.t 11) [(.t 15)]), none, [0, 4]⟩])
  (.cond (.t 16) (.seq (.reg [⟨(some 17), 17, (.mv (.t 5)), none, []⟩,
    ⟨(some 4), 4, (.mv (.t 17)), none, [0, 0]⟩])
  .ret) .skip))))
  (.reg [⟨(some 18), 18, (.bin false .add (.t 8) (.k (.c (.s (.pv (.int .i64 1)))))), none, []⟩,
    ⟨(some 8), 8, (.mv (.t 18)), none, [0]⟩])))))))
  (.seq (.reg [⟨(some 4), 4, (.mv (.k (.c (.s (.pv (.int .i64 (-1))))))), none, []⟩])
  .ret)))
theorem fn96 : FnIs Try.prog 96 ac96 [(.t 4)] 19 := ⟨Try.f96, Try.func96, by kernel_rfl, by kernel_rfl, by kernel_rfl⟩
/- lockkeeper/admit.ticket$1 -/
def ac97 : ACode := (.seq (.reg [⟨(some 2), 2, (.box 101 2 (.t 0)), none, []⟩,
    ⟨(some 3), 3, (.mv (.k (.c (.s (.pv (.bool false)))))), none, []⟩])
  (.seq (.reg [⟨(some 4), 4, (.fld 0 (.t 2)), none, []⟩,
    ⟨(some 5), 5, (.load false 1 (.t 4)), none, [0]⟩,
    ⟨(some 6), 6, (.load false 1 (.t 1)), none, []⟩,
    ⟨(some 7), 7, (.bin false .eql (.t 5) (.t 6)), none, [1, 2]⟩,
    ⟨(some 3), 3, (.mv (.t 7)), none, [3, 0, 1, 2, 3]⟩])
  .ret))
theorem fn97 : FnIs Try.prog 97 ac97 [(.t 3)] 8 := ⟨Try.f97, Try.func97, by kernel_rfl, by kernel_rfl, by kernel_rfl⟩
/- lockkeeper/lockkeeperref10.Order -/
def ac98 : ACode := (.seq (.reg [⟨(some 4), 4, (.mv (.k (.c .zc))), none, []⟩])
  (.seq (.reg [⟨(some 5), 5, (.mv (.k (.c .zc))), none, []⟩])
  (.seq (.reg [⟨(some 10), 10, (.mv (.t 1)), none, []⟩,
    ⟨(some 11), 11, (.len (.t 10)), none, [0]⟩,
    ⟨(some 12), 12, (.mkSlice 4 1 1 [(.pv (.bool false))] (.t 11) (.t 11)), none, [1, 1]⟩,
    ⟨(some 6), 6, (.mv (.t 12)), none, [2, 0, 1, 2]⟩])
  (.seq (.seq (.reg [⟨(some 7), 7, (.mv (.k (.c (.s (.pv (.int .i64 0)))))), none, []⟩])
  (.block 0 (.loop (.seq (.seq (.reg [⟨(some 13), 13, (.mv (.t 7)), none, []⟩,
    ⟨(some 14), 14, (.mv (.t 1)), none, []⟩,
    ⟨(some 15), 15, (.len (.t 14)), none, [1]⟩,
    ⟨(some 16), 16, (.bin false .lss (.t 13) (.t 15)), none, [0, 2]⟩])
  (.cond (.t 16) .skip (.exit 0)))
  (.seq (.block 1 (.seq (.reg [⟨(some 8), 8, (.mv (.k (.c (.s (.pv (.int .i64 (-1))))))), none, []⟩])
  (.seq (.seq (.reg [⟨(some 19), 19, (.mv (.t 1)), none, []⟩,
    ⟨(some 20), 20, (.len (.t 19)), none, [0]⟩,
    ⟨(some 21), 21, (.bin false .sub (.t 20) (.k (.c (.s (.pv (.int .i64 1)))))), none, [1]⟩,
    ⟨(some 9), 9, (.mv (.t 21)), none, [2, 0, 1, 2]⟩])
  (.block 2 (.loop (.seq (.seq (.reg [⟨(some 22), 22, (.mv (.t 9)), none, []⟩,
    ⟨(some 23), 23, (.bin false .geq (.t 22) (.k (.c (.s (.pv (.int .i64 0)))))), none, [0]⟩])
  (.cond (.t 23) .skip (.exit 2)))
  (.seq (.block 3 (.seq (.draw [⟨(some 26), 26, (.mv (.t 6)), none, []⟩,
    ⟨(some 27), 27, (.mv (.t 9)), none, []⟩,
    ⟨(some 28), 28, (.idx 1 (.t 26) (.t 27)), none, [0, 1]⟩,
    ⟨(some 29), 29, (.load false 1 (.t 28)), none, [2]⟩,
    ⟨(some 30), 30, (.not (.t 29)), none, [3]⟩,
    ⟨(some 31), 31, (.mv (.t 30)), none, [4]⟩,
    ⟨(some 32), 32, (.mv (.t 1)), (some (31, true)), [5]⟩,
    ⟨(some 33), 33, (.mv (.t 9)), (some (31, true)), [5]⟩,
    ⟨(some 34), 34, (.idx 3 (.t 32) (.t 33)), (some (31, true)), [6, 7, 5]⟩,
    ⟨(some 35), 35, (.fld 1 (.t 34)), (some (31, true)), [8, 5]⟩,
    ⟨(some 36), 36, (.load false 1 (.t 35)), (some (31, true)), [9, 5]⟩,
    ⟨(some 37), 37, (.mv (.t 1)), (some (31, true)), [5]⟩,
    ⟨(some 38), 38, (.mv (.t 9)), (some (31, true)), [5]⟩,
    ⟨(some 39), 39, (.idx 3 (.t 37) (.t 38)), (some (31, true)), [11, 12, 5]⟩,
    ⟨(some 40), 40, (.fld 2 (.t 39)), (some (31, true)), [13, 5]⟩,
    ⟨(some 41), 41, (.load false 1 (.t 40)), (some (31, true)), [14, 5]⟩,
    ⟨(some 42), 42, (.bin false .sub (.t 36) (.t 41)), (some (31, true)), [10, 15, 5]⟩,
    ⟨(some 43), 43, (.mv (.t 0)), (some (31, true)), [5]⟩,
    ⟨(some 44), 44, (.bin false .leq (.t 42) (.t 43)), (some (31, true)), [16, 17, 5]⟩,
    ⟨(some 45), 45, (.pick (.t 31) (.t 44) (.k (.c (.s (.pv (.bool false)))))), none, [5, 18]⟩])
  (.cond (.t 45) (.reg [⟨(some 46), 46, (.mv (.t 9)), none, []⟩,
    ⟨(some 8), 8, (.mv (.t 46)), none, [0, 0]⟩]) .skip)))
  (.reg [⟨(some 24), 24, (.mv (.t 9)), none, []⟩,
    ⟨(some 25), 25, (.bin false .sub (.t 24) (.k (.c (.s (.pv (.int .i64 1)))))), none, [0]⟩,
    ⟨(some 9), 9, (.mv (.t 25)), none, [1, 0, 1]⟩]))))))
  (.seq (.seq (.reg [⟨(some 47), 47, (.mv (.t 8)), none, []⟩,
    ⟨(some 48), 48, (.bin false .lss (.t 47) (.k (.c (.s (.pv (.int .i64 0)))))), none, [0]⟩])
  (.cond (.t 48) (.seq (.reg [⟨(some 49), 49, (.mv (.t 5)), none, []⟩,
    ⟨(some 4), 4, (.mv (.t 49)), none, [0, 0]⟩])
  .ret) .skip))
  (.seq (.reg [⟨(some 50), 50, (.mv (.t 6)), none, []⟩,
    ⟨(some 51), 51, (.mv (.t 8)), none, []⟩,
    ⟨(some 52), 52, (.idx 1 (.t 50) (.t 51)), none, [0, 1, 0, 1]⟩,
    ⟨none, 68, (.store 1 (.t 52) (.k (.c (.s (.pv (.bool true)))))), none, [2, 0, 1]⟩])
  (.seq (.reg [⟨(some 53), 53, (.mv (.t 0)), none, []⟩,
    ⟨(some 54), 54, (.mv (.t 1)), none, []⟩,
    ⟨(some 55), 55, (.mv (.t 8)), none, []⟩,
    ⟨(some 56), 56, (.idx 3 (.t 54) (.t 55)), none, [1, 2]⟩,
    ⟨(some 57), 57, (.fld 2 (.t 56)), none, [3]⟩,
    ⟨(some 58), 58, (.load false 1 (.t 57)), none, [4]⟩,
    ⟨(some 59), 59, (.bin false .add (.t 53) (.t 58)), none, [0, 5]⟩,
    ⟨(some 0), 0, (.mv (.t 59)), none, [6, 0, 1, 2, 3, 4, 5, 6]⟩])
  (.reg [⟨(some 60), 60, (.mv (.t 5)), none, []⟩,
    ⟨(some 61), 61, (.mv (.t 8)), none, []⟩,
    ⟨(some 62), 62, (.bslice 3 1 [(.s (.pv (.int .i64 0)))] 1 [(0, 1, (.t 61))]), none, [1]⟩,
    ⟨(some 63), 63, (.app 3 1 8 (.t 60) (.t 62)), none, [0, 2]⟩,
    ⟨(some 5), 5, (.mv (.t 63)), none, [3, 3, 0, 1, 2, 3]⟩])))))))
  (.reg [⟨(some 17), 17, (.mv (.t 7)), none, []⟩,
    ⟨(some 18), 18, (.bin false .add (.t 17) (.k (.c (.s (.pv (.int .i64 1)))))), none, [0]⟩,
    ⟨(some 7), 7, (.mv (.t 18)), none, [1, 0, 1]⟩]))))))
  (.seq (.reg [⟨(some 64), 64, (.mv (.t 5)), none, []⟩,
    ⟨(some 4), 4, (.mv (.t 64)), none, [0, 0]⟩])
  .ret)))))
theorem fn98 : FnIs Try.prog 98 ac98 [(.t 4)] 65 := ⟨Try.f98, Try.func98, by kernel_rfl, by kernel_rfl, by kernel_rfl⟩
/- lockkeeper/bank.next -/
def ac99 : ACode := (.seq (.reg [⟨(some 6), 6, (.mv (.k (.c (.s (.pv (.int .i64 0)))))), none, []⟩,
    ⟨(some 7), 7, (.mv (.k (.c (.s (.pv (.bool false)))))), none, [0]⟩])
  (.seq (.seq (.reg [⟨(some 10), 10, (.mv (.t 1)), none, []⟩,
    ⟨(some 11), 11, (.len (.t 10)), none, [0]⟩,
    ⟨(some 12), 12, (.mv (.k (.c (.s (.pv (.int .i64 0)))))), none, []⟩])
  (.block 0 (.loop (.seq (.reg [⟨(some 13), 13, (.bin false .lss (.t 12) (.t 11)), none, []⟩])
  (.seq (.cond (.t 13) .skip (.exit 0))
  (.seq (.block 1 (.seq (.reg [⟨(some 14), 14, (.mv (.t 12)), none, []⟩,
    ⟨(some 15), 15, (.idx 3 (.t 10) (.t 12)), none, []⟩,
    ⟨(some 16), 16, (.load true 3 (.t 15)), none, [1]⟩,
    ⟨(some 9), 9, (.mk 59 3 [[(.s (.pv (.int .i64 0))), (.s (.pv (.int .i64 0))), (.s (.pv (.int .i64 0)))]]), none, []⟩,
    ⟨(some 8), 8, (.mv (.t 14)), none, [0, 0, 1, 2, 3]⟩,
    ⟨none, 38, (.store 3 (.t 9) (.t 16)), none, [3, 2, 4, 0, 1, 2, 3, 4]⟩])
  (.seq (.reg [⟨(some 17), 17, (.mv (.t 2)), none, []⟩,
    ⟨(some 18), 18, (.mv (.t 8)), none, []⟩,
    ⟨(some 19), 19, (.idx 1 (.t 17) (.t 18)), none, [0, 1]⟩,
    ⟨(some 20), 20, (.load false 1 (.t 19)), none, [2]⟩,
    ⟨(some 21), 21, (.not (.t 20)), none, [3]⟩,
    ⟨(some 22), 22, (.mv (.t 21)), none, [4]⟩,
    ⟨(some 23), 23, (.fld 1 (.t 9)), (some (22, true)), [5]⟩,
    ⟨(some 24), 24, (.load false 1 (.t 23)), (some (22, true)), [6, 5]⟩,
    ⟨(some 25), 25, (.fld 2 (.t 9)), (some (22, true)), [5]⟩,
    ⟨(some 26), 26, (.load false 1 (.t 25)), (some (22, true)), [8, 5]⟩,
    ⟨(some 27), 27, (.bin false .sub (.t 24) (.t 26)), (some (22, true)), [7, 9, 5]⟩,
    ⟨(some 28), 28, (.mv (.t 0)), (some (22, true)), [5]⟩,
    ⟨(some 29), 29, (.bin false .leq (.t 27) (.t 28)), (some (22, true)), [10, 11, 5]⟩,
    ⟨(some 30), 30, (.pick (.t 22) (.t 29) (.k (.c (.s (.pv (.bool false)))))), none, [5, 12]⟩])
  (.cond (.t 30) (.seq (.reg [⟨(some 31), 31, (.mv (.t 8)), none, []⟩,
    ⟨(some 6), 6, (.mv (.t 31)), none, [0, 0]⟩,
    ⟨(some 7), 7, (.mv (.k (.c (.s (.pv (.bool true)))))), none, [1, 0, 1]⟩])
  .ret) .skip))))
  (.reg [⟨(some 32), 32, (.bin false .add (.t 12) (.k (.c (.s (.pv (.int .i64 1)))))), none, []⟩,
    ⟨(some 12), 12, (.mv (.t 32)), none, [0]⟩])))))))
  (.seq (.reg [⟨(some 6), 6, (.mv (.k (.c (.s (.pv (.int .i64 0)))))), none, []⟩,
    ⟨(some 7), 7, (.mv (.k (.c (.s (.pv (.bool false)))))), none, [0, 0]⟩])
  .ret)))
theorem fn99 : FnIs Try.prog 99 ac99 [(.t 6), (.t 7)] 33 := ⟨Try.f99, Try.func99, by kernel_rfl, by kernel_rfl, by kernel_rfl⟩

end Go.Proofs.Yteghmlafodkfpaa
