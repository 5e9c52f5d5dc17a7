/- THE PROGRAM's functions, as the abstract machine's code (printed by wip/tools/code.py out of the translation). No condition. -/
import Derived.Test.YteghmlafodkfpaaAm22
import Derived.Test.YteghmlafodkfpaaProg
import Derived.KernelRfl
namespace Go.Proofs.Yteghmlafodkfpaa
set_option maxRecDepth 100000
/- lockkeeper/lockkeeperlaw12.JournalPlans -/
def ac9 : ACode := (.seq (.reg [⟨(some 3), 3, (.box 68 2 (.t 0)), none, []⟩,
    ⟨(some 6), 6, (.mv (.k (.c (.s (.pv (.bool false)))))), none, []⟩])
  (.seq (.seq (.reg [⟨(some 15), 15, (.load true 2 (.t 3)), none, []⟩,
    ⟨(some 16), 16, (.call 33 [(.t 15)]), none, [0]⟩,
    ⟨(some 17), 17, (.not (.t 16)), none, [1]⟩,
    ⟨(some 18), 18, (.mv (.t 17)), none, [2, 1]⟩,
    ⟨(some 19), 19, (.mv (.t 2)), (some (18, false)), [3]⟩,
    ⟨(some 20), 20, (.slen (.t 19)), (some (18, false)), [4, 3]⟩,
    ⟨(some 21), 21, (.bin false .gtr (.t 20) (.k (.c (.s (.pv (.int .i64 100)))))), (some (18, false)), [5, 3]⟩,
    ⟨(some 22), 22, (.pick (.t 18) (.k (.c (.s (.pv (.bool true))))) (.t 21)), none, [3, 6]⟩])
  (.cond (.t 22) (.seq (.reg [⟨(some 23), 23, (.call 34 []), none, []⟩,
    ⟨(some 6), 6, (.mv (.t 23)), none, [0, 0, 0]⟩])
  .ret) .skip))
  (.seq (.reg [⟨(some 25), 25, (.load true 2 (.t 3)), none, []⟩,
    ⟨(some 26), 26, (.mv (.t 1)), none, []⟩,
    ⟨(some 27), 27, (.mv (.t 2)), none, []⟩,
    ⟨(some 28), 28, (.call 35 [(.t 25), (.t 26), (.t 27)]), none, [0, 1, 2]⟩,
    ⟨(some 24), 24, (.mv (.t 28)), none, [3]⟩,
    ⟨(some 29), 29, (.ext 0 (.t 24)), none, [4]⟩,
    ⟨(some 30), 30, (.ext 1 (.t 24)), none, [4]⟩,
    ⟨(some 7), 7, (.mv (.t 29)), none, [5, 3, 0, 1, 2, 3, 4, 5]⟩,
    ⟨(some 8), 8, (.mv (.t 30)), none, [6, 7, 0, 1, 2, 3, 4, 5, 6, 7]⟩])
  (.seq (.reg [⟨(some 32), 32, (.load true 2 (.t 3)), none, []⟩,
    ⟨(some 33), 33, (.mv (.t 1)), none, []⟩,
    ⟨(some 34), 34, (.mv (.t 2)), none, []⟩,
    ⟨(some 35), 35, (.call 36 [(.t 32), (.t 33), (.t 34)]), none, [0, 1, 2]⟩,
    ⟨(some 31), 31, (.mv (.t 35)), none, [3]⟩,
    ⟨(some 36), 36, (.ext 0 (.t 31)), none, [4]⟩,
    ⟨(some 37), 37, (.ext 1 (.t 31)), none, [4]⟩,
    ⟨(some 9), 9, (.mk 68 2 [[.zc, .zc]]), none, []⟩,
    ⟨none, 137, (.store 2 (.t 9) (.t 36)), none, [7, 5, 3, 0, 1, 2, 3, 4, 5, 7]⟩,
    ⟨(some 10), 10, (.mv (.t 37)), none, [6, 8, 0, 1, 2, 3, 4, 5, 6, 7, 8]⟩])
  (.seq (.reg [⟨(some 39), 39, (.load true 2 (.t 3)), none, []⟩,
    ⟨(some 40), 40, (.mv (.t 1)), none, []⟩,
    ⟨(some 41), 41, (.call 37 [(.t 39), (.t 40)]), none, [0, 1]⟩,
    ⟨(some 38), 38, (.mv (.t 41)), none, [2]⟩,
    ⟨(some 42), 42, (.ext 0 (.t 38)), none, [3]⟩,
    ⟨(some 43), 43, (.ext 1 (.t 38)), none, [3]⟩,
    ⟨(some 11), 11, (.mv (.t 42)), none, [4, 2, 0, 1, 2, 3, 4]⟩,
    ⟨(some 12), 12, (.mv (.t 43)), none, [5, 6, 0, 1, 2, 3, 4, 5, 6]⟩])
  (.seq (.reg [⟨(some 44), 44, (.load true 2 (.t 3)), none, []⟩,
    ⟨(some 45), 45, (.call 38 [(.t 44)]), none, [0]⟩,
    ⟨(some 46), 46, (.mv (.t 45)), none, [1, 1]⟩,
    ⟨(some 47), 47, (.mv (.t 1)), (some (46, true)), [2]⟩,
    ⟨(some 48), 48, (.bin false .geq (.t 47) (.k (.c (.s (.pv (.int .i64 1)))))), (some (46, true)), [3, 2]⟩,
    ⟨(some 49), 49, (.pick (.t 46) (.t 48) (.k (.c (.s (.pv (.bool false)))))), none, [2, 4]⟩,
    ⟨(some 50), 50, (.mv (.t 49)), none, [5, 2]⟩,
    ⟨(some 51), 51, (.mv (.t 1)), (some (50, true)), [6]⟩,
    ⟨(some 52), 52, (.bin false .leq (.t 51) (.k (.c (.s (.pv (.int .i64 16)))))), (some (50, true)), [7, 6]⟩,
    ⟨(some 53), 53, (.pick (.t 50) (.t 52) (.k (.c (.s (.pv (.bool false)))))), none, [6, 8]⟩,
    ⟨(some 13), 13, (.mv (.t 53)), none, [9, 6, 0, 1, 2, 3, 4, 5, 6, 7, 8, 9]⟩])
  (.seq (.seq (.reg [⟨(some 54), 54, (.mv (.t 13)), none, []⟩,
    ⟨(some 55), 55, (.not (.t 54)), none, [0]⟩,
    ⟨(some 56), 56, (.mv (.t 55)), none, [1]⟩,
    ⟨(some 57), 57, (.mv (.t 11)), (some (56, true)), [2]⟩,
    ⟨(some 58), 58, (.bin false .neq (.t 57) (.k (.c (.s (.pv (.string ⟨#[]⟩)))))), (some (56, true)), [3, 2]⟩,
    ⟨(some 59), 59, (.mv (.t 58)), (some (56, true)), [4, 2, 2]⟩,
    ⟨(some 60), 60, (.mv (.t 12)), (some (59, false)), [5]⟩,
    ⟨(some 61), 61, (.bin false .neq (.t 60) (.k (.c (.s (.pv (.int .i64 1)))))), (some (59, false)), [6, 5]⟩,
    ⟨(some 62), 62, (.pick (.t 59) (.k (.c (.s (.pv (.bool true))))) (.t 61)), (some (56, true)), [5, 7, 2]⟩,
    ⟨(some 63), 63, (.pick (.t 56) (.t 62) (.k (.c (.s (.pv (.bool false)))))), none, [2, 8]⟩,
    ⟨(some 64), 64, (.mv (.t 63)), none, [9, 5]⟩,
    ⟨(some 65), 65, (.mv (.t 13)), (some (64, false)), [10]⟩,
    ⟨(some 66), 66, (.mv (.t 65)), (some (64, false)), [11, 10, 10]⟩,
    ⟨(some 67), 67, (.mv (.t 11)), (some (66, true)), [12]⟩,
    ⟨(some 68), 68, (.load true 2 (.t 3)), (some (66, true)), [12]⟩,
    ⟨(some 69), 69, (.mv (.t 1)), (some (66, true)), [12]⟩,
    ⟨(some 70), 70, (.call 39 [(.t 68), (.t 69)]), (some (66, true)), [14, 15, 12, 12]⟩,
    ⟨(some 71), 71, (.bin false .neq (.t 67) (.t 70)), (some (66, true)), [13, 16, 12]⟩,
    ⟨(some 72), 72, (.mv (.t 71)), (some (66, true)), [17, 16, 12]⟩,
    ⟨(some 73), 73, (.mv (.t 12)), (some (72, false)), [18]⟩,
    ⟨(some 74), 74, (.bin false .neq (.t 73) (.k (.c (.s (.pv (.int .i64 0)))))), (some (72, false)), [19, 18]⟩,
    ⟨(some 75), 75, (.pick (.t 72) (.k (.c (.s (.pv (.bool true))))) (.t 74)), (some (66, true)), [18, 20, 12]⟩,
    ⟨(some 76), 76, (.pick (.t 66) (.t 75) (.k (.c (.s (.pv (.bool false)))))), (some (64, false)), [12, 21, 10]⟩,
    ⟨(some 77), 77, (.pick (.t 64) (.k (.c (.s (.pv (.bool true))))) (.t 76)), none, [10, 22]⟩])
  (.cond (.t 77) (.seq (.reg [⟨(some 6), 6, (.mv (.k (.c (.s (.pv (.bool false)))))), none, []⟩])
  .ret) .skip))
  (.seq (.seq (.reg [⟨(some 78), 78, (.mv (.t 13)), none, []⟩,
    ⟨(some 79), 79, (.not (.t 78)), none, [0]⟩,
    ⟨(some 80), 80, (.mv (.t 79)), none, [1]⟩,
    ⟨(some 81), 81, (.mv (.t 2)), (some (80, false)), [2]⟩,
    ⟨(some 82), 82, (.slen (.t 81)), (some (80, false)), [3, 2]⟩,
    ⟨(some 83), 83, (.bin false .neq (.t 82) (.k (.c (.s (.pv (.int .i64 32)))))), (some (80, false)), [4, 2]⟩,
    ⟨(some 84), 84, (.pick (.t 80) (.k (.c (.s (.pv (.bool true))))) (.t 83)), none, [2, 5]⟩])
  (.cond (.t 84) (.seq (.reg [⟨(some 85), 85, (.mv (.t 7)), none, []⟩,
    ⟨(some 86), 86, (.len (.t 85)), none, [0]⟩,
    ⟨(some 87), 87, (.bin false .eql (.t 86) (.k (.c (.s (.pv (.int .i64 0)))))), none, [1]⟩,
    ⟨(some 88), 88, (.mv (.t 87)), none, [2]⟩,
    ⟨(some 89), 89, (.mv (.t 8)), (some (88, true)), [3]⟩,
    ⟨(some 90), 90, (.bin false .eql (.t 89) (.k (.c (.s (.pv (.int .i64 1)))))), (some (88, true)), [4, 3]⟩,
    ⟨(some 91), 91, (.pick (.t 88) (.t 90) (.k (.c (.s (.pv (.bool false)))))), none, [3, 5]⟩,
    ⟨(some 92), 92, (.mv (.t 91)), none, [6, 3]⟩,
    ⟨(some 93), 93, (.mv (.t 10)), (some (92, true)), [7]⟩,
    ⟨(some 94), 94, (.bin false .eql (.t 93) (.k (.c (.s (.pv (.int .i64 1)))))), (some (92, true)), [8, 7]⟩,
    ⟨(some 95), 95, (.pick (.t 92) (.t 94) (.k (.c (.s (.pv (.bool false)))))), none, [7, 9]⟩,
    ⟨(some 96), 96, (.mv (.t 95)), none, [10, 7]⟩,
    ⟨(some 97), 97, (.load true 2 (.t 9)), (some (96, true)), [11]⟩,
    ⟨(some 98), 98, (.load true 2 (.t 3)), (some (96, true)), [11]⟩,
    ⟨(some 99), 99, (.call 40 [(.t 97), (.t 98)]), (some (96, true)), [12, 13, 11, 11]⟩,
    ⟨(some 100), 100, (.pick (.t 96) (.t 99) (.k (.c (.s (.pv (.bool false)))))), none, [11, 14]⟩,
    ⟨(some 101), 101, (.mv (.t 100)), none, [15, 14]⟩,
    ⟨(some 102), 102, (.call 34 []), (some (101, true)), [16, 16]⟩,
    ⟨(some 103), 103, (.pick (.t 101) (.t 102) (.k (.c (.s (.pv (.bool false)))))), none, [16, 17]⟩,
    ⟨(some 6), 6, (.mv (.t 103)), none, [18, 17, 0, 1, 2, 3, 4, 5, 6, 7, 8, 9, 10, 11, 12, 13, 14, 15, 16, 17, 18]⟩])
  .ret) .skip))
  (.seq (.reg [⟨(some 104), 104, (.mv (.t 1)), none, []⟩,
    ⟨(some 105), 105, (.mv (.t 2)), none, []⟩,
    ⟨(some 106), 106, (.call 41 [(.t 104), (.t 105)]), none, [0, 1]⟩,
    ⟨(some 14), 14, (.mv (.t 106)), none, [2, 2, 0, 1, 2]⟩])
  (.seq (.draw [⟨(some 107), 107, (.mv (.t 7)), none, []⟩,
    ⟨(some 108), 108, (.call 43 [(.t 107)]), none, [0]⟩,
    ⟨(some 109), 109, (.mv (.t 14)), none, []⟩,
    ⟨(some 110), 110, (.call 42 [(.t 108), (.t 109)]), none, [1, 2, 1]⟩,
    ⟨(some 111), 111, (.mv (.t 110)), none, [3, 3]⟩,
    ⟨(some 112), 112, (.mv (.t 8)), (some (111, true)), [4]⟩,
    ⟨(some 113), 113, (.bin false .eql (.t 112) (.k (.c (.s (.pv (.int .i64 0)))))), (some (111, true)), [5, 4]⟩,
    ⟨(some 114), 114, (.pick (.t 111) (.t 113) (.k (.c (.s (.pv (.bool false)))))), none, [4, 6]⟩,
    ⟨(some 115), 115, (.mv (.t 114)), none, [7, 4]⟩,
    ⟨(some 116), 116, (.mv (.t 10)), (some (115, true)), [8]⟩,
    ⟨(some 117), 117, (.bin false .eql (.t 116) (.k (.c (.s (.pv (.int .i64 0)))))), (some (115, true)), [9, 8]⟩,
    ⟨(some 118), 118, (.pick (.t 115) (.t 117) (.k (.c (.s (.pv (.bool false)))))), none, [8, 10]⟩,
    ⟨(some 119), 119, (.mv (.t 118)), none, [11, 8]⟩,
    ⟨(some 120), 120, (.load true 2 (.t 9)), (some (119, true)), [12]⟩,
    ⟨(some 121), 121, (.load true 2 (.t 3)), (some (119, true)), [12]⟩,
    ⟨(some 122), 122, (.mv (.t 14)), (some (119, true)), [12]⟩,
    ⟨(some 123), 123, (.call 44 [(.t 121), (.t 122), (.k (.c (.s (.pv (.int .i64 99)))))]), (some (119, true)), [14, 15, 12, 12]⟩,
    ⟨(some 124), 124, (.call 40 [(.t 120), (.t 123)]), (some (119, true)), [13, 16, 16, 12]⟩,
    ⟨(some 125), 125, (.pick (.t 119) (.t 124) (.k (.c (.s (.pv (.bool false)))))), none, [12, 17]⟩,
    ⟨(some 126), 126, (.mv (.t 125)), none, [18, 17]⟩,
    ⟨(some 127), 127, (.call 34 []), (some (126, true)), [19, 19]⟩,
    ⟨(some 128), 128, (.pick (.t 126) (.t 127) (.k (.c (.s (.pv (.bool false)))))), none, [19, 20]⟩,
    ⟨(some 6), 6, (.mv (.t 128)), none, [21, 20, 0, 1, 2, 3, 4, 5, 6, 7, 8, 9, 10, 11, 12, 13, 14, 15, 16, 17, 18, 19, 20, 21]⟩])
  .ret))))))))))
theorem fn9 : FnIs Try.prog 9 ac9 [(.t 6)] 129 := ⟨Try.f9, Try.func9, by kernel_rfl, by kernel_rfl, by kernel_rfl⟩
/- lockkeeper/lockkeeperlaw12.JournalWhole -/
def ac10 : ACode := (.seq (.reg [⟨(some 14), 14, (.mv (.k (.c (.s (.pv (.bool false)))))), none, []⟩])
  (.seq (.seq (.reg [⟨(some 25), 25, (.mv (.t 2)), none, []⟩,
    ⟨(some 26), 26, (.slen (.t 25)), none, [0]⟩,
    ⟨(some 27), 27, (.bin false .neq (.t 26) (.k (.c (.s (.pv (.int .i64 32)))))), none, [1]⟩,
    ⟨(some 28), 28, (.mv (.t 27)), none, [2]⟩,
    ⟨(some 29), 29, (.mv (.t 4)), (some (28, false)), [3]⟩,
    ⟨(some 30), 30, (.len (.t 29)), (some (28, false)), [4, 3]⟩,
    ⟨(some 31), 31, (.bin false .gtr (.t 30) (.k (.c (.s (.pv (.int .i64 60)))))), (some (28, false)), [5, 3]⟩,
    ⟨(some 32), 32, (.pick (.t 28) (.k (.c (.s (.pv (.bool true))))) (.t 31)), none, [3, 6]⟩,
    ⟨(some 33), 33, (.mv (.t 32)), none, [7, 3]⟩,
    ⟨(some 34), 34, (.mv (.t 6)), (some (33, false)), [8]⟩,
    ⟨(some 35), 35, (.len (.t 34)), (some (33, false)), [9, 8]⟩,
    ⟨(some 36), 36, (.bin false .gtr (.t 35) (.k (.c (.s (.pv (.int .i64 60)))))), (some (33, false)), [10, 8]⟩,
    ⟨(some 37), 37, (.pick (.t 33) (.k (.c (.s (.pv (.bool true))))) (.t 36)), none, [8, 11]⟩])
  (.cond (.t 37) (.seq (.reg [⟨(some 38), 38, (.call 34 []), none, []⟩,
    ⟨(some 14), 14, (.mv (.t 38)), none, [0, 0, 0]⟩])
  .ret) .skip))
  (.seq (.reg [⟨(some 39), 39, (.mv (.t 1)), none, []⟩,
    ⟨(some 40), 40, (.bin false .rem (.t 39) (.k (.c (.s (.pv (.int .u8 16)))))), none, [0]⟩,
    ⟨(some 41), 41, (.conv .i64 (.t 40)), none, [1]⟩,
    ⟨(some 42), 42, (.bin false .add (.k (.c (.s (.pv (.int .i64 1))))) (.t 41)), none, [2]⟩,
    ⟨(some 15), 15, (.mv (.t 42)), none, [3, 0, 1, 2, 3]⟩])
  (.seq (.reg [⟨(some 43), 43, (.mv (.t 0)), none, []⟩,
    ⟨(some 44), 44, (.call 45 [(.t 43)]), none, [0]⟩,
    ⟨(some 16), 16, (.mk 68 2 [[.zc, .zc]]), none, []⟩,
    ⟨none, 121, (.store 2 (.t 16) (.t 44)), none, [2, 1, 1, 0, 1, 2]⟩])
  (.seq (.seq (.reg [⟨(some 45), 45, (.fld 0 (.t 16)), none, []⟩,
    ⟨(some 46), 46, (.load false 1 (.t 45)), none, [0]⟩,
    ⟨(some 47), 47, (.len (.t 46)), none, [1]⟩,
    ⟨(some 48), 48, (.bin false .neq (.t 47) (.k (.c (.s (.pv (.int .i64 35)))))), none, [2]⟩])
  (.cond (.t 48) (.seq (.reg [⟨(some 14), 14, (.mv (.k (.c (.s (.pv (.bool false)))))), none, []⟩])
  .ret) .skip))
  (.seq (.reg [⟨(some 50), 50, (.load true 2 (.t 16)), none, []⟩,
    ⟨(some 51), 51, (.mv (.t 15)), none, []⟩,
    ⟨(some 52), 52, (.mv (.t 2)), none, []⟩,
    ⟨(some 53), 53, (.call 35 [(.t 50), (.t 51), (.t 52)]), none, [0, 1, 2]⟩,
    ⟨(some 49), 49, (.mv (.t 53)), none, [3]⟩,
    ⟨(some 54), 54, (.ext 0 (.t 49)), none, [4]⟩,
    ⟨(some 55), 55, (.ext 1 (.t 49)), none, [4]⟩,
    ⟨(some 17), 17, (.mv (.t 54)), none, [5, 3, 0, 1, 2, 3, 4, 5]⟩,
    ⟨(some 18), 18, (.mv (.t 55)), none, [6, 7, 0, 1, 2, 3, 4, 5, 6, 7]⟩])
  (.seq (.seq (.reg [⟨(some 56), 56, (.mv (.t 18)), none, []⟩,
    ⟨(some 57), 57, (.bin false .neq (.t 56) (.k (.c (.s (.pv (.int .i64 0)))))), none, [0]⟩])
  (.cond (.t 57) (.seq (.reg [⟨(some 14), 14, (.mv (.k (.c (.s (.pv (.bool false)))))), none, []⟩])
  .ret) .skip))
  (.seq (.reg [⟨(some 58), 58, (.mv (.t 3)), none, []⟩,
    ⟨(some 59), 59, (.bin false .rem (.t 58) (.k (.c (.s (.pv (.int .u8 12)))))), none, [0]⟩,
    ⟨(some 60), 60, (.conv .i64 (.t 59)), none, [1]⟩,
    ⟨(some 19), 19, (.mv (.t 60)), none, [2, 0, 1, 2]⟩])
  (.seq (.reg [⟨(some 61), 61, (.load true 2 (.t 16)), none, []⟩,
    ⟨(some 62), 62, (.mv (.t 17)), none, []⟩,
    ⟨(some 63), 63, (.mv (.t 19)), none, []⟩,
    ⟨(some 64), 64, (.call 47 [(.t 61), (.t 62), (.t 63)]), none, [0, 1, 2]⟩,
    ⟨(some 65), 65, (.mv (.t 4)), none, []⟩,
    ⟨(some 66), 66, (.call 46 [(.t 64), (.t 65)]), none, [3, 4, 3]⟩,
    ⟨(some 20), 20, (.mk 68 2 [[.zc, .zc]]), none, []⟩,
    ⟨none, 125, (.store 2 (.t 20) (.t 66)), none, [6, 5, 5, 0, 1, 2, 3, 4, 5, 6]⟩])
  (.seq (.reg [⟨(some 67), 67, (.load true 2 (.t 20)), none, []⟩,
    ⟨(some 68), 68, (.call 48 [(.t 67)]), none, [0]⟩,
    ⟨(some 21), 21, (.mk 68 2 [[.zc, .zc]]), none, []⟩,
    ⟨none, 121, (.store 2 (.t 21) (.t 68)), none, [2, 1, 1, 0, 1, 2]⟩])
  (.seq (.seq (.draw [⟨(some 69), 69, (.load true 2 (.t 21)), none, []⟩,
    ⟨(some 70), 70, (.load true 2 (.t 16)), none, []⟩,
    ⟨(some 71), 71, (.mv (.t 15)), none, []⟩,
    ⟨(some 72), 72, (.mv (.t 2)), none, []⟩,
    ⟨(some 73), 73, (.call 49 [(.t 69), (.t 70), (.t 71), (.t 72)]), none, [0, 1, 2, 3]⟩,
    ⟨(some 74), 74, (.not (.t 73)), none, [4]⟩,
    ⟨(some 75), 75, (.mv (.t 74)), none, [5, 4]⟩,
    ⟨(some 76), 76, (.load true 2 (.t 21)), (some (75, false)), [6]⟩,
    ⟨(some 77), 77, (.call 48 [(.t 76)]), (some (75, false)), [7, 6, 6]⟩,
    ⟨(some 78), 78, (.load true 2 (.t 21)), (some (75, false)), [6]⟩,
    ⟨(some 79), 79, (.call 40 [(.t 77), (.t 78)]), (some (75, false)), [8, 9, 8, 6]⟩,
    ⟨(some 80), 80, (.not (.t 79)), (some (75, false)), [10, 6]⟩,
    ⟨(some 81), 81, (.pick (.t 75) (.k (.c (.s (.pv (.bool true))))) (.t 80)), none, [6, 11]⟩])
  (.cond (.t 81) (.seq (.reg [⟨(some 14), 14, (.mv (.k (.c (.s (.pv (.bool false)))))), none, []⟩])
  .ret) .skip))
  (.seq (.draw [⟨(some 82), 82, (.load true 2 (.t 20)), none, []⟩,
    ⟨(some 83), 83, (.load true 2 (.t 20)), none, []⟩,
    ⟨(some 84), 84, (.call 50 [(.t 83)]), none, [1]⟩,
    ⟨(some 85), 85, (.mv (.t 5)), none, []⟩,
    ⟨(some 86), 86, (.bin false .rem (.t 85) (.k (.c (.s (.pv (.int .u8 6)))))), none, [3]⟩,
    ⟨(some 87), 87, (.conv .i64 (.t 86)), none, [4]⟩,
    ⟨(some 88), 88, (.call 47 [(.t 82), (.t 84), (.t 87)]), none, [0, 2, 5, 2]⟩,
    ⟨(some 89), 89, (.mv (.t 6)), none, []⟩,
    ⟨(some 90), 90, (.call 46 [(.t 88), (.t 89)]), none, [6, 7, 6]⟩,
    ⟨(some 91), 91, (.call 48 [(.t 90)]), none, [8, 8]⟩,
    ⟨(some 22), 22, (.mk 68 2 [[.zc, .zc]]), none, []⟩,
    ⟨none, 129, (.store 2 (.t 22) (.t 91)), none, [10, 9, 9, 0, 1, 2, 3, 4, 5, 6, 7, 8, 9, 10]⟩])
  (.seq (.seq (.reg [⟨(some 92), 92, (.load true 2 (.t 22)), none, []⟩,
    ⟨(some 93), 93, (.load true 2 (.t 16)), none, []⟩,
    ⟨(some 94), 94, (.mv (.t 15)), none, []⟩,
    ⟨(some 95), 95, (.mv (.t 2)), none, []⟩,
    ⟨(some 96), 96, (.call 49 [(.t 92), (.t 93), (.t 94), (.t 95)]), none, [0, 1, 2, 3]⟩,
    ⟨(some 97), 97, (.not (.t 96)), none, [4]⟩])
  (.cond (.t 97) (.seq (.reg [⟨(some 14), 14, (.mv (.k (.c (.s (.pv (.bool false)))))), none, []⟩])
  .ret) .skip))
  (.seq (.reg [⟨(some 99), 99, (.load true 2 (.t 21)), none, []⟩,
    ⟨(some 100), 100, (.mv (.t 15)), none, []⟩,
    ⟨(some 101), 101, (.call 37 [(.t 99), (.t 100)]), none, [0, 1]⟩,
    ⟨(some 98), 98, (.mv (.t 101)), none, [2]⟩,
    ⟨(some 102), 102, (.ext 0 (.t 98)), none, [3]⟩,
    ⟨(some 103), 103, (.ext 1 (.t 98)), none, [3]⟩,
    ⟨(some 23), 23, (.mv (.t 102)), none, [4, 2, 0, 1, 2, 3, 4]⟩,
    ⟨(some 24), 24, (.mv (.t 103)), none, [5, 6, 0, 1, 2, 3, 4, 5, 6]⟩])
  (.seq (.reg [⟨(some 104), 104, (.mv (.t 19)), none, []⟩,
    ⟨(some 105), 105, (.bin false .lss (.t 104) (.k (.c (.s (.pv (.int .i64 10)))))), none, [0]⟩,
    ⟨(some 106), 106, (.mv (.t 105)), none, [1]⟩,
    ⟨(some 107), 107, (.mv (.t 23)), (some (106, false)), [2]⟩,
    ⟨(some 108), 108, (.mv (.t 2)), (some (106, false)), [2]⟩,
    ⟨(some 109), 109, (.bin false .eql (.t 107) (.t 108)), (some (106, false)), [3, 4, 2]⟩,
    ⟨(some 110), 110, (.pick (.t 106) (.k (.c (.s (.pv (.bool true))))) (.t 109)), none, [2, 5]⟩,
    ⟨(some 111), 111, (.mv (.t 110)), none, [6, 2]⟩,
    ⟨(some 112), 112, (.mv (.t 24)), (some (111, true)), [7]⟩,
    ⟨(some 113), 113, (.bin false .eql (.t 112) (.k (.c (.s (.pv (.int .i64 0)))))), (some (111, true)), [8, 7]⟩,
    ⟨(some 114), 114, (.pick (.t 111) (.t 113) (.k (.c (.s (.pv (.bool false)))))), none, [7, 9]⟩,
    ⟨(some 115), 115, (.mv (.t 114)), none, [10, 7]⟩,
    ⟨(some 116), 116, (.call 34 []), (some (115, true)), [11, 11]⟩,
    ⟨(some 117), 117, (.pick (.t 115) (.t 116) (.k (.c (.s (.pv (.bool false)))))), none, [11, 12]⟩,
    ⟨(some 14), 14, (.mv (.t 117)), none, [13, 12, 0, 1, 2, 3, 4, 5, 6, 7, 8, 9, 10, 11, 12, 13]⟩])
  .ret)))))))))))))))
theorem fn10 : FnIs Try.prog 10 ac10 [(.t 14)] 118 := ⟨Try.f10, Try.func10, by kernel_rfl, by kernel_rfl, by kernel_rfl⟩
/- lockkeeper/lockkeeperlaw12.JournalMany -/
def ac11 : ACode := (.seq (.reg [⟨(some 4), 4, (.mv (.k (.c (.s (.pv (.bool false)))))), none, []⟩])
  (.seq (.reg [⟨(some 16), 16, (.call 51 [(.k (.c (.s (.pv (.int .i64 35)))))]), none, []⟩,
    ⟨(some 15), 15, (.mv (.t 16)), none, [0]⟩,
    ⟨(some 17), 17, (.ext 0 (.t 15)), none, [1]⟩,
    ⟨(some 18), 18, (.ext 1 (.t 15)), none, [1]⟩,
    ⟨(some 5), 5, (.mk 68 2 [[.zc, .zc]]), none, []⟩,
    ⟨none, 111, (.store 2 (.t 5) (.t 17)), none, [4, 2, 0, 0, 1, 2, 4]⟩,
    ⟨(some 6), 6, (.mv (.t 18)), none, [3, 5, 0, 1, 2, 3, 4, 5]⟩])
  (.seq (.reg [⟨(some 7), 7, (.mk 94 1 [[(.s (.pv (.string ⟨#[]⟩)))], [(.s (.pv (.string ⟨#[]⟩)))], [(.s (.pv (.string ⟨#[]⟩)))], [(.s (.pv (.string ⟨#[]⟩)))], [(.s (.pv (.string ⟨#[]⟩)))], [(.s (.pv (.string ⟨#[]⟩)))], [(.s (.pv (.string ⟨#[]⟩)))], [(.s (.pv (.string ⟨#[]⟩)))], [(.s (.pv (.string ⟨#[]⟩)))], [(.s (.pv (.string ⟨#[]⟩)))], [(.s (.pv (.string ⟨#[]⟩)))], [(.s (.pv (.string ⟨#[]⟩)))], [(.s (.pv (.string ⟨#[]⟩)))], [(.s (.pv (.string ⟨#[]⟩)))], [(.s (.pv (.string ⟨#[]⟩)))], [(.s (.pv (.string ⟨#[]⟩)))], [(.s (.pv (.string ⟨#[]⟩)))]]), none, []⟩])
  (.seq (.seq (.reg [⟨(some 8), 8, (.mv (.k (.c (.s (.pv (.int .i64 0)))))), none, []⟩])
  (.block 0 (.loop (.seq (.seq (.reg [⟨(some 19), 19, (.mv (.t 8)), none, []⟩,
    ⟨(some 20), 20, (.mv (.t 0)), none, []⟩,
    ⟨(some 21), 21, (.len (.t 20)), none, [1]⟩,
    ⟨(some 22), 22, (.bin false .lss (.t 19) (.t 21)), none, [0, 2]⟩,
    ⟨(some 23), 23, (.mv (.t 22)), none, [3]⟩,
    ⟨(some 24), 24, (.mv (.t 8)), (some (23, true)), [4]⟩,
    ⟨(some 25), 25, (.mv (.t 1)), (some (23, true)), [4]⟩,
    ⟨(some 26), 26, (.len (.t 25)), (some (23, true)), [6, 4]⟩,
    ⟨(some 27), 27, (.bin false .lss (.t 24) (.t 26)), (some (23, true)), [5, 7, 4]⟩,
    ⟨(some 28), 28, (.pick (.t 23) (.t 27) (.k (.c (.s (.pv (.bool false)))))), none, [4, 8]⟩,
    ⟨(some 29), 29, (.mv (.t 28)), none, [9, 4]⟩,
    ⟨(some 30), 30, (.mv (.t 8)), (some (29, true)), [10]⟩,
    ⟨(some 31), 31, (.bin false .lss (.t 30) (.k (.c (.s (.pv (.int .i64 30)))))), (some (29, true)), [11, 10]⟩,
    ⟨(some 32), 32, (.pick (.t 29) (.t 31) (.k (.c (.s (.pv (.bool false)))))), none, [10, 12]⟩])
  (.cond (.t 32) .skip (.exit 0)))
  (.seq (.block 1 (.seq (.seq (.reg [⟨(some 35), 35, (.mv (.t 1)), none, []⟩,
    ⟨(some 36), 36, (.mv (.t 8)), none, []⟩,
    ⟨(some 37), 37, (.idx 1 (.t 35) (.t 36)), none, [0, 1]⟩,
    ⟨(some 38), 38, (.load false 1 (.t 37)), none, [2]⟩,
    ⟨(some 39), 39, (.slen (.t 38)), none, [3]⟩,
    ⟨(some 40), 40, (.bin false .neq (.t 39) (.k (.c (.s (.pv (.int .i64 32)))))), none, [4]⟩])
  (.cond (.t 40) (.seq (.reg [⟨(some 41), 41, (.call 34 []), none, []⟩,
    ⟨(some 4), 4, (.mv (.t 41)), none, [0, 0, 0]⟩])
  .ret) .skip))
  (.seq (.reg [⟨(some 42), 42, (.mv (.t 0)), none, []⟩,
    ⟨(some 43), 43, (.mv (.t 8)), none, []⟩,
    ⟨(some 44), 44, (.idx 1 (.t 42) (.t 43)), none, [0, 1]⟩,
    ⟨(some 45), 45, (.load false 1 (.t 44)), none, [2]⟩,
    ⟨(some 46), 46, (.bin false .rem (.t 45) (.k (.c (.s (.pv (.int .u8 16)))))), none, [3]⟩,
    ⟨(some 47), 47, (.conv .i64 (.t 46)), none, [4]⟩,
    ⟨(some 48), 48, (.bin false .add (.k (.c (.s (.pv (.int .i64 1))))) (.t 47)), none, [5]⟩,
    ⟨(some 9), 9, (.mv (.t 48)), none, [6, 0, 1, 2, 3, 4, 5, 6]⟩])
  (.seq (.draw [⟨(some 50), 50, (.load true 2 (.t 5)), none, []⟩,
    ⟨(some 51), 51, (.mv (.t 9)), none, []⟩,
    ⟨(some 52), 52, (.mv (.t 1)), none, []⟩,
    ⟨(some 53), 53, (.mv (.t 8)), none, []⟩,
    ⟨(some 54), 54, (.idx 1 (.t 52) (.t 53)), none, [2, 3]⟩,
    ⟨(some 55), 55, (.load false 1 (.t 54)), none, [4]⟩,
    ⟨(some 56), 56, (.call 36 [(.t 50), (.t 51), (.t 55)]), none, [0, 1, 5]⟩,
    ⟨(some 49), 49, (.mv (.t 56)), none, [6]⟩,
    ⟨(some 57), 57, (.ext 0 (.t 49)), none, [7]⟩,
    ⟨(some 58), 58, (.ext 1 (.t 49)), none, [7]⟩,
    ⟨(some 10), 10, (.mk 68 2 [[.zc, .zc]]), none, []⟩,
    ⟨none, 117, (.store 2 (.t 10) (.t 57)), none, [10, 8, 6, 0, 1, 2, 3, 4, 5, 6, 7, 8, 10]⟩,
    ⟨(some 11), 11, (.mv (.t 58)), none, [9, 11, 0, 1, 2, 3, 4, 5, 6, 7, 8, 9, 10, 11]⟩])
  (.seq (.seq (.reg [⟨(some 59), 59, (.mv (.t 11)), none, []⟩,
    ⟨(some 60), 60, (.bin false .neq (.t 59) (.k (.c (.s (.pv (.int .i64 0)))))), none, [0]⟩,
    ⟨(some 61), 61, (.mv (.t 60)), none, [1]⟩,
    ⟨(some 62), 62, (.fld 1 (.t 10)), (some (61, false)), [2]⟩,
    ⟨(some 63), 63, (.load false 1 (.t 62)), (some (61, false)), [3, 2]⟩,
    ⟨(some 64), 64, (.len (.t 63)), (some (61, false)), [4, 2]⟩,
    ⟨(some 65), 65, (.bin false .neq (.t 64) (.k (.c (.s (.pv (.int .i64 0)))))), (some (61, false)), [5, 2]⟩,
    ⟨(some 66), 66, (.pick (.t 61) (.k (.c (.s (.pv (.bool true))))) (.t 65)), none, [2, 6]⟩])
  (.cond (.t 66) (.seq (.reg [⟨(some 4), 4, (.mv (.k (.c (.s (.pv (.bool false)))))), none, []⟩])
  .ret) .skip))
  (.draw [⟨(some 67), 67, (.mv (.t 9)), none, []⟩,
    ⟨(some 68), 68, (.load true 2 (.t 10)), none, []⟩,
    ⟨(some 69), 69, (.mv (.t 1)), none, []⟩,
    ⟨(some 70), 70, (.mv (.t 8)), none, []⟩,
    ⟨(some 71), 71, (.idx 1 (.t 69) (.t 70)), none, [2, 3]⟩,
    ⟨(some 72), 72, (.load false 1 (.t 71)), none, [4]⟩,
    ⟨none, 112, (.store 2 (.t 5) (.t 68)), none, [1, 1]⟩,
    ⟨(some 73), 73, (.aidx 17 1 (.t 7) (.t 67)), none, [0, 0, 1, 2, 3, 4, 5, 6]⟩,
    ⟨none, 114, (.store 1 (.t 73) (.t 72)), none, [7, 5, 6, 0, 1, 2, 3, 4, 5, 6]⟩]))))))
  (.reg [⟨(some 33), 33, (.mv (.t 8)), none, []⟩,
    ⟨(some 34), 34, (.bin false .add (.t 33) (.k (.c (.s (.pv (.int .i64 1)))))), none, [0]⟩,
    ⟨(some 8), 8, (.mv (.t 34)), none, [1, 0, 1]⟩]))))))
  (.seq (.seq (.reg [⟨(some 12), 12, (.mv (.k (.c (.s (.pv (.int .i64 1)))))), none, []⟩])
  (.block 2 (.loop (.seq (.seq (.reg [⟨(some 74), 74, (.mv (.t 12)), none, []⟩,
    ⟨(some 75), 75, (.bin false .leq (.t 74) (.k (.c (.s (.pv (.int .i64 16)))))), none, [0]⟩])
  (.cond (.t 75) .skip (.exit 2)))
  (.seq (.block 3 (.seq (.reg [⟨(some 79), 79, (.load true 2 (.t 5)), none, []⟩,
    ⟨(some 80), 80, (.mv (.t 12)), none, []⟩,
    ⟨(some 81), 81, (.call 37 [(.t 79), (.t 80)]), none, [0, 1]⟩,
    ⟨(some 78), 78, (.mv (.t 81)), none, [2]⟩,
    ⟨(some 82), 82, (.ext 0 (.t 78)), none, [3]⟩,
    ⟨(some 83), 83, (.ext 1 (.t 78)), none, [3]⟩,
    ⟨(some 13), 13, (.mv (.t 82)), none, [4, 2, 0, 1, 2, 3, 4]⟩,
    ⟨(some 14), 14, (.mv (.t 83)), none, [5, 6, 0, 1, 2, 3, 4, 5, 6]⟩])
  (.seq (.reg [⟨(some 84), 84, (.mv (.t 14)), none, []⟩,
    ⟨(some 85), 85, (.bin false .neq (.t 84) (.k (.c (.s (.pv (.int .i64 0)))))), none, [0]⟩,
    ⟨(some 86), 86, (.mv (.t 85)), none, [1]⟩,
    ⟨(some 87), 87, (.mv (.t 12)), (some (86, false)), [2]⟩,
    ⟨(some 88), 88, (.aidx 17 1 (.t 7) (.t 87)), (some (86, false)), [3, 2]⟩,
    ⟨(some 89), 89, (.load false 1 (.t 88)), (some (86, false)), [4, 2]⟩,
    ⟨(some 90), 90, (.bin false .neq (.t 89) (.k (.c (.s (.pv (.string ⟨#[]⟩)))))), (some (86, false)), [5, 2]⟩,
    ⟨(some 91), 91, (.mv (.t 90)), (some (86, false)), [6, 2, 2]⟩,
    ⟨(some 92), 92, (.mv (.t 13)), (some (91, true)), [7]⟩,
    ⟨(some 93), 93, (.mv (.t 12)), (some (91, true)), [7]⟩,
    ⟨(some 94), 94, (.aidx 17 1 (.t 7) (.t 93)), (some (91, true)), [9, 7]⟩,
    ⟨(some 95), 95, (.load false 1 (.t 94)), (some (91, true)), [10, 7]⟩,
    ⟨(some 96), 96, (.bin false .neq (.t 92) (.t 95)), (some (91, true)), [8, 11, 7]⟩,
    ⟨(some 97), 97, (.pick (.t 91) (.t 96) (.k (.c (.s (.pv (.bool false)))))), (some (86, false)), [7, 12, 2]⟩,
    ⟨(some 98), 98, (.pick (.t 86) (.k (.c (.s (.pv (.bool true))))) (.t 97)), none, [2, 13]⟩])
  (.cond (.t 98) (.seq (.reg [⟨(some 4), 4, (.mv (.k (.c (.s (.pv (.bool false)))))), none, []⟩])
  .ret) .skip))))
  (.reg [⟨(some 76), 76, (.mv (.t 12)), none, []⟩,
    ⟨(some 77), 77, (.bin false .add (.t 76) (.k (.c (.s (.pv (.int .i64 1)))))), none, [0]⟩,
    ⟨(some 12), 12, (.mv (.t 77)), none, [1, 0, 1]⟩]))))))
  (.seq (.reg [⟨(some 99), 99, (.load true 2 (.t 5)), none, []⟩,
    ⟨(some 100), 100, (.call 50 [(.t 99)]), none, [0]⟩,
    ⟨(some 101), 101, (.len (.t 100)), none, [1]⟩,
    ⟨(some 102), 102, (.bin false .eql (.t 101) (.k (.c (.s (.pv (.int .i64 0)))))), none, [2]⟩,
    ⟨(some 103), 103, (.mv (.t 102)), none, [3, 1]⟩,
    ⟨(some 104), 104, (.call 34 []), (some (103, true)), [4, 4]⟩,
    ⟨(some 105), 105, (.pick (.t 103) (.t 104) (.k (.c (.s (.pv (.bool false)))))), none, [4, 5]⟩,
    ⟨(some 4), 4, (.mv (.t 105)), none, [6, 5, 0, 1, 2, 3, 4, 5, 6]⟩])
  .ret))))))
theorem fn11 : FnIs Try.prog 11 ac11 [(.t 4)] 106 := ⟨Try.f11, Try.func11, by kernel_rfl, by kernel_rfl, by kernel_rfl⟩
/- lockkeeper/lockkeeperlaw12.JournalIdle -/
def ac12 : ACode := (.seq (.reg [⟨(some 6), 6, (.mv (.k (.c (.s (.pv (.bool false)))))), none, []⟩])
  (.seq (.reg [⟨(some 18), 18, (.mv (.t 0)), none, []⟩,
    ⟨(some 19), 19, (.call 45 [(.t 18)]), none, [0]⟩,
    ⟨(some 7), 7, (.mk 68 2 [[.zc, .zc]]), none, []⟩,
    ⟨none, 119, (.store 2 (.t 7) (.t 19)), none, [2, 1, 1, 0, 1, 2]⟩])
  (.seq (.seq (.reg [⟨(some 20), 20, (.mv (.t 2)), none, []⟩,
    ⟨(some 21), 21, (.slen (.t 20)), none, [0]⟩,
    ⟨(some 22), 22, (.bin false .neq (.t 21) (.k (.c (.s (.pv (.int .i64 32)))))), none, [1]⟩,
    ⟨(some 23), 23, (.mv (.t 22)), none, [2]⟩,
    ⟨(some 24), 24, (.fld 0 (.t 7)), (some (23, false)), [3]⟩,
    ⟨(some 25), 25, (.load false 1 (.t 24)), (some (23, false)), [4, 3]⟩,
    ⟨(some 26), 26, (.len (.t 25)), (some (23, false)), [5, 3]⟩,
    ⟨(some 27), 27, (.bin false .neq (.t 26) (.k (.c (.s (.pv (.int .i64 35)))))), (some (23, false)), [6, 3]⟩,
    ⟨(some 28), 28, (.pick (.t 23) (.k (.c (.s (.pv (.bool true))))) (.t 27)), none, [3, 7]⟩])
  (.cond (.t 28) (.seq (.reg [⟨(some 29), 29, (.mv (.t 2)), none, []⟩,
    ⟨(some 30), 30, (.slen (.t 29)), none, [0]⟩,
    ⟨(some 31), 31, (.bin false .neq (.t 30) (.k (.c (.s (.pv (.int .i64 32)))))), none, [1]⟩,
    ⟨(some 32), 32, (.mv (.t 31)), none, [2]⟩,
    ⟨(some 33), 33, (.call 34 []), (some (32, true)), [3, 3]⟩,
    ⟨(some 34), 34, (.pick (.t 32) (.t 33) (.k (.c (.s (.pv (.bool false)))))), none, [3, 4]⟩,
    ⟨(some 6), 6, (.mv (.t 34)), none, [5, 4, 0, 1, 2, 3, 4, 5]⟩])
  .ret) .skip))
  (.seq (.reg [⟨(some 35), 35, (.mv (.t 1)), none, []⟩,
    ⟨(some 36), 36, (.bin false .rem (.t 35) (.k (.c (.s (.pv (.int .u8 16)))))), none, [0]⟩,
    ⟨(some 37), 37, (.conv .i64 (.t 36)), none, [1]⟩,
    ⟨(some 38), 38, (.bin false .add (.k (.c (.s (.pv (.int .i64 1))))) (.t 37)), none, [2]⟩,
    ⟨(some 8), 8, (.mv (.t 38)), none, [3, 0, 1, 2, 3]⟩])
  (.seq (.reg [⟨(some 40), 40, (.load true 2 (.t 7)), none, []⟩,
    ⟨(some 41), 41, (.mv (.t 8)), none, []⟩,
    ⟨(some 42), 42, (.mv (.t 2)), none, []⟩,
    ⟨(some 43), 43, (.call 35 [(.t 40), (.t 41), (.t 42)]), none, [0, 1, 2]⟩,
    ⟨(some 39), 39, (.mv (.t 43)), none, [3]⟩,
    ⟨(some 44), 44, (.ext 0 (.t 39)), none, [4]⟩,
    ⟨(some 45), 45, (.ext 1 (.t 39)), none, [4]⟩,
    ⟨(some 9), 9, (.mv (.t 44)), none, [5, 3, 0, 1, 2, 3, 4, 5]⟩,
    ⟨(some 10), 10, (.mv (.t 45)), none, [6, 7, 0, 1, 2, 3, 4, 5, 6, 7]⟩])
  (.seq (.seq (.draw [⟨(some 46), 46, (.mv (.t 10)), none, []⟩,
    ⟨(some 47), 47, (.bin false .neq (.t 46) (.k (.c (.s (.pv (.int .i64 0)))))), none, [0]⟩,
    ⟨(some 48), 48, (.mv (.t 47)), none, [1]⟩,
    ⟨(some 49), 49, (.mv (.t 9)), (some (48, false)), [2]⟩,
    ⟨(some 50), 50, (.len (.t 49)), (some (48, false)), [3, 2]⟩,
    ⟨(some 51), 51, (.bin false .neq (.t 50) (.k (.c (.s (.pv (.int .i64 10)))))), (some (48, false)), [4, 2]⟩,
    ⟨(some 52), 52, (.pick (.t 48) (.k (.c (.s (.pv (.bool true))))) (.t 51)), none, [2, 5]⟩,
    ⟨(some 53), 53, (.mv (.t 52)), none, [6, 2]⟩,
    ⟨(some 54), 54, (.load true 2 (.t 7)), (some (53, false)), [7]⟩,
    ⟨(some 55), 55, (.call 50 [(.t 54)]), (some (53, false)), [8, 7, 7]⟩,
    ⟨(some 56), 56, (.len (.t 55)), (some (53, false)), [9, 7]⟩,
    ⟨(some 57), 57, (.bin false .neq (.t 56) (.k (.c (.s (.pv (.int .i64 0)))))), (some (53, false)), [10, 7]⟩,
    ⟨(some 58), 58, (.pick (.t 53) (.k (.c (.s (.pv (.bool true))))) (.t 57)), none, [7, 11]⟩,
    ⟨(some 59), 59, (.mv (.t 58)), none, [12, 9]⟩,
    ⟨(some 60), 60, (.load true 2 (.t 7)), (some (59, false)), [13]⟩,
    ⟨(some 61), 61, (.call 48 [(.t 60)]), (some (59, false)), [14, 13, 13]⟩,
    ⟨(some 62), 62, (.load true 2 (.t 7)), (some (59, false)), [13]⟩,
    ⟨(some 63), 63, (.call 40 [(.t 61), (.t 62)]), (some (59, false)), [15, 16, 15, 13]⟩,
    ⟨(some 64), 64, (.not (.t 63)), (some (59, false)), [17, 13]⟩,
    ⟨(some 65), 65, (.pick (.t 59) (.k (.c (.s (.pv (.bool true))))) (.t 64)), none, [13, 18]⟩])
  (.cond (.t 65) (.seq (.reg [⟨(some 6), 6, (.mv (.k (.c (.s (.pv (.bool false)))))), none, []⟩])
  .ret) .skip))
  (.seq (.seq (.reg [⟨(some 66), 66, (.mv (.k (.c (.s (.pv (.int .i64 0)))))), none, []⟩])
  (.block 0 (.loop (.seq (.reg [⟨(some 67), 67, (.bin false .lss (.t 66) (.k (.c (.s (.pv (.int .i64 11)))))), none, []⟩])
  (.seq (.cond (.t 67) .skip (.exit 0))
  (.seq (.block 1 (.seq (.reg [⟨(some 68), 68, (.mv (.t 66)), none, []⟩,
    ⟨(some 11), 11, (.mv (.t 68)), none, [0, 0]⟩])
  (.seq (.reg [⟨(some 69), 69, (.load true 2 (.t 7)), none, []⟩,
    ⟨(some 70), 70, (.mv (.t 9)), none, []⟩,
    ⟨(some 71), 71, (.mv (.t 11)), none, []⟩,
    ⟨(some 72), 72, (.call 47 [(.t 69), (.t 70), (.t 71)]), none, [0, 1, 2]⟩,
    ⟨(some 12), 12, (.mk 68 2 [[.zc, .zc]]), none, []⟩,
    ⟨none, 121, (.store 2 (.t 12) (.t 72)), none, [4, 3, 3, 0, 1, 2, 3, 4]⟩])
  (.seq (.reg [⟨(some 13), 13, (.mv (.k (.c (.s (.pv (.int .i64 1)))))), none, []⟩])
  (.block 2 (.loop (.seq (.seq (.reg [⟨(some 73), 73, (.mv (.t 13)), none, []⟩,
    ⟨(some 74), 74, (.bin false .leq (.t 73) (.k (.c (.s (.pv (.int .i64 16)))))), none, [0]⟩])
  (.cond (.t 74) .skip (.exit 2)))
  (.seq (.block 3 (.seq (.reg [⟨(some 78), 78, (.load true 2 (.t 12)), none, []⟩,
    ⟨(some 79), 79, (.mv (.t 13)), none, []⟩,
    ⟨(some 80), 80, (.call 37 [(.t 78), (.t 79)]), none, [0, 1]⟩,
    ⟨(some 77), 77, (.mv (.t 80)), none, [2]⟩,
    ⟨(some 81), 81, (.ext 0 (.t 77)), none, [3]⟩,
    ⟨(some 82), 82, (.ext 1 (.t 77)), none, [3]⟩,
    ⟨(some 14), 14, (.mv (.t 81)), none, [4, 2, 0, 1, 2, 3, 4]⟩,
    ⟨(some 15), 15, (.mv (.t 82)), none, [5, 6, 0, 1, 2, 3, 4, 5, 6]⟩])
  (.seq (.reg [⟨(some 84), 84, (.load true 2 (.t 12)), none, []⟩,
    ⟨(some 85), 85, (.call 48 [(.t 84)]), none, [0]⟩,
    ⟨(some 86), 86, (.mv (.t 13)), none, []⟩,
    ⟨(some 87), 87, (.call 37 [(.t 85), (.t 86)]), none, [1, 2, 1]⟩,
    ⟨(some 83), 83, (.mv (.t 87)), none, [3]⟩,
    ⟨(some 88), 88, (.ext 0 (.t 83)), none, [4]⟩,
    ⟨(some 89), 89, (.ext 1 (.t 83)), none, [4]⟩,
    ⟨(some 16), 16, (.mv (.t 88)), none, [5, 3, 0, 1, 2, 3, 4, 5]⟩,
    ⟨(some 17), 17, (.mv (.t 89)), none, [6, 7, 0, 1, 2, 3, 4, 5, 6, 7]⟩])
  (.seq (.reg [⟨(some 90), 90, (.mv (.t 15)), none, []⟩,
    ⟨(some 91), 91, (.bin false .neq (.t 90) (.k (.c (.s (.pv (.int .i64 0)))))), none, [0]⟩,
    ⟨(some 92), 92, (.mv (.t 91)), none, [1]⟩,
    ⟨(some 93), 93, (.mv (.t 17)), (some (92, false)), [2]⟩,
    ⟨(some 94), 94, (.bin false .neq (.t 93) (.k (.c (.s (.pv (.int .i64 0)))))), (some (92, false)), [3, 2]⟩,
    ⟨(some 95), 95, (.pick (.t 92) (.k (.c (.s (.pv (.bool true))))) (.t 94)), none, [2, 4]⟩,
    ⟨(some 96), 96, (.mv (.t 95)), none, [5, 2]⟩,
    ⟨(some 97), 97, (.mv (.t 14)), (some (96, false)), [6]⟩,
    ⟨(some 98), 98, (.mv (.t 16)), (some (96, false)), [6]⟩,
    ⟨(some 99), 99, (.bin false .neq (.t 97) (.t 98)), (some (96, false)), [7, 8, 6]⟩,
    ⟨(some 100), 100, (.mv (.t 99)), (some (96, false)), [9, 6, 6]⟩,
    ⟨(some 101), 101, (.mv (.t 13)), (some (100, true)), [10]⟩,
    ⟨(some 102), 102, (.mv (.t 8)), (some (100, true)), [10]⟩,
    ⟨(some 103), 103, (.bin false .neq (.t 101) (.t 102)), (some (100, true)), [11, 12, 10]⟩,
    ⟨(some 104), 104, (.mv (.t 103)), (some (100, true)), [13, 10, 10]⟩,
    ⟨(some 105), 105, (.mv (.t 11)), (some (104, false)), [14]⟩,
    ⟨(some 106), 106, (.bin false .lss (.t 105) (.k (.c (.s (.pv (.int .i64 4)))))), (some (104, false)), [15, 14]⟩,
    ⟨(some 107), 107, (.pick (.t 104) (.k (.c (.s (.pv (.bool true))))) (.t 106)), (some (100, true)), [14, 16, 10]⟩,
    ⟨(some 108), 108, (.mv (.t 107)), (some (100, true)), [17, 14, 10]⟩,
    ⟨(some 109), 109, (.mv (.t 11)), (some (108, false)), [18]⟩,
    ⟨(some 110), 110, (.bin false .gtr (.t 109) (.k (.c (.s (.pv (.int .i64 6)))))), (some (108, false)), [19, 18]⟩,
    ⟨(some 111), 111, (.pick (.t 108) (.k (.c (.s (.pv (.bool true))))) (.t 110)), (some (100, true)), [18, 20, 10]⟩,
    ⟨(some 112), 112, (.pick (.t 100) (.t 111) (.k (.c (.s (.pv (.bool false)))))), (some (96, false)), [10, 21, 6]⟩,
    ⟨(some 113), 113, (.pick (.t 96) (.k (.c (.s (.pv (.bool true))))) (.t 112)), none, [6, 22]⟩])
  (.cond (.t 113) (.seq (.reg [⟨(some 6), 6, (.mv (.k (.c (.s (.pv (.bool false)))))), none, []⟩])
  .ret) .skip)))))
  (.reg [⟨(some 75), 75, (.mv (.t 13)), none, []⟩,
    ⟨(some 76), 76, (.bin false .add (.t 75) (.k (.c (.s (.pv (.int .i64 1)))))), none, [0]⟩,
    ⟨(some 13), 13, (.mv (.t 76)), none, [1, 0, 1]⟩])))))))))
  (.reg [⟨(some 114), 114, (.bin false .add (.t 66) (.k (.c (.s (.pv (.int .i64 1)))))), none, []⟩,
    ⟨(some 66), 66, (.mv (.t 114)), none, [0]⟩])))))))
  (.seq (.reg [⟨(some 115), 115, (.call 34 []), none, []⟩,
    ⟨(some 6), 6, (.mv (.t 115)), none, [0, 0, 0]⟩])
  .ret))))))))
theorem fn12 : FnIs Try.prog 12 ac12 [(.t 6)] 116 := ⟨Try.f12, Try.func12, by kernel_rfl, by kernel_rfl, by kernel_rfl⟩
/- lockkeeper/lockkeeperlaw12.JournalApart -/
def ac14 : ACode := (.seq (.reg [⟨(some 10), 10, (.mv (.k (.c (.s (.pv (.bool false)))))), none, []⟩])
  (.seq (.reg [⟨(some 25), 25, (.mv (.t 0)), none, []⟩,
    ⟨(some 26), 26, (.call 45 [(.t 25)]), none, [0]⟩,
    ⟨(some 11), 11, (.mk 68 2 [[.zc, .zc]]), none, []⟩,
    ⟨none, 158, (.store 2 (.t 11) (.t 26)), none, [2, 1, 1, 0, 1, 2]⟩])
  (.seq (.seq (.reg [⟨(some 27), 27, (.mv (.t 3)), none, []⟩,
    ⟨(some 28), 28, (.slen (.t 27)), none, [0]⟩,
    ⟨(some 29), 29, (.bin false .neq (.t 28) (.k (.c (.s (.pv (.int .i64 32)))))), none, [1]⟩,
    ⟨(some 30), 30, (.mv (.t 29)), none, [2]⟩,
    ⟨(some 31), 31, (.mv (.t 4)), (some (30, false)), [3]⟩,
    ⟨(some 32), 32, (.slen (.t 31)), (some (30, false)), [4, 3]⟩,
    ⟨(some 33), 33, (.bin false .neq (.t 32) (.k (.c (.s (.pv (.int .i64 32)))))), (some (30, false)), [5, 3]⟩,
    ⟨(some 34), 34, (.pick (.t 30) (.k (.c (.s (.pv (.bool true))))) (.t 33)), none, [3, 6]⟩,
    ⟨(some 35), 35, (.mv (.t 34)), none, [7, 3]⟩,
    ⟨(some 36), 36, (.fld 0 (.t 11)), (some (35, false)), [8]⟩,
    ⟨(some 37), 37, (.load false 1 (.t 36)), (some (35, false)), [9, 8]⟩,
    ⟨(some 38), 38, (.len (.t 37)), (some (35, false)), [10, 8]⟩,
    ⟨(some 39), 39, (.bin false .neq (.t 38) (.k (.c (.s (.pv (.int .i64 35)))))), (some (35, false)), [11, 8]⟩,
    ⟨(some 40), 40, (.pick (.t 35) (.k (.c (.s (.pv (.bool true))))) (.t 39)), none, [8, 12]⟩])
  (.cond (.t 40) (.seq (.reg [⟨(some 41), 41, (.mv (.t 3)), none, []⟩,
    ⟨(some 42), 42, (.slen (.t 41)), none, [0]⟩,
    ⟨(some 43), 43, (.bin false .neq (.t 42) (.k (.c (.s (.pv (.int .i64 32)))))), none, [1]⟩,
    ⟨(some 44), 44, (.mv (.t 43)), none, [2]⟩,
    ⟨(some 45), 45, (.mv (.t 4)), (some (44, false)), [3]⟩,
    ⟨(some 46), 46, (.slen (.t 45)), (some (44, false)), [4, 3]⟩,
    ⟨(some 47), 47, (.bin false .neq (.t 46) (.k (.c (.s (.pv (.int .i64 32)))))), (some (44, false)), [5, 3]⟩,
    ⟨(some 48), 48, (.pick (.t 44) (.k (.c (.s (.pv (.bool true))))) (.t 47)), none, [3, 6]⟩,
    ⟨(some 49), 49, (.mv (.t 48)), none, [7, 3]⟩,
    ⟨(some 50), 50, (.call 34 []), (some (49, true)), [8, 8]⟩,
    ⟨(some 51), 51, (.pick (.t 49) (.t 50) (.k (.c (.s (.pv (.bool false)))))), none, [8, 9]⟩,
    ⟨(some 10), 10, (.mv (.t 51)), none, [10, 9, 0, 1, 2, 3, 4, 5, 6, 7, 8, 9, 10]⟩])
  .ret) .skip))
  (.seq (.reg [⟨(some 52), 52, (.mv (.t 1)), none, []⟩,
    ⟨(some 53), 53, (.bin false .rem (.t 52) (.k (.c (.s (.pv (.int .u8 16)))))), none, [0]⟩,
    ⟨(some 54), 54, (.conv .i64 (.t 53)), none, [1]⟩,
    ⟨(some 55), 55, (.bin false .add (.k (.c (.s (.pv (.int .i64 1))))) (.t 54)), none, [2]⟩,
    ⟨(some 56), 56, (.mv (.t 2)), none, []⟩,
    ⟨(some 57), 57, (.bin false .rem (.t 56) (.k (.c (.s (.pv (.int .u8 16)))))), none, [4]⟩,
    ⟨(some 58), 58, (.conv .i64 (.t 57)), none, [5]⟩,
    ⟨(some 59), 59, (.bin false .add (.k (.c (.s (.pv (.int .i64 1))))) (.t 58)), none, [6]⟩,
    ⟨(some 12), 12, (.mv (.t 55)), none, [3, 0, 1, 2, 3]⟩,
    ⟨(some 13), 13, (.mv (.t 59)), none, [7, 8, 0, 1, 2, 3, 4, 5, 6, 7, 8]⟩])
  (.seq (.reg [⟨(some 61), 61, (.load true 2 (.t 11)), none, []⟩,
    ⟨(some 62), 62, (.mv (.t 12)), none, []⟩,
    ⟨(some 63), 63, (.mv (.t 3)), none, []⟩,
    ⟨(some 64), 64, (.call 36 [(.t 61), (.t 62), (.t 63)]), none, [0, 1, 2]⟩,
    ⟨(some 60), 60, (.mv (.t 64)), none, [3]⟩,
    ⟨(some 65), 65, (.ext 0 (.t 60)), none, [4]⟩,
    ⟨(some 66), 66, (.ext 1 (.t 60)), none, [4]⟩,
    ⟨(some 14), 14, (.mk 68 2 [[.zc, .zc]]), none, []⟩,
    ⟨none, 163, (.store 2 (.t 14) (.t 65)), none, [7, 5, 3, 0, 1, 2, 3, 4, 5, 7]⟩,
    ⟨(some 15), 15, (.mv (.t 66)), none, [6, 8, 0, 1, 2, 3, 4, 5, 6, 7, 8]⟩])
  (.seq (.reg [⟨(some 68), 68, (.load true 2 (.t 14)), none, []⟩,
    ⟨(some 69), 69, (.mv (.t 13)), none, []⟩,
    ⟨(some 70), 70, (.mv (.t 4)), none, []⟩,
    ⟨(some 71), 71, (.call 36 [(.t 68), (.t 69), (.t 70)]), none, [0, 1, 2]⟩,
    ⟨(some 67), 67, (.mv (.t 71)), none, [3]⟩,
    ⟨(some 72), 72, (.ext 0 (.t 67)), none, [4]⟩,
    ⟨(some 73), 73, (.ext 1 (.t 67)), none, [4]⟩,
    ⟨none, 162, (.store 2 (.t 14) (.t 72)), none, [5, 3, 0, 1, 2, 3, 4, 5]⟩,
    ⟨(some 16), 16, (.mv (.t 73)), none, [6, 7, 0, 1, 2, 3, 4, 5, 6, 7]⟩])
  (.seq (.reg [⟨(some 75), 75, (.load true 2 (.t 11)), none, []⟩,
    ⟨(some 76), 76, (.mv (.t 13)), none, []⟩,
    ⟨(some 77), 77, (.mv (.t 4)), none, []⟩,
    ⟨(some 78), 78, (.call 36 [(.t 75), (.t 76), (.t 77)]), none, [0, 1, 2]⟩,
    ⟨(some 74), 74, (.mv (.t 78)), none, [3]⟩,
    ⟨(some 79), 79, (.ext 0 (.t 74)), none, [4]⟩,
    ⟨(some 80), 80, (.ext 1 (.t 74)), none, [4]⟩,
    ⟨(some 17), 17, (.mk 68 2 [[.zc, .zc]]), none, []⟩,
    ⟨none, 163, (.store 2 (.t 17) (.t 79)), none, [7, 5, 3, 0, 1, 2, 3, 4, 5, 7]⟩,
    ⟨(some 18), 18, (.mv (.t 80)), none, [6, 8, 0, 1, 2, 3, 4, 5, 6, 7, 8]⟩])
  (.seq (.reg [⟨(some 82), 82, (.load true 2 (.t 17)), none, []⟩,
    ⟨(some 83), 83, (.mv (.t 12)), none, []⟩,
    ⟨(some 84), 84, (.mv (.t 3)), none, []⟩,
    ⟨(some 85), 85, (.call 36 [(.t 82), (.t 83), (.t 84)]), none, [0, 1, 2]⟩,
    ⟨(some 81), 81, (.mv (.t 85)), none, [3]⟩,
    ⟨(some 86), 86, (.ext 0 (.t 81)), none, [4]⟩,
    ⟨(some 87), 87, (.ext 1 (.t 81)), none, [4]⟩,
    ⟨none, 162, (.store 2 (.t 17) (.t 86)), none, [5, 3, 0, 1, 2, 3, 4, 5]⟩,
    ⟨(some 19), 19, (.mv (.t 87)), none, [6, 7, 0, 1, 2, 3, 4, 5, 6, 7]⟩])
  (.seq (.seq (.reg [⟨(some 88), 88, (.mv (.t 15)), none, []⟩,
    ⟨(some 89), 89, (.bin false .neq (.t 88) (.k (.c (.s (.pv (.int .i64 0)))))), none, [0]⟩,
    ⟨(some 90), 90, (.mv (.t 89)), none, [1]⟩,
    ⟨(some 91), 91, (.mv (.t 16)), (some (90, false)), [2]⟩,
    ⟨(some 92), 92, (.bin false .neq (.t 91) (.k (.c (.s (.pv (.int .i64 0)))))), (some (90, false)), [3, 2]⟩,
    ⟨(some 93), 93, (.pick (.t 90) (.k (.c (.s (.pv (.bool true))))) (.t 92)), none, [2, 4]⟩,
    ⟨(some 94), 94, (.mv (.t 93)), none, [5, 2]⟩,
    ⟨(some 95), 95, (.mv (.t 18)), (some (94, false)), [6]⟩,
    ⟨(some 96), 96, (.bin false .neq (.t 95) (.k (.c (.s (.pv (.int .i64 0)))))), (some (94, false)), [7, 6]⟩,
    ⟨(some 97), 97, (.pick (.t 94) (.k (.c (.s (.pv (.bool true))))) (.t 96)), none, [6, 8]⟩,
    ⟨(some 98), 98, (.mv (.t 97)), none, [9, 6]⟩,
    ⟨(some 99), 99, (.mv (.t 19)), (some (98, false)), [10]⟩,
    ⟨(some 100), 100, (.bin false .neq (.t 99) (.k (.c (.s (.pv (.int .i64 0)))))), (some (98, false)), [11, 10]⟩,
    ⟨(some 101), 101, (.pick (.t 98) (.k (.c (.s (.pv (.bool true))))) (.t 100)), none, [10, 12]⟩])
  (.cond (.t 101) (.seq (.reg [⟨(some 10), 10, (.mv (.k (.c (.s (.pv (.bool false)))))), none, []⟩])
  .ret) .skip))
  (.seq (.seq (.reg [⟨(some 20), 20, (.mv (.k (.c (.s (.pv (.int .i64 1)))))), none, []⟩])
  (.block 0 (.loop (.seq (.seq (.reg [⟨(some 102), 102, (.mv (.t 20)), none, []⟩,
    ⟨(some 103), 103, (.bin false .leq (.t 102) (.k (.c (.s (.pv (.int .i64 16)))))), none, [0]⟩])
  (.cond (.t 103) .skip (.exit 0)))
  (.seq (.block 1 (.seq (.reg [⟨(some 107), 107, (.load true 2 (.t 14)), none, []⟩,
    ⟨(some 108), 108, (.mv (.t 20)), none, []⟩,
    ⟨(some 109), 109, (.call 37 [(.t 107), (.t 108)]), none, [0, 1]⟩,
    ⟨(some 106), 106, (.mv (.t 109)), none, [2]⟩,
    ⟨(some 110), 110, (.ext 0 (.t 106)), none, [3]⟩,
    ⟨(some 111), 111, (.ext 1 (.t 106)), none, [3]⟩,
    ⟨(some 21), 21, (.mv (.t 110)), none, [4, 2, 0, 1, 2, 3, 4]⟩,
    ⟨(some 22), 22, (.mv (.t 111)), none, [5, 6, 0, 1, 2, 3, 4, 5, 6]⟩])
  (.seq (.reg [⟨(some 113), 113, (.load true 2 (.t 17)), none, []⟩,
    ⟨(some 114), 114, (.mv (.t 20)), none, []⟩,
    ⟨(some 115), 115, (.call 37 [(.t 113), (.t 114)]), none, [0, 1]⟩,
    ⟨(some 112), 112, (.mv (.t 115)), none, [2]⟩,
    ⟨(some 116), 116, (.ext 0 (.t 112)), none, [3]⟩,
    ⟨(some 117), 117, (.ext 1 (.t 112)), none, [3]⟩,
    ⟨(some 23), 23, (.mv (.t 116)), none, [4, 2, 0, 1, 2, 3, 4]⟩,
    ⟨(some 24), 24, (.mv (.t 117)), none, [5, 6, 0, 1, 2, 3, 4, 5, 6]⟩])
  (.seq (.reg [⟨(some 118), 118, (.mv (.t 22)), none, []⟩,
    ⟨(some 119), 119, (.bin false .neq (.t 118) (.k (.c (.s (.pv (.int .i64 0)))))), none, [0]⟩,
    ⟨(some 120), 120, (.mv (.t 119)), none, [1]⟩,
    ⟨(some 121), 121, (.mv (.t 24)), (some (120, false)), [2]⟩,
    ⟨(some 122), 122, (.bin false .neq (.t 121) (.k (.c (.s (.pv (.int .i64 0)))))), (some (120, false)), [3, 2]⟩,
    ⟨(some 123), 123, (.pick (.t 120) (.k (.c (.s (.pv (.bool true))))) (.t 122)), none, [2, 4]⟩,
    ⟨(some 124), 124, (.mv (.t 123)), none, [5, 2]⟩,
    ⟨(some 125), 125, (.mv (.t 12)), (some (124, false)), [6]⟩,
    ⟨(some 126), 126, (.mv (.t 13)), (some (124, false)), [6]⟩,
    ⟨(some 127), 127, (.bin false .neq (.t 125) (.t 126)), (some (124, false)), [7, 8, 6]⟩,
    ⟨(some 128), 128, (.mv (.t 127)), (some (124, false)), [9, 6, 6]⟩,
    ⟨(some 129), 129, (.mv (.t 21)), (some (128, true)), [10]⟩,
    ⟨(some 130), 130, (.mv (.t 23)), (some (128, true)), [10]⟩,
    ⟨(some 131), 131, (.bin false .neq (.t 129) (.t 130)), (some (128, true)), [11, 12, 10]⟩,
    ⟨(some 132), 132, (.pick (.t 128) (.t 131) (.k (.c (.s (.pv (.bool false)))))), (some (124, false)), [10, 13, 6]⟩,
    ⟨(some 133), 133, (.pick (.t 124) (.k (.c (.s (.pv (.bool true))))) (.t 132)), none, [6, 14]⟩,
    ⟨(some 134), 134, (.mv (.t 133)), none, [15, 10]⟩,
    ⟨(some 135), 135, (.mv (.t 12)), (some (134, false)), [16]⟩,
    ⟨(some 136), 136, (.mv (.t 13)), (some (134, false)), [16]⟩,
    ⟨(some 137), 137, (.bin false .eql (.t 135) (.t 136)), (some (134, false)), [17, 18, 16]⟩,
    ⟨(some 138), 138, (.mv (.t 137)), (some (134, false)), [19, 16, 16]⟩,
    ⟨(some 139), 139, (.mv (.t 20)), (some (138, true)), [20]⟩,
    ⟨(some 140), 140, (.mv (.t 12)), (some (138, true)), [20]⟩,
    ⟨(some 141), 141, (.bin false .eql (.t 139) (.t 140)), (some (138, true)), [21, 22, 20]⟩,
    ⟨(some 142), 142, (.pick (.t 138) (.t 141) (.k (.c (.s (.pv (.bool false)))))), (some (134, false)), [20, 23, 16]⟩,
    ⟨(some 143), 143, (.mv (.t 142)), (some (134, false)), [24, 20, 16]⟩,
    ⟨(some 144), 144, (.mv (.t 21)), (some (143, true)), [25]⟩,
    ⟨(some 145), 145, (.mv (.t 4)), (some (143, true)), [25]⟩,
    ⟨(some 146), 146, (.bin false .neq (.t 144) (.t 145)), (some (143, true)), [26, 27, 25]⟩,
    ⟨(some 147), 147, (.mv (.t 146)), (some (143, true)), [28, 25, 25]⟩,
    ⟨(some 148), 148, (.mv (.t 23)), (some (147, false)), [29]⟩,
    ⟨(some 149), 149, (.mv (.t 3)), (some (147, false)), [29]⟩,
    ⟨(some 150), 150, (.bin false .neq (.t 148) (.t 149)), (some (147, false)), [30, 31, 29]⟩,
    ⟨(some 151), 151, (.pick (.t 147) (.k (.c (.s (.pv (.bool true))))) (.t 150)), (some (143, true)), [29, 32, 25]⟩,
    ⟨(some 152), 152, (.pick (.t 143) (.t 151) (.k (.c (.s (.pv (.bool false)))))), (some (134, false)), [25, 33, 16]⟩,
    ⟨(some 153), 153, (.pick (.t 134) (.k (.c (.s (.pv (.bool true))))) (.t 152)), none, [16, 34]⟩])
  (.cond (.t 153) (.seq (.reg [⟨(some 10), 10, (.mv (.k (.c (.s (.pv (.bool false)))))), none, []⟩])
  .ret) .skip)))))
  (.reg [⟨(some 104), 104, (.mv (.t 20)), none, []⟩,
    ⟨(some 105), 105, (.bin false .add (.t 104) (.k (.c (.s (.pv (.int .i64 1)))))), none, [0]⟩,
    ⟨(some 20), 20, (.mv (.t 105)), none, [1, 0, 1]⟩]))))))
  (.seq (.reg [⟨(some 154), 154, (.call 34 []), none, []⟩,
    ⟨(some 10), 10, (.mv (.t 154)), none, [0, 0, 0]⟩])
  .ret)))))))))))
theorem fn14 : FnIs Try.prog 14 ac14 [(.t 10)] 155 := ⟨Try.f14, Try.func14, by kernel_rfl, by kernel_rfl, by kernel_rfl⟩
/- lockkeeper/lockkeeperref03.Small -/
def ac33 : ACode := (.seq (.reg [⟨(some 1), 1, (.box 68 2 (.t 0)), none, []⟩,
    ⟨(some 2), 2, (.mv (.k (.c (.s (.pv (.bool false)))))), none, []⟩])
  (.seq (.seq (.reg [⟨(some 5), 5, (.fld 0 (.t 1)), none, []⟩,
    ⟨(some 6), 6, (.load false 1 (.t 5)), none, [0]⟩,
    ⟨(some 7), 7, (.len (.t 6)), none, [1]⟩,
    ⟨(some 8), 8, (.bin false .gtr (.t 7) (.k (.c (.s (.pv (.int .i64 80)))))), none, [2]⟩,
    ⟨(some 9), 9, (.mv (.t 8)), none, [3]⟩,
    ⟨(some 10), 10, (.fld 1 (.t 1)), (some (9, false)), [4]⟩,
    ⟨(some 11), 11, (.load false 1 (.t 10)), (some (9, false)), [5, 4]⟩,
    ⟨(some 12), 12, (.len (.t 11)), (some (9, false)), [6, 4]⟩,
    ⟨(some 13), 13, (.bin false .gtr (.t 12) (.k (.c (.s (.pv (.int .i64 220)))))), (some (9, false)), [7, 4]⟩,
    ⟨(some 14), 14, (.pick (.t 9) (.k (.c (.s (.pv (.bool true))))) (.t 13)), none, [4, 8]⟩])
  (.cond (.t 14) (.seq (.reg [⟨(some 2), 2, (.mv (.k (.c (.s (.pv (.bool false)))))), none, []⟩])
  .ret) .skip))
  (.seq (.seq (.reg [⟨(some 3), 3, (.mv (.k (.c (.s (.pv (.int .i64 0)))))), none, []⟩])
  (.block 0 (.loop (.seq (.seq (.reg [⟨(some 15), 15, (.mv (.t 3)), none, []⟩,
    ⟨(some 16), 16, (.fld 0 (.t 1)), none, []⟩,
    ⟨(some 17), 17, (.load false 1 (.t 16)), none, [1]⟩,
    ⟨(some 18), 18, (.len (.t 17)), none, [2]⟩,
    ⟨(some 19), 19, (.bin false .lss (.t 15) (.t 18)), none, [0, 3]⟩])
  (.cond (.t 19) .skip (.exit 0)))
  (.seq (.block 1 (.seq (.reg [⟨(some 22), 22, (.fld 0 (.t 1)), none, []⟩,
    ⟨(some 23), 23, (.load false 1 (.t 22)), none, [0]⟩,
    ⟨(some 24), 24, (.mv (.t 3)), none, []⟩,
    ⟨(some 25), 25, (.idx 1 (.t 23) (.t 24)), none, [1, 2]⟩,
    ⟨(some 26), 26, (.load false 1 (.t 25)), none, [3]⟩,
    ⟨(some 27), 27, (.slen (.t 26)), none, [4]⟩,
    ⟨(some 28), 28, (.bin false .gtr (.t 27) (.k (.c (.s (.pv (.int .i64 40)))))), none, [5]⟩])
  (.cond (.t 28) (.seq (.reg [⟨(some 2), 2, (.mv (.k (.c (.s (.pv (.bool false)))))), none, []⟩])
  .ret) .skip)))
  (.reg [⟨(some 20), 20, (.mv (.t 3)), none, []⟩,
    ⟨(some 21), 21, (.bin false .add (.t 20) (.k (.c (.s (.pv (.int .i64 1)))))), none, [0]⟩,
    ⟨(some 3), 3, (.mv (.t 21)), none, [1, 0, 1]⟩]))))))
  (.seq (.seq (.reg [⟨(some 4), 4, (.mv (.k (.c (.s (.pv (.int .i64 0)))))), none, []⟩])
  (.block 2 (.loop (.seq (.seq (.reg [⟨(some 29), 29, (.mv (.t 4)), none, []⟩,
    ⟨(some 30), 30, (.fld 1 (.t 1)), none, []⟩,
    ⟨(some 31), 31, (.load false 1 (.t 30)), none, [1]⟩,
    ⟨(some 32), 32, (.len (.t 31)), none, [2]⟩,
    ⟨(some 33), 33, (.bin false .lss (.t 29) (.t 32)), none, [0, 3]⟩])
  (.cond (.t 33) .skip (.exit 2)))
  (.seq (.block 3 (.seq (.reg [⟨(some 36), 36, (.fld 1 (.t 1)), none, []⟩,
    ⟨(some 37), 37, (.load false 1 (.t 36)), none, [0]⟩,
    ⟨(some 38), 38, (.mv (.t 4)), none, []⟩,
    ⟨(some 39), 39, (.idx 2 (.t 37) (.t 38)), none, [1, 2]⟩,
    ⟨(some 40), 40, (.fld 1 (.t 39)), none, [3]⟩,
    ⟨(some 41), 41, (.load false 1 (.t 40)), none, [4]⟩,
    ⟨(some 42), 42, (.slen (.t 41)), none, [5]⟩,
    ⟨(some 43), 43, (.bin false .gtr (.t 42) (.k (.c (.s (.pv (.int .i64 40)))))), none, [6]⟩])
  (.cond (.t 43) (.seq (.reg [⟨(some 2), 2, (.mv (.k (.c (.s (.pv (.bool false)))))), none, []⟩])
  .ret) .skip)))
  (.reg [⟨(some 34), 34, (.mv (.t 4)), none, []⟩,
    ⟨(some 35), 35, (.bin false .add (.t 34) (.k (.c (.s (.pv (.int .i64 1)))))), none, [0]⟩,
    ⟨(some 4), 4, (.mv (.t 35)), none, [1, 0, 1]⟩]))))))
  (.seq (.reg [⟨(some 2), 2, (.mv (.k (.c (.s (.pv (.bool true)))))), none, []⟩])
  .ret)))))
theorem fn33 : FnIs Try.prog 33 ac33 [(.t 2)] 44 := ⟨Try.f33, Try.func33, by kernel_rfl, by kernel_rfl, by kernel_rfl⟩
/- lockkeeper/lockkeeperlaw12.awake -/
def ac34 : ACode := (.seq (.reg [⟨(some 0), 0, (.mv (.k (.c (.s (.pv (.bool false)))))), none, []⟩])
  (.seq (.reg [⟨(some 14), 14, (.call 51 [(.k (.c (.s (.pv (.int .i64 35)))))]), none, []⟩,
    ⟨(some 13), 13, (.mv (.t 14)), none, [0]⟩,
    ⟨(some 15), 15, (.ext 0 (.t 13)), none, [1]⟩,
    ⟨(some 16), 16, (.ext 1 (.t 13)), none, [1]⟩,
    ⟨(some 1), 1, (.mk 68 2 [[.zc, .zc]]), none, []⟩,
    ⟨none, 84, (.store 2 (.t 1) (.t 15)), none, [4, 2, 0, 0, 1, 2, 4]⟩,
    ⟨(some 2), 2, (.mv (.t 16)), none, [3, 5, 0, 1, 2, 3, 4, 5]⟩])
  (.seq (.reg [⟨(some 3), 3, (.mv (.k (.c (.s (.pv (.string ⟨#[48, 49, 50, 51, 52, 53, 54, 55, 56, 57, 97, 98, 99, 100, 101, 102, 48, 49, 50, 51, 52, 53, 54, 55, 56, 57, 65, 66, 67, 68, 69, 70]⟩)))))), none, []⟩])
  (.seq (.reg [⟨(some 18), 18, (.load true 2 (.t 1)), none, []⟩,
    ⟨(some 19), 19, (.mv (.t 3)), none, []⟩,
    ⟨(some 20), 20, (.call 35 [(.t 18), (.k (.c (.s (.pv (.int .i64 3))))), (.t 19)]), none, [0, 1]⟩,
    ⟨(some 17), 17, (.mv (.t 20)), none, [2]⟩,
    ⟨(some 21), 21, (.ext 0 (.t 17)), none, [3]⟩,
    ⟨(some 22), 22, (.ext 1 (.t 17)), none, [3]⟩,
    ⟨(some 4), 4, (.mv (.t 21)), none, [4, 2, 0, 1, 2, 3, 4]⟩,
    ⟨(some 5), 5, (.mv (.t 22)), none, [5, 6, 0, 1, 2, 3, 4, 5, 6]⟩])
  (.seq (.reg [⟨(some 24), 24, (.load true 2 (.t 1)), none, []⟩,
    ⟨(some 25), 25, (.mv (.t 3)), none, []⟩,
    ⟨(some 26), 26, (.call 36 [(.t 24), (.k (.c (.s (.pv (.int .i64 3))))), (.t 25)]), none, [0, 1]⟩,
    ⟨(some 23), 23, (.mv (.t 26)), none, [2]⟩,
    ⟨(some 27), 27, (.ext 0 (.t 23)), none, [3]⟩,
    ⟨(some 28), 28, (.ext 1 (.t 23)), none, [3]⟩,
    ⟨(some 6), 6, (.mk 68 2 [[.zc, .zc]]), none, []⟩,
    ⟨none, 86, (.store 2 (.t 6) (.t 27)), none, [6, 4, 2, 0, 1, 2, 3, 4, 6]⟩,
    ⟨(some 7), 7, (.mv (.t 28)), none, [5, 7, 0, 1, 2, 3, 4, 5, 6, 7]⟩])
  (.seq (.reg [⟨(some 30), 30, (.load true 2 (.t 6)), none, []⟩,
    ⟨(some 31), 31, (.call 37 [(.t 30), (.k (.c (.s (.pv (.int .i64 3)))))]), none, [0]⟩,
    ⟨(some 29), 29, (.mv (.t 31)), none, [1]⟩,
    ⟨(some 32), 32, (.ext 0 (.t 29)), none, [2]⟩,
    ⟨(some 33), 33, (.ext 1 (.t 29)), none, [2]⟩,
    ⟨(some 8), 8, (.mv (.t 32)), none, [3, 1, 0, 1, 2, 3]⟩,
    ⟨(some 9), 9, (.mv (.t 33)), none, [4, 5, 0, 1, 2, 3, 4, 5]⟩])
  (.seq (.reg [⟨(some 34), 34, (.load true 2 (.t 1)), none, []⟩,
    ⟨(some 35), 35, (.mv (.t 4)), none, []⟩,
    ⟨(some 36), 36, (.call 47 [(.t 34), (.t 35), (.k (.c (.s (.pv (.int .i64 5)))))]), none, [0, 1]⟩,
    ⟨(some 37), 37, (.call 75 [(.t 36)]), none, [2, 2]⟩,
    ⟨(some 10), 10, (.mk 68 2 [[.zc, .zc]]), none, []⟩,
    ⟨none, 84, (.store 2 (.t 10) (.t 37)), none, [4, 3, 3, 0, 1, 2, 3, 4]⟩])
  (.seq (.reg [⟨(some 39), 39, (.load true 2 (.t 10)), none, []⟩,
    ⟨(some 40), 40, (.call 48 [(.t 39)]), none, [0]⟩,
    ⟨(some 41), 41, (.call 37 [(.t 40), (.k (.c (.s (.pv (.int .i64 3)))))]), none, [1, 1]⟩,
    ⟨(some 38), 38, (.mv (.t 41)), none, [2]⟩,
    ⟨(some 42), 42, (.ext 0 (.t 38)), none, [3]⟩,
    ⟨(some 43), 43, (.ext 1 (.t 38)), none, [3]⟩,
    ⟨(some 11), 11, (.mv (.t 42)), none, [4, 2, 0, 1, 2, 3, 4]⟩,
    ⟨(some 12), 12, (.mv (.t 43)), none, [5, 6, 0, 1, 2, 3, 4, 5, 6]⟩])
  (.seq (.reg [⟨(some 44), 44, (.mv (.t 4)), none, []⟩,
    ⟨(some 45), 45, (.len (.t 44)), none, [0]⟩,
    ⟨(some 46), 46, (.bin false .eql (.t 45) (.k (.c (.s (.pv (.int .i64 10)))))), none, [1]⟩,
    ⟨(some 47), 47, (.mv (.t 46)), none, [2]⟩,
    ⟨(some 48), 48, (.mv (.t 5)), (some (47, true)), [3]⟩,
    ⟨(some 49), 49, (.bin false .eql (.t 48) (.k (.c (.s (.pv (.int .i64 0)))))), (some (47, true)), [4, 3]⟩,
    ⟨(some 50), 50, (.pick (.t 47) (.t 49) (.k (.c (.s (.pv (.bool false)))))), none, [3, 5]⟩,
    ⟨(some 51), 51, (.mv (.t 50)), none, [6, 3]⟩,
    ⟨(some 52), 52, (.mv (.t 7)), (some (51, true)), [7]⟩,
    ⟨(some 53), 53, (.bin false .eql (.t 52) (.k (.c (.s (.pv (.int .i64 0)))))), (some (51, true)), [8, 7]⟩,
    ⟨(some 54), 54, (.pick (.t 51) (.t 53) (.k (.c (.s (.pv (.bool false)))))), none, [7, 9]⟩,
    ⟨(some 55), 55, (.mv (.t 54)), none, [10, 7]⟩,
    ⟨(some 56), 56, (.mv (.t 8)), (some (55, true)), [11]⟩,
    ⟨(some 57), 57, (.mv (.t 3)), (some (55, true)), [11]⟩,
    ⟨(some 58), 58, (.bin false .eql (.t 56) (.t 57)), (some (55, true)), [12, 13, 11]⟩,
    ⟨(some 59), 59, (.pick (.t 55) (.t 58) (.k (.c (.s (.pv (.bool false)))))), none, [11, 14]⟩,
    ⟨(some 60), 60, (.mv (.t 59)), none, [15, 11]⟩,
    ⟨(some 61), 61, (.mv (.t 9)), (some (60, true)), [16]⟩,
    ⟨(some 62), 62, (.bin false .eql (.t 61) (.k (.c (.s (.pv (.int .i64 0)))))), (some (60, true)), [17, 16]⟩,
    ⟨(some 63), 63, (.pick (.t 60) (.t 62) (.k (.c (.s (.pv (.bool false)))))), none, [16, 18]⟩,
    ⟨(some 64), 64, (.mv (.t 63)), none, [19, 16]⟩,
    ⟨(some 65), 65, (.mv (.t 11)), (some (64, true)), [20]⟩,
    ⟨(some 66), 66, (.mv (.t 3)), (some (64, true)), [20]⟩,
    ⟨(some 67), 67, (.bin false .eql (.t 65) (.t 66)), (some (64, true)), [21, 22, 20]⟩,
    ⟨(some 68), 68, (.pick (.t 64) (.t 67) (.k (.c (.s (.pv (.bool false)))))), none, [20, 23]⟩,
    ⟨(some 69), 69, (.mv (.t 68)), none, [24, 20]⟩,
    ⟨(some 70), 70, (.mv (.t 12)), (some (69, true)), [25]⟩,
    ⟨(some 71), 71, (.bin false .eql (.t 70) (.k (.c (.s (.pv (.int .i64 0)))))), (some (69, true)), [26, 25]⟩,
    ⟨(some 72), 72, (.pick (.t 69) (.t 71) (.k (.c (.s (.pv (.bool false)))))), none, [25, 27]⟩,
    ⟨(some 73), 73, (.mv (.t 72)), none, [28, 25]⟩,
    ⟨(some 74), 74, (.load true 2 (.t 1)), (some (73, true)), [29]⟩,
    ⟨(some 75), 75, (.call 50 [(.t 74)]), (some (73, true)), [30, 29, 29]⟩,
    ⟨(some 76), 76, (.len (.t 75)), (some (73, true)), [31, 29]⟩,
    ⟨(some 77), 77, (.bin false .eql (.t 76) (.k (.c (.s (.pv (.int .i64 0)))))), (some (73, true)), [32, 29]⟩,
    ⟨(some 78), 78, (.pick (.t 73) (.t 77) (.k (.c (.s (.pv (.bool false)))))), none, [29, 33]⟩,
    ⟨(some 0), 0, (.mv (.t 78)), none, [34, 31, 0, 1, 2, 3, 4, 5, 6, 7, 8, 9, 10, 11, 12, 13, 14, 15, 16, 17, 18, 19, 20, 21, 22, 23, 24, 25, 26, 27, 28, 29, 30, 31, 32, 33, 34]⟩])
  .ret)))))))))
theorem fn34 : FnIs Try.prog 34 ac34 [(.t 0)] 79 := ⟨Try.f34, Try.func34, by kernel_rfl, by kernel_rfl, by kernel_rfl⟩
/- lockkeeper/journal.Plan -/
def ac35 : ACode := (.seq (.reg [⟨(some 3), 3, (.box 68 2 (.t 0)), none, []⟩,
    ⟨(some 6), 6, (.mv (.k (.c .zc))), none, []⟩,
    ⟨(some 7), 7, (.mv (.k (.c (.s (.pv (.int .i64 0)))))), none, [1]⟩])
  (.seq (.seq (.reg [⟨(some 10), 10, (.load true 2 (.t 3)), none, []⟩,
    ⟨(some 11), 11, (.call 76 [(.t 10)]), none, [0]⟩,
    ⟨(some 12), 12, (.not (.t 11)), none, [1]⟩,
    ⟨(some 13), 13, (.mv (.t 12)), none, [2, 1]⟩,
    ⟨(some 14), 14, (.mv (.t 1)), (some (13, false)), [3]⟩,
    ⟨(some 15), 15, (.call 77 [(.t 14)]), (some (13, false)), [4, 3, 3]⟩,
    ⟨(some 16), 16, (.not (.t 15)), (some (13, false)), [5, 3]⟩,
    ⟨(some 17), 17, (.pick (.t 13) (.k (.c (.s (.pv (.bool true))))) (.t 16)), none, [3, 6]⟩,
    ⟨(some 18), 18, (.mv (.t 17)), none, [7, 5]⟩,
    ⟨(some 19), 19, (.mv (.t 2)), (some (18, false)), [8]⟩,
    ⟨(some 20), 20, (.slen (.t 19)), (some (18, false)), [9, 8]⟩,
    ⟨(some 21), 21, (.bin false .neq (.t 20) (.k (.c (.s (.pv (.int .i64 32)))))), (some (18, false)), [10, 8]⟩,
    ⟨(some 22), 22, (.pick (.t 18) (.k (.c (.s (.pv (.bool true))))) (.t 21)), none, [8, 11]⟩])
  (.cond (.t 22) (.seq (.reg [⟨(some 6), 6, (.mv (.k (.c .zc))), none, []⟩,
    ⟨(some 7), 7, (.mv (.k (.c (.s (.pv (.int .i64 1)))))), none, [0, 0]⟩])
  .ret) .skip))
  (.seq (.draw [⟨(some 23), 23, (.mv (.t 2)), none, []⟩,
    ⟨(some 24), 24, (.ssub (.t 23) none (some (.k (.c (.s (.pv (.int .i64 16))))))), none, [0]⟩,
    ⟨(some 25), 25, (.mv (.t 2)), none, []⟩,
    ⟨(some 26), 26, (.ssub (.t 25) (some (.k (.c (.s (.pv (.int .i64 16)))))) none), none, [2]⟩,
    ⟨(some 8), 8, (.mv (.t 24)), none, [1, 0, 1]⟩,
    ⟨(some 9), 9, (.mv (.t 26)), none, [3, 4, 0, 1, 2, 3, 4]⟩])
  (.seq (.reg [⟨(some 27), 27, (.mv (.t 8)), none, []⟩,
    ⟨(some 28), 28, (.call 78 [(.k (.c (.s (.pv (.int .i64 1))))), (.t 27)]), none, [0]⟩,
    ⟨(some 29), 29, (.mv (.t 9)), none, []⟩,
    ⟨(some 30), 30, (.call 78 [(.k (.c (.s (.pv (.int .i64 2))))), (.t 29)]), none, [2, 1]⟩,
    ⟨(some 31), 31, (.call 79 []), none, [3]⟩,
    ⟨(some 32), 32, (.mv (.t 1)), none, []⟩,
    ⟨(some 33), 33, (.call 80 [(.t 32)]), none, [5, 4]⟩,
    ⟨(some 34), 34, (.call 78 [(.k (.c (.s (.pv (.int .i64 0))))), (.t 33)]), none, [6, 6]⟩,
    ⟨(some 35), 35, (.call 79 []), none, [7]⟩,
    ⟨(some 36), 36, (.mv (.t 1)), none, []⟩,
    ⟨(some 37), 37, (.call 81 [(.t 36)]), none, [9, 8]⟩,
    ⟨(some 38), 38, (.mv (.t 8)), none, []⟩,
    ⟨(some 39), 39, (.call 78 [(.t 37), (.t 38)]), none, [10, 11, 10]⟩,
    ⟨(some 40), 40, (.mv (.t 1)), none, []⟩,
    ⟨(some 41), 41, (.call 81 [(.t 40)]), none, [13, 12]⟩,
    ⟨(some 42), 42, (.bin false .add (.t 41) (.k (.c (.s (.pv (.int .i64 1)))))), none, [14]⟩,
    ⟨(some 43), 43, (.mv (.t 9)), none, []⟩,
    ⟨(some 44), 44, (.call 78 [(.t 42), (.t 43)]), none, [15, 16, 14]⟩,
    ⟨(some 45), 45, (.call 79 []), none, [17]⟩,
    ⟨(some 46), 46, (.call 78 [(.k (.c (.s (.pv (.int .i64 0))))), (.k (.c (.s (.pv (.string ⟨#[0, 0, 0, 0, 0, 0, 0, 0, 0, 0, 0, 0, 0, 0, 0, 0]⟩)))))]), none, [18]⟩,
    ⟨(some 47), 47, (.call 79 []), none, [19]⟩,
    ⟨(some 48), 48, (.bslice 124 3 [(.s (.pv (.bool false))), (.s (.pv (.int .i64 0))), (.s (.pv (.string ⟨#[]⟩)))] 10 [(0, 3, (.t 28)), (3, 3, (.t 30)), (6, 3, (.t 31)), (9, 3, (.t 34)), (12, 3, (.t 35)), (15, 3, (.t 39)), (18, 3, (.t 44)), (21, 3, (.t 45)), (24, 3, (.t 46)), (27, 3, (.t 47))]), none, [1, 3, 4, 7, 8, 12, 17, 18, 19, 20]⟩,
    ⟨(some 6), 6, (.mv (.t 48)), none, [21, 20, 0, 1, 2, 3, 4, 5, 6, 7, 8, 9, 10, 11, 12, 13, 14, 15, 16, 17, 18, 19, 20, 21]⟩,
    ⟨(some 7), 7, (.mv (.k (.c (.s (.pv (.int .i64 0)))))), none, [22, 0, 1, 2, 3, 4, 5, 6, 7, 8, 9, 10, 11, 12, 13, 14, 15, 16, 17, 18, 19, 20, 21, 22]⟩])
  .ret))))
theorem fn35 : FnIs Try.prog 35 ac35 [(.t 6), (.t 7)] 49 := ⟨Try.f35, Try.func35, by kernel_rfl, by kernel_rfl, by kernel_rfl⟩
/- lockkeeper/journal.Commit -/
def ac36 : ACode := (.seq (.reg [⟨(some 3), 3, (.box 68 2 (.t 0)), none, []⟩,
    ⟨(some 6), 6, (.mk 68 2 [[.zc, .zc]]), none, []⟩,
    ⟨(some 7), 7, (.mv (.k (.c (.s (.pv (.int .i64 0)))))), none, []⟩])
  (.seq (.reg [⟨(some 11), 11, (.load true 2 (.t 3)), none, []⟩,
    ⟨(some 12), 12, (.mv (.t 1)), none, []⟩,
    ⟨(some 13), 13, (.mv (.t 2)), none, []⟩,
    ⟨(some 14), 14, (.call 35 [(.t 11), (.t 12), (.t 13)]), none, [0, 1, 2]⟩,
    ⟨(some 10), 10, (.mv (.t 14)), none, [3]⟩,
    ⟨(some 15), 15, (.ext 0 (.t 10)), none, [4]⟩,
    ⟨(some 16), 16, (.ext 1 (.t 10)), none, [4]⟩,
    ⟨(some 8), 8, (.mv (.t 15)), none, [5, 3, 0, 1, 2, 3, 4, 5]⟩,
    ⟨(some 9), 9, (.mv (.t 16)), none, [6, 7, 0, 1, 2, 3, 4, 5, 6, 7]⟩])
  (.seq (.reg [⟨(some 17), 17, (.load true 2 (.t 3)), none, []⟩,
    ⟨(some 18), 18, (.mv (.t 8)), none, []⟩,
    ⟨(some 19), 19, (.mv (.t 8)), none, []⟩,
    ⟨(some 20), 20, (.len (.t 19)), none, [2]⟩,
    ⟨(some 21), 21, (.call 47 [(.t 17), (.t 18), (.t 20)]), none, [0, 1, 3]⟩,
    ⟨(some 22), 22, (.mv (.t 9)), none, []⟩,
    ⟨none, 29, (.store 2 (.t 6) (.t 21)), none, [4, 4, 0, 1, 2, 3, 4]⟩,
    ⟨(some 7), 7, (.mv (.t 22)), none, [5, 6, 0, 1, 2, 3, 4, 5, 6]⟩])
  .ret)))
theorem fn36 : FnIs Try.prog 36 ac36 [(.cell 6 true 2), (.t 7)] 23 := ⟨Try.f36, Try.func36, by kernel_rfl, by kernel_rfl, by kernel_rfl⟩
/- lockkeeper/journal.Get -/
def ac37 : ACode := (.seq (.reg [⟨(some 2), 2, (.box 68 2 (.t 0)), none, []⟩,
    ⟨(some 4), 4, (.mv (.k (.c (.s (.pv (.string ⟨#[]⟩)))))), none, []⟩,
    ⟨(some 5), 5, (.mv (.k (.c (.s (.pv (.int .i64 0)))))), none, [1]⟩])
  (.seq (.seq (.reg [⟨(some 10), 10, (.load true 2 (.t 2)), none, []⟩,
    ⟨(some 11), 11, (.call 76 [(.t 10)]), none, [0]⟩,
    ⟨(some 12), 12, (.not (.t 11)), none, [1]⟩,
    ⟨(some 13), 13, (.mv (.t 12)), none, [2, 1]⟩,
    ⟨(some 14), 14, (.mv (.t 1)), (some (13, false)), [3]⟩,
    ⟨(some 15), 15, (.call 77 [(.t 14)]), (some (13, false)), [4, 3, 3]⟩,
    ⟨(some 16), 16, (.not (.t 15)), (some (13, false)), [5, 3]⟩,
    ⟨(some 17), 17, (.pick (.t 13) (.k (.c (.s (.pv (.bool true))))) (.t 16)), none, [3, 6]⟩])
  (.cond (.t 17) (.seq (.reg [⟨(some 4), 4, (.mv (.k (.c (.s (.pv (.string ⟨#[]⟩)))))), none, []⟩,
    ⟨(some 5), 5, (.mv (.k (.c (.s (.pv (.int .i64 1)))))), none, [0, 0]⟩])
  .ret) .skip))
  (.seq (.draw [⟨(some 19), 19, (.load true 2 (.t 2)), none, []⟩,
    ⟨(some 20), 20, (.mv (.t 1)), none, []⟩,
    ⟨(some 21), 21, (.call 81 [(.t 20)]), none, [1]⟩,
    ⟨(some 22), 22, (.call 82 [(.t 19), (.t 21)]), none, [0, 2, 2]⟩,
    ⟨(some 18), 18, (.mv (.t 22)), none, [3]⟩,
    ⟨(some 23), 23, (.ext 0 (.t 18)), none, [4]⟩,
    ⟨(some 24), 24, (.ext 1 (.t 18)), none, [4]⟩,
    ⟨(some 6), 6, (.mv (.t 23)), none, [5, 3, 0, 1, 2, 3, 4, 5]⟩,
    ⟨(some 7), 7, (.mv (.t 24)), none, [6, 7, 0, 1, 2, 3, 4, 5, 6, 7]⟩])
  (.seq (.draw [⟨(some 26), 26, (.load true 2 (.t 2)), none, []⟩,
    ⟨(some 27), 27, (.mv (.t 1)), none, []⟩,
    ⟨(some 28), 28, (.call 81 [(.t 27)]), none, [1]⟩,
    ⟨(some 29), 29, (.bin false .add (.t 28) (.k (.c (.s (.pv (.int .i64 1)))))), none, [2]⟩,
    ⟨(some 30), 30, (.call 82 [(.t 26), (.t 29)]), none, [0, 3, 2]⟩,
    ⟨(some 25), 25, (.mv (.t 30)), none, [4]⟩,
    ⟨(some 31), 31, (.ext 0 (.t 25)), none, [5]⟩,
    ⟨(some 32), 32, (.ext 1 (.t 25)), none, [5]⟩,
    ⟨(some 8), 8, (.mv (.t 31)), none, [6, 4, 0, 1, 2, 3, 4, 5, 6]⟩,
    ⟨(some 9), 9, (.mv (.t 32)), none, [7, 8, 0, 1, 2, 3, 4, 5, 6, 7, 8]⟩])
  (.seq (.reg [⟨(some 33), 33, (.mv (.t 6)), none, []⟩,
    ⟨(some 34), 34, (.mv (.t 8)), none, []⟩,
    ⟨(some 35), 35, (.bin false .add (.t 33) (.t 34)), none, [0, 1]⟩,
    ⟨(some 4), 4, (.mv (.t 35)), none, [2, 0, 1, 2]⟩,
    ⟨(some 5), 5, (.mv (.k (.c (.s (.pv (.int .i64 0)))))), none, [3, 0, 1, 2, 3]⟩])
  .ret)))))
theorem fn37 : FnIs Try.prog 37 ac37 [(.t 4), (.t 5)] 36 := ⟨Try.f37, Try.func37, by kernel_rfl, by kernel_rfl, by kernel_rfl⟩
/- lockkeeper/lockkeeperref12.May -/
def ac38 : ACode := (.seq (.reg [⟨(some 1), 1, (.box 68 2 (.t 0)), none, []⟩,
    ⟨(some 2), 2, (.mv (.k (.c (.s (.pv (.bool false)))))), none, []⟩])
  (.seq (.reg [⟨(some 3), 3, (.load true 2 (.t 1)), none, []⟩,
    ⟨(some 4), 4, (.call 83 [(.t 3)]), none, [0]⟩,
    ⟨(some 5), 5, (.mv (.t 4)), none, [1, 1]⟩,
    ⟨(some 6), 6, (.fld 0 (.t 1)), (some (5, true)), [2]⟩,
    ⟨(some 7), 7, (.load false 1 (.t 6)), (some (5, true)), [3, 2]⟩,
    ⟨(some 8), 8, (.len (.t 7)), (some (5, true)), [4, 2]⟩,
    ⟨(some 9), 9, (.bin false .gtr (.t 8) (.k (.c (.s (.pv (.int .i64 34)))))), (some (5, true)), [5, 2]⟩,
    ⟨(some 10), 10, (.pick (.t 5) (.t 9) (.k (.c (.s (.pv (.bool false)))))), none, [2, 6]⟩,
    ⟨(some 2), 2, (.mv (.t 10)), none, [7, 2, 0, 1, 2, 3, 4, 5, 6, 7]⟩])
  .ret))
theorem fn38 : FnIs Try.prog 38 ac38 [(.t 2)] 11 := ⟨Try.f38, Try.func38, by kernel_rfl, by kernel_rfl, by kernel_rfl⟩
/- lockkeeper/lockkeeperref12.Get -/
def ac39 : ACode := (.seq (.reg [⟨(some 2), 2, (.box 68 2 (.t 0)), none, []⟩,
    ⟨(some 4), 4, (.mv (.k (.c (.s (.pv (.string ⟨#[]⟩)))))), none, []⟩])
  (.seq (.draw [⟨(some 5), 5, (.load true 2 (.t 2)), none, []⟩,
    ⟨(some 6), 6, (.mv (.t 1)), none, []⟩,
    ⟨(some 7), 7, (.bin false .mul (.k (.c (.s (.pv (.int .i64 2))))) (.t 6)), none, [1]⟩,
    ⟨(some 8), 8, (.bin false .add (.t 7) (.k (.c (.s (.pv (.int .i64 1)))))), none, [2]⟩,
    ⟨(some 9), 9, (.call 84 [(.t 5), (.t 8)]), none, [0, 3]⟩,
    ⟨(some 10), 10, (.load true 2 (.t 2)), none, []⟩,
    ⟨(some 11), 11, (.mv (.t 1)), none, []⟩,
    ⟨(some 12), 12, (.bin false .mul (.k (.c (.s (.pv (.int .i64 2))))) (.t 11)), none, [6]⟩,
    ⟨(some 13), 13, (.bin false .add (.t 12) (.k (.c (.s (.pv (.int .i64 2)))))), none, [7]⟩,
    ⟨(some 14), 14, (.call 84 [(.t 10), (.t 13)]), none, [5, 8, 4]⟩,
    ⟨(some 15), 15, (.bin false .add (.t 9) (.t 14)), none, [4, 9]⟩,
    ⟨(some 4), 4, (.mv (.t 15)), none, [10, 9, 0, 1, 2, 3, 4, 5, 6, 7, 8, 9, 10]⟩])
  .ret))
theorem fn39 : FnIs Try.prog 39 ac39 [(.t 4)] 16 := ⟨Try.f39, Try.func39, by kernel_rfl, by kernel_rfl, by kernel_rfl⟩
/- lockkeeper/lockkeeperref03.Same -/
def ac40 : ACode := (.seq (.reg [⟨(some 2), 2, (.box 68 2 (.t 0)), none, []⟩,
    ⟨(some 3), 3, (.box 68 2 (.t 1)), none, []⟩,
    ⟨(some 4), 4, (.mv (.k (.c (.s (.pv (.bool false)))))), none, []⟩])
  (.seq (.seq (.reg [⟨(some 7), 7, (.fld 0 (.t 2)), none, []⟩,
    ⟨(some 8), 8, (.load false 1 (.t 7)), none, [0]⟩,
    ⟨(some 9), 9, (.len (.t 8)), none, [1]⟩,
    ⟨(some 10), 10, (.fld 0 (.t 3)), none, []⟩,
    ⟨(some 11), 11, (.load false 1 (.t 10)), none, [3]⟩,
    ⟨(some 12), 12, (.len (.t 11)), none, [4]⟩,
    ⟨(some 13), 13, (.bin false .neq (.t 9) (.t 12)), none, [2, 5]⟩,
    ⟨(some 14), 14, (.mv (.t 13)), none, [6]⟩,
    ⟨(some 15), 15, (.fld 1 (.t 2)), (some (14, false)), [7]⟩,
    ⟨(some 16), 16, (.load false 1 (.t 15)), (some (14, false)), [8, 7]⟩,
    ⟨(some 17), 17, (.len (.t 16)), (some (14, false)), [9, 7]⟩,
    ⟨(some 18), 18, (.fld 1 (.t 3)), (some (14, false)), [7]⟩,
    ⟨(some 19), 19, (.load false 1 (.t 18)), (some (14, false)), [11, 7]⟩,
    ⟨(some 20), 20, (.len (.t 19)), (some (14, false)), [12, 7]⟩,
    ⟨(some 21), 21, (.bin false .neq (.t 17) (.t 20)), (some (14, false)), [10, 13, 7]⟩,
    ⟨(some 22), 22, (.pick (.t 14) (.k (.c (.s (.pv (.bool true))))) (.t 21)), none, [7, 14]⟩])
  (.cond (.t 22) (.seq (.reg [⟨(some 4), 4, (.mv (.k (.c (.s (.pv (.bool false)))))), none, []⟩])
  .ret) .skip))
  (.seq (.seq (.reg [⟨(some 5), 5, (.mv (.k (.c (.s (.pv (.int .i64 0)))))), none, []⟩])
  (.block 0 (.loop (.seq (.seq (.reg [⟨(some 23), 23, (.mv (.t 5)), none, []⟩,
    ⟨(some 24), 24, (.fld 0 (.t 2)), none, []⟩,
    ⟨(some 25), 25, (.load false 1 (.t 24)), none, [1]⟩,
    ⟨(some 26), 26, (.len (.t 25)), none, [2]⟩,
    ⟨(some 27), 27, (.bin false .lss (.t 23) (.t 26)), none, [0, 3]⟩])
  (.cond (.t 27) .skip (.exit 0)))
  (.seq (.block 1 (.seq (.draw [⟨(some 30), 30, (.fld 0 (.t 2)), none, []⟩,
    ⟨(some 31), 31, (.load false 1 (.t 30)), none, [0]⟩,
    ⟨(some 32), 32, (.mv (.t 5)), none, []⟩,
    ⟨(some 33), 33, (.idx 1 (.t 31) (.t 32)), none, [1, 2]⟩,
    ⟨(some 34), 34, (.load false 1 (.t 33)), none, [3]⟩,
    ⟨(some 35), 35, (.fld 0 (.t 3)), none, []⟩,
    ⟨(some 36), 36, (.load false 1 (.t 35)), none, [5]⟩,
    ⟨(some 37), 37, (.mv (.t 5)), none, []⟩,
    ⟨(some 38), 38, (.idx 1 (.t 36) (.t 37)), none, [6, 7]⟩,
    ⟨(some 39), 39, (.load false 1 (.t 38)), none, [8]⟩,
    ⟨(some 40), 40, (.bin false .neq (.t 34) (.t 39)), none, [4, 9]⟩])
  (.cond (.t 40) (.seq (.reg [⟨(some 4), 4, (.mv (.k (.c (.s (.pv (.bool false)))))), none, []⟩])
  .ret) .skip)))
  (.reg [⟨(some 28), 28, (.mv (.t 5)), none, []⟩,
    ⟨(some 29), 29, (.bin false .add (.t 28) (.k (.c (.s (.pv (.int .i64 1)))))), none, [0]⟩,
    ⟨(some 5), 5, (.mv (.t 29)), none, [1, 0, 1]⟩]))))))
  (.seq (.seq (.reg [⟨(some 6), 6, (.mv (.k (.c (.s (.pv (.int .i64 0)))))), none, []⟩])
  (.block 2 (.loop (.seq (.seq (.reg [⟨(some 41), 41, (.mv (.t 6)), none, []⟩,
    ⟨(some 42), 42, (.fld 1 (.t 2)), none, []⟩,
    ⟨(some 43), 43, (.load false 1 (.t 42)), none, [1]⟩,
    ⟨(some 44), 44, (.len (.t 43)), none, [2]⟩,
    ⟨(some 45), 45, (.bin false .lss (.t 41) (.t 44)), none, [0, 3]⟩])
  (.cond (.t 45) .skip (.exit 2)))
  (.seq (.block 3 (.seq (.draw [⟨(some 48), 48, (.fld 1 (.t 2)), none, []⟩,
    ⟨(some 49), 49, (.load false 1 (.t 48)), none, [0]⟩,
    ⟨(some 50), 50, (.mv (.t 6)), none, []⟩,
    ⟨(some 51), 51, (.idx 2 (.t 49) (.t 50)), none, [1, 2]⟩,
    ⟨(some 52), 52, (.load true 2 (.t 51)), none, [3]⟩,
    ⟨(some 53), 53, (.fld 1 (.t 3)), none, []⟩,
    ⟨(some 54), 54, (.load false 1 (.t 53)), none, [5]⟩,
    ⟨(some 55), 55, (.mv (.t 6)), none, []⟩,
    ⟨(some 56), 56, (.idx 2 (.t 54) (.t 55)), none, [6, 7]⟩,
    ⟨(some 57), 57, (.load true 2 (.t 56)), none, [8]⟩,
    ⟨(some 58), 58, (.eqs true 122 (.t 52) (.t 57)), none, [4, 9]⟩])
  (.cond (.t 58) (.seq (.reg [⟨(some 4), 4, (.mv (.k (.c (.s (.pv (.bool false)))))), none, []⟩])
  .ret) .skip)))
  (.reg [⟨(some 46), 46, (.mv (.t 6)), none, []⟩,
    ⟨(some 47), 47, (.bin false .add (.t 46) (.k (.c (.s (.pv (.int .i64 1)))))), none, [0]⟩,
    ⟨(some 6), 6, (.mv (.t 47)), none, [1, 0, 1]⟩]))))))
  (.seq (.reg [⟨(some 4), 4, (.mv (.k (.c (.s (.pv (.bool true)))))), none, []⟩])
  .ret)))))
theorem fn40 : FnIs Try.prog 40 ac40 [(.t 4)] 59 := ⟨Try.f40, Try.func40, by kernel_rfl, by kernel_rfl, by kernel_rfl⟩
/- lockkeeper/lockkeeperref12.Plan -/
def ac41 : ACode := (.seq (.reg [⟨(some 4), 4, (.mv (.k (.c .zc))), none, []⟩])
  (.seq (.draw [⟨(some 8), 8, (.mv (.t 1)), none, []⟩,
    ⟨(some 9), 9, (.ssub (.t 8) none (some (.k (.c (.s (.pv (.int .i64 16))))))), none, [0]⟩,
    ⟨(some 10), 10, (.mv (.t 1)), none, []⟩,
    ⟨(some 11), 11, (.ssub (.t 10) (some (.k (.c (.s (.pv (.int .i64 16)))))) none), none, [2]⟩,
    ⟨(some 5), 5, (.mv (.t 9)), none, [1, 0, 1]⟩,
    ⟨(some 6), 6, (.mv (.t 11)), none, [3, 4, 0, 1, 2, 3, 4]⟩])
  (.seq (.reg [⟨(some 12), 12, (.mv (.t 0)), none, []⟩,
    ⟨(some 13), 13, (.bin false .mul (.k (.c (.s (.pv (.int .i64 2))))) (.t 12)), none, [0]⟩,
    ⟨(some 14), 14, (.bin false .add (.t 13) (.k (.c (.s (.pv (.int .i64 1)))))), none, [1]⟩,
    ⟨(some 7), 7, (.mv (.t 14)), none, [2, 0, 1, 2]⟩])
  (.seq (.draw [⟨(some 15), 15, (.mv (.t 5)), none, []⟩,
    ⟨(some 16), 16, (.call 85 [(.k (.c (.s (.pv (.int .i64 1))))), (.t 15)]), none, [0]⟩,
    ⟨(some 17), 17, (.mv (.t 6)), none, []⟩,
    ⟨(some 18), 18, (.call 85 [(.k (.c (.s (.pv (.int .i64 2))))), (.t 17)]), none, [2, 1]⟩,
    ⟨(some 19), 19, (.build [(.s (.pv (.bool false))), (.s (.pv (.int .i64 0))), (.s (.pv (.string ⟨#[]⟩)))] [(0, 1, (.k (.c (.s (.pv (.bool true))))))]), none, []⟩,
    ⟨(some 20), 20, (.mv (.t 0)), none, []⟩,
    ⟨(some 21), 21, (.conv .u8 (.t 20)), none, [5]⟩,
    ⟨(some 22), 22, (.bslice 5 1 [(.s (.pv (.int .u8 0)))] 2 [(0, 1, (.k (.c (.s (.pv (.int .u8 74)))))), (1, 1, (.t 21))]), none, [6]⟩,
    ⟨(some 23), 23, (.b2s (.t 22)), none, [7]⟩,
    ⟨(some 24), 24, (.call 86 [(.t 23)]), none, [8, 3]⟩,
    ⟨(some 25), 25, (.call 85 [(.k (.c (.s (.pv (.int .i64 0))))), (.t 24)]), none, [9, 9]⟩,
    ⟨(some 26), 26, (.build [(.s (.pv (.bool false))), (.s (.pv (.int .i64 0))), (.s (.pv (.string ⟨#[]⟩)))] [(0, 1, (.k (.c (.s (.pv (.bool true))))))]), none, []⟩,
    ⟨(some 27), 27, (.mv (.t 7)), none, []⟩,
    ⟨(some 28), 28, (.mv (.t 5)), none, []⟩,
    ⟨(some 29), 29, (.call 85 [(.t 27), (.t 28)]), none, [12, 13, 10]⟩,
    ⟨(some 30), 30, (.mv (.t 7)), none, []⟩,
    ⟨(some 31), 31, (.bin false .add (.t 30) (.k (.c (.s (.pv (.int .i64 1)))))), none, [15]⟩,
    ⟨(some 32), 32, (.mv (.t 6)), none, []⟩,
    ⟨(some 33), 33, (.call 85 [(.t 31), (.t 32)]), none, [16, 17, 14]⟩,
    ⟨(some 34), 34, (.build [(.s (.pv (.bool false))), (.s (.pv (.int .i64 0))), (.s (.pv (.string ⟨#[]⟩)))] [(0, 1, (.k (.c (.s (.pv (.bool true))))))]), none, []⟩,
    ⟨(some 35), 35, (.call 86 [(.k (.c (.s (.pv (.string ⟨#[]⟩)))))]), none, [18]⟩,
    ⟨(some 36), 36, (.call 85 [(.k (.c (.s (.pv (.int .i64 0))))), (.t 35)]), none, [20, 20]⟩,
    ⟨(some 37), 37, (.build [(.s (.pv (.bool false))), (.s (.pv (.int .i64 0))), (.s (.pv (.string ⟨#[]⟩)))] [(0, 1, (.k (.c (.s (.pv (.bool true))))))]), none, []⟩,
    ⟨(some 38), 38, (.bslice 129 3 [(.s (.pv (.bool false))), (.s (.pv (.int .i64 0))), (.s (.pv (.string ⟨#[]⟩)))] 10 [(0, 3, (.t 16)), (3, 3, (.t 18)), (6, 3, (.t 19)), (9, 3, (.t 25)), (12, 3, (.t 26)), (15, 3, (.t 29)), (18, 3, (.t 33)), (21, 3, (.t 34)), (24, 3, (.t 36)), (27, 3, (.t 37))]), none, [1, 3, 4, 10, 11, 14, 18, 19, 21, 22]⟩,
    ⟨(some 4), 4, (.mv (.t 38)), none, [23, 21, 0, 1, 2, 3, 4, 5, 6, 7, 8, 9, 10, 11, 12, 13, 14, 15, 16, 17, 18, 19, 20, 21, 22, 23]⟩])
  .ret))))
theorem fn41 : FnIs Try.prog 41 ac41 [(.t 4)] 39 := ⟨Try.f41, Try.func41, by kernel_rfl, by kernel_rfl, by kernel_rfl⟩
/- lockkeeper/lockkeeperref12.Same -/
def ac42 : ACode := (.seq (.reg [⟨(some 4), 4, (.mv (.k (.c (.s (.pv (.bool false)))))), none, []⟩])
  (.seq (.seq (.reg [⟨(some 6), 6, (.mv (.t 0)), none, []⟩,
    ⟨(some 7), 7, (.len (.t 6)), none, [0]⟩,
    ⟨(some 8), 8, (.mv (.t 1)), none, []⟩,
    ⟨(some 9), 9, (.len (.t 8)), none, [2]⟩,
    ⟨(some 10), 10, (.bin false .neq (.t 7) (.t 9)), none, [1, 3]⟩])
  (.cond (.t 10) (.seq (.reg [⟨(some 4), 4, (.mv (.k (.c (.s (.pv (.bool false)))))), none, []⟩])
  .ret) .skip))
  (.seq (.seq (.reg [⟨(some 5), 5, (.mv (.k (.c (.s (.pv (.int .i64 0)))))), none, []⟩])
  (.block 0 (.loop (.seq (.seq (.reg [⟨(some 11), 11, (.mv (.t 5)), none, []⟩,
    ⟨(some 12), 12, (.mv (.t 0)), none, []⟩,
    ⟨(some 13), 13, (.len (.t 12)), none, [1]⟩,
    ⟨(some 14), 14, (.bin false .lss (.t 11) (.t 13)), none, [0, 2]⟩])
  (.cond (.t 14) .skip (.exit 0)))
  (.seq (.block 1 (.seq (.draw [⟨(some 17), 17, (.mv (.t 0)), none, []⟩,
    ⟨(some 18), 18, (.mv (.t 5)), none, []⟩,
    ⟨(some 19), 19, (.idx 3 (.t 17) (.t 18)), none, [0, 1]⟩,
    ⟨(some 20), 20, (.load true 3 (.t 19)), none, [2]⟩,
    ⟨(some 21), 21, (.mv (.t 1)), none, []⟩,
    ⟨(some 22), 22, (.mv (.t 5)), none, []⟩,
    ⟨(some 23), 23, (.idx 3 (.t 21) (.t 22)), none, [4, 5]⟩,
    ⟨(some 24), 24, (.load true 3 (.t 23)), none, [6]⟩,
    ⟨(some 25), 25, (.eqs true 129 (.t 20) (.t 24)), none, [3, 7]⟩])
  (.cond (.t 25) (.seq (.reg [⟨(some 4), 4, (.mv (.k (.c (.s (.pv (.bool false)))))), none, []⟩])
  .ret) .skip)))
  (.reg [⟨(some 15), 15, (.mv (.t 5)), none, []⟩,
    ⟨(some 16), 16, (.bin false .add (.t 15) (.k (.c (.s (.pv (.int .i64 1)))))), none, [0]⟩,
    ⟨(some 5), 5, (.mv (.t 16)), none, [1, 0, 1]⟩]))))))
  (.seq (.reg [⟨(some 4), 4, (.mv (.k (.c (.s (.pv (.bool true)))))), none, []⟩])
  .ret))))
theorem fn42 : FnIs Try.prog 42 ac42 [(.t 4)] 26 := ⟨Try.f42, Try.func42, by kernel_rfl, by kernel_rfl, by kernel_rfl⟩
/- lockkeeper/lockkeeperlaw12.refs -/
def ac43 : ACode := (.seq (.reg [⟨(some 2), 2, (.mv (.k (.c .zc))), none, []⟩])
  (.seq (.reg [⟨(some 3), 3, (.mv (.k (.c .zc))), none, []⟩])
  (.seq (.seq (.reg [⟨(some 6), 6, (.mv (.t 0)), none, []⟩,
    ⟨(some 7), 7, (.len (.t 6)), none, [0]⟩,
    ⟨(some 8), 8, (.mv (.k (.c (.s (.pv (.int .i64 0)))))), none, []⟩])
  (.block 0 (.loop (.seq (.reg [⟨(some 9), 9, (.bin false .lss (.t 8) (.t 7)), none, []⟩])
  (.seq (.cond (.t 9) .skip (.exit 0))
  (.seq (.block 1 (.seq (.reg [⟨(some 10), 10, (.idx 3 (.t 6) (.t 8)), none, []⟩,
    ⟨(some 11), 11, (.load true 3 (.t 10)), none, [0]⟩,
    ⟨(some 5), 5, (.mk 124 3 [[(.s (.pv (.bool false))), (.s (.pv (.int .i64 0))), (.s (.pv (.string ⟨#[]⟩)))]]), none, []⟩,
    ⟨none, 21, (.store 3 (.t 5) (.t 11)), none, [2, 1, 0, 1, 2]⟩])
  (.reg [⟨(some 12), 12, (.mv (.t 3)), none, []⟩,
    ⟨(some 13), 13, (.load true 3 (.t 5)), none, []⟩,
    ⟨(some 14), 14, (.bslice 129 3 [(.s (.pv (.bool false))), (.s (.pv (.int .i64 0))), (.s (.pv (.string ⟨#[]⟩)))] 1 [(0, 3, (.t 13))]), none, [1]⟩,
    ⟨(some 15), 15, (.app 129 3 32 (.t 12) (.t 14)), none, [0, 2]⟩,
    ⟨(some 3), 3, (.mv (.t 15)), none, [3, 3, 0, 1, 2, 3]⟩])))
  (.reg [⟨(some 16), 16, (.bin false .add (.t 8) (.k (.c (.s (.pv (.int .i64 1)))))), none, []⟩,
    ⟨(some 8), 8, (.mv (.t 16)), none, [0]⟩])))))))
  (.seq (.reg [⟨(some 17), 17, (.mv (.t 3)), none, []⟩,
    ⟨(some 2), 2, (.mv (.t 17)), none, [0, 0]⟩])
  .ret))))
theorem fn43 : FnIs Try.prog 43 ac43 [(.t 2)] 18 := ⟨Try.f43, Try.func43, by kernel_rfl, by kernel_rfl, by kernel_rfl⟩
/- lockkeeper/lockkeeperref12.Run -/
def ac44 : ACode := (.seq (.reg [⟨(some 3), 3, (.box 68 2 (.t 0)), none, []⟩,
    ⟨(some 6), 6, (.mk 68 2 [[.zc, .zc]]), none, []⟩])
  (.seq (.seq (.reg [⟨(some 7), 7, (.mv (.k (.c (.s (.pv (.int .i64 0)))))), none, []⟩])
  (.block 0 (.loop (.seq (.seq (.reg [⟨(some 10), 10, (.mv (.t 7)), none, []⟩,
    ⟨(some 11), 11, (.mv (.t 1)), none, []⟩,
    ⟨(some 12), 12, (.len (.t 11)), none, [1]⟩,
    ⟨(some 13), 13, (.bin false .lss (.t 10) (.t 12)), none, [0, 2]⟩,
    ⟨(some 14), 14, (.mv (.t 13)), none, [3]⟩,
    ⟨(some 15), 15, (.mv (.t 7)), (some (14, true)), [4]⟩,
    ⟨(some 16), 16, (.mv (.t 2)), (some (14, true)), [4]⟩,
    ⟨(some 17), 17, (.bin false .lss (.t 15) (.t 16)), (some (14, true)), [5, 6, 4]⟩,
    ⟨(some 18), 18, (.pick (.t 14) (.t 17) (.k (.c (.s (.pv (.bool false)))))), none, [4, 7]⟩])
  (.cond (.t 18) .skip (.exit 0)))
  (.seq (.block 1 (.seq (.reg [⟨(some 21), 21, (.mv (.t 1)), none, []⟩,
    ⟨(some 22), 22, (.mv (.t 7)), none, []⟩,
    ⟨(some 23), 23, (.idx 3 (.t 21) (.t 22)), none, [0, 1]⟩,
    ⟨(some 24), 24, (.fld 1 (.t 23)), none, [2]⟩,
    ⟨(some 25), 25, (.load true 2 (.t 24)), none, [3]⟩,
    ⟨(some 8), 8, (.mk 122 2 [[(.s (.pv (.int .i64 0))), (.s (.pv (.string ⟨#[]⟩)))]]), none, []⟩,
    ⟨none, 80, (.store 2 (.t 8) (.t 25)), none, [5, 4, 0, 1, 2, 3, 4, 5]⟩])
  (.seq (.seq (.reg [⟨(some 26), 26, (.mv (.t 1)), none, []⟩,
    ⟨(some 27), 27, (.mv (.t 7)), none, []⟩,
    ⟨(some 28), 28, (.idx 3 (.t 26) (.t 27)), none, [0, 1]⟩,
    ⟨(some 29), 29, (.fld 0 (.t 28)), none, [2]⟩,
    ⟨(some 30), 30, (.load false 1 (.t 29)), none, [3]⟩])
  (.cond (.t 30) (.seq (.seq (.reg [⟨(some 31), 31, (.load true 2 (.t 3)), none, []⟩,
    ⟨(some 32), 32, (.call 83 [(.t 31)]), none, [0]⟩])
  (.cond (.t 32) (.reg [⟨(some 33), 33, (.load true 2 (.t 3)), none, []⟩,
    ⟨(some 34), 34, (.call 87 [(.t 33)]), none, [0]⟩,
    ⟨none, 76, (.store 2 (.t 3) (.t 34)), none, [1, 1, 0, 1]⟩]) .skip))
  (.exit 1)) .skip))
  (.seq (.reg [⟨(some 35), 35, (.load true 2 (.t 3)), none, []⟩,
    ⟨(some 36), 36, (.call 83 [(.t 35)]), none, [0]⟩,
    ⟨(some 37), 37, (.mv (.t 36)), none, [1, 1]⟩,
    ⟨(some 38), 38, (.fld 0 (.t 8)), (some (37, true)), [2]⟩,
    ⟨(some 39), 39, (.load false 1 (.t 38)), (some (37, true)), [3, 2]⟩,
    ⟨(some 40), 40, (.bin false .geq (.t 39) (.k (.c (.s (.pv (.int .i64 0)))))), (some (37, true)), [4, 2]⟩,
    ⟨(some 41), 41, (.pick (.t 37) (.t 40) (.k (.c (.s (.pv (.bool false)))))), none, [2, 5]⟩,
    ⟨(some 42), 42, (.mv (.t 41)), none, [6, 2]⟩,
    ⟨(some 43), 43, (.fld 0 (.t 8)), (some (42, true)), [7]⟩,
    ⟨(some 44), 44, (.load false 1 (.t 43)), (some (42, true)), [8, 7]⟩,
    ⟨(some 45), 45, (.fld 0 (.t 3)), (some (42, true)), [7]⟩,
    ⟨(some 46), 46, (.load false 1 (.t 45)), (some (42, true)), [10, 7]⟩,
    ⟨(some 47), 47, (.len (.t 46)), (some (42, true)), [11, 7]⟩,
    ⟨(some 48), 48, (.bin false .lss (.t 44) (.t 47)), (some (42, true)), [9, 12, 7]⟩,
    ⟨(some 49), 49, (.pick (.t 42) (.t 48) (.k (.c (.s (.pv (.bool false)))))), none, [7, 13]⟩,
    ⟨(some 50), 50, (.mv (.t 49)), none, [14, 7]⟩,
    ⟨(some 51), 51, (.fld 1 (.t 8)), (some (50, true)), [15]⟩,
    ⟨(some 52), 52, (.load false 1 (.t 51)), (some (50, true)), [16, 15]⟩,
    ⟨(some 53), 53, (.slen (.t 52)), (some (50, true)), [17, 15]⟩,
    ⟨(some 54), 54, (.bin false .eql (.t 53) (.k (.c (.s (.pv (.int .i64 16)))))), (some (50, true)), [18, 15]⟩,
    ⟨(some 55), 55, (.pick (.t 50) (.t 54) (.k (.c (.s (.pv (.bool false)))))), none, [15, 19]⟩,
    ⟨(some 56), 56, (.mv (.t 55)), none, [20, 15]⟩,
    ⟨(some 57), 57, (.fld 1 (.t 3)), (some (56, true)), [21]⟩,
    ⟨(some 58), 58, (.load false 1 (.t 57)), (some (56, true)), [22, 21]⟩,
    ⟨(some 59), 59, (.len (.t 58)), (some (56, true)), [23, 21]⟩,
    ⟨(some 60), 60, (.bin false .lss (.t 59) (.k (.c (.s (.pv (.int .i64 200)))))), (some (56, true)), [24, 21]⟩,
    ⟨(some 61), 61, (.pick (.t 56) (.t 60) (.k (.c (.s (.pv (.bool false)))))), none, [21, 25]⟩])
  (.cond (.t 61) (.seq (.reg [⟨(some 9), 9, (.mv (.k (.c .zc))), none, []⟩])
  (.seq (.reg [⟨(some 62), 62, (.mv (.t 9)), none, []⟩,
    ⟨(some 63), 63, (.fld 1 (.t 3)), none, []⟩,
    ⟨(some 64), 64, (.load false 1 (.t 63)), none, [1]⟩,
    ⟨(some 65), 65, (.app 122 2 24 (.t 62) (.t 64)), none, [0, 2]⟩,
    ⟨(some 9), 9, (.mv (.t 65)), none, [3, 3, 0, 1, 2, 3]⟩])
  (.draw [⟨(some 66), 66, (.fld 0 (.t 3)), none, []⟩,
    ⟨(some 67), 67, (.load false 1 (.t 66)), none, [0]⟩,
    ⟨(some 68), 68, (.mv (.t 9)), none, []⟩,
    ⟨(some 69), 69, (.load true 2 (.t 8)), none, []⟩,
    ⟨(some 70), 70, (.bslice 122 2 [(.s (.pv (.int .i64 0))), (.s (.pv (.string ⟨#[]⟩)))] 1 [(0, 2, (.t 69))]), none, [3]⟩,
    ⟨(some 71), 71, (.app 122 2 24 (.t 68) (.t 70)), none, [2, 4]⟩,
    ⟨(some 72), 72, (.build [.zc, .zc] [(0, 1, (.t 67)), (1, 1, (.t 71))]), none, [1, 5]⟩,
    ⟨none, 81, (.store 2 (.t 3) (.t 72)), none, [6, 5, 0, 1, 2, 3, 4, 5, 6]⟩]))) .skip)))))
  (.reg [⟨(some 19), 19, (.mv (.t 7)), none, []⟩,
    ⟨(some 20), 20, (.bin false .add (.t 19) (.k (.c (.s (.pv (.int .i64 1)))))), none, [0]⟩,
    ⟨(some 7), 7, (.mv (.t 20)), none, [1, 0, 1]⟩]))))))
  (.seq (.reg [⟨(some 73), 73, (.load true 2 (.t 3)), none, []⟩,
    ⟨none, 75, (.store 2 (.t 6) (.t 73)), none, [0, 0]⟩])
  .ret)))
theorem fn44 : FnIs Try.prog 44 ac44 [(.cell 6 true 2)] 74 := ⟨Try.f44, Try.func44, by kernel_rfl, by kernel_rfl, by kernel_rfl⟩
/- lockkeeper/lockkeeperlaw12.calm -/
def ac45 : ACode := (.seq (.reg [⟨(some 2), 2, (.mk 68 2 [[.zc, .zc]]), none, []⟩])
  (.seq (.reg [⟨(some 8), 8, (.call 51 [(.k (.c (.s (.pv (.int .i64 35)))))]), none, []⟩,
    ⟨(some 7), 7, (.mv (.t 8)), none, [0]⟩,
    ⟨(some 9), 9, (.ext 0 (.t 7)), none, [1]⟩,
    ⟨(some 10), 10, (.ext 1 (.t 7)), none, [1]⟩,
    ⟨(some 3), 3, (.mk 68 2 [[.zc, .zc]]), none, []⟩,
    ⟨none, 53, (.store 2 (.t 3) (.t 9)), none, [4, 2, 0, 0, 1, 2, 4]⟩,
    ⟨(some 4), 4, (.mv (.t 10)), none, [3, 5, 0, 1, 2, 3, 4, 5]⟩])
  (.seq (.seq (.reg [⟨(some 11), 11, (.fld 0 (.t 3)), none, []⟩,
    ⟨(some 12), 12, (.load false 1 (.t 11)), none, [0]⟩,
    ⟨(some 13), 13, (.len (.t 12)), none, [1]⟩,
    ⟨(some 14), 14, (.bin false .neq (.t 13) (.k (.c (.s (.pv (.int .i64 35)))))), none, [2]⟩])
  (.cond (.t 14) (.seq (.reg [⟨(some 15), 15, (.load true 2 (.t 3)), none, []⟩,
    ⟨none, 49, (.store 2 (.t 2) (.t 15)), none, [0, 0]⟩])
  .ret) .skip))
  (.seq (.seq (.reg [⟨(some 16), 16, (.mv (.t 0)), none, []⟩,
    ⟨(some 17), 17, (.len (.t 16)), none, [0]⟩,
    ⟨(some 18), 18, (.mv (.k (.c (.s (.pv (.int .i64 0)))))), none, []⟩])
  (.block 0 (.loop (.seq (.reg [⟨(some 19), 19, (.bin false .lss (.t 18) (.t 17)), none, []⟩])
  (.seq (.cond (.t 19) .skip (.exit 0))
  (.seq (.block 1 (.seq (.reg [⟨(some 20), 20, (.mv (.t 18)), none, []⟩,
    ⟨(some 21), 21, (.idx 1 (.t 16) (.t 18)), none, []⟩,
    ⟨(some 22), 22, (.load false 1 (.t 21)), none, [1]⟩,
    ⟨(some 5), 5, (.mv (.t 20)), none, [0, 0, 1, 2]⟩,
    ⟨(some 6), 6, (.mv (.t 22)), none, [2, 3, 0, 1, 2, 3]⟩])
  (.seq (.reg [⟨(some 23), 23, (.mv (.t 5)), none, []⟩,
    ⟨(some 24), 24, (.bin false .lss (.t 23) (.k (.c (.s (.pv (.int .i64 16)))))), none, [0]⟩,
    ⟨(some 25), 25, (.mv (.t 24)), none, [1]⟩,
    ⟨(some 26), 26, (.mv (.t 6)), (some (25, true)), [2]⟩,
    ⟨(some 27), 27, (.slen (.t 26)), (some (25, true)), [3, 2]⟩,
    ⟨(some 28), 28, (.bin false .eql (.t 27) (.k (.c (.s (.pv (.int .i64 32)))))), (some (25, true)), [4, 2]⟩,
    ⟨(some 29), 29, (.pick (.t 25) (.t 28) (.k (.c (.s (.pv (.bool false)))))), none, [2, 5]⟩])
  (.cond (.t 29) (.draw [⟨(some 30), 30, (.fld 0 (.t 3)), none, []⟩,
    ⟨(some 31), 31, (.load false 1 (.t 30)), none, [0]⟩,
    ⟨(some 32), 32, (.mv (.t 5)), none, []⟩,
    ⟨(some 33), 33, (.bin false .mul (.k (.c (.s (.pv (.int .i64 2))))) (.t 32)), none, [2]⟩,
    ⟨(some 34), 34, (.bin false .add (.t 33) (.k (.c (.s (.pv (.int .i64 3)))))), none, [3]⟩,
    ⟨(some 35), 35, (.fld 0 (.t 3)), none, []⟩,
    ⟨(some 36), 36, (.load false 1 (.t 35)), none, [5]⟩,
    ⟨(some 37), 37, (.mv (.t 5)), none, []⟩,
    ⟨(some 38), 38, (.bin false .mul (.k (.c (.s (.pv (.int .i64 2))))) (.t 37)), none, [7]⟩,
    ⟨(some 39), 39, (.bin false .add (.t 38) (.k (.c (.s (.pv (.int .i64 4)))))), none, [8]⟩,
    ⟨(some 40), 40, (.mv (.t 6)), none, []⟩,
    ⟨(some 41), 41, (.ssub (.t 40) none (some (.k (.c (.s (.pv (.int .i64 16))))))), none, [10]⟩,
    ⟨(some 42), 42, (.mv (.t 6)), none, []⟩,
    ⟨(some 43), 43, (.ssub (.t 42) (some (.k (.c (.s (.pv (.int .i64 16)))))) none), none, [12]⟩,
    ⟨(some 44), 44, (.idx 1 (.t 31) (.t 34)), none, [1, 4, 0, 1, 2, 3, 4, 10, 11]⟩,
    ⟨none, 63, (.store 1 (.t 44) (.t 41)), none, [14, 11, 0, 1, 2, 3, 4, 10, 11]⟩,
    ⟨(some 45), 45, (.idx 1 (.t 36) (.t 39)), none, [6, 9, 0, 1, 2, 3, 4, 5, 6, 7, 8, 9, 10, 11, 12, 13, 14, 15]⟩,
    ⟨none, 65, (.store 1 (.t 45) (.t 43)), none, [16, 13, 15, 0, 1, 2, 3, 4, 5, 6, 7, 8, 9, 10, 11, 12, 13, 14, 15]⟩]) .skip))))
  (.reg [⟨(some 46), 46, (.bin false .add (.t 18) (.k (.c (.s (.pv (.int .i64 1)))))), none, []⟩,
    ⟨(some 18), 18, (.mv (.t 46)), none, [0]⟩])))))))
  (.seq (.reg [⟨(some 47), 47, (.load true 2 (.t 3)), none, []⟩,
    ⟨none, 49, (.store 2 (.t 2) (.t 47)), none, [0, 0]⟩])
  .ret)))))
theorem fn45 : FnIs Try.prog 45 ac45 [(.cell 2 true 2)] 48 := ⟨Try.f45, Try.func45, by kernel_rfl, by kernel_rfl, by kernel_rfl⟩
/- lockkeeper/disk.Crash -/
def ac46 : ACode := (.seq (.reg [⟨(some 2), 2, (.box 68 2 (.t 0)), none, []⟩,
    ⟨(some 4), 4, (.mk 68 2 [[.zc, .zc]]), none, []⟩])
  (.seq (.seq (.reg [⟨(some 11), 11, (.load true 2 (.t 2)), none, []⟩,
    ⟨(some 12), 12, (.call 88 [(.t 11)]), none, [0]⟩,
    ⟨(some 13), 13, (.not (.t 12)), none, [1]⟩])
  (.cond (.t 13) (.seq (.reg [⟨(some 14), 14, (.load true 2 (.t 2)), none, []⟩,
    ⟨none, 58, (.store 2 (.t 4) (.t 14)), none, [0, 0]⟩])
  .ret) .skip))
  (.seq (.reg [⟨(some 15), 15, (.fld 1 (.t 2)), none, []⟩,
    ⟨(some 16), 16, (.load false 1 (.t 15)), none, [0]⟩,
    ⟨(some 17), 17, (.len (.t 16)), none, [1]⟩,
    ⟨(some 18), 18, (.mkSlice 4 1 1 [(.pv (.bool false))] (.t 17) (.t 17)), none, [2, 2]⟩,
    ⟨(some 5), 5, (.mv (.t 18)), none, [3, 0, 1, 2, 3]⟩])
  (.seq (.seq (.reg [⟨(some 19), 19, (.mv (.t 1)), none, []⟩,
    ⟨(some 20), 20, (.len (.t 19)), none, [0]⟩,
    ⟨(some 21), 21, (.mv (.k (.c (.s (.pv (.int .i64 0)))))), none, []⟩])
  (.block 0 (.loop (.seq (.reg [⟨(some 22), 22, (.bin false .lss (.t 21) (.t 20)), none, []⟩])
  (.seq (.cond (.t 22) .skip (.exit 0))
  (.seq (.block 1 (.seq (.reg [⟨(some 23), 23, (.idx 1 (.t 19) (.t 21)), none, []⟩,
    ⟨(some 24), 24, (.load false 1 (.t 23)), none, [0]⟩,
    ⟨(some 7), 7, (.mv (.t 24)), none, [1, 0, 1]⟩])
  (.seq (.reg [⟨(some 25), 25, (.mv (.t 7)), none, []⟩,
    ⟨(some 26), 26, (.bin false .geq (.t 25) (.k (.c (.s (.pv (.int .i64 0)))))), none, [0]⟩,
    ⟨(some 27), 27, (.mv (.t 26)), none, [1]⟩,
    ⟨(some 28), 28, (.mv (.t 7)), (some (27, true)), [2]⟩,
    ⟨(some 29), 29, (.mv (.t 5)), (some (27, true)), [2]⟩,
    ⟨(some 30), 30, (.len (.t 29)), (some (27, true)), [4, 2]⟩,
    ⟨(some 31), 31, (.bin false .lss (.t 28) (.t 30)), (some (27, true)), [3, 5, 2]⟩,
    ⟨(some 32), 32, (.pick (.t 27) (.t 31) (.k (.c (.s (.pv (.bool false)))))), none, [2, 6]⟩])
  (.cond (.t 32) (.reg [⟨(some 33), 33, (.mv (.t 5)), none, []⟩,
    ⟨(some 34), 34, (.mv (.t 7)), none, []⟩,
    ⟨(some 35), 35, (.idx 1 (.t 33) (.t 34)), none, [0, 1, 0, 1]⟩,
    ⟨none, 60, (.store 1 (.t 35) (.k (.c (.s (.pv (.bool true)))))), none, [2, 0, 1]⟩]) .skip))))
  (.reg [⟨(some 36), 36, (.bin false .add (.t 21) (.k (.c (.s (.pv (.int .i64 1)))))), none, []⟩,
    ⟨(some 21), 21, (.mv (.t 36)), none, [0]⟩])))))))
  (.seq (.reg [⟨(some 8), 8, (.mv (.k (.c .zc))), none, []⟩])
  (.seq (.seq (.reg [⟨(some 37), 37, (.fld 1 (.t 2)), none, []⟩,
    ⟨(some 38), 38, (.load false 1 (.t 37)), none, [0]⟩,
    ⟨(some 39), 39, (.len (.t 38)), none, [1]⟩,
    ⟨(some 40), 40, (.mv (.k (.c (.s (.pv (.int .i64 0)))))), none, []⟩])
  (.block 2 (.loop (.seq (.reg [⟨(some 41), 41, (.bin false .lss (.t 40) (.t 39)), none, []⟩])
  (.seq (.cond (.t 41) .skip (.exit 2))
  (.seq (.block 3 (.seq (.reg [⟨(some 42), 42, (.mv (.t 40)), none, []⟩,
    ⟨(some 43), 43, (.idx 2 (.t 38) (.t 40)), none, []⟩,
    ⟨(some 44), 44, (.load true 2 (.t 43)), none, [1]⟩,
    ⟨(some 10), 10, (.mk 122 2 [[(.s (.pv (.int .i64 0))), (.s (.pv (.string ⟨#[]⟩)))]]), none, []⟩,
    ⟨(some 9), 9, (.mv (.t 42)), none, [0, 0, 1, 2, 3]⟩,
    ⟨none, 62, (.store 2 (.t 10) (.t 44)), none, [3, 2, 4, 0, 1, 2, 3, 4]⟩])
  (.seq (.reg [⟨(some 45), 45, (.mv (.t 5)), none, []⟩,
    ⟨(some 46), 46, (.mv (.t 9)), none, []⟩,
    ⟨(some 47), 47, (.idx 1 (.t 45) (.t 46)), none, [0, 1]⟩,
    ⟨(some 48), 48, (.load false 1 (.t 47)), none, [2]⟩])
  (.cond (.t 48) (.reg [⟨(some 49), 49, (.mv (.t 8)), none, []⟩,
    ⟨(some 50), 50, (.load true 2 (.t 10)), none, []⟩,
    ⟨(some 51), 51, (.bslice 122 2 [(.s (.pv (.int .i64 0))), (.s (.pv (.string ⟨#[]⟩)))] 1 [(0, 2, (.t 50))]), none, [1]⟩,
    ⟨(some 52), 52, (.app 122 2 24 (.t 49) (.t 51)), none, [0, 2]⟩,
    ⟨(some 8), 8, (.mv (.t 52)), none, [3, 3, 0, 1, 2, 3]⟩]) .skip))))
  (.reg [⟨(some 53), 53, (.bin false .add (.t 40) (.k (.c (.s (.pv (.int .i64 1)))))), none, []⟩,
    ⟨(some 40), 40, (.mv (.t 53)), none, [0]⟩])))))))
  (.seq (.reg [⟨(some 54), 54, (.load true 2 (.t 2)), none, []⟩,
    ⟨(some 55), 55, (.mv (.t 8)), none, []⟩,
    ⟨(some 56), 56, (.call 89 [(.t 54), (.t 55)]), none, [0, 1]⟩,
    ⟨none, 60, (.store 2 (.t 4) (.t 56)), none, [2, 2, 0, 1, 2]⟩])
  .ret)))))))
theorem fn46 : FnIs Try.prog 46 ac46 [(.cell 4 true 2)] 57 := ⟨Try.f46, Try.func46, by kernel_rfl, by kernel_rfl, by kernel_rfl⟩
/- lockkeeper/journal.Run -/
def ac47 : ACode := (.seq (.reg [⟨(some 3), 3, (.box 68 2 (.t 0)), none, []⟩,
    ⟨(some 6), 6, (.mk 68 2 [[.zc, .zc]]), none, []⟩])
  (.seq (.seq (.reg [⟨(some 9), 9, (.mv (.t 1)), none, []⟩,
    ⟨(some 10), 10, (.mv (.t 2)), none, []⟩,
    ⟨(some 11), 11, (.mv (.t 1)), none, []⟩,
    ⟨(some 12), 12, (.len (.t 11)), none, [2]⟩,
    ⟨(some 13), 13, (.mm false (.t 10) (.t 12)), none, [1, 3]⟩,
    ⟨(some 14), 14, (.mm true (.k (.c (.s (.pv (.int .i64 0))))) (.t 13)), none, [4]⟩,
    ⟨(some 15), 15, (.sub 3 (.t 9) none (some (.t 14))), none, [0, 5]⟩,
    ⟨(some 16), 16, (.len (.t 15)), none, [6]⟩,
    ⟨(some 17), 17, (.mv (.k (.c (.s (.pv (.int .i64 0)))))), none, []⟩])
  (.block 0 (.loop (.seq (.reg [⟨(some 18), 18, (.bin false .lss (.t 17) (.t 16)), none, []⟩])
  (.seq (.cond (.t 18) .skip (.exit 0))
  (.seq (.block 1 (.seq (.reg [⟨(some 19), 19, (.idx 3 (.t 15) (.t 17)), none, []⟩,
    ⟨(some 20), 20, (.load true 3 (.t 19)), none, [0]⟩,
    ⟨(some 8), 8, (.mk 124 3 [[(.s (.pv (.bool false))), (.s (.pv (.int .i64 0))), (.s (.pv (.string ⟨#[]⟩)))]]), none, []⟩,
    ⟨none, 37, (.store 3 (.t 8) (.t 20)), none, [2, 1, 0, 1, 2]⟩])
  (.seq (.reg [⟨(some 21), 21, (.fld 0 (.t 8)), none, []⟩,
    ⟨(some 22), 22, (.load false 1 (.t 21)), none, [0]⟩])
  (.cond (.t 22) (.reg [⟨(some 23), 23, (.load true 2 (.t 3)), none, []⟩,
    ⟨(some 24), 24, (.call 75 [(.t 23)]), none, [0]⟩,
    ⟨none, 36, (.store 2 (.t 3) (.t 24)), none, [1, 1, 0, 1]⟩]) (.reg [⟨(some 26), 26, (.load true 2 (.t 3)), none, []⟩,
    ⟨(some 27), 27, (.fld 1 (.t 8)), none, []⟩,
    ⟨(some 28), 28, (.load true 2 (.t 27)), none, [1]⟩,
    ⟨(some 29), 29, (.call 90 [(.t 26), (.t 28)]), none, [0, 2]⟩,
    ⟨(some 25), 25, (.mv (.t 29)), none, [3]⟩,
    ⟨(some 30), 30, (.ext 0 (.t 25)), none, [4]⟩,
    ⟨(some 31), 31, (.ext 1 (.t 25)), none, [4]⟩,
    ⟨none, 41, (.store 2 (.t 3) (.t 30)), none, [5, 3, 0, 1, 2, 3, 4, 5]⟩])))))
  (.reg [⟨(some 32), 32, (.bin false .add (.t 17) (.k (.c (.s (.pv (.int .i64 1)))))), none, []⟩,
    ⟨(some 17), 17, (.mv (.t 32)), none, [0]⟩])))))))
  (.seq (.reg [⟨(some 33), 33, (.load true 2 (.t 3)), none, []⟩,
    ⟨none, 35, (.store 2 (.t 6) (.t 33)), none, [0, 0]⟩])
  .ret)))
theorem fn47 : FnIs Try.prog 47 ac47 [(.cell 6 true 2)] 34 := ⟨Try.f47, Try.func47, by kernel_rfl, by kernel_rfl, by kernel_rfl⟩
/- lockkeeper/journal.Recover -/
def ac48 : ACode := (.seq (.reg [⟨(some 1), 1, (.box 68 2 (.t 0)), none, []⟩,
    ⟨(some 2), 2, (.mk 68 2 [[.zc, .zc]]), none, []⟩])
  (.seq (.reg [⟨(some 4), 4, (.load true 2 (.t 1)), none, []⟩,
    ⟨(some 5), 5, (.call 50 [(.t 4)]), none, [0]⟩,
    ⟨(some 3), 3, (.mv (.t 5)), none, [1, 1, 0, 1]⟩])
  (.seq (.reg [⟨(some 6), 6, (.load true 2 (.t 1)), none, []⟩,
    ⟨(some 7), 7, (.mv (.t 3)), none, []⟩,
    ⟨(some 8), 8, (.mv (.t 3)), none, []⟩,
    ⟨(some 9), 9, (.len (.t 8)), none, [2]⟩,
    ⟨(some 10), 10, (.call 47 [(.t 6), (.t 7), (.t 9)]), none, [0, 1, 3]⟩,
    ⟨none, 16, (.store 2 (.t 2) (.t 10)), none, [4, 4, 0, 1, 2, 3, 4]⟩])
  .ret)))
theorem fn48 : FnIs Try.prog 48 ac48 [(.cell 2 true 2)] 11 := ⟨Try.f48, Try.func48, by kernel_rfl, by kernel_rfl, by kernel_rfl⟩
/- lockkeeper/lockkeeperlaw12.old -/
def ac49 : ACode := (.seq (.reg [⟨(some 4), 4, (.box 68 2 (.t 0)), none, []⟩,
    ⟨(some 5), 5, (.box 68 2 (.t 1)), none, []⟩,
    ⟨(some 8), 8, (.mv (.k (.c (.s (.pv (.bool false)))))), none, []⟩])
  (.seq (.seq (.draw [⟨(some 13), 13, (.fld 0 (.t 4)), none, []⟩,
    ⟨(some 14), 14, (.load false 1 (.t 13)), none, [0]⟩,
    ⟨(some 15), 15, (.len (.t 14)), none, [1]⟩,
    ⟨(some 16), 16, (.bin false .neq (.t 15) (.k (.c (.s (.pv (.int .i64 35)))))), none, [2]⟩,
    ⟨(some 17), 17, (.mv (.t 16)), none, [3]⟩,
    ⟨(some 18), 18, (.fld 1 (.t 4)), (some (17, false)), [4]⟩,
    ⟨(some 19), 19, (.load false 1 (.t 18)), (some (17, false)), [5, 4]⟩,
    ⟨(some 20), 20, (.len (.t 19)), (some (17, false)), [6, 4]⟩,
    ⟨(some 21), 21, (.bin false .neq (.t 20) (.k (.c (.s (.pv (.int .i64 0)))))), (some (17, false)), [7, 4]⟩,
    ⟨(some 22), 22, (.pick (.t 17) (.k (.c (.s (.pv (.bool true))))) (.t 21)), none, [4, 8]⟩,
    ⟨(some 23), 23, (.mv (.t 22)), none, [9, 4]⟩,
    ⟨(some 24), 24, (.fld 0 (.t 4)), (some (23, false)), [10]⟩,
    ⟨(some 25), 25, (.load false 1 (.t 24)), (some (23, false)), [11, 10]⟩,
    ⟨(some 26), 26, (.idx 1 (.t 25) (.k (.c (.s (.pv (.int .i64 0)))))), (some (23, false)), [12, 10]⟩,
    ⟨(some 27), 27, (.load false 1 (.t 26)), (some (23, false)), [13, 10]⟩,
    ⟨(some 28), 28, (.fld 0 (.t 5)), (some (23, false)), [10]⟩,
    ⟨(some 29), 29, (.load false 1 (.t 28)), (some (23, false)), [15, 10]⟩,
    ⟨(some 30), 30, (.idx 1 (.t 29) (.k (.c (.s (.pv (.int .i64 0)))))), (some (23, false)), [16, 10]⟩,
    ⟨(some 31), 31, (.load false 1 (.t 30)), (some (23, false)), [17, 10]⟩,
    ⟨(some 32), 32, (.bin false .neq (.t 27) (.t 31)), (some (23, false)), [14, 18, 10]⟩,
    ⟨(some 33), 33, (.pick (.t 23) (.k (.c (.s (.pv (.bool true))))) (.t 32)), none, [10, 19]⟩])
  (.cond (.t 33) (.seq (.reg [⟨(some 8), 8, (.mv (.k (.c (.s (.pv (.bool false)))))), none, []⟩])
  .ret) .skip))
  (.seq (.seq (.reg [⟨(some 9), 9, (.mv (.k (.c (.s (.pv (.int .i64 1)))))), none, []⟩])
  (.block 0 (.loop (.seq (.seq (.reg [⟨(some 34), 34, (.mv (.t 9)), none, []⟩,
    ⟨(some 35), 35, (.bin false .leq (.t 34) (.k (.c (.s (.pv (.int .i64 16)))))), none, [0]⟩])
  (.cond (.t 35) .skip (.exit 0)))
  (.seq (.block 1 (.seq (.reg [⟨(some 39), 39, (.load true 2 (.t 4)), none, []⟩,
    ⟨(some 40), 40, (.mv (.t 9)), none, []⟩,
    ⟨(some 41), 41, (.call 37 [(.t 39), (.t 40)]), none, [0, 1]⟩,
    ⟨(some 38), 38, (.mv (.t 41)), none, [2]⟩,
    ⟨(some 42), 42, (.ext 0 (.t 38)), none, [3]⟩,
    ⟨(some 43), 43, (.ext 1 (.t 38)), none, [3]⟩,
    ⟨(some 10), 10, (.mv (.t 42)), none, [4, 2, 0, 1, 2, 3, 4]⟩,
    ⟨(some 11), 11, (.mv (.t 43)), none, [5, 6, 0, 1, 2, 3, 4, 5, 6]⟩])
  (.seq (.draw [⟨(some 44), 44, (.fld 0 (.t 5)), none, []⟩,
    ⟨(some 45), 45, (.load false 1 (.t 44)), none, [0]⟩,
    ⟨(some 46), 46, (.mv (.t 9)), none, []⟩,
    ⟨(some 47), 47, (.bin false .mul (.k (.c (.s (.pv (.int .i64 2))))) (.t 46)), none, [2]⟩,
    ⟨(some 48), 48, (.bin false .add (.t 47) (.k (.c (.s (.pv (.int .i64 1)))))), none, [3]⟩,
    ⟨(some 49), 49, (.idx 1 (.t 45) (.t 48)), none, [1, 4]⟩,
    ⟨(some 50), 50, (.load false 1 (.t 49)), none, [5]⟩,
    ⟨(some 51), 51, (.fld 0 (.t 5)), none, []⟩,
    ⟨(some 52), 52, (.load false 1 (.t 51)), none, [7]⟩,
    ⟨(some 53), 53, (.mv (.t 9)), none, []⟩,
    ⟨(some 54), 54, (.bin false .mul (.k (.c (.s (.pv (.int .i64 2))))) (.t 53)), none, [9]⟩,
    ⟨(some 55), 55, (.bin false .add (.t 54) (.k (.c (.s (.pv (.int .i64 2)))))), none, [10]⟩,
    ⟨(some 56), 56, (.idx 1 (.t 52) (.t 55)), none, [8, 11]⟩,
    ⟨(some 57), 57, (.load false 1 (.t 56)), none, [12]⟩,
    ⟨(some 58), 58, (.bin false .add (.t 50) (.t 57)), none, [6, 13]⟩,
    ⟨(some 12), 12, (.mv (.t 58)), none, [14, 0, 1, 2, 3, 4, 5, 6, 7, 8, 9, 10, 11, 12, 13, 14]⟩])
  (.seq (.reg [⟨(some 59), 59, (.mv (.t 11)), none, []⟩,
    ⟨(some 60), 60, (.bin false .neq (.t 59) (.k (.c (.s (.pv (.int .i64 0)))))), none, [0]⟩,
    ⟨(some 61), 61, (.mv (.t 60)), none, [1]⟩,
    ⟨(some 62), 62, (.mv (.t 10)), (some (61, false)), [2]⟩,
    ⟨(some 63), 63, (.mv (.t 12)), (some (61, false)), [2]⟩,
    ⟨(some 64), 64, (.bin false .neq (.t 62) (.t 63)), (some (61, false)), [3, 4, 2]⟩,
    ⟨(some 65), 65, (.mv (.t 64)), (some (61, false)), [5, 2, 2]⟩,
    ⟨(some 66), 66, (.mv (.t 9)), (some (65, true)), [6]⟩,
    ⟨(some 67), 67, (.mv (.t 2)), (some (65, true)), [6]⟩,
    ⟨(some 68), 68, (.bin false .neq (.t 66) (.t 67)), (some (65, true)), [7, 8, 6]⟩,
    ⟨(some 69), 69, (.mv (.t 68)), (some (65, true)), [9, 6, 6]⟩,
    ⟨(some 70), 70, (.mv (.t 10)), (some (69, false)), [10]⟩,
    ⟨(some 71), 71, (.mv (.t 3)), (some (69, false)), [10]⟩,
    ⟨(some 72), 72, (.bin false .neq (.t 70) (.t 71)), (some (69, false)), [11, 12, 10]⟩,
    ⟨(some 73), 73, (.pick (.t 69) (.k (.c (.s (.pv (.bool true))))) (.t 72)), (some (65, true)), [10, 13, 6]⟩,
    ⟨(some 74), 74, (.pick (.t 65) (.t 73) (.k (.c (.s (.pv (.bool false)))))), (some (61, false)), [6, 14, 2]⟩,
    ⟨(some 75), 75, (.pick (.t 61) (.k (.c (.s (.pv (.bool true))))) (.t 74)), none, [2, 15]⟩])
  (.cond (.t 75) (.seq (.reg [⟨(some 8), 8, (.mv (.k (.c (.s (.pv (.bool false)))))), none, []⟩])
  .ret) .skip)))))
  (.reg [⟨(some 36), 36, (.mv (.t 9)), none, []⟩,
    ⟨(some 37), 37, (.bin false .add (.t 36) (.k (.c (.s (.pv (.int .i64 1)))))), none, [0]⟩,
    ⟨(some 9), 9, (.mv (.t 37)), none, [1, 0, 1]⟩]))))))
  (.seq (.reg [⟨(some 8), 8, (.mv (.k (.c (.s (.pv (.bool true)))))), none, []⟩])
  .ret))))
theorem fn49 : FnIs Try.prog 49 ac49 [(.t 8)] 76 := ⟨Try.f49, Try.func49, by kernel_rfl, by kernel_rfl, by kernel_rfl⟩
/- lockkeeper/journal.Repair -/
def ac50 : ACode := (.seq (.reg [⟨(some 1), 1, (.box 68 2 (.t 0)), none, []⟩,
    ⟨(some 2), 2, (.mv (.k (.c .zc))), none, []⟩])
  (.seq (.seq (.reg [⟨(some 12), 12, (.load true 2 (.t 1)), none, []⟩,
    ⟨(some 13), 13, (.call 76 [(.t 12)]), none, [0]⟩,
    ⟨(some 14), 14, (.not (.t 13)), none, [1]⟩])
  (.cond (.t 14) (.seq (.reg [⟨(some 2), 2, (.mv (.k (.c .zc))), none, []⟩])
  .ret) .skip))
  (.seq (.reg [⟨(some 16), 16, (.load true 2 (.t 1)), none, []⟩,
    ⟨(some 17), 17, (.call 82 [(.t 16), (.k (.c (.s (.pv (.int .i64 0)))))]), none, [0]⟩,
    ⟨(some 15), 15, (.mv (.t 17)), none, [1]⟩,
    ⟨(some 18), 18, (.ext 0 (.t 15)), none, [2]⟩,
    ⟨(some 19), 19, (.ext 1 (.t 15)), none, [2]⟩,
    ⟨(some 3), 3, (.mv (.t 18)), none, [3, 1, 0, 1, 2, 3]⟩,
    ⟨(some 4), 4, (.mv (.t 19)), none, [4, 5, 0, 1, 2, 3, 4, 5]⟩])
  (.seq (.seq (.reg [⟨(some 20), 20, (.mv (.t 3)), none, []⟩,
    ⟨(some 21), 21, (.bin false .eql (.t 20) (.k (.c (.s (.pv (.string ⟨#[0, 0, 0, 0, 0, 0, 0, 0, 0, 0, 0, 0, 0, 0, 0, 0]⟩)))))), none, [0]⟩])
  (.cond (.t 21) (.seq (.reg [⟨(some 2), 2, (.mv (.k (.c .zc))), none, []⟩])
  .ret) .skip))
  (.seq (.reg [⟨(some 5), 5, (.mv (.k (.c .zc))), none, []⟩])
  (.seq (.seq (.reg [⟨(some 23), 23, (.mv (.t 3)), none, []⟩,
    ⟨(some 24), 24, (.call 91 [(.t 23)]), none, [0]⟩,
    ⟨(some 22), 22, (.mv (.t 24)), none, [1]⟩,
    ⟨(some 25), 25, (.ext 0 (.t 22)), none, [2]⟩,
    ⟨(some 26), 26, (.ext 1 (.t 22)), none, [2]⟩,
    ⟨(some 6), 6, (.mv (.t 25)), none, [3, 1, 0, 1, 2, 3]⟩,
    ⟨(some 7), 7, (.mv (.t 26)), none, [4, 5, 0, 1, 2, 3, 4, 5]⟩])
  (.seq (.reg [⟨(some 27), 27, (.mv (.t 7)), none, []⟩])
  (.cond (.t 27) (.seq (.reg [⟨(some 29), 29, (.load true 2 (.t 1)), none, []⟩,
    ⟨(some 30), 30, (.call 82 [(.t 29), (.k (.c (.s (.pv (.int .i64 1)))))]), none, [0]⟩,
    ⟨(some 28), 28, (.mv (.t 30)), none, [1]⟩,
    ⟨(some 31), 31, (.ext 0 (.t 28)), none, [2]⟩,
    ⟨(some 32), 32, (.ext 1 (.t 28)), none, [2]⟩,
    ⟨(some 8), 8, (.mv (.t 31)), none, [3, 1, 0, 1, 2, 3]⟩,
    ⟨(some 9), 9, (.mv (.t 32)), none, [4, 5, 0, 1, 2, 3, 4, 5]⟩])
  (.seq (.reg [⟨(some 34), 34, (.load true 2 (.t 1)), none, []⟩,
    ⟨(some 35), 35, (.call 82 [(.t 34), (.k (.c (.s (.pv (.int .i64 2)))))]), none, [0]⟩,
    ⟨(some 33), 33, (.mv (.t 35)), none, [1]⟩,
    ⟨(some 36), 36, (.ext 0 (.t 33)), none, [2]⟩,
    ⟨(some 37), 37, (.ext 1 (.t 33)), none, [2]⟩,
    ⟨(some 10), 10, (.mv (.t 36)), none, [3, 1, 0, 1, 2, 3]⟩,
    ⟨(some 11), 11, (.mv (.t 37)), none, [4, 5, 0, 1, 2, 3, 4, 5]⟩])
  (.reg [⟨(some 38), 38, (.mv (.t 5)), none, []⟩,
    ⟨(some 39), 39, (.mv (.t 6)), none, []⟩,
    ⟨(some 40), 40, (.call 81 [(.t 39)]), none, [1]⟩,
    ⟨(some 41), 41, (.mv (.t 8)), none, []⟩,
    ⟨(some 42), 42, (.call 78 [(.t 40), (.t 41)]), none, [2, 3, 2]⟩,
    ⟨(some 43), 43, (.mv (.t 6)), none, []⟩,
    ⟨(some 44), 44, (.call 81 [(.t 43)]), none, [5, 4]⟩,
    ⟨(some 45), 45, (.bin false .add (.t 44) (.k (.c (.s (.pv (.int .i64 1)))))), none, [6]⟩,
    ⟨(some 46), 46, (.mv (.t 10)), none, []⟩,
    ⟨(some 47), 47, (.call 78 [(.t 45), (.t 46)]), none, [7, 8, 6]⟩,
    ⟨(some 48), 48, (.call 79 []), none, [9]⟩,
    ⟨(some 49), 49, (.bslice 124 3 [(.s (.pv (.bool false))), (.s (.pv (.int .i64 0))), (.s (.pv (.string ⟨#[]⟩)))] 3 [(0, 3, (.t 42)), (3, 3, (.t 47)), (6, 3, (.t 48))]), none, [4, 9, 10]⟩,
    ⟨(some 50), 50, (.app 124 3 32 (.t 38) (.t 49)), none, [0, 11, 10]⟩,
    ⟨(some 5), 5, (.mv (.t 50)), none, [12, 12, 0, 1, 2, 3, 4, 5, 6, 7, 8, 9, 10, 11, 12]⟩]))) .skip)))
  (.seq (.reg [⟨(some 51), 51, (.mv (.t 5)), none, []⟩,
    ⟨(some 52), 52, (.call 78 [(.k (.c (.s (.pv (.int .i64 0))))), (.k (.c (.s (.pv (.string ⟨#[0, 0, 0, 0, 0, 0, 0, 0, 0, 0, 0, 0, 0, 0, 0, 0]⟩)))))]), none, []⟩,
    ⟨(some 53), 53, (.call 79 []), none, [1]⟩,
    ⟨(some 54), 54, (.bslice 124 3 [(.s (.pv (.bool false))), (.s (.pv (.int .i64 0))), (.s (.pv (.string ⟨#[]⟩)))] 2 [(0, 3, (.t 52)), (3, 3, (.t 53))]), none, [1, 2]⟩,
    ⟨(some 55), 55, (.app 124 3 32 (.t 51) (.t 54)), none, [0, 3, 2]⟩,
    ⟨(some 2), 2, (.mv (.t 55)), none, [4, 4, 0, 1, 2, 3, 4]⟩])
  .ret)))))))
theorem fn50 : FnIs Try.prog 50 ac50 [(.t 2)] 56 := ⟨Try.f50, Try.func50, by kernel_rfl, by kernel_rfl, by kernel_rfl⟩
/- lockkeeper/disk.New -/
def ac51 : ACode := (.seq (.reg [⟨(some 2), 2, (.mk 68 2 [[.zc, .zc]]), none, []⟩,
    ⟨(some 3), 3, (.mv (.k (.c (.s (.pv (.int .i64 0)))))), none, []⟩])
  (.seq (.seq (.reg [⟨(some 5), 5, (.mv (.t 0)), none, []⟩,
    ⟨(some 6), 6, (.bin false .lss (.t 5) (.k (.c (.s (.pv (.int .i64 1)))))), none, [0]⟩,
    ⟨(some 7), 7, (.mv (.t 6)), none, [1]⟩,
    ⟨(some 8), 8, (.mv (.t 0)), (some (7, false)), [2]⟩,
    ⟨(some 9), 9, (.bin false .gtr (.t 8) (.k (.c (.s (.pv (.int .i64 64)))))), (some (7, false)), [3, 2]⟩,
    ⟨(some 10), 10, (.pick (.t 7) (.k (.c (.s (.pv (.bool true))))) (.t 9)), none, [2, 4]⟩])
  (.cond (.t 10) (.seq (.reg [⟨(some 11), 11, (.build [.zc, .zc] []), none, []⟩,
    ⟨none, 19, (.store 2 (.t 2) (.t 11)), none, [0, 0]⟩,
    ⟨(some 3), 3, (.mv (.k (.c (.s (.pv (.int .i64 1)))))), none, [1, 0, 1]⟩])
  .ret) .skip))
  (.seq (.reg [⟨(some 12), 12, (.call 92 [(.k (.c (.s (.pv (.string ⟨#[0]⟩))))), (.k (.c (.s (.pv (.int .i64 16)))))]), none, []⟩,
    ⟨(some 4), 4, (.mv (.t 12)), none, [0, 0, 0]⟩])
  (.seq (.reg [⟨(some 13), 13, (.mv (.t 4)), none, []⟩,
    ⟨(some 14), 14, (.bslice 9 1 [(.s (.pv (.string ⟨#[]⟩)))] 1 [(0, 1, (.t 13))]), none, [0]⟩,
    ⟨(some 15), 15, (.mv (.t 0)), none, []⟩,
    ⟨(some 16), 16, (.call 93 [(.t 14), (.t 15)]), none, [1, 2]⟩,
    ⟨(some 17), 17, (.build [.zc, .zc] [(0, 1, (.t 16))]), none, [3]⟩,
    ⟨none, 23, (.store 2 (.t 2) (.t 17)), none, [4, 3, 0, 1, 2, 3, 4]⟩,
    ⟨(some 3), 3, (.mv (.k (.c (.s (.pv (.int .i64 0)))))), none, [5, 0, 1, 2, 3, 4, 5]⟩])
  .ret))))
theorem fn51 : FnIs Try.prog 51 ac51 [(.cell 2 true 2), (.t 3)] 18 := ⟨Try.f51, Try.func51, by kernel_rfl, by kernel_rfl, by kernel_rfl⟩
/- lockkeeper/disk.Sync -/
def ac75 : ACode := (.seq (.reg [⟨(some 1), 1, (.box 68 2 (.t 0)), none, []⟩,
    ⟨(some 2), 2, (.mk 68 2 [[.zc, .zc]]), none, []⟩])
  (.seq (.seq (.reg [⟨(some 3), 3, (.load true 2 (.t 1)), none, []⟩,
    ⟨(some 4), 4, (.call 88 [(.t 3)]), none, [0]⟩,
    ⟨(some 5), 5, (.not (.t 4)), none, [1]⟩])
  (.cond (.t 5) (.seq (.reg [⟨(some 6), 6, (.load true 2 (.t 1)), none, []⟩,
    ⟨none, 12, (.store 2 (.t 2) (.t 6)), none, [0, 0]⟩])
  .ret) .skip))
  (.seq (.reg [⟨(some 7), 7, (.load true 2 (.t 1)), none, []⟩,
    ⟨(some 8), 8, (.fld 1 (.t 1)), none, []⟩,
    ⟨(some 9), 9, (.load false 1 (.t 8)), none, [1]⟩,
    ⟨(some 10), 10, (.call 89 [(.t 7), (.t 9)]), none, [0, 2]⟩,
    ⟨none, 15, (.store 2 (.t 2) (.t 10)), none, [3, 3, 0, 1, 2, 3]⟩])
  .ret)))
theorem fn75 : FnIs Try.prog 75 ac75 [(.cell 2 true 2)] 11 := ⟨Try.f75, Try.func75, by kernel_rfl, by kernel_rfl, by kernel_rfl⟩
/- lockkeeper/journal.usable -/
def ac76 : ACode := (.seq (.reg [⟨(some 1), 1, (.box 68 2 (.t 0)), none, []⟩,
    ⟨(some 2), 2, (.mv (.k (.c (.s (.pv (.bool false)))))), none, []⟩])
  (.seq (.reg [⟨(some 3), 3, (.load true 2 (.t 1)), none, []⟩,
    ⟨(some 4), 4, (.call 88 [(.t 3)]), none, [0]⟩,
    ⟨(some 5), 5, (.mv (.t 4)), none, [1, 1]⟩,
    ⟨(some 6), 6, (.fld 0 (.t 1)), (some (5, true)), [2]⟩,
    ⟨(some 7), 7, (.load false 1 (.t 6)), (some (5, true)), [3, 2]⟩,
    ⟨(some 8), 8, (.len (.t 7)), (some (5, true)), [4, 2]⟩,
    ⟨(some 9), 9, (.bin false .geq (.t 8) (.k (.c (.s (.pv (.int .i64 35)))))), (some (5, true)), [5, 2]⟩,
    ⟨(some 10), 10, (.pick (.t 5) (.t 9) (.k (.c (.s (.pv (.bool false)))))), none, [2, 6]⟩,
    ⟨(some 2), 2, (.mv (.t 10)), none, [7, 2, 0, 1, 2, 3, 4, 5, 6, 7]⟩])
  .ret))
theorem fn76 : FnIs Try.prog 76 ac76 [(.t 2)] 11 := ⟨Try.f76, Try.func76, by kernel_rfl, by kernel_rfl, by kernel_rfl⟩
/- lockkeeper/journal.isPage -/
def ac77 : ACode := (.seq (.reg [⟨(some 2), 2, (.mv (.k (.c (.s (.pv (.bool false)))))), none, []⟩])
  (.seq (.reg [⟨(some 3), 3, (.mv (.t 0)), none, []⟩,
    ⟨(some 4), 4, (.bin false .geq (.t 3) (.k (.c (.s (.pv (.int .i64 1)))))), none, [0]⟩,
    ⟨(some 5), 5, (.mv (.t 4)), none, [1]⟩,
    ⟨(some 6), 6, (.mv (.t 0)), (some (5, true)), [2]⟩,
    ⟨(some 7), 7, (.bin false .leq (.t 6) (.k (.c (.s (.pv (.int .i64 16)))))), (some (5, true)), [3, 2]⟩,
    ⟨(some 8), 8, (.pick (.t 5) (.t 7) (.k (.c (.s (.pv (.bool false)))))), none, [2, 4]⟩,
    ⟨(some 2), 2, (.mv (.t 8)), none, [5, 2, 0, 1, 2, 3, 4, 5]⟩])
  .ret))
theorem fn77 : FnIs Try.prog 77 ac77 [(.t 2)] 9 := ⟨Try.f77, Try.func77, by kernel_rfl, by kernel_rfl, by kernel_rfl⟩
/- lockkeeper/journal.write -/
def ac78 : ACode := (.seq (.reg [⟨(some 4), 4, (.mk 124 3 [[(.s (.pv (.bool false))), (.s (.pv (.int .i64 0))), (.s (.pv (.string ⟨#[]⟩)))]]), none, []⟩])
  (.seq (.reg [⟨(some 5), 5, (.mv (.t 0)), none, []⟩,
    ⟨(some 6), 6, (.mv (.t 1)), none, []⟩,
    ⟨(some 7), 7, (.build [(.s (.pv (.int .i64 0))), (.s (.pv (.string ⟨#[]⟩)))] [(0, 1, (.t 5)), (1, 1, (.t 6))]), none, [0, 1]⟩,
    ⟨(some 8), 8, (.build [(.s (.pv (.bool false))), (.s (.pv (.int .i64 0))), (.s (.pv (.string ⟨#[]⟩)))] [(1, 2, (.t 7))]), none, [2]⟩,
    ⟨none, 13, (.store 3 (.t 4) (.t 8)), none, [3, 0, 1, 2, 3]⟩])
  .ret))
theorem fn78 : FnIs Try.prog 78 ac78 [(.cell 4 true 3)] 9 := ⟨Try.f78, Try.func78, by kernel_rfl, by kernel_rfl, by kernel_rfl⟩
/- lockkeeper/journal.sync -/
def ac79 : ACode := (.seq (.reg [⟨(some 0), 0, (.mk 124 3 [[(.s (.pv (.bool false))), (.s (.pv (.int .i64 0))), (.s (.pv (.string ⟨#[]⟩)))]]), none, []⟩])
  (.seq (.reg [⟨(some 1), 1, (.build [(.s (.pv (.bool false))), (.s (.pv (.int .i64 0))), (.s (.pv (.string ⟨#[]⟩)))] [(0, 1, (.k (.c (.s (.pv (.bool true))))))]), none, []⟩,
    ⟨none, 3, (.store 3 (.t 0) (.t 1)), none, [0, 0]⟩])
  .ret))
theorem fn79 : FnIs Try.prog 79 ac79 [(.cell 0 true 3)] 2 := ⟨Try.f79, Try.func79, by kernel_rfl, by kernel_rfl, by kernel_rfl⟩
/- lockkeeper/journal.head -/
def ac80 : ACode := (.seq (.reg [⟨(some 2), 2, (.mv (.k (.c (.s (.pv (.string ⟨#[]⟩)))))), none, []⟩])
  (.seq (.draw [⟨(some 3), 3, (.mv (.t 0)), none, []⟩,
    ⟨(some 4), 4, (.conv .u8 (.t 3)), none, [0]⟩,
    ⟨(some 5), 5, (.bslice 5 1 [(.s (.pv (.int .u8 0)))] 2 [(0, 1, (.k (.c (.s (.pv (.int .u8 74)))))), (1, 1, (.t 4))]), none, [1]⟩,
    ⟨(some 6), 6, (.b2s (.t 5)), none, [2]⟩,
    ⟨(some 7), 7, (.ssub (.k (.c (.s (.pv (.string ⟨#[0, 0, 0, 0, 0, 0, 0, 0, 0, 0, 0, 0, 0, 0, 0, 0]⟩))))) (some (.k (.c (.s (.pv (.int .i64 2)))))) none), none, []⟩,
    ⟨(some 8), 8, (.bin false .add (.t 6) (.t 7)), none, [3, 4]⟩,
    ⟨(some 2), 2, (.mv (.t 8)), none, [5, 0, 1, 2, 3, 4, 5]⟩])
  .ret))
theorem fn80 : FnIs Try.prog 80 ac80 [(.t 2)] 9 := ⟨Try.f80, Try.func80, by kernel_rfl, by kernel_rfl, by kernel_rfl⟩
/- lockkeeper/journal.home -/
def ac81 : ACode := (.seq (.reg [⟨(some 2), 2, (.mv (.k (.c (.s (.pv (.int .i64 0)))))), none, []⟩])
  (.seq (.reg [⟨(some 3), 3, (.mv (.t 0)), none, []⟩,
    ⟨(some 4), 4, (.bin false .mul (.k (.c (.s (.pv (.int .i64 2))))) (.t 3)), none, [0]⟩,
    ⟨(some 5), 5, (.bin false .add (.t 4) (.k (.c (.s (.pv (.int .i64 1)))))), none, [1]⟩,
    ⟨(some 2), 2, (.mv (.t 5)), none, [2, 0, 1, 2]⟩])
  .ret))
theorem fn81 : FnIs Try.prog 81 ac81 [(.t 2)] 6 := ⟨Try.f81, Try.func81, by kernel_rfl, by kernel_rfl, by kernel_rfl⟩
/- lockkeeper/lockkeeperref03.Right -/
def ac83 : ACode := (.seq (.reg [⟨(some 1), 1, (.box 68 2 (.t 0)), none, []⟩,
    ⟨(some 2), 2, (.mv (.k (.c (.s (.pv (.bool false)))))), none, []⟩])
  (.seq (.seq (.reg [⟨(some 6), 6, (.fld 0 (.t 1)), none, []⟩,
    ⟨(some 7), 7, (.load false 1 (.t 6)), none, [0]⟩,
    ⟨(some 8), 8, (.len (.t 7)), none, [1]⟩,
    ⟨(some 9), 9, (.bin false .lss (.t 8) (.k (.c (.s (.pv (.int .i64 1)))))), none, [2]⟩,
    ⟨(some 10), 10, (.mv (.t 9)), none, [3]⟩,
    ⟨(some 11), 11, (.fld 0 (.t 1)), (some (10, false)), [4]⟩,
    ⟨(some 12), 12, (.load false 1 (.t 11)), (some (10, false)), [5, 4]⟩,
    ⟨(some 13), 13, (.len (.t 12)), (some (10, false)), [6, 4]⟩,
    ⟨(some 14), 14, (.bin false .gtr (.t 13) (.k (.c (.s (.pv (.int .i64 64)))))), (some (10, false)), [7, 4]⟩,
    ⟨(some 15), 15, (.pick (.t 10) (.k (.c (.s (.pv (.bool true))))) (.t 14)), none, [4, 8]⟩,
    ⟨(some 16), 16, (.mv (.t 15)), none, [9, 4]⟩,
    ⟨(some 17), 17, (.fld 1 (.t 1)), (some (16, false)), [10]⟩,
    ⟨(some 18), 18, (.load false 1 (.t 17)), (some (16, false)), [11, 10]⟩,
    ⟨(some 19), 19, (.len (.t 18)), (some (16, false)), [12, 10]⟩,
    ⟨(some 20), 20, (.bin false .gtr (.t 19) (.k (.c (.s (.pv (.int .i64 200)))))), (some (16, false)), [13, 10]⟩,
    ⟨(some 21), 21, (.pick (.t 16) (.k (.c (.s (.pv (.bool true))))) (.t 20)), none, [10, 14]⟩])
  (.cond (.t 21) (.seq (.reg [⟨(some 2), 2, (.mv (.k (.c (.s (.pv (.bool false)))))), none, []⟩])
  .ret) .skip))
  (.seq (.seq (.reg [⟨(some 3), 3, (.mv (.k (.c (.s (.pv (.int .i64 0)))))), none, []⟩])
  (.block 0 (.loop (.seq (.seq (.reg [⟨(some 22), 22, (.mv (.t 3)), none, []⟩,
    ⟨(some 23), 23, (.fld 0 (.t 1)), none, []⟩,
    ⟨(some 24), 24, (.load false 1 (.t 23)), none, [1]⟩,
    ⟨(some 25), 25, (.len (.t 24)), none, [2]⟩,
    ⟨(some 26), 26, (.bin false .lss (.t 22) (.t 25)), none, [0, 3]⟩])
  (.cond (.t 26) .skip (.exit 0)))
  (.seq (.block 1 (.seq (.reg [⟨(some 29), 29, (.fld 0 (.t 1)), none, []⟩,
    ⟨(some 30), 30, (.load false 1 (.t 29)), none, [0]⟩,
    ⟨(some 31), 31, (.mv (.t 3)), none, []⟩,
    ⟨(some 32), 32, (.idx 1 (.t 30) (.t 31)), none, [1, 2]⟩,
    ⟨(some 33), 33, (.load false 1 (.t 32)), none, [3]⟩,
    ⟨(some 34), 34, (.slen (.t 33)), none, [4]⟩,
    ⟨(some 35), 35, (.bin false .neq (.t 34) (.k (.c (.s (.pv (.int .i64 16)))))), none, [5]⟩])
  (.cond (.t 35) (.seq (.reg [⟨(some 2), 2, (.mv (.k (.c (.s (.pv (.bool false)))))), none, []⟩])
  .ret) .skip)))
  (.reg [⟨(some 27), 27, (.mv (.t 3)), none, []⟩,
    ⟨(some 28), 28, (.bin false .add (.t 27) (.k (.c (.s (.pv (.int .i64 1)))))), none, [0]⟩,
    ⟨(some 3), 3, (.mv (.t 28)), none, [1, 0, 1]⟩]))))))
  (.seq (.seq (.reg [⟨(some 4), 4, (.mv (.k (.c (.s (.pv (.int .i64 0)))))), none, []⟩])
  (.block 2 (.loop (.seq (.seq (.reg [⟨(some 36), 36, (.mv (.t 4)), none, []⟩,
    ⟨(some 37), 37, (.fld 1 (.t 1)), none, []⟩,
    ⟨(some 38), 38, (.load false 1 (.t 37)), none, [1]⟩,
    ⟨(some 39), 39, (.len (.t 38)), none, [2]⟩,
    ⟨(some 40), 40, (.bin false .lss (.t 36) (.t 39)), none, [0, 3]⟩])
  (.cond (.t 40) .skip (.exit 2)))
  (.seq (.block 3 (.seq (.reg [⟨(some 43), 43, (.fld 1 (.t 1)), none, []⟩,
    ⟨(some 44), 44, (.load false 1 (.t 43)), none, [0]⟩,
    ⟨(some 45), 45, (.mv (.t 4)), none, []⟩,
    ⟨(some 46), 46, (.idx 2 (.t 44) (.t 45)), none, [1, 2]⟩,
    ⟨(some 47), 47, (.load true 2 (.t 46)), none, [3]⟩,
    ⟨(some 5), 5, (.mk 122 2 [[(.s (.pv (.int .i64 0))), (.s (.pv (.string ⟨#[]⟩)))]]), none, []⟩,
    ⟨none, 71, (.store 2 (.t 5) (.t 47)), none, [5, 4, 0, 1, 2, 3, 4, 5]⟩])
  (.seq (.reg [⟨(some 48), 48, (.fld 0 (.t 5)), none, []⟩,
    ⟨(some 49), 49, (.load false 1 (.t 48)), none, [0]⟩,
    ⟨(some 50), 50, (.bin false .lss (.t 49) (.k (.c (.s (.pv (.int .i64 0)))))), none, [1]⟩,
    ⟨(some 51), 51, (.mv (.t 50)), none, [2]⟩,
    ⟨(some 52), 52, (.fld 0 (.t 5)), (some (51, false)), [3]⟩,
    ⟨(some 53), 53, (.load false 1 (.t 52)), (some (51, false)), [4, 3]⟩,
    ⟨(some 54), 54, (.fld 0 (.t 1)), (some (51, false)), [3]⟩,
    ⟨(some 55), 55, (.load false 1 (.t 54)), (some (51, false)), [6, 3]⟩,
    ⟨(some 56), 56, (.len (.t 55)), (some (51, false)), [7, 3]⟩,
    ⟨(some 57), 57, (.bin false .geq (.t 53) (.t 56)), (some (51, false)), [5, 8, 3]⟩,
    ⟨(some 58), 58, (.pick (.t 51) (.k (.c (.s (.pv (.bool true))))) (.t 57)), none, [3, 9]⟩,
    ⟨(some 59), 59, (.mv (.t 58)), none, [10, 3]⟩,
    ⟨(some 60), 60, (.fld 1 (.t 5)), (some (59, false)), [11]⟩,
    ⟨(some 61), 61, (.load false 1 (.t 60)), (some (59, false)), [12, 11]⟩,
    ⟨(some 62), 62, (.slen (.t 61)), (some (59, false)), [13, 11]⟩,
    ⟨(some 63), 63, (.bin false .neq (.t 62) (.k (.c (.s (.pv (.int .i64 16)))))), (some (59, false)), [14, 11]⟩,
    ⟨(some 64), 64, (.pick (.t 59) (.k (.c (.s (.pv (.bool true))))) (.t 63)), none, [11, 15]⟩])
  (.cond (.t 64) (.seq (.reg [⟨(some 2), 2, (.mv (.k (.c (.s (.pv (.bool false)))))), none, []⟩])
  .ret) .skip))))
  (.reg [⟨(some 41), 41, (.mv (.t 4)), none, []⟩,
    ⟨(some 42), 42, (.bin false .add (.t 41) (.k (.c (.s (.pv (.int .i64 1)))))), none, [0]⟩,
    ⟨(some 4), 4, (.mv (.t 42)), none, [1, 0, 1]⟩]))))))
  (.seq (.reg [⟨(some 2), 2, (.mv (.k (.c (.s (.pv (.bool true)))))), none, []⟩])
  .ret)))))
theorem fn83 : FnIs Try.prog 83 ac83 [(.t 2)] 65 := ⟨Try.f83, Try.func83, by kernel_rfl, by kernel_rfl, by kernel_rfl⟩
/- lockkeeper/lockkeeperref03.Read -/
def ac84 : ACode := (.seq (.reg [⟨(some 2), 2, (.box 68 2 (.t 0)), none, []⟩,
    ⟨(some 4), 4, (.mv (.k (.c (.s (.pv (.string ⟨#[]⟩)))))), none, []⟩])
  (.seq (.seq (.reg [⟨(some 6), 6, (.fld 1 (.t 2)), none, []⟩,
    ⟨(some 7), 7, (.load false 1 (.t 6)), none, [0]⟩,
    ⟨(some 8), 8, (.len (.t 7)), none, [1]⟩,
    ⟨(some 9), 9, (.bin false .sub (.t 8) (.k (.c (.s (.pv (.int .i64 1)))))), none, [2]⟩,
    ⟨(some 5), 5, (.mv (.t 9)), none, [3, 0, 1, 2, 3]⟩])
  (.block 0 (.loop (.seq (.seq (.reg [⟨(some 10), 10, (.mv (.t 5)), none, []⟩,
    ⟨(some 11), 11, (.bin false .geq (.t 10) (.k (.c (.s (.pv (.int .i64 0)))))), none, [0]⟩])
  (.cond (.t 11) .skip (.exit 0)))
  (.seq (.block 1 (.seq (.reg [⟨(some 14), 14, (.fld 1 (.t 2)), none, []⟩,
    ⟨(some 15), 15, (.load false 1 (.t 14)), none, [0]⟩,
    ⟨(some 16), 16, (.mv (.t 5)), none, []⟩,
    ⟨(some 17), 17, (.idx 2 (.t 15) (.t 16)), none, [1, 2]⟩,
    ⟨(some 18), 18, (.fld 0 (.t 17)), none, [3]⟩,
    ⟨(some 19), 19, (.load false 1 (.t 18)), none, [4]⟩,
    ⟨(some 20), 20, (.mv (.t 1)), none, []⟩,
    ⟨(some 21), 21, (.bin false .eql (.t 19) (.t 20)), none, [5, 6]⟩])
  (.cond (.t 21) (.seq (.reg [⟨(some 22), 22, (.fld 1 (.t 2)), none, []⟩,
    ⟨(some 23), 23, (.load false 1 (.t 22)), none, [0]⟩,
    ⟨(some 24), 24, (.mv (.t 5)), none, []⟩,
    ⟨(some 25), 25, (.idx 2 (.t 23) (.t 24)), none, [1, 2]⟩,
    ⟨(some 26), 26, (.fld 1 (.t 25)), none, [3]⟩,
    ⟨(some 27), 27, (.load false 1 (.t 26)), none, [4]⟩,
    ⟨(some 4), 4, (.mv (.t 27)), none, [5, 0, 1, 2, 3, 4, 5]⟩])
  .ret) .skip)))
  (.reg [⟨(some 12), 12, (.mv (.t 5)), none, []⟩,
    ⟨(some 13), 13, (.bin false .sub (.t 12) (.k (.c (.s (.pv (.int .i64 1)))))), none, [0]⟩,
    ⟨(some 5), 5, (.mv (.t 13)), none, [1, 0, 1]⟩]))))))
  (.seq (.reg [⟨(some 28), 28, (.fld 0 (.t 2)), none, []⟩,
    ⟨(some 29), 29, (.load false 1 (.t 28)), none, [0]⟩,
    ⟨(some 30), 30, (.mv (.t 1)), none, []⟩,
    ⟨(some 31), 31, (.idx 1 (.t 29) (.t 30)), none, [1, 2]⟩,
    ⟨(some 32), 32, (.load false 1 (.t 31)), none, [3]⟩,
    ⟨(some 4), 4, (.mv (.t 32)), none, [4, 0, 1, 2, 3, 4]⟩])
  .ret)))
theorem fn84 : FnIs Try.prog 84 ac84 [(.t 4)] 33 := ⟨Try.f84, Try.func84, by kernel_rfl, by kernel_rfl, by kernel_rfl⟩
/- lockkeeper/lockkeeperref12.at -/
def ac85 : ACode := (.seq (.reg [⟨(some 4), 4, (.mk 129 3 [[(.s (.pv (.bool false))), (.s (.pv (.int .i64 0))), (.s (.pv (.string ⟨#[]⟩)))]]), none, []⟩])
  (.seq (.reg [⟨(some 5), 5, (.mv (.t 0)), none, []⟩,
    ⟨(some 6), 6, (.mv (.t 1)), none, []⟩,
    ⟨(some 7), 7, (.build [(.s (.pv (.int .i64 0))), (.s (.pv (.string ⟨#[]⟩)))] [(0, 1, (.t 5)), (1, 1, (.t 6))]), none, [0, 1]⟩,
    ⟨(some 8), 8, (.build [(.s (.pv (.bool false))), (.s (.pv (.int .i64 0))), (.s (.pv (.string ⟨#[]⟩)))] [(1, 2, (.t 7))]), none, [2]⟩,
    ⟨none, 13, (.store 3 (.t 4) (.t 8)), none, [3, 0, 1, 2, 3]⟩])
  .ret))
theorem fn85 : FnIs Try.prog 85 ac85 [(.cell 4 true 3)] 9 := ⟨Try.f85, Try.func85, by kernel_rfl, by kernel_rfl, by kernel_rfl⟩
/- lockkeeper/lockkeeperref12.filled -/
def ac86 : ACode := (.seq (.reg [⟨(some 2), 2, (.mv (.k (.c (.s (.pv (.string ⟨#[]⟩)))))), none, []⟩])
  (.seq (.block 0 (.loop (.seq (.seq (.reg [⟨(some 3), 3, (.mv (.t 0)), none, []⟩,
    ⟨(some 4), 4, (.slen (.t 3)), none, [0]⟩,
    ⟨(some 5), 5, (.bin false .lss (.t 4) (.k (.c (.s (.pv (.int .i64 16)))))), none, [1]⟩])
  (.cond (.t 5) .skip (.exit 0)))
  (.block 1 (.reg [⟨(some 6), 6, (.mv (.t 0)), none, []⟩,
    ⟨(some 7), 7, (.bslice 5 1 [(.s (.pv (.int .u8 0)))] 1 [(0, 1, (.k (.c (.s (.pv (.int .u8 0))))))]), none, []⟩,
    ⟨(some 8), 8, (.b2s (.t 7)), none, [1]⟩,
    ⟨(some 9), 9, (.bin false .add (.t 6) (.t 8)), none, [0, 2]⟩,
    ⟨(some 0), 0, (.mv (.t 9)), none, [3, 0, 1, 2, 3]⟩])))))
  (.seq (.reg [⟨(some 10), 10, (.mv (.t 0)), none, []⟩,
    ⟨(some 2), 2, (.mv (.t 10)), none, [0, 0]⟩])
  .ret)))
theorem fn86 : FnIs Try.prog 86 ac86 [(.t 2)] 11 := ⟨Try.f86, Try.func86, by kernel_rfl, by kernel_rfl, by kernel_rfl⟩
/- lockkeeper/lockkeeperref03.Sync -/
def ac87 : ACode := (.seq (.reg [⟨(some 1), 1, (.box 68 2 (.t 0)), none, []⟩,
    ⟨(some 2), 2, (.mk 68 2 [[.zc, .zc]]), none, []⟩])
  (.seq (.reg [⟨(some 3), 3, (.mk 68 2 [[.zc, .zc]]), none, []⟩])
  (.seq (.seq (.reg [⟨(some 4), 4, (.mv (.k (.c (.s (.pv (.int .i64 0)))))), none, []⟩])
  (.block 0 (.loop (.seq (.seq (.reg [⟨(some 5), 5, (.mv (.t 4)), none, []⟩,
    ⟨(some 6), 6, (.fld 0 (.t 1)), none, []⟩,
    ⟨(some 7), 7, (.load false 1 (.t 6)), none, [1]⟩,
    ⟨(some 8), 8, (.len (.t 7)), none, [2]⟩,
    ⟨(some 9), 9, (.bin false .lss (.t 5) (.t 8)), none, [0, 3]⟩])
  (.cond (.t 9) .skip (.exit 0)))
  (.seq (.block 1 (.draw [⟨(some 12), 12, (.fld 0 (.t 3)), none, []⟩,
    ⟨(some 13), 13, (.load false 1 (.t 12)), none, [0]⟩,
    ⟨(some 14), 14, (.load true 2 (.t 1)), none, []⟩,
    ⟨(some 15), 15, (.mv (.t 4)), none, []⟩,
    ⟨(some 16), 16, (.call 84 [(.t 14), (.t 15)]), none, [2, 3]⟩,
    ⟨(some 17), 17, (.bslice 9 1 [(.s (.pv (.string ⟨#[]⟩)))] 1 [(0, 1, (.t 16))]), none, [4]⟩,
    ⟨(some 18), 18, (.app 9 1 16 (.t 13) (.t 17)), none, [1, 5, 4]⟩,
    ⟨(some 19), 19, (.fld 0 (.t 3)), none, [0, 1, 2, 3, 4, 5, 6]⟩,
    ⟨none, 29, (.store 1 (.t 19) (.t 18)), none, [7, 6, 6, 0, 1, 2, 3, 4, 5, 6]⟩]))
  (.reg [⟨(some 10), 10, (.mv (.t 4)), none, []⟩,
    ⟨(some 11), 11, (.bin false .add (.t 10) (.k (.c (.s (.pv (.int .i64 1)))))), none, [0]⟩,
    ⟨(some 4), 4, (.mv (.t 11)), none, [1, 0, 1]⟩]))))))
  (.seq (.reg [⟨(some 20), 20, (.load true 2 (.t 3)), none, []⟩,
    ⟨none, 22, (.store 2 (.t 2) (.t 20)), none, [0, 0]⟩])
  .ret))))
theorem fn87 : FnIs Try.prog 87 ac87 [(.cell 2 true 2)] 21 := ⟨Try.f87, Try.func87, by kernel_rfl, by kernel_rfl, by kernel_rfl⟩
/- lockkeeper/disk.Right -/
def ac88 : ACode := (.seq (.reg [⟨(some 1), 1, (.box 68 2 (.t 0)), none, []⟩,
    ⟨(some 2), 2, (.mv (.k (.c (.s (.pv (.bool false)))))), none, []⟩])
  (.seq (.seq (.reg [⟨(some 7), 7, (.fld 0 (.t 1)), none, []⟩,
    ⟨(some 8), 8, (.load false 1 (.t 7)), none, [0]⟩,
    ⟨(some 9), 9, (.len (.t 8)), none, [1]⟩,
    ⟨(some 10), 10, (.bin false .lss (.t 9) (.k (.c (.s (.pv (.int .i64 1)))))), none, [2]⟩,
    ⟨(some 11), 11, (.mv (.t 10)), none, [3]⟩,
    ⟨(some 12), 12, (.fld 0 (.t 1)), (some (11, false)), [4]⟩,
    ⟨(some 13), 13, (.load false 1 (.t 12)), (some (11, false)), [5, 4]⟩,
    ⟨(some 14), 14, (.len (.t 13)), (some (11, false)), [6, 4]⟩,
    ⟨(some 15), 15, (.bin false .gtr (.t 14) (.k (.c (.s (.pv (.int .i64 64)))))), (some (11, false)), [7, 4]⟩,
    ⟨(some 16), 16, (.pick (.t 11) (.k (.c (.s (.pv (.bool true))))) (.t 15)), none, [4, 8]⟩,
    ⟨(some 17), 17, (.mv (.t 16)), none, [9, 4]⟩,
    ⟨(some 18), 18, (.fld 1 (.t 1)), (some (17, false)), [10]⟩,
    ⟨(some 19), 19, (.load false 1 (.t 18)), (some (17, false)), [11, 10]⟩,
    ⟨(some 20), 20, (.len (.t 19)), (some (17, false)), [12, 10]⟩,
    ⟨(some 21), 21, (.bin false .gtr (.t 20) (.k (.c (.s (.pv (.int .i64 200)))))), (some (17, false)), [13, 10]⟩,
    ⟨(some 22), 22, (.pick (.t 17) (.k (.c (.s (.pv (.bool true))))) (.t 21)), none, [10, 14]⟩])
  (.cond (.t 22) (.seq (.reg [⟨(some 2), 2, (.mv (.k (.c (.s (.pv (.bool false)))))), none, []⟩])
  .ret) .skip))
  (.seq (.seq (.reg [⟨(some 23), 23, (.fld 0 (.t 1)), none, []⟩,
    ⟨(some 24), 24, (.load false 1 (.t 23)), none, [0]⟩,
    ⟨(some 25), 25, (.len (.t 24)), none, [1]⟩,
    ⟨(some 26), 26, (.mv (.k (.c (.s (.pv (.int .i64 0)))))), none, []⟩])
  (.block 0 (.loop (.seq (.reg [⟨(some 27), 27, (.bin false .lss (.t 26) (.t 25)), none, []⟩])
  (.seq (.cond (.t 27) .skip (.exit 0))
  (.seq (.block 1 (.seq (.reg [⟨(some 28), 28, (.idx 1 (.t 24) (.t 26)), none, []⟩,
    ⟨(some 29), 29, (.load false 1 (.t 28)), none, [0]⟩,
    ⟨(some 4), 4, (.mv (.t 29)), none, [1, 0, 1]⟩])
  (.seq (.reg [⟨(some 30), 30, (.mv (.t 4)), none, []⟩,
    ⟨(some 31), 31, (.slen (.t 30)), none, [0]⟩,
    ⟨(some 32), 32, (.bin false .neq (.t 31) (.k (.c (.s (.pv (.int .i64 16)))))), none, [1]⟩])
  (.cond (.t 32) (.seq (.reg [⟨(some 2), 2, (.mv (.k (.c (.s (.pv (.bool false)))))), none, []⟩])
  .ret) .skip))))
  (.reg [⟨(some 33), 33, (.bin false .add (.t 26) (.k (.c (.s (.pv (.int .i64 1)))))), none, []⟩,
    ⟨(some 26), 26, (.mv (.t 33)), none, [0]⟩])))))))
  (.seq (.seq (.reg [⟨(some 34), 34, (.fld 1 (.t 1)), none, []⟩,
    ⟨(some 35), 35, (.load false 1 (.t 34)), none, [0]⟩,
    ⟨(some 36), 36, (.len (.t 35)), none, [1]⟩,
    ⟨(some 37), 37, (.mv (.k (.c (.s (.pv (.int .i64 0)))))), none, []⟩])
  (.block 2 (.loop (.seq (.reg [⟨(some 38), 38, (.bin false .lss (.t 37) (.t 36)), none, []⟩])
  (.seq (.cond (.t 38) .skip (.exit 2))
  (.seq (.block 3 (.seq (.reg [⟨(some 39), 39, (.idx 2 (.t 35) (.t 37)), none, []⟩,
    ⟨(some 40), 40, (.load true 2 (.t 39)), none, [0]⟩,
    ⟨(some 6), 6, (.mk 122 2 [[(.s (.pv (.int .i64 0))), (.s (.pv (.string ⟨#[]⟩)))]]), none, []⟩,
    ⟨none, 49, (.store 2 (.t 6) (.t 40)), none, [2, 1, 0, 1, 2]⟩])
  (.seq (.reg [⟨(some 41), 41, (.load true 2 (.t 1)), none, []⟩,
    ⟨(some 42), 42, (.load true 2 (.t 6)), none, []⟩,
    ⟨(some 43), 43, (.call 102 [(.t 41), (.t 42)]), none, [0, 1]⟩,
    ⟨(some 44), 44, (.not (.t 43)), none, [2]⟩])
  (.cond (.t 44) (.seq (.reg [⟨(some 2), 2, (.mv (.k (.c (.s (.pv (.bool false)))))), none, []⟩])
  .ret) .skip))))
  (.reg [⟨(some 45), 45, (.bin false .add (.t 37) (.k (.c (.s (.pv (.int .i64 1)))))), none, []⟩,
    ⟨(some 37), 37, (.mv (.t 45)), none, [0]⟩])))))))
  (.seq (.reg [⟨(some 2), 2, (.mv (.k (.c (.s (.pv (.bool true)))))), none, []⟩])
  .ret)))))
theorem fn88 : FnIs Try.prog 88 ac88 [(.t 2)] 46 := ⟨Try.f88, Try.func88, by kernel_rfl, by kernel_rfl, by kernel_rfl⟩
/- lockkeeper/disk.done -/
def ac89 : ACode := (.seq (.reg [⟨(some 2), 2, (.box 68 2 (.t 0)), none, []⟩,
    ⟨(some 4), 4, (.mk 68 2 [[.zc, .zc]]), none, []⟩])
  (.seq (.reg [⟨(some 8), 8, (.fld 0 (.t 2)), none, []⟩,
    ⟨(some 9), 9, (.load false 1 (.t 8)), none, [0]⟩,
    ⟨(some 10), 10, (.call 103 [(.t 9)]), none, [1]⟩,
    ⟨(some 5), 5, (.mv (.t 10)), none, [2, 2, 0, 1, 2]⟩])
  (.seq (.seq (.reg [⟨(some 11), 11, (.mv (.t 1)), none, []⟩,
    ⟨(some 12), 12, (.len (.t 11)), none, [0]⟩,
    ⟨(some 13), 13, (.mv (.k (.c (.s (.pv (.int .i64 0)))))), none, []⟩])
  (.block 0 (.loop (.seq (.reg [⟨(some 14), 14, (.bin false .lss (.t 13) (.t 12)), none, []⟩])
  (.seq (.cond (.t 14) .skip (.exit 0))
  (.seq (.block 1 (.seq (.reg [⟨(some 15), 15, (.idx 2 (.t 11) (.t 13)), none, []⟩,
    ⟨(some 16), 16, (.load true 2 (.t 15)), none, [0]⟩,
    ⟨(some 7), 7, (.mk 122 2 [[(.s (.pv (.int .i64 0))), (.s (.pv (.string ⟨#[]⟩)))]]), none, []⟩,
    ⟨none, 29, (.store 2 (.t 7) (.t 16)), none, [2, 1, 0, 1, 2]⟩])
  (.reg [⟨(some 17), 17, (.mv (.t 5)), none, []⟩,
    ⟨(some 18), 18, (.fld 0 (.t 7)), none, []⟩,
    ⟨(some 19), 19, (.load false 1 (.t 18)), none, [1]⟩,
    ⟨(some 20), 20, (.fld 1 (.t 7)), none, []⟩,
    ⟨(some 21), 21, (.load false 1 (.t 20)), none, [3]⟩,
    ⟨(some 22), 22, (.idx 1 (.t 17) (.t 19)), none, [0, 2, 0, 1, 2, 3, 4]⟩,
    ⟨none, 32, (.store 1 (.t 22) (.t 21)), none, [5, 4, 0, 1, 2, 3, 4]⟩])))
  (.reg [⟨(some 23), 23, (.bin false .add (.t 13) (.k (.c (.s (.pv (.int .i64 1)))))), none, []⟩,
    ⟨(some 13), 13, (.mv (.t 23)), none, [0]⟩])))))))
  (.seq (.reg [⟨(some 24), 24, (.mv (.t 5)), none, []⟩,
    ⟨(some 25), 25, (.build [.zc, .zc] [(0, 1, (.t 24))]), none, [0]⟩,
    ⟨none, 28, (.store 2 (.t 4) (.t 25)), none, [1, 0, 1]⟩])
  .ret))))
theorem fn89 : FnIs Try.prog 89 ac89 [(.cell 4 true 2)] 26 := ⟨Try.f89, Try.func89, by kernel_rfl, by kernel_rfl, by kernel_rfl⟩
/- lockkeeper/disk.Put -/
def ac90 : ACode := (.seq (.reg [⟨(some 2), 2, (.box 68 2 (.t 0)), none, []⟩,
    ⟨(some 3), 3, (.box 122 2 (.t 1)), none, []⟩,
    ⟨(some 4), 4, (.mk 68 2 [[.zc, .zc]]), none, []⟩,
    ⟨(some 5), 5, (.mv (.k (.c (.s (.pv (.int .i64 0)))))), none, []⟩])
  (.seq (.seq (.reg [⟨(some 6), 6, (.load true 2 (.t 2)), none, []⟩,
    ⟨(some 7), 7, (.call 88 [(.t 6)]), none, [0]⟩,
    ⟨(some 8), 8, (.not (.t 7)), none, [1]⟩,
    ⟨(some 9), 9, (.mv (.t 8)), none, [2, 1]⟩,
    ⟨(some 10), 10, (.load true 2 (.t 2)), (some (9, false)), [3]⟩,
    ⟨(some 11), 11, (.load true 2 (.t 3)), (some (9, false)), [3]⟩,
    ⟨(some 12), 12, (.call 102 [(.t 10), (.t 11)]), (some (9, false)), [4, 5, 3, 3]⟩,
    ⟨(some 13), 13, (.not (.t 12)), (some (9, false)), [6, 3]⟩,
    ⟨(some 14), 14, (.pick (.t 9) (.k (.c (.s (.pv (.bool true))))) (.t 13)), none, [3, 7]⟩])
  (.cond (.t 14) (.seq (.reg [⟨(some 15), 15, (.load true 2 (.t 2)), none, []⟩,
    ⟨none, 31, (.store 2 (.t 4) (.t 15)), none, [0, 0]⟩,
    ⟨(some 5), 5, (.mv (.k (.c (.s (.pv (.int .i64 1)))))), none, [1, 0, 1]⟩])
  .ret) .skip))
  (.seq (.seq (.reg [⟨(some 16), 16, (.fld 1 (.t 2)), none, []⟩,
    ⟨(some 17), 17, (.load false 1 (.t 16)), none, [0]⟩,
    ⟨(some 18), 18, (.len (.t 17)), none, [1]⟩,
    ⟨(some 19), 19, (.bin false .eql (.t 18) (.k (.c (.s (.pv (.int .i64 200)))))), none, [2]⟩])
  (.cond (.t 19) (.seq (.reg [⟨(some 20), 20, (.load true 2 (.t 2)), none, []⟩,
    ⟨none, 31, (.store 2 (.t 4) (.t 20)), none, [0, 0]⟩,
    ⟨(some 5), 5, (.mv (.k (.c (.s (.pv (.int .i64 7)))))), none, [1, 0, 1]⟩])
  .ret) .skip))
  (.seq (.draw [⟨(some 21), 21, (.fld 0 (.t 2)), none, []⟩,
    ⟨(some 22), 22, (.load false 1 (.t 21)), none, [0]⟩,
    ⟨(some 23), 23, (.fld 1 (.t 2)), none, []⟩,
    ⟨(some 24), 24, (.load false 1 (.t 23)), none, [2]⟩,
    ⟨(some 25), 25, (.call 104 [(.t 24)]), none, [3]⟩,
    ⟨(some 26), 26, (.load true 2 (.t 3)), none, []⟩,
    ⟨(some 27), 27, (.bslice 122 2 [(.s (.pv (.int .i64 0))), (.s (.pv (.string ⟨#[]⟩)))] 1 [(0, 2, (.t 26))]), none, [5]⟩,
    ⟨(some 28), 28, (.app 122 2 24 (.t 25) (.t 27)), none, [4, 6, 4]⟩,
    ⟨(some 29), 29, (.build [.zc, .zc] [(0, 1, (.t 22)), (1, 1, (.t 28))]), none, [1, 7]⟩,
    ⟨none, 39, (.store 2 (.t 4) (.t 29)), none, [8, 7, 0, 1, 2, 3, 4, 5, 6, 7, 8]⟩,
    ⟨(some 5), 5, (.mv (.k (.c (.s (.pv (.int .i64 0)))))), none, [9, 0, 1, 2, 3, 4, 5, 6, 7, 8, 9]⟩])
  .ret))))
theorem fn90 : FnIs Try.prog 90 ac90 [(.cell 4 true 2), (.t 5)] 30 := ⟨Try.f90, Try.func90, by kernel_rfl, by kernel_rfl, by kernel_rfl⟩
/- lockkeeper/journal.headed -/
def ac91 : ACode := (.seq (.reg [⟨(some 2), 2, (.mv (.k (.c (.s (.pv (.int .i64 0)))))), none, []⟩,
    ⟨(some 3), 3, (.mv (.k (.c (.s (.pv (.bool false)))))), none, [0]⟩])
  (.seq (.reg [⟨(some 5), 5, (.mv (.t 0)), none, []⟩,
    ⟨(some 6), 6, (.sidx (.t 5) (.k (.c (.s (.pv (.int .i64 1)))))), none, [0]⟩,
    ⟨(some 7), 7, (.conv .i64 (.t 6)), none, [1]⟩,
    ⟨(some 4), 4, (.mv (.t 7)), none, [2, 0, 1, 2]⟩])
  (.seq (.seq (.reg [⟨(some 8), 8, (.mv (.t 4)), none, []⟩,
    ⟨(some 9), 9, (.call 77 [(.t 8)]), none, [0]⟩,
    ⟨(some 10), 10, (.not (.t 9)), none, [1]⟩,
    ⟨(some 11), 11, (.mv (.t 10)), none, [2, 1]⟩,
    ⟨(some 12), 12, (.mv (.t 0)), (some (11, false)), [3]⟩,
    ⟨(some 13), 13, (.mv (.t 4)), (some (11, false)), [3]⟩,
    ⟨(some 14), 14, (.call 80 [(.t 13)]), (some (11, false)), [5, 3, 3]⟩,
    ⟨(some 15), 15, (.bin false .neq (.t 12) (.t 14)), (some (11, false)), [4, 6, 3]⟩,
    ⟨(some 16), 16, (.pick (.t 11) (.k (.c (.s (.pv (.bool true))))) (.t 15)), none, [3, 7]⟩])
  (.cond (.t 16) (.seq (.reg [⟨(some 2), 2, (.mv (.k (.c (.s (.pv (.int .i64 0)))))), none, []⟩,
    ⟨(some 3), 3, (.mv (.k (.c (.s (.pv (.bool false)))))), none, [0, 0]⟩])
  .ret) .skip))
  (.seq (.reg [⟨(some 17), 17, (.mv (.t 4)), none, []⟩,
    ⟨(some 2), 2, (.mv (.t 17)), none, [0, 0]⟩,
    ⟨(some 3), 3, (.mv (.k (.c (.s (.pv (.bool true)))))), none, [1, 0, 1]⟩])
  .ret))))
theorem fn91 : FnIs Try.prog 91 ac91 [(.t 2), (.t 3)] 18 := ⟨Try.f91, Try.func91, by kernel_rfl, by kernel_rfl, by kernel_rfl⟩
/- lockkeeper/disk.has -/
def ac100 : ACode := (.seq (.reg [⟨(some 2), 2, (.box 68 2 (.t 0)), none, []⟩,
    ⟨(some 4), 4, (.mv (.k (.c (.s (.pv (.bool false)))))), none, []⟩])
  (.seq (.reg [⟨(some 5), 5, (.mv (.t 1)), none, []⟩,
    ⟨(some 6), 6, (.bin false .geq (.t 5) (.k (.c (.s (.pv (.int .i64 0)))))), none, [0]⟩,
    ⟨(some 7), 7, (.mv (.t 6)), none, [1]⟩,
    ⟨(some 8), 8, (.mv (.t 1)), (some (7, true)), [2]⟩,
    ⟨(some 9), 9, (.fld 0 (.t 2)), (some (7, true)), [2]⟩,
    ⟨(some 10), 10, (.load false 1 (.t 9)), (some (7, true)), [4, 2]⟩,
    ⟨(some 11), 11, (.len (.t 10)), (some (7, true)), [5, 2]⟩,
    ⟨(some 12), 12, (.bin false .lss (.t 8) (.t 11)), (some (7, true)), [3, 6, 2]⟩,
    ⟨(some 13), 13, (.pick (.t 7) (.t 12) (.k (.c (.s (.pv (.bool false)))))), none, [2, 7]⟩,
    ⟨(some 4), 4, (.mv (.t 13)), none, [8, 2, 0, 1, 2, 3, 4, 5, 6, 7, 8]⟩])
  .ret))
theorem fn100 : FnIs Try.prog 100 ac100 [(.t 4)] 14 := ⟨Try.f100, Try.func100, by kernel_rfl, by kernel_rfl, by kernel_rfl⟩
/- lockkeeper/disk.fits -/
def ac102 : ACode := (.seq (.reg [⟨(some 2), 2, (.box 68 2 (.t 0)), none, []⟩,
    ⟨(some 3), 3, (.box 122 2 (.t 1)), none, []⟩,
    ⟨(some 4), 4, (.mv (.k (.c (.s (.pv (.bool false)))))), none, []⟩])
  (.seq (.reg [⟨(some 5), 5, (.load true 2 (.t 2)), none, []⟩,
    ⟨(some 6), 6, (.fld 0 (.t 3)), none, []⟩,
    ⟨(some 7), 7, (.load false 1 (.t 6)), none, [1]⟩,
    ⟨(some 8), 8, (.call 100 [(.t 5), (.t 7)]), none, [0, 2]⟩,
    ⟨(some 9), 9, (.mv (.t 8)), none, [3, 3]⟩,
    ⟨(some 10), 10, (.fld 1 (.t 3)), (some (9, true)), [4]⟩,
    ⟨(some 11), 11, (.load false 1 (.t 10)), (some (9, true)), [5, 4]⟩,
    ⟨(some 12), 12, (.slen (.t 11)), (some (9, true)), [6, 4]⟩,
    ⟨(some 13), 13, (.bin false .eql (.t 12) (.k (.c (.s (.pv (.int .i64 16)))))), (some (9, true)), [7, 4]⟩,
    ⟨(some 14), 14, (.pick (.t 9) (.t 13) (.k (.c (.s (.pv (.bool false)))))), none, [4, 8]⟩,
    ⟨(some 4), 4, (.mv (.t 14)), none, [9, 4, 0, 1, 2, 3, 4, 5, 6, 7, 8, 9]⟩])
  .ret))
theorem fn102 : FnIs Try.prog 102 ac102 [(.t 4)] 15 := ⟨Try.f102, Try.func102, by kernel_rfl, by kernel_rfl, by kernel_rfl⟩
/- slices.Clone[[]string,string] -/
def ac103 : ACode := (.seq (.reg [⟨(some 2), 2, (.mv (.k (.c .zc))), none, []⟩])
  (.seq (.seq (.reg [⟨(some 3), 3, (.mv (.t 0)), none, []⟩,
    ⟨(some 4), 4, (.isnil (.t 3)), none, [0]⟩])
  (.cond (.t 4) (.seq (.reg [⟨(some 2), 2, (.mv (.k (.c .zc))), none, []⟩])
  .ret) .skip))
  (.seq (.reg [⟨(some 5), 5, (.bslice 9 1 [(.s (.pv (.string ⟨#[]⟩)))] 0 []), none, []⟩,
    ⟨(some 6), 6, (.mv (.t 0)), none, []⟩,
    ⟨(some 7), 7, (.app 9 1 16 (.t 5) (.t 6)), none, [0, 1]⟩,
    ⟨(some 2), 2, (.mv (.t 7)), none, [2, 2, 0, 1, 2]⟩])
  .ret)))
theorem fn103 : FnIs Try.prog 103 ac103 [(.t 2)] 8 := ⟨Try.f103, Try.func103, by kernel_rfl, by kernel_rfl, by kernel_rfl⟩
/- slices.Clone[[]lockkeeper/api.Write,lockkeeper/api.Write] -/
def ac104 : ACode := (.seq (.reg [⟨(some 2), 2, (.mv (.k (.c .zc))), none, []⟩])
  (.seq (.seq (.reg [⟨(some 3), 3, (.mv (.t 0)), none, []⟩,
    ⟨(some 4), 4, (.isnil (.t 3)), none, [0]⟩])
  (.cond (.t 4) (.seq (.reg [⟨(some 2), 2, (.mv (.k (.c .zc))), none, []⟩])
  .ret) .skip))
  (.seq (.reg [⟨(some 5), 5, (.bslice 122 2 [(.s (.pv (.int .i64 0))), (.s (.pv (.string ⟨#[]⟩)))] 0 []), none, []⟩,
    ⟨(some 6), 6, (.mv (.t 0)), none, []⟩,
    ⟨(some 7), 7, (.app 122 2 24 (.t 5) (.t 6)), none, [0, 1]⟩,
    ⟨(some 2), 2, (.mv (.t 7)), none, [2, 2, 0, 1, 2]⟩])
  .ret)))
theorem fn104 : FnIs Try.prog 104 ac104 [(.t 2)] 8 := ⟨Try.f104, Try.func104, by kernel_rfl, by kernel_rfl, by kernel_rfl⟩

end Go.Proofs.Yteghmlafodkfpaa
