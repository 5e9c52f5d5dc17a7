/- THE PROGRAM's functions, as the abstract machine's code (printed by wip/tools/code.py out of the translation). No condition. -/
import Derived.Test.YtmknfchmnangbaaAm21
import Derived.Test.YtmknfchmnangbaaProg
import Derived.KernelRfl
namespace Go.Proofs.Ytmknfchmnangbaa
set_option maxRecDepth 100000
/- lockkeeper/lockkeeperlaw03.DiskNew -/
def ac3 : ACode := (.seq (.reg [⟨(some 2), 2, (.mv (.k (.c (.s (.pv (.bool false)))))), none, []⟩])
  (.seq (.reg [⟨(some 8), 8, (.mv (.t 0)), none, []⟩,
    ⟨(some 9), 9, (.call 15 [(.t 8)]), none, [0]⟩,
    ⟨(some 7), 7, (.mv (.t 9)), none, [1]⟩,
    ⟨(some 10), 10, (.ext 0 (.t 7)), none, [2]⟩,
    ⟨(some 11), 11, (.ext 1 (.t 7)), none, [2]⟩,
    ⟨(some 3), 3, (.mk 25 2 [[.zc, .zc]]), none, []⟩,
    ⟨none, 67, (.store 2 (.t 3) (.t 10)), none, [5, 3, 1, 0, 1, 2, 3, 5]⟩,
    ⟨(some 4), 4, (.mv (.t 11)), none, [4, 6, 0, 1, 2, 3, 4, 5, 6]⟩])
  (.seq (.seq (.reg [⟨(some 12), 12, (.mv (.t 0)), none, []⟩,
    ⟨(some 13), 13, (.bin false .lss (.t 12) (.k (.c (.s (.pv (.int .i64 1)))))), none, [0]⟩,
    ⟨(some 14), 14, (.mv (.t 13)), none, [1]⟩,
    ⟨(some 15), 15, (.mv (.t 0)), (some (14, false)), [2]⟩,
    ⟨(some 16), 16, (.bin false .gtr (.t 15) (.k (.c (.s (.pv (.int .i64 64)))))), (some (14, false)), [3, 2]⟩,
    ⟨(some 17), 17, (.pick (.t 14) (.k (.c (.s (.pv (.bool true))))) (.t 16)), none, [2, 4]⟩])
  (.cond (.t 17) (.seq (.reg [⟨(some 18), 18, (.fld 0 (.t 3)), none, []⟩,
    ⟨(some 19), 19, (.load false 1 (.t 18)), none, [0]⟩,
    ⟨(some 20), 20, (.len (.t 19)), none, [1]⟩,
    ⟨(some 21), 21, (.fld 1 (.t 3)), none, []⟩,
    ⟨(some 22), 22, (.load false 1 (.t 21)), none, [3]⟩,
    ⟨(some 23), 23, (.len (.t 22)), none, [4]⟩,
    ⟨(some 24), 24, (.bin false .add (.t 20) (.t 23)), none, [2, 5]⟩,
    ⟨(some 25), 25, (.bin false .eql (.t 24) (.k (.c (.s (.pv (.int .i64 0)))))), none, [6]⟩,
    ⟨(some 26), 26, (.mv (.t 25)), none, [7]⟩,
    ⟨(some 27), 27, (.mv (.t 4)), (some (26, true)), [8]⟩,
    ⟨(some 28), 28, (.bin false .eql (.t 27) (.k (.c (.s (.pv (.int .i64 1)))))), (some (26, true)), [9, 8]⟩,
    ⟨(some 29), 29, (.pick (.t 26) (.t 28) (.k (.c (.s (.pv (.bool false)))))), none, [8, 10]⟩,
    ⟨(some 30), 30, (.mv (.t 29)), none, [11, 8]⟩,
    ⟨(some 31), 31, (.call 16 []), (some (30, true)), [12, 12]⟩,
    ⟨(some 32), 32, (.pick (.t 30) (.t 31) (.k (.c (.s (.pv (.bool false)))))), none, [12, 13]⟩,
    ⟨(some 2), 2, (.mv (.t 32)), none, [14, 13, 0, 1, 2, 3, 4, 5, 6, 7, 8, 9, 10, 11, 12, 13, 14]⟩])
  .ret) .skip))
  (.seq (.seq (.reg [⟨(some 33), 33, (.fld 0 (.t 3)), none, []⟩,
    ⟨(some 34), 34, (.load false 1 (.t 33)), none, [0]⟩,
    ⟨(some 35), 35, (.len (.t 34)), none, [1]⟩,
    ⟨(some 36), 36, (.mv (.k (.c (.s (.pv (.int .i64 0)))))), none, []⟩])
  (.block 0 (.loop (.seq (.reg [⟨(some 37), 37, (.bin false .lss (.t 36) (.t 35)), none, []⟩])
  (.seq (.cond (.t 37) .skip (.exit 0))
  (.seq (.block 1 (.seq (.reg [⟨(some 38), 38, (.idx 1 (.t 34) (.t 36)), none, []⟩,
    ⟨(some 39), 39, (.load false 1 (.t 38)), none, [0]⟩,
    ⟨(some 6), 6, (.mv (.t 39)), none, [1, 0, 1]⟩])
  (.seq (.reg [⟨(some 40), 40, (.mv (.t 6)), none, []⟩,
    ⟨(some 41), 41, (.bin false .neq (.t 40) (.k (.c (.s (.pv (.string ⟨#[0, 0, 0, 0, 0, 0, 0, 0, 0, 0, 0, 0, 0, 0, 0, 0]⟩)))))), none, [0]⟩])
  (.cond (.t 41) (.seq (.reg [⟨(some 2), 2, (.mv (.k (.c (.s (.pv (.bool false)))))), none, []⟩])
  .ret) .skip))))
  (.reg [⟨(some 42), 42, (.bin false .add (.t 36) (.k (.c (.s (.pv (.int .i64 1)))))), none, []⟩,
    ⟨(some 36), 36, (.mv (.t 42)), none, [0]⟩])))))))
  (.seq (.reg [⟨(some 43), 43, (.fld 0 (.t 3)), none, []⟩,
    ⟨(some 44), 44, (.load false 1 (.t 43)), none, [0]⟩,
    ⟨(some 45), 45, (.len (.t 44)), none, [1]⟩,
    ⟨(some 46), 46, (.mv (.t 0)), none, []⟩,
    ⟨(some 47), 47, (.bin false .eql (.t 45) (.t 46)), none, [2, 3]⟩,
    ⟨(some 48), 48, (.mv (.t 47)), none, [4]⟩,
    ⟨(some 49), 49, (.fld 1 (.t 3)), (some (48, true)), [5]⟩,
    ⟨(some 50), 50, (.load false 1 (.t 49)), (some (48, true)), [6, 5]⟩,
    ⟨(some 51), 51, (.len (.t 50)), (some (48, true)), [7, 5]⟩,
    ⟨(some 52), 52, (.bin false .eql (.t 51) (.k (.c (.s (.pv (.int .i64 0)))))), (some (48, true)), [8, 5]⟩,
    ⟨(some 53), 53, (.pick (.t 48) (.t 52) (.k (.c (.s (.pv (.bool false)))))), none, [5, 9]⟩,
    ⟨(some 54), 54, (.mv (.t 53)), none, [10, 5]⟩,
    ⟨(some 55), 55, (.mv (.t 4)), (some (54, true)), [11]⟩,
    ⟨(some 56), 56, (.bin false .eql (.t 55) (.k (.c (.s (.pv (.int .i64 0)))))), (some (54, true)), [12, 11]⟩,
    ⟨(some 57), 57, (.pick (.t 54) (.t 56) (.k (.c (.s (.pv (.bool false)))))), none, [11, 13]⟩,
    ⟨(some 58), 58, (.mv (.t 57)), none, [14, 11]⟩,
    ⟨(some 59), 59, (.call 16 []), (some (58, true)), [15, 15]⟩,
    ⟨(some 60), 60, (.pick (.t 58) (.t 59) (.k (.c (.s (.pv (.bool false)))))), none, [15, 16]⟩,
    ⟨(some 2), 2, (.mv (.t 60)), none, [17, 16, 0, 1, 2, 3, 4, 5, 6, 7, 8, 9, 10, 11, 12, 13, 14, 15, 16, 17]⟩])
  .ret)))))
theorem fn3 : FnIs Try.prog 3 ac3 [(.t 2)] 61 := ⟨Try.f3, Try.func3, by kernel_rfl, by kernel_rfl, by kernel_rfl⟩
/- lockkeeper/lockkeeperlaw03.DiskExact -/
def ac4 : ACode := (.seq (.reg [⟨(some 4), 4, (.box 25 2 (.t 0)), none, []⟩,
    ⟨(some 6), 6, (.box 32 2 (.t 2)), none, []⟩,
    ⟨(some 8), 8, (.mv (.k (.c (.s (.pv (.bool false)))))), none, []⟩])
  (.seq (.seq (.reg [⟨(some 16), 16, (.load true 2 (.t 4)), none, []⟩,
    ⟨(some 17), 17, (.call 17 [(.t 16)]), none, [0]⟩,
    ⟨(some 18), 18, (.not (.t 17)), none, [1]⟩,
    ⟨(some 19), 19, (.mv (.t 18)), none, [2, 1]⟩,
    ⟨(some 20), 20, (.fld 1 (.t 6)), (some (19, false)), [3]⟩,
    ⟨(some 21), 21, (.load false 1 (.t 20)), (some (19, false)), [4, 3]⟩,
    ⟨(some 22), 22, (.slen (.t 21)), (some (19, false)), [5, 3]⟩,
    ⟨(some 23), 23, (.bin false .gtr (.t 22) (.k (.c (.s (.pv (.int .i64 40)))))), (some (19, false)), [6, 3]⟩,
    ⟨(some 24), 24, (.pick (.t 19) (.k (.c (.s (.pv (.bool true))))) (.t 23)), none, [3, 7]⟩,
    ⟨(some 25), 25, (.mv (.t 24)), none, [8, 3]⟩,
    ⟨(some 26), 26, (.mv (.t 3)), (some (25, false)), [9]⟩,
    ⟨(some 27), 27, (.len (.t 26)), (some (25, false)), [10, 9]⟩,
    ⟨(some 28), 28, (.bin false .gtr (.t 27) (.k (.c (.s (.pv (.int .i64 220)))))), (some (25, false)), [11, 9]⟩,
    ⟨(some 29), 29, (.pick (.t 25) (.k (.c (.s (.pv (.bool true))))) (.t 28)), none, [9, 12]⟩])
  (.cond (.t 29) (.seq (.reg [⟨(some 30), 30, (.call 16 []), none, []⟩,
    ⟨(some 8), 8, (.mv (.t 30)), none, [0, 0, 0]⟩])
  .ret) .skip))
  (.seq (.reg [⟨(some 31), 31, (.load true 2 (.t 4)), none, []⟩,
    ⟨(some 32), 32, (.call 18 [(.t 31)]), none, [0]⟩,
    ⟨(some 9), 9, (.mv (.t 32)), none, [1, 1, 0, 1]⟩])
  (.seq (.reg [⟨(some 34), 34, (.load true 2 (.t 4)), none, []⟩,
    ⟨(some 35), 35, (.mv (.t 1)), none, []⟩,
    ⟨(some 36), 36, (.call 19 [(.t 34), (.t 35)]), none, [0, 1]⟩,
    ⟨(some 33), 33, (.mv (.t 36)), none, [2]⟩,
    ⟨(some 37), 37, (.ext 0 (.t 33)), none, [3]⟩,
    ⟨(some 38), 38, (.ext 1 (.t 33)), none, [3]⟩,
    ⟨(some 10), 10, (.mv (.t 37)), none, [4, 2, 0, 1, 2, 3, 4]⟩,
    ⟨(some 11), 11, (.mv (.t 38)), none, [5, 6, 0, 1, 2, 3, 4, 5, 6]⟩])
  (.seq (.reg [⟨(some 40), 40, (.load true 2 (.t 4)), none, []⟩,
    ⟨(some 41), 41, (.load true 2 (.t 6)), none, []⟩,
    ⟨(some 42), 42, (.call 20 [(.t 40), (.t 41)]), none, [0, 1]⟩,
    ⟨(some 39), 39, (.mv (.t 42)), none, [2]⟩,
    ⟨(some 43), 43, (.ext 0 (.t 39)), none, [3]⟩,
    ⟨(some 44), 44, (.ext 1 (.t 39)), none, [3]⟩,
    ⟨(some 12), 12, (.mk 25 2 [[.zc, .zc]]), none, []⟩,
    ⟨none, 199, (.store 2 (.t 12) (.t 43)), none, [6, 4, 2, 0, 1, 2, 3, 4, 6]⟩,
    ⟨(some 13), 13, (.mv (.t 44)), none, [5, 7, 0, 1, 2, 3, 4, 5, 6, 7]⟩])
  (.seq (.seq (.reg [⟨(some 45), 45, (.load true 2 (.t 4)), none, []⟩,
    ⟨(some 46), 46, (.call 21 [(.t 45)]), none, [0]⟩,
    ⟨(some 47), 47, (.mv (.t 9)), none, []⟩,
    ⟨(some 48), 48, (.bin true .neq (.t 46) (.t 47)), none, [1, 2]⟩])
  (.cond (.t 48) (.seq (.reg [⟨(some 8), 8, (.mv (.k (.c (.s (.pv (.bool false)))))), none, []⟩])
  .ret) .skip))
  (.seq (.seq (.reg [⟨(some 49), 49, (.mv (.t 9)), none, []⟩,
    ⟨(some 50), 50, (.not (.t 49)), none, [0]⟩])
  (.cond (.t 50) (.seq (.draw [⟨(some 51), 51, (.mv (.t 10)), none, []⟩,
    ⟨(some 52), 52, (.bin false .eql (.t 51) (.k (.c (.s (.pv (.string ⟨#[]⟩)))))), none, [0]⟩,
    ⟨(some 53), 53, (.mv (.t 52)), none, [1]⟩,
    ⟨(some 54), 54, (.mv (.t 11)), (some (53, true)), [2]⟩,
    ⟨(some 55), 55, (.bin false .eql (.t 54) (.k (.c (.s (.pv (.int .i64 1)))))), (some (53, true)), [3, 2]⟩,
    ⟨(some 56), 56, (.pick (.t 53) (.t 55) (.k (.c (.s (.pv (.bool false)))))), none, [2, 4]⟩,
    ⟨(some 57), 57, (.mv (.t 56)), none, [5, 2]⟩,
    ⟨(some 58), 58, (.mv (.t 13)), (some (57, true)), [6]⟩,
    ⟨(some 59), 59, (.bin false .eql (.t 58) (.k (.c (.s (.pv (.int .i64 1)))))), (some (57, true)), [7, 6]⟩,
    ⟨(some 60), 60, (.pick (.t 57) (.t 59) (.k (.c (.s (.pv (.bool false)))))), none, [6, 8]⟩,
    ⟨(some 61), 61, (.mv (.t 60)), none, [9, 6]⟩,
    ⟨(some 62), 62, (.load true 2 (.t 12)), (some (61, true)), [10]⟩,
    ⟨(some 63), 63, (.load true 2 (.t 4)), (some (61, true)), [10]⟩,
    ⟨(some 64), 64, (.call 22 [(.t 62), (.t 63)]), (some (61, true)), [11, 12, 10, 10]⟩,
    ⟨(some 65), 65, (.pick (.t 61) (.t 64) (.k (.c (.s (.pv (.bool false)))))), none, [10, 13]⟩,
    ⟨(some 66), 66, (.mv (.t 65)), none, [14, 13]⟩,
    ⟨(some 67), 67, (.load true 2 (.t 4)), (some (66, true)), [15]⟩,
    ⟨(some 68), 68, (.call 23 [(.t 67)]), (some (66, true)), [16, 15, 15]⟩,
    ⟨(some 69), 69, (.load true 2 (.t 4)), (some (66, true)), [15]⟩,
    ⟨(some 70), 70, (.call 22 [(.t 68), (.t 69)]), (some (66, true)), [17, 18, 17, 15]⟩,
    ⟨(some 71), 71, (.pick (.t 66) (.t 70) (.k (.c (.s (.pv (.bool false)))))), none, [15, 19]⟩,
    ⟨(some 72), 72, (.mv (.t 71)), none, [20, 19]⟩,
    ⟨(some 73), 73, (.load true 2 (.t 4)), (some (72, true)), [21]⟩,
    ⟨(some 74), 74, (.mv (.t 3)), (some (72, true)), [21]⟩,
    ⟨(some 75), 75, (.call 24 [(.t 73), (.t 74)]), (some (72, true)), [22, 23, 21, 21]⟩,
    ⟨(some 76), 76, (.load true 2 (.t 4)), (some (72, true)), [21]⟩,
    ⟨(some 77), 77, (.call 22 [(.t 75), (.t 76)]), (some (72, true)), [24, 25, 24, 21]⟩,
    ⟨(some 78), 78, (.pick (.t 72) (.t 77) (.k (.c (.s (.pv (.bool false)))))), none, [21, 26]⟩,
    ⟨(some 79), 79, (.mv (.t 78)), none, [27, 26]⟩,
    ⟨(some 80), 80, (.call 16 []), (some (79, true)), [28, 28]⟩,
    ⟨(some 81), 81, (.pick (.t 79) (.t 80) (.k (.c (.s (.pv (.bool false)))))), none, [28, 29]⟩,
    ⟨(some 8), 8, (.mv (.t 81)), none, [30, 29, 0, 1, 2, 3, 4, 5, 6, 7, 8, 9, 10, 11, 12, 13, 14, 15, 16, 17, 18, 19, 20, 21, 22, 23, 24, 25, 26, 27, 28, 29, 30]⟩])
  .ret) .skip))
  (.seq (.seq (.draw [⟨(some 82), 82, (.load true 2 (.t 4)), none, []⟩,
    ⟨(some 83), 83, (.call 23 [(.t 82)]), none, [0]⟩,
    ⟨(some 84), 84, (.load true 2 (.t 4)), none, []⟩,
    ⟨(some 85), 85, (.call 25 [(.t 84)]), none, [2, 1]⟩,
    ⟨(some 86), 86, (.call 22 [(.t 83), (.t 85)]), none, [1, 3, 3]⟩,
    ⟨(some 87), 87, (.not (.t 86)), none, [4]⟩,
    ⟨(some 88), 88, (.mv (.t 87)), none, [5, 4]⟩,
    ⟨(some 89), 89, (.load true 2 (.t 4)), (some (88, false)), [6]⟩,
    ⟨(some 90), 90, (.mv (.t 3)), (some (88, false)), [6]⟩,
    ⟨(some 91), 91, (.call 24 [(.t 89), (.t 90)]), (some (88, false)), [7, 8, 6, 6]⟩,
    ⟨(some 92), 92, (.load true 2 (.t 4)), (some (88, false)), [6]⟩,
    ⟨(some 93), 93, (.mv (.t 3)), (some (88, false)), [6]⟩,
    ⟨(some 94), 94, (.call 26 [(.t 92), (.t 93)]), (some (88, false)), [10, 11, 9, 6]⟩,
    ⟨(some 95), 95, (.call 22 [(.t 91), (.t 94)]), (some (88, false)), [9, 12, 12, 6]⟩,
    ⟨(some 96), 96, (.not (.t 95)), (some (88, false)), [13, 6]⟩,
    ⟨(some 97), 97, (.pick (.t 88) (.k (.c (.s (.pv (.bool true))))) (.t 96)), none, [6, 14]⟩])
  (.cond (.t 97) (.seq (.reg [⟨(some 8), 8, (.mv (.k (.c (.s (.pv (.bool false)))))), none, []⟩])
  .ret) .skip))
  (.seq (.reg [⟨(some 98), 98, (.mv (.t 1)), none, []⟩,
    ⟨(some 99), 99, (.bin false .geq (.t 98) (.k (.c (.s (.pv (.int .i64 0)))))), none, [0]⟩,
    ⟨(some 100), 100, (.mv (.t 99)), none, [1]⟩,
    ⟨(some 101), 101, (.mv (.t 1)), (some (100, true)), [2]⟩,
    ⟨(some 102), 102, (.fld 0 (.t 4)), (some (100, true)), [2]⟩,
    ⟨(some 103), 103, (.load false 1 (.t 102)), (some (100, true)), [4, 2]⟩,
    ⟨(some 104), 104, (.len (.t 103)), (some (100, true)), [5, 2]⟩,
    ⟨(some 105), 105, (.bin false .lss (.t 101) (.t 104)), (some (100, true)), [3, 6, 2]⟩,
    ⟨(some 106), 106, (.pick (.t 100) (.t 105) (.k (.c (.s (.pv (.bool false)))))), none, [2, 7]⟩,
    ⟨(some 14), 14, (.mv (.t 106)), none, [8, 2, 0, 1, 2, 3, 4, 5, 6, 7, 8]⟩])
  (.seq (.seq (.reg [⟨(some 107), 107, (.mv (.t 14)), none, []⟩,
    ⟨(some 108), 108, (.mv (.t 107)), none, [0]⟩,
    ⟨(some 109), 109, (.mv (.t 10)), (some (108, true)), [1]⟩,
    ⟨(some 110), 110, (.load true 2 (.t 4)), (some (108, true)), [1]⟩,
    ⟨(some 111), 111, (.mv (.t 1)), (some (108, true)), [1]⟩,
    ⟨(some 112), 112, (.call 27 [(.t 110), (.t 111)]), (some (108, true)), [3, 4, 1, 1]⟩,
    ⟨(some 113), 113, (.bin false .neq (.t 109) (.t 112)), (some (108, true)), [2, 5, 1]⟩,
    ⟨(some 114), 114, (.mv (.t 113)), (some (108, true)), [6, 5, 1]⟩,
    ⟨(some 115), 115, (.mv (.t 11)), (some (114, false)), [7]⟩,
    ⟨(some 116), 116, (.bin false .neq (.t 115) (.k (.c (.s (.pv (.int .i64 0)))))), (some (114, false)), [8, 7]⟩,
    ⟨(some 117), 117, (.pick (.t 114) (.k (.c (.s (.pv (.bool true))))) (.t 116)), (some (108, true)), [7, 9, 1]⟩,
    ⟨(some 118), 118, (.pick (.t 108) (.t 117) (.k (.c (.s (.pv (.bool false)))))), none, [1, 10]⟩,
    ⟨(some 119), 119, (.mv (.t 118)), none, [11, 7]⟩,
    ⟨(some 120), 120, (.mv (.t 14)), (some (119, false)), [12]⟩,
    ⟨(some 121), 121, (.not (.t 120)), (some (119, false)), [13, 12]⟩,
    ⟨(some 122), 122, (.mv (.t 121)), (some (119, false)), [14, 12, 12]⟩,
    ⟨(some 123), 123, (.mv (.t 10)), (some (122, true)), [15]⟩,
    ⟨(some 124), 124, (.bin false .neq (.t 123) (.k (.c (.s (.pv (.string ⟨#[]⟩)))))), (some (122, true)), [16, 15]⟩,
    ⟨(some 125), 125, (.mv (.t 124)), (some (122, true)), [17, 15, 15]⟩,
    ⟨(some 126), 126, (.mv (.t 11)), (some (125, false)), [18]⟩,
    ⟨(some 127), 127, (.bin false .neq (.t 126) (.k (.c (.s (.pv (.int .i64 1)))))), (some (125, false)), [19, 18]⟩,
    ⟨(some 128), 128, (.pick (.t 125) (.k (.c (.s (.pv (.bool true))))) (.t 127)), (some (122, true)), [18, 20, 15]⟩,
    ⟨(some 129), 129, (.pick (.t 122) (.t 128) (.k (.c (.s (.pv (.bool false)))))), (some (119, false)), [15, 21, 12]⟩,
    ⟨(some 130), 130, (.pick (.t 119) (.k (.c (.s (.pv (.bool true))))) (.t 129)), none, [12, 22]⟩])
  (.cond (.t 130) (.seq (.reg [⟨(some 8), 8, (.mv (.k (.c (.s (.pv (.bool false)))))), none, []⟩])
  .ret) .skip))
  (.seq (.seq (.reg [⟨(some 131), 131, (.fld 0 (.t 6)), none, []⟩,
    ⟨(some 132), 132, (.load false 1 (.t 131)), none, [0]⟩,
    ⟨(some 133), 133, (.bin false .lss (.t 132) (.k (.c (.s (.pv (.int .i64 0)))))), none, [1]⟩,
    ⟨(some 134), 134, (.mv (.t 133)), none, [2]⟩,
    ⟨(some 135), 135, (.fld 0 (.t 6)), (some (134, false)), [3]⟩,
    ⟨(some 136), 136, (.load false 1 (.t 135)), (some (134, false)), [4, 3]⟩,
    ⟨(some 137), 137, (.fld 0 (.t 4)), (some (134, false)), [3]⟩,
    ⟨(some 138), 138, (.load false 1 (.t 137)), (some (134, false)), [6, 3]⟩,
    ⟨(some 139), 139, (.len (.t 138)), (some (134, false)), [7, 3]⟩,
    ⟨(some 140), 140, (.bin false .geq (.t 136) (.t 139)), (some (134, false)), [5, 8, 3]⟩,
    ⟨(some 141), 141, (.pick (.t 134) (.k (.c (.s (.pv (.bool true))))) (.t 140)), none, [3, 9]⟩,
    ⟨(some 142), 142, (.mv (.t 141)), none, [10, 3]⟩,
    ⟨(some 143), 143, (.fld 1 (.t 6)), (some (142, false)), [11]⟩,
    ⟨(some 144), 144, (.load false 1 (.t 143)), (some (142, false)), [12, 11]⟩,
    ⟨(some 145), 145, (.slen (.t 144)), (some (142, false)), [13, 11]⟩,
    ⟨(some 146), 146, (.bin false .neq (.t 145) (.k (.c (.s (.pv (.int .i64 16)))))), (some (142, false)), [14, 11]⟩,
    ⟨(some 147), 147, (.pick (.t 142) (.k (.c (.s (.pv (.bool true))))) (.t 146)), none, [11, 15]⟩])
  (.cond (.t 147) (.seq (.reg [⟨(some 148), 148, (.mv (.t 13)), none, []⟩,
    ⟨(some 149), 149, (.bin false .eql (.t 148) (.k (.c (.s (.pv (.int .i64 1)))))), none, [0]⟩,
    ⟨(some 150), 150, (.mv (.t 149)), none, [1]⟩,
    ⟨(some 151), 151, (.load true 2 (.t 12)), (some (150, true)), [2]⟩,
    ⟨(some 152), 152, (.load true 2 (.t 4)), (some (150, true)), [2]⟩,
    ⟨(some 153), 153, (.call 22 [(.t 151), (.t 152)]), (some (150, true)), [3, 4, 2, 2]⟩,
    ⟨(some 154), 154, (.pick (.t 150) (.t 153) (.k (.c (.s (.pv (.bool false)))))), none, [2, 5]⟩,
    ⟨(some 155), 155, (.mv (.t 154)), none, [6, 5]⟩,
    ⟨(some 156), 156, (.call 16 []), (some (155, true)), [7, 7]⟩,
    ⟨(some 157), 157, (.pick (.t 155) (.t 156) (.k (.c (.s (.pv (.bool false)))))), none, [7, 8]⟩,
    ⟨(some 8), 8, (.mv (.t 157)), none, [9, 8, 0, 1, 2, 3, 4, 5, 6, 7, 8, 9]⟩])
  .ret) .skip))
  (.seq (.seq (.reg [⟨(some 158), 158, (.fld 1 (.t 4)), none, []⟩,
    ⟨(some 159), 159, (.load false 1 (.t 158)), none, [0]⟩,
    ⟨(some 160), 160, (.len (.t 159)), none, [1]⟩,
    ⟨(some 161), 161, (.bin false .eql (.t 160) (.k (.c (.s (.pv (.int .i64 200)))))), none, [2]⟩])
  (.cond (.t 161) (.seq (.reg [⟨(some 162), 162, (.mv (.t 13)), none, []⟩,
    ⟨(some 163), 163, (.bin false .eql (.t 162) (.k (.c (.s (.pv (.int .i64 7)))))), none, [0]⟩,
    ⟨(some 164), 164, (.mv (.t 163)), none, [1]⟩,
    ⟨(some 165), 165, (.load true 2 (.t 12)), (some (164, true)), [2]⟩,
    ⟨(some 166), 166, (.load true 2 (.t 4)), (some (164, true)), [2]⟩,
    ⟨(some 167), 167, (.call 22 [(.t 165), (.t 166)]), (some (164, true)), [3, 4, 2, 2]⟩,
    ⟨(some 168), 168, (.pick (.t 164) (.t 167) (.k (.c (.s (.pv (.bool false)))))), none, [2, 5]⟩,
    ⟨(some 169), 169, (.mv (.t 168)), none, [6, 5]⟩,
    ⟨(some 170), 170, (.call 16 []), (some (169, true)), [7, 7]⟩,
    ⟨(some 171), 171, (.pick (.t 169) (.t 170) (.k (.c (.s (.pv (.bool false)))))), none, [7, 8]⟩,
    ⟨(some 8), 8, (.mv (.t 171)), none, [9, 8, 0, 1, 2, 3, 4, 5, 6, 7, 8, 9]⟩])
  .ret) .skip))
  (.seq (.draw [⟨(some 172), 172, (.fld 0 (.t 4)), none, []⟩,
    ⟨(some 173), 173, (.load false 1 (.t 172)), none, [0]⟩,
    ⟨(some 174), 174, (.bslice 32 2 [(.s (.pv (.int .i64 0))), (.s (.pv (.string ⟨#[]⟩)))] 0 []), none, []⟩,
    ⟨(some 175), 175, (.fld 1 (.t 4)), none, []⟩,
    ⟨(some 176), 176, (.load false 1 (.t 175)), none, [3]⟩,
    ⟨(some 177), 177, (.app 32 2 24 (.t 174) (.t 176)), none, [2, 4]⟩,
    ⟨(some 178), 178, (.load true 2 (.t 6)), none, []⟩,
    ⟨(some 179), 179, (.bslice 32 2 [(.s (.pv (.int .i64 0))), (.s (.pv (.string ⟨#[]⟩)))] 1 [(0, 2, (.t 178))]), none, [6]⟩,
    ⟨(some 180), 180, (.app 32 2 24 (.t 177) (.t 179)), none, [5, 7, 5]⟩,
    ⟨(some 181), 181, (.build [.zc, .zc] [(0, 1, (.t 173)), (1, 1, (.t 180))]), none, [1, 8]⟩,
    ⟨(some 15), 15, (.mk 25 2 [[.zc, .zc]]), none, []⟩,
    ⟨none, 203, (.store 2 (.t 15) (.t 181)), none, [10, 9, 8, 0, 1, 2, 3, 4, 5, 6, 7, 8, 9, 10]⟩])
  (.seq (.reg [⟨(some 182), 182, (.mv (.t 13)), none, []⟩,
    ⟨(some 183), 183, (.bin false .eql (.t 182) (.k (.c (.s (.pv (.int .i64 0)))))), none, [0]⟩,
    ⟨(some 184), 184, (.mv (.t 183)), none, [1]⟩,
    ⟨(some 185), 185, (.load true 2 (.t 12)), (some (184, true)), [2]⟩,
    ⟨(some 186), 186, (.load true 2 (.t 15)), (some (184, true)), [2]⟩,
    ⟨(some 187), 187, (.call 22 [(.t 185), (.t 186)]), (some (184, true)), [3, 4, 2, 2]⟩,
    ⟨(some 188), 188, (.pick (.t 184) (.t 187) (.k (.c (.s (.pv (.bool false)))))), none, [2, 5]⟩,
    ⟨(some 189), 189, (.mv (.t 188)), none, [6, 5]⟩,
    ⟨(some 190), 190, (.call 16 []), (some (189, true)), [7, 7]⟩,
    ⟨(some 191), 191, (.pick (.t 189) (.t 190) (.k (.c (.s (.pv (.bool false)))))), none, [7, 8]⟩,
    ⟨(some 8), 8, (.mv (.t 191)), none, [9, 8, 0, 1, 2, 3, 4, 5, 6, 7, 8, 9]⟩])
  .ret))))))))))))))
theorem fn4 : FnIs Try.prog 4 ac4 [(.t 8)] 192 := ⟨Try.f4, Try.func4, by kernel_rfl, by kernel_rfl, by kernel_rfl⟩
/- lockkeeper/lockkeeperlaw03.DiskCalm -/
def ac5 : ACode := (.seq (.reg [⟨(some 2), 2, (.box 25 2 (.t 0)), none, []⟩,
    ⟨(some 4), 4, (.mv (.k (.c (.s (.pv (.bool false)))))), none, []⟩])
  (.seq (.seq (.reg [⟨(some 13), 13, (.load true 2 (.t 2)), none, []⟩,
    ⟨(some 14), 14, (.call 17 [(.t 13)]), none, [0]⟩,
    ⟨(some 15), 15, (.not (.t 14)), none, [1]⟩,
    ⟨(some 16), 16, (.mv (.t 15)), none, [2, 1]⟩,
    ⟨(some 17), 17, (.mv (.t 1)), (some (16, false)), [3]⟩,
    ⟨(some 18), 18, (.len (.t 17)), (some (16, false)), [4, 3]⟩,
    ⟨(some 19), 19, (.bin false .gtr (.t 18) (.k (.c (.s (.pv (.int .i64 220)))))), (some (16, false)), [5, 3]⟩,
    ⟨(some 20), 20, (.pick (.t 16) (.k (.c (.s (.pv (.bool true))))) (.t 19)), none, [3, 6]⟩,
    ⟨(some 21), 21, (.mv (.t 20)), none, [7, 3]⟩,
    ⟨(some 22), 22, (.load true 2 (.t 2)), (some (21, false)), [8]⟩,
    ⟨(some 23), 23, (.call 18 [(.t 22)]), (some (21, false)), [9, 8, 8]⟩,
    ⟨(some 24), 24, (.not (.t 23)), (some (21, false)), [10, 8]⟩,
    ⟨(some 25), 25, (.pick (.t 21) (.k (.c (.s (.pv (.bool true))))) (.t 24)), none, [8, 11]⟩])
  (.cond (.t 25) (.seq (.reg [⟨(some 26), 26, (.call 16 []), none, []⟩,
    ⟨(some 4), 4, (.mv (.t 26)), none, [0, 0, 0]⟩])
  .ret) .skip))
  (.seq (.reg [⟨(some 27), 27, (.load true 2 (.t 2)), none, []⟩,
    ⟨(some 28), 28, (.call 23 [(.t 27)]), none, [0]⟩,
    ⟨(some 5), 5, (.mk 25 2 [[.zc, .zc]]), none, []⟩,
    ⟨none, 94, (.store 2 (.t 5) (.t 28)), none, [2, 1, 1, 0, 1, 2]⟩])
  (.seq (.reg [⟨(some 6), 6, (.mv (.k (.c .zc))), none, []⟩])
  (.seq (.seq (.reg [⟨(some 29), 29, (.fld 1 (.t 2)), none, []⟩,
    ⟨(some 30), 30, (.load false 1 (.t 29)), none, [0]⟩,
    ⟨(some 31), 31, (.len (.t 30)), none, [1]⟩,
    ⟨(some 32), 32, (.mv (.k (.c (.s (.pv (.int .i64 0)))))), none, []⟩])
  (.block 0 (.loop (.seq (.reg [⟨(some 33), 33, (.bin false .lss (.t 32) (.t 31)), none, []⟩])
  (.seq (.cond (.t 33) .skip (.exit 0))
  (.seq (.block 1 (.seq (.reg [⟨(some 34), 34, (.mv (.t 32)), none, []⟩,
    ⟨(some 7), 7, (.mv (.t 34)), none, [0, 0]⟩])
  (.reg [⟨(some 35), 35, (.mv (.t 6)), none, []⟩,
    ⟨(some 36), 36, (.mv (.t 7)), none, []⟩,
    ⟨(some 37), 37, (.bslice 3 1 [(.s (.pv (.int .i64 0)))] 1 [(0, 1, (.t 36))]), none, [1]⟩,
    ⟨(some 38), 38, (.app 3 1 8 (.t 35) (.t 37)), none, [0, 2]⟩,
    ⟨(some 6), 6, (.mv (.t 38)), none, [3, 3, 0, 1, 2, 3]⟩])))
  (.reg [⟨(some 39), 39, (.bin false .add (.t 32) (.k (.c (.s (.pv (.int .i64 1)))))), none, []⟩,
    ⟨(some 32), 32, (.mv (.t 39)), none, [0]⟩])))))))
  (.seq (.seq (.reg [⟨(some 40), 40, (.fld 0 (.t 2)), none, []⟩,
    ⟨(some 41), 41, (.load false 1 (.t 40)), none, [0]⟩,
    ⟨(some 42), 42, (.len (.t 41)), none, [1]⟩,
    ⟨(some 43), 43, (.mv (.k (.c (.s (.pv (.int .i64 0)))))), none, []⟩])
  (.block 2 (.loop (.seq (.reg [⟨(some 44), 44, (.bin false .lss (.t 43) (.t 42)), none, []⟩])
  (.seq (.cond (.t 44) .skip (.exit 2))
  (.seq (.block 3 (.seq (.reg [⟨(some 45), 45, (.mv (.t 43)), none, []⟩,
    ⟨(some 8), 8, (.mv (.t 45)), none, [0, 0]⟩])
  (.seq (.reg [⟨(some 47), 47, (.load true 2 (.t 2)), none, []⟩,
    ⟨(some 48), 48, (.mv (.t 8)), none, []⟩,
    ⟨(some 49), 49, (.call 19 [(.t 47), (.t 48)]), none, [0, 1]⟩,
    ⟨(some 46), 46, (.mv (.t 49)), none, [2]⟩,
    ⟨(some 50), 50, (.ext 0 (.t 46)), none, [3]⟩,
    ⟨(some 51), 51, (.ext 1 (.t 46)), none, [3]⟩,
    ⟨(some 9), 9, (.mv (.t 50)), none, [4, 2, 0, 1, 2, 3, 4]⟩,
    ⟨(some 10), 10, (.mv (.t 51)), none, [5, 6, 0, 1, 2, 3, 4, 5, 6]⟩])
  (.seq (.reg [⟨(some 53), 53, (.load true 2 (.t 5)), none, []⟩,
    ⟨(some 54), 54, (.mv (.t 8)), none, []⟩,
    ⟨(some 55), 55, (.call 19 [(.t 53), (.t 54)]), none, [0, 1]⟩,
    ⟨(some 52), 52, (.mv (.t 55)), none, [2]⟩,
    ⟨(some 56), 56, (.ext 0 (.t 52)), none, [3]⟩,
    ⟨(some 57), 57, (.ext 1 (.t 52)), none, [3]⟩,
    ⟨(some 11), 11, (.mv (.t 56)), none, [4, 2, 0, 1, 2, 3, 4]⟩,
    ⟨(some 12), 12, (.mv (.t 57)), none, [5, 6, 0, 1, 2, 3, 4, 5, 6]⟩])
  (.seq (.reg [⟨(some 58), 58, (.mv (.t 9)), none, []⟩,
    ⟨(some 59), 59, (.mv (.t 11)), none, []⟩,
    ⟨(some 60), 60, (.bin false .neq (.t 58) (.t 59)), none, [0, 1]⟩,
    ⟨(some 61), 61, (.mv (.t 60)), none, [2]⟩,
    ⟨(some 62), 62, (.mv (.t 10)), (some (61, false)), [3]⟩,
    ⟨(some 63), 63, (.bin false .neq (.t 62) (.k (.c (.s (.pv (.int .i64 0)))))), (some (61, false)), [4, 3]⟩,
    ⟨(some 64), 64, (.pick (.t 61) (.k (.c (.s (.pv (.bool true))))) (.t 63)), none, [3, 5]⟩,
    ⟨(some 65), 65, (.mv (.t 64)), none, [6, 3]⟩,
    ⟨(some 66), 66, (.mv (.t 12)), (some (65, false)), [7]⟩,
    ⟨(some 67), 67, (.bin false .neq (.t 66) (.k (.c (.s (.pv (.int .i64 0)))))), (some (65, false)), [8, 7]⟩,
    ⟨(some 68), 68, (.pick (.t 65) (.k (.c (.s (.pv (.bool true))))) (.t 67)), none, [7, 9]⟩])
  (.cond (.t 68) (.seq (.reg [⟨(some 4), 4, (.mv (.k (.c (.s (.pv (.bool false)))))), none, []⟩])
  .ret) .skip))))))
  (.reg [⟨(some 69), 69, (.bin false .add (.t 43) (.k (.c (.s (.pv (.int .i64 1)))))), none, []⟩,
    ⟨(some 43), 43, (.mv (.t 69)), none, [0]⟩])))))))
  (.seq (.draw [⟨(some 70), 70, (.load true 2 (.t 5)), none, []⟩,
    ⟨(some 71), 71, (.mv (.t 1)), none, []⟩,
    ⟨(some 72), 72, (.call 24 [(.t 70), (.t 71)]), none, [0, 1]⟩,
    ⟨(some 73), 73, (.load true 2 (.t 5)), none, []⟩,
    ⟨(some 74), 74, (.call 22 [(.t 72), (.t 73)]), none, [2, 3, 2]⟩,
    ⟨(some 75), 75, (.mv (.t 74)), none, [4, 4]⟩,
    ⟨(some 76), 76, (.load true 2 (.t 2)), (some (75, true)), [5]⟩,
    ⟨(some 77), 77, (.mv (.t 6)), (some (75, true)), [5]⟩,
    ⟨(some 78), 78, (.call 24 [(.t 76), (.t 77)]), (some (75, true)), [6, 7, 5, 5]⟩,
    ⟨(some 79), 79, (.load true 2 (.t 5)), (some (75, true)), [5]⟩,
    ⟨(some 80), 80, (.call 22 [(.t 78), (.t 79)]), (some (75, true)), [8, 9, 8, 5]⟩,
    ⟨(some 81), 81, (.pick (.t 75) (.t 80) (.k (.c (.s (.pv (.bool false)))))), none, [5, 10]⟩,
    ⟨(some 82), 82, (.mv (.t 81)), none, [11, 10]⟩,
    ⟨(some 83), 83, (.fld 1 (.t 5)), (some (82, true)), [12]⟩,
    ⟨(some 84), 84, (.load false 1 (.t 83)), (some (82, true)), [13, 12]⟩,
    ⟨(some 85), 85, (.len (.t 84)), (some (82, true)), [14, 12]⟩,
    ⟨(some 86), 86, (.bin false .eql (.t 85) (.k (.c (.s (.pv (.int .i64 0)))))), (some (82, true)), [15, 12]⟩,
    ⟨(some 87), 87, (.pick (.t 82) (.t 86) (.k (.c (.s (.pv (.bool false)))))), none, [12, 16]⟩,
    ⟨(some 88), 88, (.mv (.t 87)), none, [17, 12]⟩,
    ⟨(some 89), 89, (.call 16 []), (some (88, true)), [18, 18]⟩,
    ⟨(some 90), 90, (.pick (.t 88) (.t 89) (.k (.c (.s (.pv (.bool false)))))), none, [18, 19]⟩,
    ⟨(some 4), 4, (.mv (.t 90)), none, [20, 19, 0, 1, 2, 3, 4, 5, 6, 7, 8, 9, 10, 11, 12, 13, 14, 15, 16, 17, 18, 19, 20]⟩])
  .ret)))))))
theorem fn5 : FnIs Try.prog 5 ac5 [(.t 4)] 91 := ⟨Try.f5, Try.func5, by kernel_rfl, by kernel_rfl, by kernel_rfl⟩
/- lockkeeper/lockkeeperlaw03.DiskOld -/
def ac6 : ACode := (.seq (.reg [⟨(some 2), 2, (.box 25 2 (.t 0)), none, []⟩,
    ⟨(some 4), 4, (.mv (.k (.c (.s (.pv (.bool false)))))), none, []⟩])
  (.seq (.seq (.reg [⟨(some 11), 11, (.load true 2 (.t 2)), none, []⟩,
    ⟨(some 12), 12, (.call 17 [(.t 11)]), none, [0]⟩,
    ⟨(some 13), 13, (.not (.t 12)), none, [1]⟩,
    ⟨(some 14), 14, (.mv (.t 13)), none, [2, 1]⟩,
    ⟨(some 15), 15, (.mv (.t 1)), (some (14, false)), [3]⟩,
    ⟨(some 16), 16, (.len (.t 15)), (some (14, false)), [4, 3]⟩,
    ⟨(some 17), 17, (.bin false .gtr (.t 16) (.k (.c (.s (.pv (.int .i64 220)))))), (some (14, false)), [5, 3]⟩,
    ⟨(some 18), 18, (.pick (.t 14) (.k (.c (.s (.pv (.bool true))))) (.t 17)), none, [3, 6]⟩,
    ⟨(some 19), 19, (.mv (.t 18)), none, [7, 3]⟩,
    ⟨(some 20), 20, (.load true 2 (.t 2)), (some (19, false)), [8]⟩,
    ⟨(some 21), 21, (.call 18 [(.t 20)]), (some (19, false)), [9, 8, 8]⟩,
    ⟨(some 22), 22, (.not (.t 21)), (some (19, false)), [10, 8]⟩,
    ⟨(some 23), 23, (.pick (.t 19) (.k (.c (.s (.pv (.bool true))))) (.t 22)), none, [8, 11]⟩])
  (.cond (.t 23) (.seq (.reg [⟨(some 24), 24, (.call 16 []), none, []⟩,
    ⟨(some 4), 4, (.mv (.t 24)), none, [0, 0, 0]⟩])
  .ret) .skip))
  (.seq (.reg [⟨(some 25), 25, (.load true 2 (.t 2)), none, []⟩,
    ⟨(some 26), 26, (.mv (.t 1)), none, []⟩,
    ⟨(some 27), 27, (.call 24 [(.t 25), (.t 26)]), none, [0, 1]⟩,
    ⟨(some 5), 5, (.mk 25 2 [[.zc, .zc]]), none, []⟩,
    ⟨none, 85, (.store 2 (.t 5) (.t 27)), none, [3, 2, 2, 0, 1, 2, 3]⟩])
  (.seq (.seq (.reg [⟨(some 28), 28, (.fld 0 (.t 5)), none, []⟩,
    ⟨(some 29), 29, (.load false 1 (.t 28)), none, [0]⟩,
    ⟨(some 30), 30, (.len (.t 29)), none, [1]⟩,
    ⟨(some 31), 31, (.fld 0 (.t 2)), none, []⟩,
    ⟨(some 32), 32, (.load false 1 (.t 31)), none, [3]⟩,
    ⟨(some 33), 33, (.len (.t 32)), none, [4]⟩,
    ⟨(some 34), 34, (.bin false .neq (.t 30) (.t 33)), none, [2, 5]⟩,
    ⟨(some 35), 35, (.mv (.t 34)), none, [6]⟩,
    ⟨(some 36), 36, (.fld 1 (.t 5)), (some (35, false)), [7]⟩,
    ⟨(some 37), 37, (.load false 1 (.t 36)), (some (35, false)), [8, 7]⟩,
    ⟨(some 38), 38, (.len (.t 37)), (some (35, false)), [9, 7]⟩,
    ⟨(some 39), 39, (.bin false .neq (.t 38) (.k (.c (.s (.pv (.int .i64 0)))))), (some (35, false)), [10, 7]⟩,
    ⟨(some 40), 40, (.pick (.t 35) (.k (.c (.s (.pv (.bool true))))) (.t 39)), none, [7, 11]⟩])
  (.cond (.t 40) (.seq (.reg [⟨(some 4), 4, (.mv (.k (.c (.s (.pv (.bool false)))))), none, []⟩])
  .ret) .skip))
  (.seq (.seq (.reg [⟨(some 41), 41, (.fld 0 (.t 5)), none, []⟩,
    ⟨(some 42), 42, (.load false 1 (.t 41)), none, [0]⟩,
    ⟨(some 43), 43, (.len (.t 42)), none, [1]⟩,
    ⟨(some 44), 44, (.mv (.k (.c (.s (.pv (.int .i64 0)))))), none, []⟩])
  (.block 0 (.loop (.seq (.reg [⟨(some 45), 45, (.bin false .lss (.t 44) (.t 43)), none, []⟩])
  (.seq (.cond (.t 45) .skip (.exit 0))
  (.seq (.block 1 (.seq (.reg [⟨(some 46), 46, (.mv (.t 44)), none, []⟩,
    ⟨(some 47), 47, (.idx 1 (.t 42) (.t 44)), none, []⟩,
    ⟨(some 48), 48, (.load false 1 (.t 47)), none, [1]⟩,
    ⟨(some 6), 6, (.mv (.t 46)), none, [0, 0, 1, 2]⟩,
    ⟨(some 7), 7, (.mv (.t 48)), none, [2, 3, 0, 1, 2, 3]⟩])
  (.seq (.reg [⟨(some 49), 49, (.mv (.t 7)), none, []⟩,
    ⟨(some 50), 50, (.fld 0 (.t 2)), none, []⟩,
    ⟨(some 51), 51, (.load false 1 (.t 50)), none, [1]⟩,
    ⟨(some 52), 52, (.mv (.t 6)), none, []⟩,
    ⟨(some 53), 53, (.idx 1 (.t 51) (.t 52)), none, [2, 3]⟩,
    ⟨(some 54), 54, (.load false 1 (.t 53)), none, [4]⟩,
    ⟨(some 55), 55, (.bin false .eql (.t 49) (.t 54)), none, [0, 5]⟩,
    ⟨(some 8), 8, (.mv (.t 55)), none, [6, 0, 1, 2, 3, 4, 5, 6]⟩])
  (.seq (.seq (.reg [⟨(some 56), 56, (.fld 1 (.t 2)), none, []⟩,
    ⟨(some 57), 57, (.load false 1 (.t 56)), none, [0]⟩,
    ⟨(some 58), 58, (.len (.t 57)), none, [1]⟩,
    ⟨(some 59), 59, (.mv (.k (.c (.s (.pv (.int .i64 0)))))), none, []⟩])
  (.block 2 (.loop (.seq (.reg [⟨(some 60), 60, (.bin false .lss (.t 59) (.t 58)), none, []⟩])
  (.seq (.cond (.t 60) .skip (.exit 2))
  (.seq (.block 3 (.seq (.reg [⟨(some 61), 61, (.idx 2 (.t 57) (.t 59)), none, []⟩,
    ⟨(some 62), 62, (.load true 2 (.t 61)), none, [0]⟩,
    ⟨(some 10), 10, (.mk 32 2 [[(.s (.pv (.int .i64 0))), (.s (.pv (.string ⟨#[]⟩)))]]), none, []⟩,
    ⟨none, 84, (.store 2 (.t 10) (.t 62)), none, [2, 1, 0, 1, 2]⟩])
  (.reg [⟨(some 63), 63, (.mv (.t 8)), none, []⟩,
    ⟨(some 64), 64, (.mv (.t 63)), none, [0]⟩,
    ⟨(some 65), 65, (.fld 0 (.t 10)), (some (64, false)), [1]⟩,
    ⟨(some 66), 66, (.load false 1 (.t 65)), (some (64, false)), [2, 1]⟩,
    ⟨(some 67), 67, (.mv (.t 6)), (some (64, false)), [1]⟩,
    ⟨(some 68), 68, (.bin false .eql (.t 66) (.t 67)), (some (64, false)), [3, 4, 1]⟩,
    ⟨(some 69), 69, (.mv (.t 68)), (some (64, false)), [5, 1, 1]⟩,
    ⟨(some 70), 70, (.fld 1 (.t 10)), (some (69, true)), [6]⟩,
    ⟨(some 71), 71, (.load false 1 (.t 70)), (some (69, true)), [7, 6]⟩,
    ⟨(some 72), 72, (.mv (.t 7)), (some (69, true)), [6]⟩,
    ⟨(some 73), 73, (.bin false .eql (.t 71) (.t 72)), (some (69, true)), [8, 9, 6]⟩,
    ⟨(some 74), 74, (.pick (.t 69) (.t 73) (.k (.c (.s (.pv (.bool false)))))), (some (64, false)), [6, 10, 1]⟩,
    ⟨(some 75), 75, (.pick (.t 64) (.k (.c (.s (.pv (.bool true))))) (.t 74)), none, [1, 11]⟩,
    ⟨(some 8), 8, (.mv (.t 75)), none, [12, 6, 0, 1, 2, 3, 4, 5, 6, 7, 8, 9, 10, 11, 12]⟩])))
  (.reg [⟨(some 76), 76, (.bin false .add (.t 59) (.k (.c (.s (.pv (.int .i64 1)))))), none, []⟩,
    ⟨(some 59), 59, (.mv (.t 76)), none, [0]⟩])))))))
  (.seq (.reg [⟨(some 77), 77, (.mv (.t 8)), none, []⟩,
    ⟨(some 78), 78, (.not (.t 77)), none, [0]⟩])
  (.cond (.t 78) (.seq (.reg [⟨(some 4), 4, (.mv (.k (.c (.s (.pv (.bool false)))))), none, []⟩])
  .ret) .skip))))))
  (.reg [⟨(some 79), 79, (.bin false .add (.t 44) (.k (.c (.s (.pv (.int .i64 1)))))), none, []⟩,
    ⟨(some 44), 44, (.mv (.t 79)), none, [0]⟩])))))))
  (.seq (.reg [⟨(some 80), 80, (.call 16 []), none, []⟩,
    ⟨(some 4), 4, (.mv (.t 80)), none, [0, 0, 0]⟩])
  .ret))))))
theorem fn6 : FnIs Try.prog 6 ac6 [(.t 4)] 81 := ⟨Try.f6, Try.func6, by kernel_rfl, by kernel_rfl, by kernel_rfl⟩
/- lockkeeper/lockkeeperlaw03.DiskTwice -/
def ac7 : ACode := (.seq (.reg [⟨(some 10), 10, (.mv (.k (.c (.s (.pv (.bool false)))))), none, []⟩])
  (.seq (.reg [⟨(some 26), 26, (.call 15 [(.k (.c (.s (.pv (.int .i64 6)))))]), none, []⟩,
    ⟨(some 25), 25, (.mv (.t 26)), none, [0]⟩,
    ⟨(some 27), 27, (.ext 0 (.t 25)), none, [1]⟩,
    ⟨(some 28), 28, (.ext 1 (.t 25)), none, [1]⟩,
    ⟨(some 11), 11, (.mk 25 2 [[.zc, .zc]]), none, []⟩,
    ⟨none, 120, (.store 2 (.t 11) (.t 27)), none, [4, 2, 0, 0, 1, 2, 4]⟩,
    ⟨(some 12), 12, (.mv (.t 28)), none, [3, 5, 0, 1, 2, 3, 4, 5]⟩])
  (.seq (.reg [⟨(some 29), 29, (.mv (.t 0)), none, []⟩,
    ⟨(some 30), 30, (.bin false .rem (.t 29) (.k (.c (.s (.pv (.int .u8 6)))))), none, [0]⟩,
    ⟨(some 31), 31, (.conv .i64 (.t 30)), none, [1]⟩,
    ⟨(some 13), 13, (.mv (.t 31)), none, [2, 0, 1, 2]⟩])
  (.seq (.reg [⟨(some 32), 32, (.mv (.t 1)), none, []⟩,
    ⟨(some 33), 33, (.call 28 [(.t 32)]), none, [0]⟩,
    ⟨(some 34), 34, (.mv (.t 2)), none, []⟩,
    ⟨(some 35), 35, (.call 28 [(.t 34)]), none, [2, 1]⟩,
    ⟨(some 14), 14, (.mv (.t 33)), none, [1, 3, 0, 1]⟩,
    ⟨(some 15), 15, (.mv (.t 35)), none, [3, 4, 0, 1, 2, 3, 4]⟩])
  (.seq (.reg [⟨(some 37), 37, (.load true 2 (.t 11)), none, []⟩,
    ⟨(some 38), 38, (.mv (.t 13)), none, []⟩,
    ⟨(some 39), 39, (.mv (.t 14)), none, []⟩,
    ⟨(some 40), 40, (.build [(.s (.pv (.int .i64 0))), (.s (.pv (.string ⟨#[]⟩)))] [(0, 1, (.t 38)), (1, 1, (.t 39))]), none, [1, 2]⟩,
    ⟨(some 41), 41, (.call 20 [(.t 37), (.t 40)]), none, [0, 3]⟩,
    ⟨(some 36), 36, (.mv (.t 41)), none, [4]⟩,
    ⟨(some 42), 42, (.ext 0 (.t 36)), none, [5]⟩,
    ⟨(some 43), 43, (.ext 1 (.t 36)), none, [5]⟩,
    ⟨none, 123, (.store 2 (.t 11) (.t 42)), none, [6, 4, 0, 1, 2, 3, 4, 5, 6]⟩,
    ⟨(some 16), 16, (.mv (.t 43)), none, [7, 8, 0, 1, 2, 3, 4, 5, 6, 7, 8]⟩])
  (.seq (.reg [⟨(some 45), 45, (.load true 2 (.t 11)), none, []⟩,
    ⟨(some 46), 46, (.mv (.t 13)), none, []⟩,
    ⟨(some 47), 47, (.mv (.t 15)), none, []⟩,
    ⟨(some 48), 48, (.build [(.s (.pv (.int .i64 0))), (.s (.pv (.string ⟨#[]⟩)))] [(0, 1, (.t 46)), (1, 1, (.t 47))]), none, [1, 2]⟩,
    ⟨(some 49), 49, (.call 20 [(.t 45), (.t 48)]), none, [0, 3]⟩,
    ⟨(some 44), 44, (.mv (.t 49)), none, [4]⟩,
    ⟨(some 50), 50, (.ext 0 (.t 44)), none, [5]⟩,
    ⟨(some 51), 51, (.ext 1 (.t 44)), none, [5]⟩,
    ⟨none, 123, (.store 2 (.t 11) (.t 50)), none, [6, 4, 0, 1, 2, 3, 4, 5, 6]⟩,
    ⟨(some 17), 17, (.mv (.t 51)), none, [7, 8, 0, 1, 2, 3, 4, 5, 6, 7, 8]⟩])
  (.seq (.reg [⟨(some 18), 18, (.mv (.k (.c .zc))), none, []⟩])
  (.seq (.reg [⟨(some 19), 19, (.mv (.k (.c (.s (.pv (.string ⟨#[0, 0, 0, 0, 0, 0, 0, 0, 0, 0, 0, 0, 0, 0, 0, 0]⟩)))))), none, []⟩])
  (.seq (.seq (.reg [⟨(some 52), 52, (.mv (.t 3)), none, []⟩])
  (.cond (.t 52) (.reg [⟨(some 53), 53, (.mv (.t 18)), none, []⟩,
    ⟨(some 54), 54, (.bslice 3 1 [(.s (.pv (.int .i64 0)))] 1 [(0, 1, (.k (.c (.s (.pv (.int .i64 0))))))]), none, []⟩,
    ⟨(some 55), 55, (.app 3 1 8 (.t 53) (.t 54)), none, [0, 1]⟩,
    ⟨(some 56), 56, (.mv (.t 14)), none, []⟩,
    ⟨(some 18), 18, (.mv (.t 55)), none, [2, 2, 0, 1, 2]⟩,
    ⟨(some 19), 19, (.mv (.t 56)), none, [3, 4, 0, 1, 2, 3, 4]⟩]) .skip))
  (.seq (.seq (.reg [⟨(some 57), 57, (.mv (.t 4)), none, []⟩])
  (.cond (.t 57) (.reg [⟨(some 58), 58, (.mv (.t 18)), none, []⟩,
    ⟨(some 59), 59, (.bslice 3 1 [(.s (.pv (.int .i64 0)))] 1 [(0, 1, (.k (.c (.s (.pv (.int .i64 1))))))]), none, []⟩,
    ⟨(some 60), 60, (.app 3 1 8 (.t 58) (.t 59)), none, [0, 1]⟩,
    ⟨(some 61), 61, (.mv (.t 15)), none, []⟩,
    ⟨(some 18), 18, (.mv (.t 60)), none, [2, 2, 0, 1, 2]⟩,
    ⟨(some 19), 19, (.mv (.t 61)), none, [3, 4, 0, 1, 2, 3, 4]⟩]) .skip))
  (.seq (.reg [⟨(some 62), 62, (.load true 2 (.t 11)), none, []⟩,
    ⟨(some 63), 63, (.mv (.t 18)), none, []⟩,
    ⟨(some 64), 64, (.call 24 [(.t 62), (.t 63)]), none, [0, 1]⟩,
    ⟨(some 20), 20, (.mk 25 2 [[.zc, .zc]]), none, []⟩,
    ⟨none, 119, (.store 2 (.t 20) (.t 64)), none, [3, 2, 2, 0, 1, 2, 3]⟩])
  (.seq (.reg [⟨(some 66), 66, (.load true 2 (.t 20)), none, []⟩,
    ⟨(some 67), 67, (.mv (.t 13)), none, []⟩,
    ⟨(some 68), 68, (.call 19 [(.t 66), (.t 67)]), none, [0, 1]⟩,
    ⟨(some 65), 65, (.mv (.t 68)), none, [2]⟩,
    ⟨(some 69), 69, (.ext 0 (.t 65)), none, [3]⟩,
    ⟨(some 70), 70, (.ext 1 (.t 65)), none, [3]⟩,
    ⟨(some 21), 21, (.mv (.t 69)), none, [4, 2, 0, 1, 2, 3, 4]⟩,
    ⟨(some 22), 22, (.mv (.t 70)), none, [5, 6, 0, 1, 2, 3, 4, 5, 6]⟩])
  (.seq (.reg [⟨(some 72), 72, (.load true 2 (.t 11)), none, []⟩,
    ⟨(some 73), 73, (.mv (.t 13)), none, []⟩,
    ⟨(some 74), 74, (.call 19 [(.t 72), (.t 73)]), none, [0, 1]⟩,
    ⟨(some 71), 71, (.mv (.t 74)), none, [2]⟩,
    ⟨(some 75), 75, (.ext 0 (.t 71)), none, [3]⟩,
    ⟨(some 76), 76, (.ext 1 (.t 71)), none, [3]⟩,
    ⟨(some 23), 23, (.mv (.t 75)), none, [4, 2, 0, 1, 2, 3, 4]⟩,
    ⟨(some 24), 24, (.mv (.t 76)), none, [5, 6, 0, 1, 2, 3, 4, 5, 6]⟩])
  (.seq (.draw [⟨(some 77), 77, (.mv (.t 12)), none, []⟩,
    ⟨(some 78), 78, (.bin false .eql (.t 77) (.k (.c (.s (.pv (.int .i64 0)))))), none, [0]⟩,
    ⟨(some 79), 79, (.mv (.t 78)), none, [1]⟩,
    ⟨(some 80), 80, (.mv (.t 16)), (some (79, true)), [2]⟩,
    ⟨(some 81), 81, (.bin false .eql (.t 80) (.k (.c (.s (.pv (.int .i64 0)))))), (some (79, true)), [3, 2]⟩,
    ⟨(some 82), 82, (.pick (.t 79) (.t 81) (.k (.c (.s (.pv (.bool false)))))), none, [2, 4]⟩,
    ⟨(some 83), 83, (.mv (.t 82)), none, [5, 2]⟩,
    ⟨(some 84), 84, (.mv (.t 17)), (some (83, true)), [6]⟩,
    ⟨(some 85), 85, (.bin false .eql (.t 84) (.k (.c (.s (.pv (.int .i64 0)))))), (some (83, true)), [7, 6]⟩,
    ⟨(some 86), 86, (.pick (.t 83) (.t 85) (.k (.c (.s (.pv (.bool false)))))), none, [6, 8]⟩,
    ⟨(some 87), 87, (.mv (.t 86)), none, [9, 6]⟩,
    ⟨(some 88), 88, (.mv (.t 22)), (some (87, true)), [10]⟩,
    ⟨(some 89), 89, (.bin false .eql (.t 88) (.k (.c (.s (.pv (.int .i64 0)))))), (some (87, true)), [11, 10]⟩,
    ⟨(some 90), 90, (.pick (.t 87) (.t 89) (.k (.c (.s (.pv (.bool false)))))), none, [10, 12]⟩,
    ⟨(some 91), 91, (.mv (.t 90)), none, [13, 10]⟩,
    ⟨(some 92), 92, (.mv (.t 24)), (some (91, true)), [14]⟩,
    ⟨(some 93), 93, (.bin false .eql (.t 92) (.k (.c (.s (.pv (.int .i64 0)))))), (some (91, true)), [15, 14]⟩,
    ⟨(some 94), 94, (.pick (.t 91) (.t 93) (.k (.c (.s (.pv (.bool false)))))), none, [14, 16]⟩,
    ⟨(some 95), 95, (.mv (.t 94)), none, [17, 14]⟩,
    ⟨(some 96), 96, (.mv (.t 21)), (some (95, true)), [18]⟩,
    ⟨(some 97), 97, (.mv (.t 19)), (some (95, true)), [18]⟩,
    ⟨(some 98), 98, (.bin false .eql (.t 96) (.t 97)), (some (95, true)), [19, 20, 18]⟩,
    ⟨(some 99), 99, (.pick (.t 95) (.t 98) (.k (.c (.s (.pv (.bool false)))))), none, [18, 21]⟩,
    ⟨(some 100), 100, (.mv (.t 99)), none, [22, 18]⟩,
    ⟨(some 101), 101, (.mv (.t 23)), (some (100, true)), [23]⟩,
    ⟨(some 102), 102, (.mv (.t 15)), (some (100, true)), [23]⟩,
    ⟨(some 103), 103, (.bin false .eql (.t 101) (.t 102)), (some (100, true)), [24, 25, 23]⟩,
    ⟨(some 104), 104, (.pick (.t 100) (.t 103) (.k (.c (.s (.pv (.bool false)))))), none, [23, 26]⟩,
    ⟨(some 105), 105, (.mv (.t 104)), none, [27, 23]⟩,
    ⟨(some 106), 106, (.load true 2 (.t 20)), (some (105, true)), [28]⟩,
    ⟨(some 107), 107, (.mv (.t 18)), (some (105, true)), [28]⟩,
    ⟨(some 108), 108, (.call 24 [(.t 106), (.t 107)]), (some (105, true)), [29, 30, 28, 28]⟩,
    ⟨(some 109), 109, (.load true 2 (.t 20)), (some (105, true)), [28]⟩,
    ⟨(some 110), 110, (.call 22 [(.t 108), (.t 109)]), (some (105, true)), [31, 32, 31, 28]⟩,
    ⟨(some 111), 111, (.pick (.t 105) (.t 110) (.k (.c (.s (.pv (.bool false)))))), none, [28, 33]⟩,
    ⟨(some 112), 112, (.mv (.t 111)), none, [34, 33]⟩,
    ⟨(some 113), 113, (.call 16 []), (some (112, true)), [35, 35]⟩,
    ⟨(some 114), 114, (.pick (.t 112) (.t 113) (.k (.c (.s (.pv (.bool false)))))), none, [35, 36]⟩,
    ⟨(some 10), 10, (.mv (.t 114)), none, [37, 36, 0, 1, 2, 3, 4, 5, 6, 7, 8, 9, 10, 11, 12, 13, 14, 15, 16, 17, 18, 19, 20, 21, 22, 23, 24, 25, 26, 27, 28, 29, 30, 31, 32, 33, 34, 35, 36, 37]⟩])
  .ret))))))))))))))
theorem fn7 : FnIs Try.prog 7 ac7 [(.t 10)] 115 := ⟨Try.f7, Try.func7, by kernel_rfl, by kernel_rfl, by kernel_rfl⟩
/- lockkeeper/lockkeeperlaw03.DiskFull -/
def ac8 : ACode := (.seq (.reg [⟨(some 2), 2, (.mv (.k (.c (.s (.pv (.bool false)))))), none, []⟩])
  (.seq (.reg [⟨(some 13), 13, (.mv (.t 0)), none, []⟩,
    ⟨(some 14), 14, (.bin false .rem (.t 13) (.k (.c (.s (.pv (.int .u8 64)))))), none, [0]⟩,
    ⟨(some 15), 15, (.conv .i64 (.t 14)), none, [1]⟩,
    ⟨(some 16), 16, (.bin false .add (.k (.c (.s (.pv (.int .i64 1))))) (.t 15)), none, [2]⟩,
    ⟨(some 17), 17, (.call 15 [(.t 16)]), none, [3]⟩,
    ⟨(some 12), 12, (.mv (.t 17)), none, [4]⟩,
    ⟨(some 18), 18, (.ext 0 (.t 12)), none, [5]⟩,
    ⟨(some 19), 19, (.ext 1 (.t 12)), none, [5]⟩,
    ⟨(some 3), 3, (.mk 25 2 [[.zc, .zc]]), none, []⟩,
    ⟨none, 85, (.store 2 (.t 3) (.t 18)), none, [8, 6, 4, 0, 1, 2, 3, 4, 5, 6, 8]⟩,
    ⟨(some 4), 4, (.mv (.t 19)), none, [7, 9, 0, 1, 2, 3, 4, 5, 6, 7, 8, 9]⟩])
  (.seq (.seq (.reg [⟨(some 20), 20, (.mv (.k (.c (.s (.pv (.int .i64 0)))))), none, []⟩])
  (.block 0 (.loop (.seq (.reg [⟨(some 21), 21, (.bin false .lss (.t 20) (.k (.c (.s (.pv (.int .i64 200)))))), none, []⟩])
  (.seq (.cond (.t 21) .skip (.exit 0))
  (.seq (.block 1 (.seq (.reg [⟨(some 22), 22, (.mv (.t 20)), none, []⟩,
    ⟨(some 5), 5, (.mv (.t 22)), none, [0, 0]⟩])
  (.seq (.draw [⟨(some 24), 24, (.load true 2 (.t 3)), none, []⟩,
    ⟨(some 25), 25, (.mv (.t 5)), none, []⟩,
    ⟨(some 26), 26, (.fld 0 (.t 3)), none, []⟩,
    ⟨(some 27), 27, (.load false 1 (.t 26)), none, [2]⟩,
    ⟨(some 28), 28, (.len (.t 27)), none, [3]⟩,
    ⟨(some 29), 29, (.mm true (.t 28) (.k (.c (.s (.pv (.int .i64 1)))))), none, [4]⟩,
    ⟨(some 30), 30, (.bin false .rem (.t 25) (.t 29)), none, [1, 5]⟩,
    ⟨(some 31), 31, (.mv (.t 5)), none, []⟩,
    ⟨(some 32), 32, (.conv .u8 (.t 31)), none, [7]⟩,
    ⟨(some 33), 33, (.call 28 [(.t 32)]), none, [8]⟩,
    ⟨(some 34), 34, (.build [(.s (.pv (.int .i64 0))), (.s (.pv (.string ⟨#[]⟩)))] [(0, 1, (.t 30)), (1, 1, (.t 33))]), none, [6, 9]⟩,
    ⟨(some 35), 35, (.call 20 [(.t 24), (.t 34)]), none, [0, 10, 9]⟩,
    ⟨(some 23), 23, (.mv (.t 35)), none, [11]⟩,
    ⟨(some 36), 36, (.ext 0 (.t 23)), none, [12]⟩,
    ⟨(some 37), 37, (.ext 1 (.t 23)), none, [12]⟩,
    ⟨(some 6), 6, (.mk 25 2 [[.zc, .zc]]), none, []⟩,
    ⟨none, 92, (.store 2 (.t 6) (.t 36)), none, [15, 13, 11, 0, 1, 2, 3, 4, 5, 6, 7, 8, 9, 10, 11, 12, 13, 15]⟩,
    ⟨(some 7), 7, (.mv (.t 37)), none, [14, 16, 0, 1, 2, 3, 4, 5, 6, 7, 8, 9, 10, 11, 12, 13, 14, 15, 16]⟩])
  (.seq (.seq (.reg [⟨(some 38), 38, (.mv (.t 7)), none, []⟩,
    ⟨(some 39), 39, (.bin false .neq (.t 38) (.k (.c (.s (.pv (.int .i64 0)))))), none, [0]⟩])
  (.cond (.t 39) (.seq (.reg [⟨(some 2), 2, (.mv (.k (.c (.s (.pv (.bool false)))))), none, []⟩])
  .ret) .skip))
  (.reg [⟨(some 40), 40, (.load true 2 (.t 6)), none, []⟩,
    ⟨none, 77, (.store 2 (.t 3) (.t 40)), none, [0, 0]⟩])))))
  (.reg [⟨(some 41), 41, (.bin false .add (.t 20) (.k (.c (.s (.pv (.int .i64 1)))))), none, []⟩,
    ⟨(some 20), 20, (.mv (.t 41)), none, [0]⟩])))))))
  (.seq (.draw [⟨(some 43), 43, (.load true 2 (.t 3)), none, []⟩,
    ⟨(some 44), 44, (.call 28 [(.k (.c (.s (.pv (.int .u8 1)))))]), none, []⟩,
    ⟨(some 45), 45, (.build [(.s (.pv (.int .i64 0))), (.s (.pv (.string ⟨#[]⟩)))] [(1, 1, (.t 44))]), none, [1]⟩,
    ⟨(some 46), 46, (.call 20 [(.t 43), (.t 45)]), none, [0, 2, 1]⟩,
    ⟨(some 42), 42, (.mv (.t 46)), none, [3]⟩,
    ⟨(some 47), 47, (.ext 0 (.t 42)), none, [4]⟩,
    ⟨(some 48), 48, (.ext 1 (.t 42)), none, [4]⟩,
    ⟨(some 8), 8, (.mk 25 2 [[.zc, .zc]]), none, []⟩,
    ⟨none, 84, (.store 2 (.t 8) (.t 47)), none, [7, 5, 3, 0, 1, 2, 3, 4, 5, 7]⟩,
    ⟨(some 9), 9, (.mv (.t 48)), none, [6, 8, 0, 1, 2, 3, 4, 5, 6, 7, 8]⟩])
  (.seq (.reg [⟨(some 50), 50, (.load true 2 (.t 3)), none, []⟩,
    ⟨(some 51), 51, (.call 23 [(.t 50)]), none, [0]⟩,
    ⟨(some 52), 52, (.call 28 [(.k (.c (.s (.pv (.int .u8 1)))))]), none, [1]⟩,
    ⟨(some 53), 53, (.build [(.s (.pv (.int .i64 0))), (.s (.pv (.string ⟨#[]⟩)))] [(1, 1, (.t 52))]), none, [2]⟩,
    ⟨(some 54), 54, (.call 20 [(.t 51), (.t 53)]), none, [1, 3, 2]⟩,
    ⟨(some 49), 49, (.mv (.t 54)), none, [4]⟩,
    ⟨(some 55), 55, (.ext 0 (.t 49)), none, [5]⟩,
    ⟨(some 56), 56, (.ext 1 (.t 49)), none, [5]⟩,
    ⟨(some 10), 10, (.mk 25 2 [[.zc, .zc]]), none, []⟩,
    ⟨none, 85, (.store 2 (.t 10) (.t 55)), none, [8, 6, 4, 0, 1, 2, 3, 4, 5, 6, 8]⟩,
    ⟨(some 11), 11, (.mv (.t 56)), none, [7, 9, 0, 1, 2, 3, 4, 5, 6, 7, 8, 9]⟩])
  (.seq (.reg [⟨(some 57), 57, (.mv (.t 4)), none, []⟩,
    ⟨(some 58), 58, (.bin false .eql (.t 57) (.k (.c (.s (.pv (.int .i64 0)))))), none, [0]⟩,
    ⟨(some 59), 59, (.mv (.t 58)), none, [1]⟩,
    ⟨(some 60), 60, (.mv (.t 9)), (some (59, true)), [2]⟩,
    ⟨(some 61), 61, (.bin false .eql (.t 60) (.k (.c (.s (.pv (.int .i64 7)))))), (some (59, true)), [3, 2]⟩,
    ⟨(some 62), 62, (.pick (.t 59) (.t 61) (.k (.c (.s (.pv (.bool false)))))), none, [2, 4]⟩,
    ⟨(some 63), 63, (.mv (.t 62)), none, [5, 2]⟩,
    ⟨(some 64), 64, (.fld 1 (.t 8)), (some (63, true)), [6]⟩,
    ⟨(some 65), 65, (.load false 1 (.t 64)), (some (63, true)), [7, 6]⟩,
    ⟨(some 66), 66, (.len (.t 65)), (some (63, true)), [8, 6]⟩,
    ⟨(some 67), 67, (.bin false .eql (.t 66) (.k (.c (.s (.pv (.int .i64 200)))))), (some (63, true)), [9, 6]⟩,
    ⟨(some 68), 68, (.pick (.t 63) (.t 67) (.k (.c (.s (.pv (.bool false)))))), none, [6, 10]⟩,
    ⟨(some 69), 69, (.mv (.t 68)), none, [11, 6]⟩,
    ⟨(some 70), 70, (.mv (.t 11)), (some (69, true)), [12]⟩,
    ⟨(some 71), 71, (.bin false .eql (.t 70) (.k (.c (.s (.pv (.int .i64 0)))))), (some (69, true)), [13, 12]⟩,
    ⟨(some 72), 72, (.pick (.t 69) (.t 71) (.k (.c (.s (.pv (.bool false)))))), none, [12, 14]⟩,
    ⟨(some 73), 73, (.mv (.t 72)), none, [15, 12]⟩,
    ⟨(some 74), 74, (.call 16 []), (some (73, true)), [16, 16]⟩,
    ⟨(some 75), 75, (.pick (.t 73) (.t 74) (.k (.c (.s (.pv (.bool false)))))), none, [16, 17]⟩,
    ⟨(some 2), 2, (.mv (.t 75)), none, [18, 17, 0, 1, 2, 3, 4, 5, 6, 7, 8, 9, 10, 11, 12, 13, 14, 15, 16, 17, 18]⟩])
  .ret))))))
theorem fn8 : FnIs Try.prog 8 ac8 [(.t 2)] 76 := ⟨Try.f8, Try.func8, by kernel_rfl, by kernel_rfl, by kernel_rfl⟩
/- lockkeeper/lockkeeperlaw03.DiskReads -/
def ac9 : ACode := (.seq (.reg [⟨(some 2), 2, (.box 25 2 (.t 0)), none, []⟩,
    ⟨(some 3), 3, (.box 32 2 (.t 1)), none, []⟩,
    ⟨(some 4), 4, (.mv (.k (.c (.s (.pv (.bool false)))))), none, []⟩])
  (.seq (.seq (.reg [⟨(some 15), 15, (.load true 2 (.t 2)), none, []⟩,
    ⟨(some 16), 16, (.call 17 [(.t 15)]), none, [0]⟩,
    ⟨(some 17), 17, (.not (.t 16)), none, [1]⟩,
    ⟨(some 18), 18, (.mv (.t 17)), none, [2, 1]⟩,
    ⟨(some 19), 19, (.load true 2 (.t 2)), (some (18, false)), [3]⟩,
    ⟨(some 20), 20, (.call 18 [(.t 19)]), (some (18, false)), [4, 3, 3]⟩,
    ⟨(some 21), 21, (.not (.t 20)), (some (18, false)), [5, 3]⟩,
    ⟨(some 22), 22, (.pick (.t 18) (.k (.c (.s (.pv (.bool true))))) (.t 21)), none, [3, 6]⟩,
    ⟨(some 23), 23, (.mv (.t 22)), none, [7, 5]⟩,
    ⟨(some 24), 24, (.fld 1 (.t 3)), (some (23, false)), [8]⟩,
    ⟨(some 25), 25, (.load false 1 (.t 24)), (some (23, false)), [9, 8]⟩,
    ⟨(some 26), 26, (.slen (.t 25)), (some (23, false)), [10, 8]⟩,
    ⟨(some 27), 27, (.bin false .gtr (.t 26) (.k (.c (.s (.pv (.int .i64 40)))))), (some (23, false)), [11, 8]⟩,
    ⟨(some 28), 28, (.pick (.t 23) (.k (.c (.s (.pv (.bool true))))) (.t 27)), none, [8, 12]⟩])
  (.cond (.t 28) (.seq (.reg [⟨(some 29), 29, (.call 16 []), none, []⟩,
    ⟨(some 4), 4, (.mv (.t 29)), none, [0, 0, 0]⟩])
  .ret) .skip))
  (.seq (.reg [⟨(some 31), 31, (.load true 2 (.t 2)), none, []⟩,
    ⟨(some 32), 32, (.load true 2 (.t 3)), none, []⟩,
    ⟨(some 33), 33, (.call 20 [(.t 31), (.t 32)]), none, [0, 1]⟩,
    ⟨(some 30), 30, (.mv (.t 33)), none, [2]⟩,
    ⟨(some 34), 34, (.ext 0 (.t 30)), none, [3]⟩,
    ⟨(some 35), 35, (.ext 1 (.t 30)), none, [3]⟩,
    ⟨(some 5), 5, (.mk 25 2 [[.zc, .zc]]), none, []⟩,
    ⟨none, 101, (.store 2 (.t 5) (.t 34)), none, [6, 4, 2, 0, 1, 2, 3, 4, 6]⟩,
    ⟨(some 6), 6, (.mv (.t 35)), none, [5, 7, 0, 1, 2, 3, 4, 5, 6, 7]⟩])
  (.seq (.reg [⟨(some 36), 36, (.load true 2 (.t 5)), none, []⟩,
    ⟨(some 37), 37, (.call 23 [(.t 36)]), none, [0]⟩,
    ⟨(some 7), 7, (.mk 25 2 [[.zc, .zc]]), none, []⟩,
    ⟨none, 97, (.store 2 (.t 7) (.t 37)), none, [2, 1, 1, 0, 1, 2]⟩])
  (.seq (.seq (.reg [⟨(some 38), 38, (.fld 0 (.t 2)), none, []⟩,
    ⟨(some 39), 39, (.load false 1 (.t 38)), none, [0]⟩,
    ⟨(some 40), 40, (.len (.t 39)), none, [1]⟩,
    ⟨(some 41), 41, (.mv (.k (.c (.s (.pv (.int .i64 0)))))), none, []⟩])
  (.block 0 (.loop (.seq (.reg [⟨(some 42), 42, (.bin false .lss (.t 41) (.t 40)), none, []⟩])
  (.seq (.cond (.t 42) .skip (.exit 0))
  (.seq (.block 1 (.seq (.reg [⟨(some 43), 43, (.mv (.t 41)), none, []⟩,
    ⟨(some 8), 8, (.mv (.t 43)), none, [0, 0]⟩])
  (.seq (.reg [⟨(some 45), 45, (.load true 2 (.t 2)), none, []⟩,
    ⟨(some 46), 46, (.mv (.t 8)), none, []⟩,
    ⟨(some 47), 47, (.call 19 [(.t 45), (.t 46)]), none, [0, 1]⟩,
    ⟨(some 44), 44, (.mv (.t 47)), none, [2]⟩,
    ⟨(some 48), 48, (.ext 0 (.t 44)), none, [3]⟩,
    ⟨(some 49), 49, (.ext 1 (.t 44)), none, [3]⟩,
    ⟨(some 9), 9, (.mv (.t 48)), none, [4, 2, 0, 1, 2, 3, 4]⟩,
    ⟨(some 10), 10, (.mv (.t 49)), none, [5, 6, 0, 1, 2, 3, 4, 5, 6]⟩])
  (.seq (.reg [⟨(some 51), 51, (.load true 2 (.t 5)), none, []⟩,
    ⟨(some 52), 52, (.mv (.t 8)), none, []⟩,
    ⟨(some 53), 53, (.call 19 [(.t 51), (.t 52)]), none, [0, 1]⟩,
    ⟨(some 50), 50, (.mv (.t 53)), none, [2]⟩,
    ⟨(some 54), 54, (.ext 0 (.t 50)), none, [3]⟩,
    ⟨(some 55), 55, (.ext 1 (.t 50)), none, [3]⟩,
    ⟨(some 11), 11, (.mv (.t 54)), none, [4, 2, 0, 1, 2, 3, 4]⟩,
    ⟨(some 12), 12, (.mv (.t 55)), none, [5, 6, 0, 1, 2, 3, 4, 5, 6]⟩])
  (.seq (.reg [⟨(some 57), 57, (.load true 2 (.t 7)), none, []⟩,
    ⟨(some 58), 58, (.mv (.t 8)), none, []⟩,
    ⟨(some 59), 59, (.call 19 [(.t 57), (.t 58)]), none, [0, 1]⟩,
    ⟨(some 56), 56, (.mv (.t 59)), none, [2]⟩,
    ⟨(some 60), 60, (.ext 0 (.t 56)), none, [3]⟩,
    ⟨(some 61), 61, (.ext 1 (.t 56)), none, [3]⟩,
    ⟨(some 13), 13, (.mv (.t 60)), none, [4, 2, 0, 1, 2, 3, 4]⟩,
    ⟨(some 14), 14, (.mv (.t 61)), none, [5, 6, 0, 1, 2, 3, 4, 5, 6]⟩])
  (.seq (.seq (.reg [⟨(some 62), 62, (.mv (.t 6)), none, []⟩,
    ⟨(some 63), 63, (.bin false .eql (.t 62) (.k (.c (.s (.pv (.int .i64 0)))))), none, [0]⟩,
    ⟨(some 64), 64, (.mv (.t 63)), none, [1]⟩,
    ⟨(some 65), 65, (.mv (.t 8)), (some (64, true)), [2]⟩,
    ⟨(some 66), 66, (.fld 0 (.t 3)), (some (64, true)), [2]⟩,
    ⟨(some 67), 67, (.load false 1 (.t 66)), (some (64, true)), [4, 2]⟩,
    ⟨(some 68), 68, (.bin false .eql (.t 65) (.t 67)), (some (64, true)), [3, 5, 2]⟩,
    ⟨(some 69), 69, (.pick (.t 64) (.t 68) (.k (.c (.s (.pv (.bool false)))))), none, [2, 6]⟩])
  (.cond (.t 69) (.reg [⟨(some 70), 70, (.fld 1 (.t 3)), none, []⟩,
    ⟨(some 71), 71, (.load false 1 (.t 70)), none, [0]⟩,
    ⟨(some 9), 9, (.mv (.t 71)), none, [1, 0, 1]⟩]) .skip))
  (.seq (.reg [⟨(some 72), 72, (.mv (.t 10)), none, []⟩,
    ⟨(some 73), 73, (.bin false .neq (.t 72) (.k (.c (.s (.pv (.int .i64 0)))))), none, [0]⟩,
    ⟨(some 74), 74, (.mv (.t 73)), none, [1]⟩,
    ⟨(some 75), 75, (.mv (.t 12)), (some (74, false)), [2]⟩,
    ⟨(some 76), 76, (.bin false .neq (.t 75) (.k (.c (.s (.pv (.int .i64 0)))))), (some (74, false)), [3, 2]⟩,
    ⟨(some 77), 77, (.pick (.t 74) (.k (.c (.s (.pv (.bool true))))) (.t 76)), none, [2, 4]⟩,
    ⟨(some 78), 78, (.mv (.t 77)), none, [5, 2]⟩,
    ⟨(some 79), 79, (.mv (.t 14)), (some (78, false)), [6]⟩,
    ⟨(some 80), 80, (.bin false .neq (.t 79) (.k (.c (.s (.pv (.int .i64 0)))))), (some (78, false)), [7, 6]⟩,
    ⟨(some 81), 81, (.pick (.t 78) (.k (.c (.s (.pv (.bool true))))) (.t 80)), none, [6, 8]⟩,
    ⟨(some 82), 82, (.mv (.t 81)), none, [9, 6]⟩,
    ⟨(some 83), 83, (.mv (.t 11)), (some (82, false)), [10]⟩,
    ⟨(some 84), 84, (.mv (.t 9)), (some (82, false)), [10]⟩,
    ⟨(some 85), 85, (.bin false .neq (.t 83) (.t 84)), (some (82, false)), [11, 12, 10]⟩,
    ⟨(some 86), 86, (.pick (.t 82) (.k (.c (.s (.pv (.bool true))))) (.t 85)), none, [10, 13]⟩,
    ⟨(some 87), 87, (.mv (.t 86)), none, [14, 10]⟩,
    ⟨(some 88), 88, (.mv (.t 13)), (some (87, false)), [15]⟩,
    ⟨(some 89), 89, (.mv (.t 9)), (some (87, false)), [15]⟩,
    ⟨(some 90), 90, (.bin false .neq (.t 88) (.t 89)), (some (87, false)), [16, 17, 15]⟩,
    ⟨(some 91), 91, (.pick (.t 87) (.k (.c (.s (.pv (.bool true))))) (.t 90)), none, [15, 18]⟩])
  (.cond (.t 91) (.seq (.reg [⟨(some 4), 4, (.mv (.k (.c (.s (.pv (.bool false)))))), none, []⟩])
  .ret) .skip))))))))
  (.reg [⟨(some 92), 92, (.bin false .add (.t 41) (.k (.c (.s (.pv (.int .i64 1)))))), none, []⟩,
    ⟨(some 41), 41, (.mv (.t 92)), none, [0]⟩])))))))
  (.seq (.reg [⟨(some 93), 93, (.call 16 []), none, []⟩,
    ⟨(some 4), 4, (.mv (.t 93)), none, [0, 0, 0]⟩])
  .ret))))))
theorem fn9 : FnIs Try.prog 9 ac9 [(.t 4)] 94 := ⟨Try.f9, Try.func9, by kernel_rfl, by kernel_rfl, by kernel_rfl⟩
/- lockkeeper/lockkeeperlaw04.DeviceSubmits -/
def ac10 : ACode := (.seq (.reg [⟨(some 4), 4, (.box 50 4 (.t 0)), none, []⟩,
    ⟨(some 8), 8, (.mv (.k (.c (.s (.pv (.bool false)))))), none, []⟩])
  (.seq (.reg [⟨(some 20), 20, (.load true 4 (.t 4)), none, []⟩,
    ⟨(some 21), 21, (.call 29 [(.t 20)]), none, [0]⟩,
    ⟨(some 19), 19, (.mv (.t 21)), none, [1]⟩,
    ⟨(some 22), 22, (.ext 0 (.t 19)), none, [2]⟩,
    ⟨(some 23), 23, (.ext 1 (.t 19)), none, [2]⟩,
    ⟨(some 9), 9, (.mk 53 4 [[.zc, .zc, (.s (.pv (.int .i64 0))), .zc]]), none, []⟩,
    ⟨none, 87, (.store 4 (.t 9) (.t 22)), none, [5, 3, 1, 0, 1, 2, 3, 5]⟩,
    ⟨(some 10), 10, (.mv (.t 23)), none, [4, 6, 0, 1, 2, 3, 4, 5, 6]⟩])
  (.seq (.seq (.reg [⟨(some 24), 24, (.mv (.t 10)), none, []⟩,
    ⟨(some 25), 25, (.not (.t 24)), none, [0]⟩,
    ⟨(some 26), 26, (.mv (.t 25)), none, [1]⟩,
    ⟨(some 27), 27, (.mv (.t 3)), (some (26, false)), [2]⟩,
    ⟨(some 28), 28, (.slen (.t 27)), (some (26, false)), [3, 2]⟩,
    ⟨(some 29), 29, (.bin false .gtr (.t 28) (.k (.c (.s (.pv (.int .i64 100)))))), (some (26, false)), [4, 2]⟩,
    ⟨(some 30), 30, (.pick (.t 26) (.k (.c (.s (.pv (.bool true))))) (.t 29)), none, [2, 5]⟩])
  (.cond (.t 30) (.seq (.reg [⟨(some 31), 31, (.call 30 []), none, []⟩,
    ⟨(some 8), 8, (.mv (.t 31)), none, [0, 0, 0]⟩])
  .ret) .skip))
  (.seq (.reg [⟨(some 33), 33, (.load true 4 (.t 4)), none, []⟩,
    ⟨(some 34), 34, (.mv (.t 1)), none, []⟩,
    ⟨(some 35), 35, (.mv (.t 2)), none, []⟩,
    ⟨(some 36), 36, (.mv (.t 3)), none, []⟩,
    ⟨(some 37), 37, (.call 31 [(.t 33), (.t 34), (.t 35), (.t 36)]), none, [0, 1, 2, 3]⟩,
    ⟨(some 32), 32, (.mv (.t 37)), none, [4]⟩,
    ⟨(some 38), 38, (.ext 0 (.t 32)), none, [5]⟩,
    ⟨(some 39), 39, (.ext 1 (.t 32)), none, [5]⟩,
    ⟨(some 40), 40, (.ext 2 (.t 32)), none, [5]⟩,
    ⟨(some 11), 11, (.mk 50 4 [[.zc, .zc, (.s (.pv (.int .i64 0))), .zc]]), none, []⟩,
    ⟨none, 91, (.store 4 (.t 11) (.t 38)), none, [9, 6, 4, 0, 1, 2, 3, 4, 5, 6, 9]⟩,
    ⟨(some 12), 12, (.mv (.t 39)), none, [7, 10, 0, 1, 2, 3, 4, 5, 6, 7, 9, 10]⟩,
    ⟨(some 13), 13, (.mv (.t 40)), none, [8, 11, 0, 1, 2, 3, 4, 5, 6, 7, 8, 9, 10, 11]⟩])
  (.seq (.reg [⟨(some 42), 42, (.load true 4 (.t 9)), none, []⟩,
    ⟨(some 43), 43, (.mv (.t 1)), none, []⟩,
    ⟨(some 44), 44, (.mv (.t 2)), none, []⟩,
    ⟨(some 45), 45, (.mv (.t 3)), none, []⟩,
    ⟨(some 46), 46, (.call 32 [(.t 42), (.t 43), (.t 44), (.t 45)]), none, [0, 1, 2, 3]⟩,
    ⟨(some 41), 41, (.mv (.t 46)), none, [4]⟩,
    ⟨(some 47), 47, (.ext 0 (.t 41)), none, [5]⟩,
    ⟨(some 48), 48, (.ext 1 (.t 41)), none, [5]⟩,
    ⟨(some 49), 49, (.ext 2 (.t 41)), none, [5]⟩,
    ⟨(some 14), 14, (.mk 53 4 [[.zc, .zc, (.s (.pv (.int .i64 0))), .zc]]), none, []⟩,
    ⟨none, 91, (.store 4 (.t 14) (.t 47)), none, [9, 6, 4, 0, 1, 2, 3, 4, 5, 6, 9]⟩,
    ⟨(some 15), 15, (.mv (.t 48)), none, [7, 10, 0, 1, 2, 3, 4, 5, 6, 7, 9, 10]⟩,
    ⟨(some 16), 16, (.mv (.t 49)), none, [8, 11, 0, 1, 2, 3, 4, 5, 6, 7, 8, 9, 10, 11]⟩])
  (.seq (.reg [⟨(some 51), 51, (.load true 4 (.t 11)), none, []⟩,
    ⟨(some 52), 52, (.call 29 [(.t 51)]), none, [0]⟩,
    ⟨(some 50), 50, (.mv (.t 52)), none, [1]⟩,
    ⟨(some 53), 53, (.ext 0 (.t 50)), none, [2]⟩,
    ⟨(some 54), 54, (.ext 1 (.t 50)), none, [2]⟩,
    ⟨(some 17), 17, (.mk 53 4 [[.zc, .zc, (.s (.pv (.int .i64 0))), .zc]]), none, []⟩,
    ⟨none, 87, (.store 4 (.t 17) (.t 53)), none, [5, 3, 1, 0, 1, 2, 3, 5]⟩,
    ⟨(some 18), 18, (.mv (.t 54)), none, [4, 6, 0, 1, 2, 3, 4, 5, 6]⟩])
  (.seq (.draw [⟨(some 55), 55, (.mv (.t 18)), none, []⟩,
    ⟨(some 56), 56, (.mv (.t 55)), none, [0]⟩,
    ⟨(some 57), 57, (.load true 4 (.t 17)), (some (56, true)), [1]⟩,
    ⟨(some 58), 58, (.load true 4 (.t 14)), (some (56, true)), [1]⟩,
    ⟨(some 59), 59, (.call 33 [(.t 57), (.t 58)]), (some (56, true)), [2, 3, 1, 1]⟩,
    ⟨(some 60), 60, (.pick (.t 56) (.t 59) (.k (.c (.s (.pv (.bool false)))))), none, [1, 4]⟩,
    ⟨(some 61), 61, (.mv (.t 60)), none, [5, 4]⟩,
    ⟨(some 62), 62, (.mv (.t 12)), (some (61, true)), [6]⟩,
    ⟨(some 63), 63, (.mv (.t 15)), (some (61, true)), [6]⟩,
    ⟨(some 64), 64, (.bin false .eql (.t 62) (.t 63)), (some (61, true)), [7, 8, 6]⟩,
    ⟨(some 65), 65, (.pick (.t 61) (.t 64) (.k (.c (.s (.pv (.bool false)))))), none, [6, 9]⟩,
    ⟨(some 66), 66, (.mv (.t 65)), none, [10, 6]⟩,
    ⟨(some 67), 67, (.mv (.t 13)), (some (66, true)), [11]⟩,
    ⟨(some 68), 68, (.mv (.t 16)), (some (66, true)), [11]⟩,
    ⟨(some 69), 69, (.bin false .eql (.t 67) (.t 68)), (some (66, true)), [12, 13, 11]⟩,
    ⟨(some 70), 70, (.pick (.t 66) (.t 69) (.k (.c (.s (.pv (.bool false)))))), none, [11, 14]⟩,
    ⟨(some 71), 71, (.mv (.t 70)), none, [15, 11]⟩,
    ⟨(some 72), 72, (.load true 4 (.t 4)), (some (71, true)), [16]⟩,
    ⟨(some 73), 73, (.call 34 [(.t 72)]), (some (71, true)), [17, 16, 16]⟩,
    ⟨(some 74), 74, (.load true 4 (.t 9)), (some (71, true)), [16]⟩,
    ⟨(some 75), 75, (.call 35 [(.t 74)]), (some (71, true)), [19, 18, 16]⟩,
    ⟨(some 76), 76, (.bin true .eql (.t 73) (.t 75)), (some (71, true)), [18, 20, 16]⟩,
    ⟨(some 77), 77, (.pick (.t 71) (.t 76) (.k (.c (.s (.pv (.bool false)))))), none, [16, 21]⟩,
    ⟨(some 78), 78, (.mv (.t 77)), none, [22, 20]⟩,
    ⟨(some 79), 79, (.call 30 []), (some (78, true)), [23, 23]⟩,
    ⟨(some 80), 80, (.pick (.t 78) (.t 79) (.k (.c (.s (.pv (.bool false)))))), none, [23, 24]⟩,
    ⟨(some 8), 8, (.mv (.t 80)), none, [25, 24, 0, 1, 2, 3, 4, 5, 6, 7, 8, 9, 10, 11, 12, 13, 14, 15, 16, 17, 18, 19, 20, 21, 22, 23, 24, 25]⟩])
  .ret)))))))
theorem fn10 : FnIs Try.prog 10 ac10 [(.t 8)] 81 := ⟨Try.f10, Try.func10, by kernel_rfl, by kernel_rfl, by kernel_rfl⟩
/- lockkeeper/lockkeeperlaw04.DeviceFinishes -/
def ac11 : ACode := (.seq (.reg [⟨(some 4), 4, (.box 50 4 (.t 0)), none, []⟩,
    ⟨(some 8), 8, (.mv (.k (.c (.s (.pv (.bool false)))))), none, []⟩])
  (.seq (.reg [⟨(some 23), 23, (.load true 4 (.t 4)), none, []⟩,
    ⟨(some 24), 24, (.call 29 [(.t 23)]), none, [0]⟩,
    ⟨(some 22), 22, (.mv (.t 24)), none, [1]⟩,
    ⟨(some 25), 25, (.ext 0 (.t 22)), none, [2]⟩,
    ⟨(some 26), 26, (.ext 1 (.t 22)), none, [2]⟩,
    ⟨(some 9), 9, (.mk 53 4 [[.zc, .zc, (.s (.pv (.int .i64 0))), .zc]]), none, []⟩,
    ⟨none, 106, (.store 4 (.t 9) (.t 25)), none, [5, 3, 1, 0, 1, 2, 3, 5]⟩,
    ⟨(some 10), 10, (.mv (.t 26)), none, [4, 6, 0, 1, 2, 3, 4, 5, 6]⟩])
  (.seq (.seq (.reg [⟨(some 27), 27, (.mv (.t 10)), none, []⟩,
    ⟨(some 28), 28, (.not (.t 27)), none, [0]⟩,
    ⟨(some 29), 29, (.mv (.t 28)), none, [1]⟩,
    ⟨(some 30), 30, (.mv (.t 3)), (some (29, false)), [2]⟩,
    ⟨(some 31), 31, (.len (.t 30)), (some (29, false)), [3, 2]⟩,
    ⟨(some 32), 32, (.bin false .gtr (.t 31) (.k (.c (.s (.pv (.int .i64 220)))))), (some (29, false)), [4, 2]⟩,
    ⟨(some 33), 33, (.pick (.t 29) (.k (.c (.s (.pv (.bool true))))) (.t 32)), none, [2, 5]⟩])
  (.cond (.t 33) (.seq (.reg [⟨(some 34), 34, (.call 30 []), none, []⟩,
    ⟨(some 8), 8, (.mv (.t 34)), none, [0, 0, 0]⟩])
  .ret) .skip))
  (.seq (.reg [⟨(some 36), 36, (.load true 4 (.t 4)), none, []⟩,
    ⟨(some 37), 37, (.mv (.t 1)), none, []⟩,
    ⟨(some 38), 38, (.mv (.t 2)), none, []⟩,
    ⟨(some 39), 39, (.call 36 [(.t 36), (.t 37), (.t 38)]), none, [0, 1, 2]⟩,
    ⟨(some 35), 35, (.mv (.t 39)), none, [3]⟩,
    ⟨(some 40), 40, (.ext 0 (.t 35)), none, [4]⟩,
    ⟨(some 41), 41, (.ext 1 (.t 35)), none, [4]⟩,
    ⟨(some 42), 42, (.ext 2 (.t 35)), none, [4]⟩,
    ⟨(some 11), 11, (.mk 50 4 [[.zc, .zc, (.s (.pv (.int .i64 0))), .zc]]), none, []⟩,
    ⟨(some 12), 12, (.mk 65 4 [[(.s (.pv (.int .i64 0))), (.s (.pv (.int .i64 0))), (.s (.pv (.int .i64 0))), (.s (.pv (.string ⟨#[]⟩)))]]), none, []⟩,
    ⟨none, 110, (.store 4 (.t 11) (.t 40)), none, [8, 5, 3, 0, 1, 2, 3, 4, 5, 8, 9]⟩,
    ⟨none, 111, (.store 4 (.t 12) (.t 41)), none, [9, 6, 10, 0, 1, 2, 3, 4, 5, 6, 8, 9, 10]⟩,
    ⟨(some 13), 13, (.mv (.t 42)), none, [7, 11, 0, 1, 2, 3, 4, 5, 6, 7, 8, 9, 10, 11]⟩])
  (.seq (.reg [⟨(some 44), 44, (.load true 4 (.t 9)), none, []⟩,
    ⟨(some 45), 45, (.mv (.t 1)), none, []⟩,
    ⟨(some 46), 46, (.mv (.t 2)), none, []⟩,
    ⟨(some 47), 47, (.call 37 [(.t 44), (.t 45), (.t 46)]), none, [0, 1, 2]⟩,
    ⟨(some 43), 43, (.mv (.t 47)), none, [3]⟩,
    ⟨(some 48), 48, (.ext 0 (.t 43)), none, [4]⟩,
    ⟨(some 49), 49, (.ext 1 (.t 43)), none, [4]⟩,
    ⟨(some 50), 50, (.ext 2 (.t 43)), none, [4]⟩,
    ⟨(some 14), 14, (.mk 53 4 [[.zc, .zc, (.s (.pv (.int .i64 0))), .zc]]), none, []⟩,
    ⟨(some 15), 15, (.mk 68 4 [[(.s (.pv (.int .i64 0))), (.s (.pv (.int .i64 0))), (.s (.pv (.int .i64 0))), (.s (.pv (.string ⟨#[]⟩)))]]), none, []⟩,
    ⟨none, 110, (.store 4 (.t 14) (.t 48)), none, [8, 5, 3, 0, 1, 2, 3, 4, 5, 8, 9]⟩,
    ⟨none, 111, (.store 4 (.t 15) (.t 49)), none, [9, 6, 10, 0, 1, 2, 3, 4, 5, 6, 8, 9, 10]⟩,
    ⟨(some 16), 16, (.mv (.t 50)), none, [7, 11, 0, 1, 2, 3, 4, 5, 6, 7, 8, 9, 10, 11]⟩])
  (.seq (.reg [⟨(some 52), 52, (.load true 4 (.t 11)), none, []⟩,
    ⟨(some 53), 53, (.call 29 [(.t 52)]), none, [0]⟩,
    ⟨(some 51), 51, (.mv (.t 53)), none, [1]⟩,
    ⟨(some 54), 54, (.ext 0 (.t 51)), none, [2]⟩,
    ⟨(some 55), 55, (.ext 1 (.t 51)), none, [2]⟩,
    ⟨(some 17), 17, (.mk 53 4 [[.zc, .zc, (.s (.pv (.int .i64 0))), .zc]]), none, []⟩,
    ⟨none, 106, (.store 4 (.t 17) (.t 54)), none, [5, 3, 1, 0, 1, 2, 3, 5]⟩,
    ⟨(some 18), 18, (.mv (.t 55)), none, [4, 6, 0, 1, 2, 3, 4, 5, 6]⟩])
  (.seq (.seq (.reg [⟨(some 56), 56, (.mv (.t 18)), none, []⟩,
    ⟨(some 57), 57, (.not (.t 56)), none, [0]⟩,
    ⟨(some 58), 58, (.mv (.t 57)), none, [1]⟩,
    ⟨(some 59), 59, (.load true 4 (.t 17)), (some (58, false)), [2]⟩,
    ⟨(some 60), 60, (.load true 4 (.t 14)), (some (58, false)), [2]⟩,
    ⟨(some 61), 61, (.call 33 [(.t 59), (.t 60)]), (some (58, false)), [3, 4, 2, 2]⟩,
    ⟨(some 62), 62, (.not (.t 61)), (some (58, false)), [5, 2]⟩,
    ⟨(some 63), 63, (.pick (.t 58) (.k (.c (.s (.pv (.bool true))))) (.t 62)), none, [2, 6]⟩,
    ⟨(some 64), 64, (.mv (.t 63)), none, [7, 5]⟩,
    ⟨(some 65), 65, (.load true 4 (.t 12)), (some (64, false)), [8]⟩,
    ⟨(some 66), 66, (.load true 4 (.t 15)), (some (64, false)), [8]⟩,
    ⟨(some 67), 67, (.eqs true 68 (.t 65) (.t 66)), (some (64, false)), [9, 10, 8]⟩,
    ⟨(some 68), 68, (.pick (.t 64) (.k (.c (.s (.pv (.bool true))))) (.t 67)), none, [8, 11]⟩,
    ⟨(some 69), 69, (.mv (.t 68)), none, [12, 8]⟩,
    ⟨(some 70), 70, (.mv (.t 13)), (some (69, false)), [13]⟩,
    ⟨(some 71), 71, (.mv (.t 16)), (some (69, false)), [13]⟩,
    ⟨(some 72), 72, (.bin false .neq (.t 70) (.t 71)), (some (69, false)), [14, 15, 13]⟩,
    ⟨(some 73), 73, (.pick (.t 69) (.k (.c (.s (.pv (.bool true))))) (.t 72)), none, [13, 16]⟩])
  (.cond (.t 73) (.seq (.reg [⟨(some 8), 8, (.mv (.k (.c (.s (.pv (.bool false)))))), none, []⟩])
  .ret) .skip))
  (.seq (.reg [⟨(some 75), 75, (.load true 4 (.t 4)), none, []⟩,
    ⟨(some 76), 76, (.mv (.t 3)), none, []⟩,
    ⟨(some 77), 77, (.call 38 [(.t 75), (.t 76)]), none, [0, 1]⟩,
    ⟨(some 78), 78, (.call 29 [(.t 77)]), none, [2, 2]⟩,
    ⟨(some 74), 74, (.mv (.t 78)), none, [3]⟩,
    ⟨(some 79), 79, (.ext 0 (.t 74)), none, [4]⟩,
    ⟨(some 80), 80, (.ext 1 (.t 74)), none, [4]⟩,
    ⟨(some 19), 19, (.mk 53 4 [[.zc, .zc, (.s (.pv (.int .i64 0))), .zc]]), none, []⟩,
    ⟨none, 108, (.store 4 (.t 19) (.t 79)), none, [7, 5, 3, 0, 1, 2, 3, 4, 5, 7]⟩,
    ⟨(some 20), 20, (.mv (.t 80)), none, [6, 8, 0, 1, 2, 3, 4, 5, 6, 7, 8]⟩])
  (.seq (.reg [⟨(some 81), 81, (.load true 4 (.t 9)), none, []⟩,
    ⟨(some 21), 21, (.mk 53 4 [[.zc, .zc, (.s (.pv (.int .i64 0))), .zc]]), none, []⟩,
    ⟨none, 102, (.store 4 (.t 21) (.t 81)), none, [1, 0, 0, 1]⟩])
  (.seq (.seq (.reg [⟨(some 82), 82, (.load true 4 (.t 9)), none, []⟩,
    ⟨(some 83), 83, (.call 35 [(.t 82)]), none, [0]⟩])
  (.cond (.t 83) (.draw [⟨(some 84), 84, (.fld 0 (.t 4)), none, []⟩,
    ⟨(some 85), 85, (.load true 2 (.t 84)), none, [0]⟩,
    ⟨(some 86), 86, (.mv (.t 3)), none, []⟩,
    ⟨(some 87), 87, (.call 26 [(.t 85), (.t 86)]), none, [1, 2]⟩,
    ⟨(some 88), 88, (.fld 2 (.t 4)), none, []⟩,
    ⟨(some 89), 89, (.load false 1 (.t 88)), none, [4]⟩,
    ⟨(some 90), 90, (.build [.zc, .zc, (.s (.pv (.int .i64 0))), .zc] [(0, 2, (.t 87)), (2, 1, (.t 89))]), none, [3, 5]⟩,
    ⟨none, 107, (.store 4 (.t 21) (.t 90)), none, [6, 3, 0, 1, 2, 3, 4, 5, 6]⟩]) .skip))
  (.seq (.reg [⟨(some 91), 91, (.mv (.t 20)), none, []⟩,
    ⟨(some 92), 92, (.mv (.t 91)), none, [0]⟩,
    ⟨(some 93), 93, (.load true 4 (.t 19)), (some (92, true)), [1]⟩,
    ⟨(some 94), 94, (.load true 4 (.t 21)), (some (92, true)), [1]⟩,
    ⟨(some 95), 95, (.call 33 [(.t 93), (.t 94)]), (some (92, true)), [2, 3, 1, 1]⟩,
    ⟨(some 96), 96, (.pick (.t 92) (.t 95) (.k (.c (.s (.pv (.bool false)))))), none, [1, 4]⟩,
    ⟨(some 97), 97, (.mv (.t 96)), none, [5, 4]⟩,
    ⟨(some 98), 98, (.call 30 []), (some (97, true)), [6, 6]⟩,
    ⟨(some 99), 99, (.pick (.t 97) (.t 98) (.k (.c (.s (.pv (.bool false)))))), none, [6, 7]⟩,
    ⟨(some 8), 8, (.mv (.t 99)), none, [8, 7, 0, 1, 2, 3, 4, 5, 6, 7, 8]⟩])
  .ret)))))))))))
theorem fn11 : FnIs Try.prog 11 ac11 [(.t 8)] 100 := ⟨Try.f11, Try.func11, by kernel_rfl, by kernel_rfl, by kernel_rfl⟩
/- lockkeeper/lockkeeperlaw04.DeviceOnce -/
def ac12 : ACode := (.seq (.reg [⟨(some 2), 2, (.mv (.k (.c (.s (.pv (.bool false)))))), none, []⟩])
  (.seq (.reg [⟨(some 20), 20, (.call 39 []), none, []⟩,
    ⟨(some 3), 3, (.mk 50 4 [[.zc, .zc, (.s (.pv (.int .i64 0))), .zc]]), none, []⟩,
    ⟨none, 219, (.store 4 (.t 3) (.t 20)), none, [1, 0, 0, 0, 1]⟩])
  (.seq (.reg [⟨(some 4), 4, (.mk 75 1 [[(.s (.pv (.bool false)))], [(.s (.pv (.bool false)))], [(.s (.pv (.bool false)))], [(.s (.pv (.bool false)))], [(.s (.pv (.bool false)))], [(.s (.pv (.bool false)))], [(.s (.pv (.bool false)))], [(.s (.pv (.bool false)))], [(.s (.pv (.bool false)))], [(.s (.pv (.bool false)))], [(.s (.pv (.bool false)))], [(.s (.pv (.bool false)))], [(.s (.pv (.bool false)))], [(.s (.pv (.bool false)))], [(.s (.pv (.bool false)))], [(.s (.pv (.bool false)))], [(.s (.pv (.bool false)))], [(.s (.pv (.bool false)))], [(.s (.pv (.bool false)))], [(.s (.pv (.bool false)))], [(.s (.pv (.bool false)))], [(.s (.pv (.bool false)))], [(.s (.pv (.bool false)))], [(.s (.pv (.bool false)))], [(.s (.pv (.bool false)))], [(.s (.pv (.bool false)))], [(.s (.pv (.bool false)))], [(.s (.pv (.bool false)))], [(.s (.pv (.bool false)))], [(.s (.pv (.bool false)))], [(.s (.pv (.bool false)))], [(.s (.pv (.bool false)))], [(.s (.pv (.bool false)))], [(.s (.pv (.bool false)))], [(.s (.pv (.bool false)))], [(.s (.pv (.bool false)))], [(.s (.pv (.bool false)))], [(.s (.pv (.bool false)))], [(.s (.pv (.bool false)))], [(.s (.pv (.bool false)))], [(.s (.pv (.bool false)))], [(.s (.pv (.bool false)))], [(.s (.pv (.bool false)))], [(.s (.pv (.bool false)))], [(.s (.pv (.bool false)))], [(.s (.pv (.bool false)))], [(.s (.pv (.bool false)))], [(.s (.pv (.bool false)))], [(.s (.pv (.bool false)))], [(.s (.pv (.bool false)))], [(.s (.pv (.bool false)))], [(.s (.pv (.bool false)))], [(.s (.pv (.bool false)))], [(.s (.pv (.bool false)))], [(.s (.pv (.bool false)))], [(.s (.pv (.bool false)))], [(.s (.pv (.bool false)))], [(.s (.pv (.bool false)))], [(.s (.pv (.bool false)))], [(.s (.pv (.bool false)))], [(.s (.pv (.bool false)))]]), none, []⟩])
  (.seq (.reg [⟨(some 5), 5, (.mk 76 1 [[(.s (.pv (.string ⟨#[]⟩)))], [(.s (.pv (.string ⟨#[]⟩)))], [(.s (.pv (.string ⟨#[]⟩)))], [(.s (.pv (.string ⟨#[]⟩)))], [(.s (.pv (.string ⟨#[]⟩)))]]), none, []⟩])
  (.seq (.reg [⟨(some 6), 6, (.mv (.k (.c (.s (.pv (.int .i64 0)))))), none, []⟩])
  (.seq (.seq (.reg [⟨(some 7), 7, (.mv (.k (.c (.s (.pv (.int .i64 0)))))), none, []⟩])
  (.block 0 (.loop (.seq (.seq (.reg [⟨(some 21), 21, (.mv (.t 7)), none, []⟩,
    ⟨(some 22), 22, (.mv (.t 0)), none, []⟩,
    ⟨(some 23), 23, (.len (.t 22)), none, [1]⟩,
    ⟨(some 24), 24, (.bin false .lss (.t 21) (.t 23)), none, [0, 2]⟩,
    ⟨(some 25), 25, (.mv (.t 24)), none, [3]⟩,
    ⟨(some 26), 26, (.mv (.t 7)), (some (25, true)), [4]⟩,
    ⟨(some 27), 27, (.bin false .lss (.t 26) (.k (.c (.s (.pv (.int .i64 60)))))), (some (25, true)), [5, 4]⟩,
    ⟨(some 28), 28, (.pick (.t 25) (.t 27) (.k (.c (.s (.pv (.bool false)))))), none, [4, 6]⟩])
  (.cond (.t 28) .skip (.exit 0)))
  (.seq (.block 1 (.seq (.draw [⟨(some 31), 31, (.mv (.t 0)), none, []⟩,
    ⟨(some 32), 32, (.mv (.t 7)), none, []⟩,
    ⟨(some 33), 33, (.idx 2 (.t 31) (.t 32)), none, [0, 1]⟩,
    ⟨(some 34), 34, (.aidx 2 1 (.t 33) (.k (.c (.s (.pv (.int .i64 0)))))), none, [2]⟩,
    ⟨(some 35), 35, (.load false 1 (.t 34)), none, [3]⟩,
    ⟨(some 36), 36, (.bin false .rem (.t 35) (.k (.c (.s (.pv (.int .u8 5)))))), none, [4]⟩,
    ⟨(some 37), 37, (.conv .i64 (.t 36)), none, [5]⟩,
    ⟨(some 38), 38, (.mv (.t 0)), none, []⟩,
    ⟨(some 39), 39, (.mv (.t 7)), none, []⟩,
    ⟨(some 40), 40, (.idx 2 (.t 38) (.t 39)), none, [7, 8]⟩,
    ⟨(some 41), 41, (.aidx 2 1 (.t 40) (.k (.c (.s (.pv (.int .i64 1)))))), none, [9]⟩,
    ⟨(some 42), 42, (.load false 1 (.t 41)), none, [10]⟩,
    ⟨(some 43), 43, (.conv .i64 (.t 42)), none, [11]⟩,
    ⟨(some 8), 8, (.mv (.t 37)), none, [6, 0, 1, 2, 3, 4, 5, 6]⟩,
    ⟨(some 9), 9, (.mv (.t 43)), none, [12, 13, 0, 1, 2, 3, 4, 5, 6, 7, 8, 9, 10, 11, 12, 13]⟩])
  (.seq (.seq (.reg [⟨(some 44), 44, (.mv (.t 8)), none, []⟩,
    ⟨(some 45), 45, (.bin false .lss (.t 44) (.k (.c (.s (.pv (.int .i64 3)))))), none, [0]⟩])
  (.cond (.t 45) (.seq (.reg [⟨(some 10), 10, (.mv (.k (.c (.s (.pv (.string ⟨#[]⟩)))))), none, []⟩])
  (.seq (.reg [⟨(some 46), 46, (.mv (.t 9)), none, []⟩,
    ⟨(some 47), 47, (.bin false .rem (.t 46) (.k (.c (.s (.pv (.int .i64 4)))))), none, [0]⟩,
    ⟨(some 48), 48, (.bin false .add (.k (.c (.s (.pv (.int .i64 1))))) (.t 47)), none, [1]⟩,
    ⟨(some 11), 11, (.mv (.t 48)), none, [2, 0, 1, 2]⟩])
  (.seq (.seq (.reg [⟨(some 49), 49, (.mv (.t 8)), none, []⟩,
    ⟨(some 50), 50, (.bin false .eql (.t 49) (.k (.c (.s (.pv (.int .i64 1)))))), none, [0]⟩])
  (.cond (.t 50) (.seq (.reg [⟨(some 51), 51, (.mv (.t 7)), none, []⟩,
    ⟨(some 52), 52, (.bin false .rem (.t 51) (.k (.c (.s (.pv (.int .i64 26)))))), none, [0]⟩,
    ⟨(some 53), 53, (.bin false .add (.k (.c (.s (.pv (.int .i64 97))))) (.t 52)), none, [1]⟩,
    ⟨(some 54), 54, (.conv .u8 (.t 53)), none, [2]⟩,
    ⟨(some 55), 55, (.mv (.t 7)), none, []⟩,
    ⟨(some 56), 56, (.bin false .quo (.t 55) (.k (.c (.s (.pv (.int .i64 26)))))), none, [4]⟩,
    ⟨(some 57), 57, (.bin false .add (.k (.c (.s (.pv (.int .i64 48))))) (.t 56)), none, [5]⟩,
    ⟨(some 58), 58, (.conv .u8 (.t 57)), none, [6]⟩,
    ⟨(some 59), 59, (.bslice 5 1 [(.s (.pv (.int .u8 0)))] 2 [(0, 1, (.t 54)), (1, 1, (.t 58))]), none, [3, 7]⟩,
    ⟨(some 60), 60, (.b2s (.t 59)), none, [8]⟩,
    ⟨(some 12), 12, (.mv (.t 60)), none, [9, 0, 1, 2, 3, 4, 5, 6, 7, 8, 9]⟩])
  (.reg [⟨(some 61), 61, (.mv (.t 12)), none, []⟩,
    ⟨(some 62), 62, (.mv (.t 12)), none, []⟩,
    ⟨(some 63), 63, (.bin false .add (.t 61) (.t 62)), none, [0, 1]⟩,
    ⟨(some 64), 64, (.mv (.t 12)), none, []⟩,
    ⟨(some 65), 65, (.bin false .add (.t 63) (.t 64)), none, [2, 3]⟩,
    ⟨(some 66), 66, (.mv (.t 12)), none, []⟩,
    ⟨(some 67), 67, (.bin false .add (.t 65) (.t 66)), none, [4, 5]⟩,
    ⟨(some 68), 68, (.mv (.t 12)), none, []⟩,
    ⟨(some 69), 69, (.bin false .add (.t 67) (.t 68)), none, [6, 7]⟩,
    ⟨(some 70), 70, (.mv (.t 12)), none, []⟩,
    ⟨(some 71), 71, (.bin false .add (.t 69) (.t 70)), none, [8, 9]⟩,
    ⟨(some 72), 72, (.mv (.t 12)), none, []⟩,
    ⟨(some 73), 73, (.bin false .add (.t 71) (.t 72)), none, [10, 11]⟩,
    ⟨(some 74), 74, (.mv (.t 12)), none, []⟩,
    ⟨(some 75), 75, (.bin false .add (.t 73) (.t 74)), none, [12, 13]⟩,
    ⟨(some 76), 76, (.mv (.t 12)), none, []⟩,
    ⟨(some 77), 77, (.bin false .add (.t 75) (.t 76)), none, [14, 15]⟩,
    ⟨(some 78), 78, (.mv (.t 12)), none, []⟩,
    ⟨(some 79), 79, (.bin false .add (.t 77) (.t 78)), none, [16, 17]⟩,
    ⟨(some 80), 80, (.mv (.t 12)), none, []⟩,
    ⟨(some 81), 81, (.bin false .add (.t 79) (.t 80)), none, [18, 19]⟩,
    ⟨(some 82), 82, (.mv (.t 12)), none, []⟩,
    ⟨(some 83), 83, (.bin false .add (.t 81) (.t 82)), none, [20, 21]⟩,
    ⟨(some 84), 84, (.mv (.t 12)), none, []⟩,
    ⟨(some 85), 85, (.bin false .add (.t 83) (.t 84)), none, [22, 23]⟩,
    ⟨(some 86), 86, (.mv (.t 12)), none, []⟩,
    ⟨(some 87), 87, (.bin false .add (.t 85) (.t 86)), none, [24, 25]⟩,
    ⟨(some 88), 88, (.mv (.t 12)), none, []⟩,
    ⟨(some 89), 89, (.bin false .add (.t 87) (.t 88)), none, [26, 27]⟩,
    ⟨(some 90), 90, (.mv (.t 12)), none, []⟩,
    ⟨(some 91), 91, (.bin false .add (.t 89) (.t 90)), none, [28, 29]⟩,
    ⟨(some 10), 10, (.mv (.t 91)), none, [30, 0, 1, 2, 3, 4, 5, 6, 7, 8, 9, 10, 11, 12, 13, 14, 15, 16, 17, 18, 19, 20, 21, 22, 23, 24, 25, 26, 27, 28, 29, 30]⟩])) .skip))
  (.seq (.seq (.reg [⟨(some 92), 92, (.mv (.t 8)), none, []⟩,
    ⟨(some 93), 93, (.bin false .eql (.t 92) (.k (.c (.s (.pv (.int .i64 2)))))), none, [0]⟩])
  (.cond (.t 93) (.reg [⟨(some 11), 11, (.mv (.k (.c (.s (.pv (.int .i64 0)))))), none, []⟩]) .skip))
  (.seq (.reg [⟨(some 94), 94, (.fld 3 (.t 3)), none, []⟩,
    ⟨(some 95), 95, (.load false 1 (.t 94)), none, [0]⟩,
    ⟨(some 96), 96, (.len (.t 95)), none, [1]⟩,
    ⟨(some 13), 13, (.mv (.t 96)), none, [2, 0, 1, 2]⟩])
  (.seq (.reg [⟨(some 98), 98, (.load true 4 (.t 3)), none, []⟩,
    ⟨(some 99), 99, (.mv (.t 8)), none, []⟩,
    ⟨(some 100), 100, (.bin false .add (.t 99) (.k (.c (.s (.pv (.int .i64 1)))))), none, [1]⟩,
    ⟨(some 101), 101, (.mv (.t 11)), none, []⟩,
    ⟨(some 102), 102, (.mv (.t 10)), none, []⟩,
    ⟨(some 103), 103, (.call 31 [(.t 98), (.t 100), (.t 101), (.t 102)]), none, [0, 2, 3, 4]⟩,
    ⟨(some 97), 97, (.mv (.t 103)), none, [5]⟩,
    ⟨(some 104), 104, (.ext 0 (.t 97)), none, [6]⟩,
    ⟨(some 105), 105, (.ext 1 (.t 97)), none, [6]⟩,
    ⟨(some 106), 106, (.ext 2 (.t 97)), none, [6]⟩,
    ⟨(some 14), 14, (.mk 50 4 [[.zc, .zc, (.s (.pv (.int .i64 0))), .zc]]), none, []⟩,
    ⟨none, 228, (.store 4 (.t 14) (.t 104)), none, [10, 7, 5, 0, 1, 2, 3, 4, 5, 6, 7, 10]⟩,
    ⟨(some 15), 15, (.mv (.t 105)), none, [8, 11, 0, 1, 2, 3, 4, 5, 6, 7, 8, 10, 11]⟩,
    ⟨(some 16), 16, (.mv (.t 106)), none, [9, 12, 0, 1, 2, 3, 4, 5, 6, 7, 8, 9, 10, 11, 12]⟩])
  (.seq (.seq (.reg [⟨(some 107), 107, (.mv (.t 16)), none, []⟩,
    ⟨(some 108), 108, (.bin false .eql (.t 107) (.k (.c (.s (.pv (.int .i64 0)))))), none, [0]⟩,
    ⟨(some 109), 109, (.mv (.t 13)), none, []⟩,
    ⟨(some 110), 110, (.bin false .lss (.t 109) (.k (.c (.s (.pv (.int .i64 4)))))), none, [2]⟩,
    ⟨(some 111), 111, (.bin true .neq (.t 108) (.t 110)), none, [1, 3]⟩,
    ⟨(some 112), 112, (.mv (.t 111)), none, [4]⟩,
    ⟨(some 113), 113, (.mv (.t 16)), (some (112, false)), [5]⟩,
    ⟨(some 114), 114, (.bin false .eql (.t 113) (.k (.c (.s (.pv (.int .i64 0)))))), (some (112, false)), [6, 5]⟩,
    ⟨(some 115), 115, (.mv (.t 114)), (some (112, false)), [7, 5, 5]⟩,
    ⟨(some 116), 116, (.mv (.t 15)), (some (115, true)), [8]⟩,
    ⟨(some 117), 117, (.mv (.t 6)), (some (115, true)), [8]⟩,
    ⟨(some 118), 118, (.bin false .neq (.t 116) (.t 117)), (some (115, true)), [9, 10, 8]⟩,
    ⟨(some 119), 119, (.pick (.t 115) (.t 118) (.k (.c (.s (.pv (.bool false)))))), (some (112, false)), [8, 11, 5]⟩,
    ⟨(some 120), 120, (.pick (.t 112) (.k (.c (.s (.pv (.bool true))))) (.t 119)), none, [5, 12]⟩])
  (.cond (.t 120) (.seq (.reg [⟨(some 2), 2, (.mv (.k (.c (.s (.pv (.bool false)))))), none, []⟩])
  .ret) .skip))
  (.seq (.seq (.reg [⟨(some 121), 121, (.mv (.t 16)), none, []⟩,
    ⟨(some 122), 122, (.bin false .eql (.t 121) (.k (.c (.s (.pv (.int .i64 0)))))), none, [0]⟩])
  (.cond (.t 122) (.reg [⟨(some 123), 123, (.mv (.t 6)), none, []⟩,
    ⟨(some 124), 124, (.bin false .add (.t 123) (.k (.c (.s (.pv (.int .i64 1)))))), none, [0]⟩,
    ⟨(some 6), 6, (.mv (.t 124)), none, [1, 0, 1]⟩]) .skip))
  (.seq (.reg [⟨(some 125), 125, (.load true 4 (.t 14)), none, []⟩,
    ⟨none, 218, (.store 4 (.t 3) (.t 125)), none, [0, 0]⟩])
  (.exit 1)))))))))) .skip))
  (.seq (.seq (.reg [⟨(some 126), 126, (.fld 3 (.t 3)), none, []⟩,
    ⟨(some 127), 127, (.load false 1 (.t 126)), none, [0]⟩,
    ⟨(some 128), 128, (.len (.t 127)), none, [1]⟩,
    ⟨(some 129), 129, (.bin false .eql (.t 128) (.k (.c (.s (.pv (.int .i64 0)))))), none, [2]⟩])
  (.cond (.t 129) (.exit 1) .skip))
  (.seq (.draw [⟨(some 131), 131, (.load true 4 (.t 3)), none, []⟩,
    ⟨(some 132), 132, (.mv (.t 9)), none, []⟩,
    ⟨(some 133), 133, (.fld 3 (.t 3)), none, []⟩,
    ⟨(some 134), 134, (.load false 1 (.t 133)), none, [2]⟩,
    ⟨(some 135), 135, (.len (.t 134)), none, [3]⟩,
    ⟨(some 136), 136, (.bin false .rem (.t 132) (.t 135)), none, [1, 4]⟩,
    ⟨(some 137), 137, (.mv (.t 8)), none, []⟩,
    ⟨(some 138), 138, (.bin false .eql (.t 137) (.k (.c (.s (.pv (.int .i64 4)))))), none, [6]⟩,
    ⟨(some 139), 139, (.call 36 [(.t 131), (.t 136), (.t 138)]), none, [0, 5, 7]⟩,
    ⟨(some 130), 130, (.mv (.t 139)), none, [8]⟩,
    ⟨(some 140), 140, (.ext 0 (.t 130)), none, [9]⟩,
    ⟨(some 141), 141, (.ext 1 (.t 130)), none, [9]⟩,
    ⟨(some 142), 142, (.ext 2 (.t 130)), none, [9]⟩,
    ⟨(some 17), 17, (.mk 50 4 [[.zc, .zc, (.s (.pv (.int .i64 0))), .zc]]), none, []⟩,
    ⟨(some 18), 18, (.mk 65 4 [[(.s (.pv (.int .i64 0))), (.s (.pv (.int .i64 0))), (.s (.pv (.int .i64 0))), (.s (.pv (.string ⟨#[]⟩)))]]), none, []⟩,
    ⟨none, 232, (.store 4 (.t 17) (.t 140)), none, [13, 10, 8, 0, 1, 2, 3, 4, 5, 6, 7, 8, 9, 10, 13, 14]⟩,
    ⟨none, 233, (.store 4 (.t 18) (.t 141)), none, [14, 11, 15, 0, 1, 2, 3, 4, 5, 6, 7, 8, 9, 10, 11, 13, 14, 15]⟩,
    ⟨(some 19), 19, (.mv (.t 142)), none, [12, 16, 0, 1, 2, 3, 4, 5, 6, 7, 8, 9, 10, 11, 12, 13, 14, 15, 16]⟩])
  (.seq (.reg [⟨(some 143), 143, (.load true 4 (.t 17)), none, []⟩,
    ⟨none, 218, (.store 4 (.t 3) (.t 143)), none, [0, 0]⟩])
  (.seq (.seq (.reg [⟨(some 144), 144, (.fld 0 (.t 18)), none, []⟩,
    ⟨(some 145), 145, (.load false 1 (.t 144)), none, [0]⟩,
    ⟨(some 146), 146, (.bin false .lss (.t 145) (.k (.c (.s (.pv (.int .i64 0)))))), none, [1]⟩,
    ⟨(some 147), 147, (.mv (.t 146)), none, [2]⟩,
    ⟨(some 148), 148, (.fld 0 (.t 18)), (some (147, false)), [3]⟩,
    ⟨(some 149), 149, (.load false 1 (.t 148)), (some (147, false)), [4, 3]⟩,
    ⟨(some 150), 150, (.mv (.t 6)), (some (147, false)), [3]⟩,
    ⟨(some 151), 151, (.bin false .geq (.t 149) (.t 150)), (some (147, false)), [5, 6, 3]⟩,
    ⟨(some 152), 152, (.pick (.t 147) (.k (.c (.s (.pv (.bool true))))) (.t 151)), none, [3, 7]⟩,
    ⟨(some 153), 153, (.mv (.t 152)), none, [8, 3]⟩,
    ⟨(some 154), 154, (.fld 0 (.t 18)), (some (153, false)), [9]⟩,
    ⟨(some 155), 155, (.load false 1 (.t 154)), (some (153, false)), [10, 9]⟩,
    ⟨(some 156), 156, (.aidx 61 1 (.t 4) (.t 155)), (some (153, false)), [11, 9]⟩,
    ⟨(some 157), 157, (.load false 1 (.t 156)), (some (153, false)), [12, 9]⟩,
    ⟨(some 158), 158, (.pick (.t 153) (.k (.c (.s (.pv (.bool true))))) (.t 157)), none, [9, 13]⟩,
    ⟨(some 159), 159, (.mv (.t 158)), none, [14, 9]⟩,
    ⟨(some 160), 160, (.mv (.t 19)), (some (159, false)), [15]⟩,
    ⟨(some 161), 161, (.bin false .eql (.t 160) (.k (.c (.s (.pv (.int .i64 8)))))), (some (159, false)), [16, 15]⟩,
    ⟨(some 162), 162, (.mv (.t 8)), (some (159, false)), [15]⟩,
    ⟨(some 163), 163, (.bin false .eql (.t 162) (.k (.c (.s (.pv (.int .i64 4)))))), (some (159, false)), [18, 15]⟩,
    ⟨(some 164), 164, (.bin true .neq (.t 161) (.t 163)), (some (159, false)), [17, 19, 15]⟩,
    ⟨(some 165), 165, (.pick (.t 159) (.k (.c (.s (.pv (.bool true))))) (.t 164)), none, [15, 20]⟩,
    ⟨(some 166), 166, (.mv (.t 165)), none, [21, 15]⟩,
    ⟨(some 167), 167, (.mv (.t 19)), (some (166, false)), [22]⟩,
    ⟨(some 168), 168, (.bin false .neq (.t 167) (.k (.c (.s (.pv (.int .i64 0)))))), (some (166, false)), [23, 22]⟩,
    ⟨(some 169), 169, (.mv (.t 168)), (some (166, false)), [24, 22, 22]⟩,
    ⟨(some 170), 170, (.mv (.t 19)), (some (169, true)), [25]⟩,
    ⟨(some 171), 171, (.bin false .neq (.t 170) (.k (.c (.s (.pv (.int .i64 8)))))), (some (169, true)), [26, 25]⟩,
    ⟨(some 172), 172, (.pick (.t 169) (.t 171) (.k (.c (.s (.pv (.bool false)))))), (some (166, false)), [25, 27, 22]⟩,
    ⟨(some 173), 173, (.pick (.t 166) (.k (.c (.s (.pv (.bool true))))) (.t 172)), none, [22, 28]⟩])
  (.cond (.t 173) (.seq (.reg [⟨(some 2), 2, (.mv (.k (.c (.s (.pv (.bool false)))))), none, []⟩])
  .ret) .skip))
  (.seq (.reg [⟨(some 174), 174, (.fld 0 (.t 18)), none, []⟩,
    ⟨(some 175), 175, (.load false 1 (.t 174)), none, [0]⟩,
    ⟨(some 176), 176, (.aidx 61 1 (.t 4) (.t 175)), none, [1, 0, 1]⟩,
    ⟨none, 220, (.store 1 (.t 176) (.k (.c (.s (.pv (.bool true)))))), none, [2, 0, 1]⟩])
  (.seq (.seq (.reg [⟨(some 177), 177, (.mv (.t 19)), none, []⟩,
    ⟨(some 178), 178, (.bin false .neq (.t 177) (.k (.c (.s (.pv (.int .i64 0)))))), none, [0]⟩,
    ⟨(some 179), 179, (.mv (.t 178)), none, [1]⟩,
    ⟨(some 180), 180, (.fld 2 (.t 18)), (some (179, false)), [2]⟩,
    ⟨(some 181), 181, (.load false 1 (.t 180)), (some (179, false)), [3, 2]⟩,
    ⟨(some 182), 182, (.bin false .lss (.t 181) (.k (.c (.s (.pv (.int .i64 0)))))), (some (179, false)), [4, 2]⟩,
    ⟨(some 183), 183, (.pick (.t 179) (.k (.c (.s (.pv (.bool true))))) (.t 182)), none, [2, 5]⟩,
    ⟨(some 184), 184, (.mv (.t 183)), none, [6, 2]⟩,
    ⟨(some 185), 185, (.fld 2 (.t 18)), (some (184, false)), [7]⟩,
    ⟨(some 186), 186, (.load false 1 (.t 185)), (some (184, false)), [8, 7]⟩,
    ⟨(some 187), 187, (.bin false .gtr (.t 186) (.k (.c (.s (.pv (.int .i64 4)))))), (some (184, false)), [9, 7]⟩,
    ⟨(some 188), 188, (.pick (.t 184) (.k (.c (.s (.pv (.bool true))))) (.t 187)), none, [7, 10]⟩])
  (.cond (.t 188) (.exit 1) .skip))
  (.seq (.seq (.reg [⟨(some 189), 189, (.fld 1 (.t 18)), none, []⟩,
    ⟨(some 190), 190, (.load false 1 (.t 189)), none, [0]⟩,
    ⟨(some 191), 191, (.bin false .eql (.t 190) (.k (.c (.s (.pv (.int .i64 2)))))), none, [1]⟩])
  (.cond (.t 191) (.reg [⟨(some 192), 192, (.fld 2 (.t 18)), none, []⟩,
    ⟨(some 193), 193, (.load false 1 (.t 192)), none, [0]⟩,
    ⟨(some 194), 194, (.fld 3 (.t 18)), none, []⟩,
    ⟨(some 195), 195, (.load false 1 (.t 194)), none, [2]⟩,
    ⟨(some 196), 196, (.aidx 5 1 (.t 5) (.t 193)), none, [1, 0, 1, 2, 3]⟩,
    ⟨none, 222, (.store 1 (.t 196) (.t 195)), none, [4, 3, 0, 1, 2, 3]⟩]) .skip))
  (.seq (.draw [⟨(some 197), 197, (.fld 1 (.t 18)), none, []⟩,
    ⟨(some 198), 198, (.load false 1 (.t 197)), none, [0]⟩,
    ⟨(some 199), 199, (.bin false .eql (.t 198) (.k (.c (.s (.pv (.int .i64 1)))))), none, [1]⟩,
    ⟨(some 200), 200, (.mv (.t 199)), none, [2]⟩,
    ⟨(some 201), 201, (.fld 2 (.t 18)), (some (200, true)), [3]⟩,
    ⟨(some 202), 202, (.load false 1 (.t 201)), (some (200, true)), [4, 3]⟩,
    ⟨(some 203), 203, (.aidx 5 1 (.t 5) (.t 202)), (some (200, true)), [5, 3]⟩,
    ⟨(some 204), 204, (.load false 1 (.t 203)), (some (200, true)), [6, 3]⟩,
    ⟨(some 205), 205, (.bin false .neq (.t 204) (.k (.c (.s (.pv (.string ⟨#[]⟩)))))), (some (200, true)), [7, 3]⟩,
    ⟨(some 206), 206, (.pick (.t 200) (.t 205) (.k (.c (.s (.pv (.bool false)))))), none, [3, 8]⟩,
    ⟨(some 207), 207, (.mv (.t 206)), none, [9, 3]⟩,
    ⟨(some 208), 208, (.fld 3 (.t 18)), (some (207, true)), [10]⟩,
    ⟨(some 209), 209, (.load false 1 (.t 208)), (some (207, true)), [11, 10]⟩,
    ⟨(some 210), 210, (.fld 2 (.t 18)), (some (207, true)), [10]⟩,
    ⟨(some 211), 211, (.load false 1 (.t 210)), (some (207, true)), [13, 10]⟩,
    ⟨(some 212), 212, (.aidx 5 1 (.t 5) (.t 211)), (some (207, true)), [14, 10]⟩,
    ⟨(some 213), 213, (.load false 1 (.t 212)), (some (207, true)), [15, 10]⟩,
    ⟨(some 214), 214, (.bin false .neq (.t 209) (.t 213)), (some (207, true)), [12, 16, 10]⟩,
    ⟨(some 215), 215, (.pick (.t 207) (.t 214) (.k (.c (.s (.pv (.bool false)))))), none, [10, 17]⟩])
  (.cond (.t 215) (.seq (.reg [⟨(some 2), 2, (.mv (.k (.c (.s (.pv (.bool false)))))), none, []⟩])
  .ret) .skip))))))))))))
  (.reg [⟨(some 29), 29, (.mv (.t 7)), none, []⟩,
    ⟨(some 30), 30, (.bin false .add (.t 29) (.k (.c (.s (.pv (.int .i64 1)))))), none, [0]⟩,
    ⟨(some 7), 7, (.mv (.t 30)), none, [1, 0, 1]⟩]))))))
  (.seq (.reg [⟨(some 216), 216, (.call 30 []), none, []⟩,
    ⟨(some 2), 2, (.mv (.t 216)), none, [0, 0, 0]⟩])
  .ret)))))))
theorem fn12 : FnIs Try.prog 12 ac12 [(.t 2)] 217 := ⟨Try.f12, Try.func12, by kernel_rfl, by kernel_rfl, by kernel_rfl⟩
/- lockkeeper/lockkeeperlaw04.DeviceFault -/
def ac13 : ACode := (.seq (.reg [⟨(some 2), 2, (.box 50 4 (.t 0)), none, []⟩,
    ⟨(some 4), 4, (.mv (.k (.c (.s (.pv (.bool false)))))), none, []⟩])
  (.seq (.reg [⟨(some 14), 14, (.load true 4 (.t 2)), none, []⟩,
    ⟨(some 15), 15, (.call 29 [(.t 14)]), none, [0]⟩,
    ⟨(some 13), 13, (.mv (.t 15)), none, [1]⟩,
    ⟨(some 16), 16, (.ext 0 (.t 13)), none, [2]⟩,
    ⟨(some 17), 17, (.ext 1 (.t 13)), none, [2]⟩,
    ⟨(some 5), 5, (.mk 53 4 [[.zc, .zc, (.s (.pv (.int .i64 0))), .zc]]), none, []⟩,
    ⟨none, 139, (.store 4 (.t 5) (.t 16)), none, [5, 3, 1, 0, 1, 2, 3, 5]⟩,
    ⟨(some 6), 6, (.mv (.t 17)), none, [4, 6, 0, 1, 2, 3, 4, 5, 6]⟩])
  (.seq (.seq (.reg [⟨(some 18), 18, (.mv (.t 6)), none, []⟩,
    ⟨(some 19), 19, (.not (.t 18)), none, [0]⟩,
    ⟨(some 20), 20, (.mv (.t 19)), none, [1]⟩,
    ⟨(some 21), 21, (.load true 4 (.t 5)), (some (20, false)), [2]⟩,
    ⟨(some 22), 22, (.call 35 [(.t 21)]), (some (20, false)), [3, 2, 2]⟩,
    ⟨(some 23), 23, (.not (.t 22)), (some (20, false)), [4, 2]⟩,
    ⟨(some 24), 24, (.pick (.t 20) (.k (.c (.s (.pv (.bool true))))) (.t 23)), none, [2, 5]⟩,
    ⟨(some 25), 25, (.mv (.t 24)), none, [6, 4]⟩,
    ⟨(some 26), 26, (.mv (.t 1)), (some (25, false)), [7]⟩,
    ⟨(some 27), 27, (.bin false .lss (.t 26) (.k (.c (.s (.pv (.int .i64 0)))))), (some (25, false)), [8, 7]⟩,
    ⟨(some 28), 28, (.pick (.t 25) (.k (.c (.s (.pv (.bool true))))) (.t 27)), none, [7, 9]⟩,
    ⟨(some 29), 29, (.mv (.t 28)), none, [10, 7]⟩,
    ⟨(some 30), 30, (.mv (.t 1)), (some (29, false)), [11]⟩,
    ⟨(some 31), 31, (.fld 3 (.t 2)), (some (29, false)), [11]⟩,
    ⟨(some 32), 32, (.load false 1 (.t 31)), (some (29, false)), [13, 11]⟩,
    ⟨(some 33), 33, (.len (.t 32)), (some (29, false)), [14, 11]⟩,
    ⟨(some 34), 34, (.bin false .geq (.t 30) (.t 33)), (some (29, false)), [12, 15, 11]⟩,
    ⟨(some 35), 35, (.pick (.t 29) (.k (.c (.s (.pv (.bool true))))) (.t 34)), none, [11, 16]⟩])
  (.cond (.t 35) (.seq (.reg [⟨(some 36), 36, (.call 30 []), none, []⟩,
    ⟨(some 4), 4, (.mv (.t 36)), none, [0, 0, 0]⟩])
  .ret) .skip))
  (.seq (.reg [⟨(some 38), 38, (.load true 4 (.t 2)), none, []⟩,
    ⟨(some 39), 39, (.mv (.t 1)), none, []⟩,
    ⟨(some 40), 40, (.call 36 [(.t 38), (.t 39), (.k (.c (.s (.pv (.bool true)))))]), none, [0, 1]⟩,
    ⟨(some 37), 37, (.mv (.t 40)), none, [2]⟩,
    ⟨(some 41), 41, (.ext 0 (.t 37)), none, [3]⟩,
    ⟨(some 42), 42, (.ext 1 (.t 37)), none, [3]⟩,
    ⟨(some 43), 43, (.ext 2 (.t 37)), none, [3]⟩,
    ⟨(some 7), 7, (.mk 50 4 [[.zc, .zc, (.s (.pv (.int .i64 0))), .zc]]), none, []⟩,
    ⟨(some 8), 8, (.mk 65 4 [[(.s (.pv (.int .i64 0))), (.s (.pv (.int .i64 0))), (.s (.pv (.int .i64 0))), (.s (.pv (.string ⟨#[]⟩)))]]), none, []⟩,
    ⟨none, 142, (.store 4 (.t 7) (.t 41)), none, [7, 4, 2, 0, 1, 2, 3, 4, 7, 8]⟩,
    ⟨none, 143, (.store 4 (.t 8) (.t 42)), none, [8, 5, 9, 0, 1, 2, 3, 4, 5, 7, 8, 9]⟩,
    ⟨(some 9), 9, (.mv (.t 43)), none, [6, 10, 0, 1, 2, 3, 4, 5, 6, 7, 8, 9, 10]⟩])
  (.seq (.reg [⟨(some 45), 45, (.load true 4 (.t 2)), none, []⟩,
    ⟨(some 46), 46, (.mv (.t 1)), none, []⟩,
    ⟨(some 47), 47, (.call 36 [(.t 45), (.t 46), (.k (.c (.s (.pv (.bool false)))))]), none, [0, 1]⟩,
    ⟨(some 44), 44, (.mv (.t 47)), none, [2]⟩,
    ⟨(some 48), 48, (.ext 0 (.t 44)), none, [3]⟩,
    ⟨(some 49), 49, (.ext 1 (.t 44)), none, [3]⟩,
    ⟨(some 50), 50, (.ext 2 (.t 44)), none, [3]⟩,
    ⟨(some 10), 10, (.mk 50 4 [[.zc, .zc, (.s (.pv (.int .i64 0))), .zc]]), none, []⟩,
    ⟨(some 11), 11, (.mk 65 4 [[(.s (.pv (.int .i64 0))), (.s (.pv (.int .i64 0))), (.s (.pv (.int .i64 0))), (.s (.pv (.string ⟨#[]⟩)))]]), none, []⟩,
    ⟨none, 142, (.store 4 (.t 10) (.t 48)), none, [7, 4, 2, 0, 1, 2, 3, 4, 7, 8]⟩,
    ⟨none, 143, (.store 4 (.t 11) (.t 49)), none, [8, 5, 9, 0, 1, 2, 3, 4, 5, 7, 8, 9]⟩,
    ⟨(some 12), 12, (.mv (.t 50)), none, [6, 10, 0, 1, 2, 3, 4, 5, 6, 7, 8, 9, 10]⟩])
  (.seq (.seq (.draw [⟨(some 51), 51, (.mv (.t 9)), none, []⟩,
    ⟨(some 52), 52, (.bin false .neq (.t 51) (.k (.c (.s (.pv (.int .i64 8)))))), none, [0]⟩,
    ⟨(some 53), 53, (.mv (.t 52)), none, [1]⟩,
    ⟨(some 54), 54, (.load true 4 (.t 8)), (some (53, false)), [2]⟩,
    ⟨(some 55), 55, (.fld 3 (.t 2)), (some (53, false)), [2]⟩,
    ⟨(some 56), 56, (.load false 1 (.t 55)), (some (53, false)), [4, 2]⟩,
    ⟨(some 57), 57, (.mv (.t 1)), (some (53, false)), [2]⟩,
    ⟨(some 58), 58, (.idx 4 (.t 56) (.t 57)), (some (53, false)), [5, 6, 2]⟩,
    ⟨(some 59), 59, (.load true 4 (.t 58)), (some (53, false)), [7, 2]⟩,
    ⟨(some 60), 60, (.eqs true 65 (.t 54) (.t 59)), (some (53, false)), [3, 8, 2]⟩,
    ⟨(some 61), 61, (.pick (.t 53) (.k (.c (.s (.pv (.bool true))))) (.t 60)), none, [2, 9]⟩,
    ⟨(some 62), 62, (.mv (.t 61)), none, [10, 2]⟩,
    ⟨(some 63), 63, (.fld 0 (.t 7)), (some (62, false)), [11]⟩,
    ⟨(some 64), 64, (.load true 2 (.t 63)), (some (62, false)), [12, 11]⟩,
    ⟨(some 65), 65, (.fld 0 (.t 2)), (some (62, false)), [11]⟩,
    ⟨(some 66), 66, (.load true 2 (.t 65)), (some (62, false)), [14, 11]⟩,
    ⟨(some 67), 67, (.call 22 [(.t 64), (.t 66)]), (some (62, false)), [13, 15, 11, 11]⟩,
    ⟨(some 68), 68, (.not (.t 67)), (some (62, false)), [16, 11]⟩,
    ⟨(some 69), 69, (.pick (.t 62) (.k (.c (.s (.pv (.bool true))))) (.t 68)), none, [11, 17]⟩,
    ⟨(some 70), 70, (.mv (.t 69)), none, [18, 16]⟩,
    ⟨(some 71), 71, (.fld 3 (.t 7)), (some (70, false)), [19]⟩,
    ⟨(some 72), 72, (.load false 1 (.t 71)), (some (70, false)), [20, 19]⟩,
    ⟨(some 73), 73, (.len (.t 72)), (some (70, false)), [21, 19]⟩,
    ⟨(some 74), 74, (.fld 3 (.t 2)), (some (70, false)), [19]⟩,
    ⟨(some 75), 75, (.load false 1 (.t 74)), (some (70, false)), [23, 19]⟩,
    ⟨(some 76), 76, (.len (.t 75)), (some (70, false)), [24, 19]⟩,
    ⟨(some 77), 77, (.bin false .sub (.t 76) (.k (.c (.s (.pv (.int .i64 1)))))), (some (70, false)), [25, 19]⟩,
    ⟨(some 78), 78, (.bin false .neq (.t 73) (.t 77)), (some (70, false)), [22, 26, 19]⟩,
    ⟨(some 79), 79, (.pick (.t 70) (.k (.c (.s (.pv (.bool true))))) (.t 78)), none, [19, 27]⟩,
    ⟨(some 80), 80, (.mv (.t 79)), none, [28, 19]⟩,
    ⟨(some 81), 81, (.fld 3 (.t 10)), (some (80, false)), [29]⟩,
    ⟨(some 82), 82, (.load false 1 (.t 81)), (some (80, false)), [30, 29]⟩,
    ⟨(some 83), 83, (.len (.t 82)), (some (80, false)), [31, 29]⟩,
    ⟨(some 84), 84, (.fld 3 (.t 2)), (some (80, false)), [29]⟩,
    ⟨(some 85), 85, (.load false 1 (.t 84)), (some (80, false)), [33, 29]⟩,
    ⟨(some 86), 86, (.len (.t 85)), (some (80, false)), [34, 29]⟩,
    ⟨(some 87), 87, (.bin false .sub (.t 86) (.k (.c (.s (.pv (.int .i64 1)))))), (some (80, false)), [35, 29]⟩,
    ⟨(some 88), 88, (.bin false .neq (.t 83) (.t 87)), (some (80, false)), [32, 36, 29]⟩,
    ⟨(some 89), 89, (.pick (.t 80) (.k (.c (.s (.pv (.bool true))))) (.t 88)), none, [29, 37]⟩])
  (.cond (.t 89) (.seq (.reg [⟨(some 4), 4, (.mv (.k (.c (.s (.pv (.bool false)))))), none, []⟩])
  .ret) .skip))
  (.seq (.seq (.reg [⟨(some 90), 90, (.fld 1 (.t 8)), none, []⟩,
    ⟨(some 91), 91, (.load false 1 (.t 90)), none, [0]⟩,
    ⟨(some 92), 92, (.bin false .eql (.t 91) (.k (.c (.s (.pv (.int .i64 1)))))), none, [1]⟩,
    ⟨(some 93), 93, (.mv (.t 92)), none, [2]⟩,
    ⟨(some 94), 94, (.mv (.t 12)), (some (93, true)), [3]⟩,
    ⟨(some 95), 95, (.bin false .neq (.t 94) (.k (.c (.s (.pv (.int .i64 0)))))), (some (93, true)), [4, 3]⟩,
    ⟨(some 96), 96, (.mv (.t 95)), (some (93, true)), [5, 3, 3]⟩,
    ⟨(some 97), 97, (.fld 0 (.t 10)), (some (96, false)), [6]⟩,
    ⟨(some 98), 98, (.load true 2 (.t 97)), (some (96, false)), [7, 6]⟩,
    ⟨(some 99), 99, (.fld 0 (.t 2)), (some (96, false)), [6]⟩,
    ⟨(some 100), 100, (.load true 2 (.t 99)), (some (96, false)), [9, 6]⟩,
    ⟨(some 101), 101, (.call 22 [(.t 98), (.t 100)]), (some (96, false)), [8, 10, 6, 6]⟩,
    ⟨(some 102), 102, (.not (.t 101)), (some (96, false)), [11, 6]⟩,
    ⟨(some 103), 103, (.pick (.t 96) (.k (.c (.s (.pv (.bool true))))) (.t 102)), (some (93, true)), [6, 12, 3]⟩,
    ⟨(some 104), 104, (.mv (.t 103)), (some (93, true)), [13, 11, 3]⟩,
    ⟨(some 105), 105, (.fld 3 (.t 11)), (some (104, false)), [14]⟩,
    ⟨(some 106), 106, (.load false 1 (.t 105)), (some (104, false)), [15, 14]⟩,
    ⟨(some 107), 107, (.slen (.t 106)), (some (104, false)), [16, 14]⟩,
    ⟨(some 108), 108, (.bin false .neq (.t 107) (.k (.c (.s (.pv (.int .i64 32)))))), (some (104, false)), [17, 14]⟩,
    ⟨(some 109), 109, (.pick (.t 104) (.k (.c (.s (.pv (.bool true))))) (.t 108)), (some (93, true)), [14, 18, 3]⟩,
    ⟨(some 110), 110, (.pick (.t 93) (.t 109) (.k (.c (.s (.pv (.bool false)))))), none, [3, 19]⟩])
  (.cond (.t 110) (.seq (.reg [⟨(some 4), 4, (.mv (.k (.c (.s (.pv (.bool false)))))), none, []⟩])
  .ret) .skip))
  (.seq (.reg [⟨(some 111), 111, (.fld 0 (.t 11)), none, []⟩,
    ⟨(some 112), 112, (.load false 1 (.t 111)), none, [0]⟩,
    ⟨(some 113), 113, (.fld 0 (.t 8)), none, []⟩,
    ⟨(some 114), 114, (.load false 1 (.t 113)), none, [2]⟩,
    ⟨(some 115), 115, (.bin false .eql (.t 112) (.t 114)), none, [1, 3]⟩,
    ⟨(some 116), 116, (.mv (.t 115)), none, [4]⟩,
    ⟨(some 117), 117, (.fld 2 (.t 11)), (some (116, true)), [5]⟩,
    ⟨(some 118), 118, (.load false 1 (.t 117)), (some (116, true)), [6, 5]⟩,
    ⟨(some 119), 119, (.fld 2 (.t 8)), (some (116, true)), [5]⟩,
    ⟨(some 120), 120, (.load false 1 (.t 119)), (some (116, true)), [8, 5]⟩,
    ⟨(some 121), 121, (.bin false .eql (.t 118) (.t 120)), (some (116, true)), [7, 9, 5]⟩,
    ⟨(some 122), 122, (.pick (.t 116) (.t 121) (.k (.c (.s (.pv (.bool false)))))), none, [5, 10]⟩,
    ⟨(some 123), 123, (.mv (.t 122)), none, [11, 5]⟩,
    ⟨(some 124), 124, (.fld 2 (.t 10)), (some (123, true)), [12]⟩,
    ⟨(some 125), 125, (.load false 1 (.t 124)), (some (123, true)), [13, 12]⟩,
    ⟨(some 126), 126, (.fld 2 (.t 2)), (some (123, true)), [12]⟩,
    ⟨(some 127), 127, (.load false 1 (.t 126)), (some (123, true)), [15, 12]⟩,
    ⟨(some 128), 128, (.bin false .eql (.t 125) (.t 127)), (some (123, true)), [14, 16, 12]⟩,
    ⟨(some 129), 129, (.pick (.t 123) (.t 128) (.k (.c (.s (.pv (.bool false)))))), none, [12, 17]⟩,
    ⟨(some 130), 130, (.mv (.t 129)), none, [18, 12]⟩,
    ⟨(some 131), 131, (.call 30 []), (some (130, true)), [19, 19]⟩,
    ⟨(some 132), 132, (.pick (.t 130) (.t 131) (.k (.c (.s (.pv (.bool false)))))), none, [19, 20]⟩,
    ⟨(some 4), 4, (.mv (.t 132)), none, [21, 20, 0, 1, 2, 3, 4, 5, 6, 7, 8, 9, 10, 11, 12, 13, 14, 15, 16, 17, 18, 19, 20, 21]⟩])
  .ret))))))))
theorem fn13 : FnIs Try.prog 13 ac13 [(.t 4)] 133 := ⟨Try.f13, Try.func13, by kernel_rfl, by kernel_rfl, by kernel_rfl⟩
/- lockkeeper/lockkeeperlaw04.DeviceOrder -/
def ac14 : ACode := (.seq (.reg [⟨(some 2), 2, (.box 50 4 (.t 0)), none, []⟩,
    ⟨(some 4), 4, (.mv (.k (.c (.s (.pv (.bool false)))))), none, []⟩])
  (.seq (.reg [⟨(some 17), 17, (.load true 4 (.t 2)), none, []⟩,
    ⟨(some 18), 18, (.call 29 [(.t 17)]), none, [0]⟩,
    ⟨(some 16), 16, (.mv (.t 18)), none, [1]⟩,
    ⟨(some 19), 19, (.ext 0 (.t 16)), none, [2]⟩,
    ⟨(some 20), 20, (.ext 1 (.t 16)), none, [2]⟩,
    ⟨(some 5), 5, (.mk 53 4 [[.zc, .zc, (.s (.pv (.int .i64 0))), .zc]]), none, []⟩,
    ⟨none, 82, (.store 4 (.t 5) (.t 19)), none, [5, 3, 1, 0, 1, 2, 3, 5]⟩,
    ⟨(some 6), 6, (.mv (.t 20)), none, [4, 6, 0, 1, 2, 3, 4, 5, 6]⟩])
  (.seq (.seq (.reg [⟨(some 21), 21, (.mv (.t 6)), none, []⟩,
    ⟨(some 22), 22, (.not (.t 21)), none, [0]⟩,
    ⟨(some 23), 23, (.mv (.t 22)), none, [1]⟩,
    ⟨(some 24), 24, (.load true 4 (.t 5)), (some (23, false)), [2]⟩,
    ⟨(some 25), 25, (.call 35 [(.t 24)]), (some (23, false)), [3, 2, 2]⟩,
    ⟨(some 26), 26, (.not (.t 25)), (some (23, false)), [4, 2]⟩,
    ⟨(some 27), 27, (.pick (.t 23) (.k (.c (.s (.pv (.bool true))))) (.t 26)), none, [2, 5]⟩])
  (.cond (.t 27) (.seq (.reg [⟨(some 28), 28, (.call 30 []), none, []⟩,
    ⟨(some 4), 4, (.mv (.t 28)), none, [0, 0, 0]⟩])
  .ret) .skip))
  (.seq (.reg [⟨(some 7), 7, (.mv (.k (.c (.s (.pv (.int .i64 (-1))))))), none, []⟩])
  (.seq (.reg [⟨(some 29), 29, (.fld 3 (.t 2)), none, []⟩,
    ⟨(some 30), 30, (.load false 1 (.t 29)), none, [0]⟩,
    ⟨(some 31), 31, (.len (.t 30)), none, [1]⟩,
    ⟨(some 8), 8, (.mv (.t 31)), none, [2, 0, 1, 2]⟩])
  (.seq (.seq (.reg [⟨(some 32), 32, (.mv (.t 8)), none, []⟩,
    ⟨(some 33), 33, (.mv (.k (.c (.s (.pv (.int .i64 0)))))), none, []⟩])
  (.block 0 (.loop (.seq (.reg [⟨(some 34), 34, (.bin false .lss (.t 33) (.t 32)), none, []⟩])
  (.seq (.cond (.t 34) .skip (.exit 0))
  (.seq (.block 1 (.seq (.reg [⟨(some 35), 35, (.mv (.t 33)), none, []⟩,
    ⟨(some 9), 9, (.mv (.t 35)), none, [0, 0]⟩])
  (.seq (.draw [⟨(some 37), 37, (.load true 4 (.t 2)), none, []⟩,
    ⟨(some 38), 38, (.mv (.t 1)), none, []⟩,
    ⟨(some 39), 39, (.mv (.t 9)), none, []⟩,
    ⟨(some 40), 40, (.bin false .shr (.t 38) (.t 39)), none, [1, 2]⟩,
    ⟨(some 41), 41, (.bin false .and (.t 40) (.k (.c (.s (.pv (.int .u8 1)))))), none, [3]⟩,
    ⟨(some 42), 42, (.bin false .eql (.t 41) (.k (.c (.s (.pv (.int .u8 1)))))), none, [4]⟩,
    ⟨(some 43), 43, (.call 36 [(.t 37), (.k (.c (.s (.pv (.int .i64 0))))), (.t 42)]), none, [0, 5]⟩,
    ⟨(some 36), 36, (.mv (.t 43)), none, [6]⟩,
    ⟨(some 44), 44, (.ext 0 (.t 36)), none, [7]⟩,
    ⟨(some 45), 45, (.ext 1 (.t 36)), none, [7]⟩,
    ⟨(some 46), 46, (.ext 2 (.t 36)), none, [7]⟩,
    ⟨(some 10), 10, (.mk 50 4 [[.zc, .zc, (.s (.pv (.int .i64 0))), .zc]]), none, []⟩,
    ⟨(some 11), 11, (.mk 65 4 [[(.s (.pv (.int .i64 0))), (.s (.pv (.int .i64 0))), (.s (.pv (.int .i64 0))), (.s (.pv (.string ⟨#[]⟩)))]]), none, []⟩,
    ⟨none, 89, (.store 4 (.t 10) (.t 44)), none, [11, 8, 6, 0, 1, 2, 3, 4, 5, 6, 7, 8, 11, 12]⟩,
    ⟨none, 90, (.store 4 (.t 11) (.t 45)), none, [12, 9, 13, 0, 1, 2, 3, 4, 5, 6, 7, 8, 9, 11, 12, 13]⟩,
    ⟨(some 12), 12, (.mv (.t 46)), none, [10, 14, 0, 1, 2, 3, 4, 5, 6, 7, 8, 9, 10, 11, 12, 13, 14]⟩])
  (.seq (.seq (.reg [⟨(some 47), 47, (.mv (.t 12)), none, []⟩,
    ⟨(some 48), 48, (.bin false .eql (.t 47) (.k (.c (.s (.pv (.int .i64 1)))))), none, [0]⟩,
    ⟨(some 49), 49, (.mv (.t 48)), none, [1]⟩,
    ⟨(some 50), 50, (.fld 0 (.t 11)), (some (49, false)), [2]⟩,
    ⟨(some 51), 51, (.load false 1 (.t 50)), (some (49, false)), [3, 2]⟩,
    ⟨(some 52), 52, (.mv (.t 7)), (some (49, false)), [2]⟩,
    ⟨(some 53), 53, (.bin false .leq (.t 51) (.t 52)), (some (49, false)), [4, 5, 2]⟩,
    ⟨(some 54), 54, (.pick (.t 49) (.k (.c (.s (.pv (.bool true))))) (.t 53)), none, [2, 6]⟩])
  (.cond (.t 54) (.seq (.reg [⟨(some 4), 4, (.mv (.k (.c (.s (.pv (.bool false)))))), none, []⟩])
  .ret) .skip))
  (.draw [⟨(some 55), 55, (.load true 4 (.t 10)), none, []⟩,
    ⟨(some 56), 56, (.fld 0 (.t 11)), none, []⟩,
    ⟨(some 57), 57, (.load false 1 (.t 56)), none, [1]⟩,
    ⟨none, 79, (.store 4 (.t 2) (.t 55)), none, [0, 0]⟩,
    ⟨(some 7), 7, (.mv (.t 57)), none, [2, 3, 0, 1, 2, 3]⟩])))))
  (.reg [⟨(some 58), 58, (.bin false .add (.t 33) (.k (.c (.s (.pv (.int .i64 1)))))), none, []⟩,
    ⟨(some 33), 33, (.mv (.t 58)), none, [0]⟩])))))))
  (.seq (.reg [⟨(some 60), 60, (.load true 4 (.t 2)), none, []⟩,
    ⟨(some 61), 61, (.call 36 [(.t 60), (.k (.c (.s (.pv (.int .i64 0))))), (.k (.c (.s (.pv (.bool false)))))]), none, [0]⟩,
    ⟨(some 59), 59, (.mv (.t 61)), none, [1]⟩,
    ⟨(some 62), 62, (.ext 0 (.t 59)), none, [2]⟩,
    ⟨(some 63), 63, (.ext 1 (.t 59)), none, [2]⟩,
    ⟨(some 64), 64, (.ext 2 (.t 59)), none, [2]⟩,
    ⟨(some 13), 13, (.mk 50 4 [[.zc, .zc, (.s (.pv (.int .i64 0))), .zc]]), none, []⟩,
    ⟨(some 14), 14, (.mk 65 4 [[(.s (.pv (.int .i64 0))), (.s (.pv (.int .i64 0))), (.s (.pv (.int .i64 0))), (.s (.pv (.string ⟨#[]⟩)))]]), none, []⟩,
    ⟨none, 84, (.store 4 (.t 13) (.t 62)), none, [6, 3, 1, 0, 1, 2, 3, 6, 7]⟩,
    ⟨none, 85, (.store 4 (.t 14) (.t 63)), none, [7, 4, 8, 0, 1, 2, 3, 4, 6, 7, 8]⟩,
    ⟨(some 15), 15, (.mv (.t 64)), none, [5, 9, 0, 1, 2, 3, 4, 5, 6, 7, 8, 9]⟩])
  (.seq (.reg [⟨(some 65), 65, (.fld 3 (.t 2)), none, []⟩,
    ⟨(some 66), 66, (.load false 1 (.t 65)), none, [0]⟩,
    ⟨(some 67), 67, (.len (.t 66)), none, [1]⟩,
    ⟨(some 68), 68, (.bin false .eql (.t 67) (.k (.c (.s (.pv (.int .i64 0)))))), none, [2]⟩,
    ⟨(some 69), 69, (.mv (.t 68)), none, [3]⟩,
    ⟨(some 70), 70, (.mv (.t 15)), (some (69, true)), [4]⟩,
    ⟨(some 71), 71, (.bin false .eql (.t 70) (.k (.c (.s (.pv (.int .i64 1)))))), (some (69, true)), [5, 4]⟩,
    ⟨(some 72), 72, (.pick (.t 69) (.t 71) (.k (.c (.s (.pv (.bool false)))))), none, [4, 6]⟩,
    ⟨(some 73), 73, (.mv (.t 72)), none, [7, 4]⟩,
    ⟨(some 74), 74, (.call 30 []), (some (73, true)), [8, 8]⟩,
    ⟨(some 75), 75, (.pick (.t 73) (.t 74) (.k (.c (.s (.pv (.bool false)))))), none, [8, 9]⟩,
    ⟨(some 4), 4, (.mv (.t 75)), none, [10, 9, 0, 1, 2, 3, 4, 5, 6, 7, 8, 9, 10]⟩])
  .ret))))))))
theorem fn14 : FnIs Try.prog 14 ac14 [(.t 4)] 76 := ⟨Try.f14, Try.func14, by kernel_rfl, by kernel_rfl, by kernel_rfl⟩
/- lockkeeper/disk.New -/
def ac15 : ACode := (.seq (.reg [⟨(some 2), 2, (.mk 25 2 [[.zc, .zc]]), none, []⟩,
    ⟨(some 3), 3, (.mv (.k (.c (.s (.pv (.int .i64 0)))))), none, []⟩])
  (.seq (.seq (.reg [⟨(some 5), 5, (.mv (.t 0)), none, []⟩,
    ⟨(some 6), 6, (.bin false .lss (.t 5) (.k (.c (.s (.pv (.int .i64 1)))))), none, [0]⟩,
    ⟨(some 7), 7, (.mv (.t 6)), none, [1]⟩,
    ⟨(some 8), 8, (.mv (.t 0)), (some (7, false)), [2]⟩,
    ⟨(some 9), 9, (.bin false .gtr (.t 8) (.k (.c (.s (.pv (.int .i64 64)))))), (some (7, false)), [3, 2]⟩,
    ⟨(some 10), 10, (.pick (.t 7) (.k (.c (.s (.pv (.bool true))))) (.t 9)), none, [2, 4]⟩])
  (.cond (.t 10) (.seq (.reg [⟨(some 11), 11, (.build [.zc, .zc] []), none, []⟩,
    ⟨none, 19, (.store 2 (.t 2) (.t 11)), none, [0, 0]⟩,
    ⟨(some 3), 3, (.mv (.k (.c (.s (.pv (.int .i64 1)))))), none, [1, 0, 1]⟩])
  .ret) .skip))
  (.seq (.reg [⟨(some 12), 12, (.call 40 [(.k (.c (.s (.pv (.string ⟨#[0]⟩))))), (.k (.c (.s (.pv (.int .i64 16)))))]), none, []⟩,
    ⟨(some 4), 4, (.mv (.t 12)), none, [0, 0, 0]⟩])
  (.seq (.reg [⟨(some 13), 13, (.mv (.t 4)), none, []⟩,
    ⟨(some 14), 14, (.bslice 9 1 [(.s (.pv (.string ⟨#[]⟩)))] 1 [(0, 1, (.t 13))]), none, [0]⟩,
    ⟨(some 15), 15, (.mv (.t 0)), none, []⟩,
    ⟨(some 16), 16, (.call 41 [(.t 14), (.t 15)]), none, [1, 2]⟩,
    ⟨(some 17), 17, (.build [.zc, .zc] [(0, 1, (.t 16))]), none, [3]⟩,
    ⟨none, 23, (.store 2 (.t 2) (.t 17)), none, [4, 3, 0, 1, 2, 3, 4]⟩,
    ⟨(some 3), 3, (.mv (.k (.c (.s (.pv (.int .i64 0)))))), none, [5, 0, 1, 2, 3, 4, 5]⟩])
  .ret))))
theorem fn15 : FnIs Try.prog 15 ac15 [(.cell 2 true 2), (.t 3)] 18 := ⟨Try.f15, Try.func15, by kernel_rfl, by kernel_rfl, by kernel_rfl⟩
/- lockkeeper/lockkeeperlaw03.awake -/
def ac16 : ACode := (.seq (.reg [⟨(some 0), 0, (.mv (.k (.c (.s (.pv (.bool false)))))), none, []⟩])
  (.seq (.reg [⟨(some 9), 9, (.call 15 [(.k (.c (.s (.pv (.int .i64 2)))))]), none, []⟩,
    ⟨(some 8), 8, (.mv (.t 9)), none, [0]⟩,
    ⟨(some 10), 10, (.ext 0 (.t 8)), none, [1]⟩,
    ⟨(some 11), 11, (.ext 1 (.t 8)), none, [1]⟩,
    ⟨(some 1), 1, (.mk 25 2 [[.zc, .zc]]), none, []⟩,
    ⟨none, 66, (.store 2 (.t 1) (.t 10)), none, [4, 2, 0, 0, 1, 2, 4]⟩,
    ⟨(some 2), 2, (.mv (.t 11)), none, [3, 5, 0, 1, 2, 3, 4, 5]⟩])
  (.seq (.reg [⟨(some 13), 13, (.load true 2 (.t 1)), none, []⟩,
    ⟨(some 14), 14, (.build [(.s (.pv (.int .i64 0))), (.s (.pv (.string ⟨#[]⟩)))] [(0, 1, (.k (.c (.s (.pv (.int .i64 1)))))), (1, 1, (.k (.c (.s (.pv (.string ⟨#[48, 49, 50, 51, 52, 53, 54, 55, 56, 57, 97, 98, 99, 100, 101, 102]⟩))))))]), none, []⟩,
    ⟨(some 15), 15, (.call 20 [(.t 13), (.t 14)]), none, [0, 1]⟩,
    ⟨(some 12), 12, (.mv (.t 15)), none, [2]⟩,
    ⟨(some 16), 16, (.ext 0 (.t 12)), none, [3]⟩,
    ⟨(some 17), 17, (.ext 1 (.t 12)), none, [3]⟩,
    ⟨none, 67, (.store 2 (.t 1) (.t 16)), none, [4, 2, 0, 1, 2, 3, 4]⟩,
    ⟨(some 3), 3, (.mv (.t 17)), none, [5, 6, 0, 1, 2, 3, 4, 5, 6]⟩])
  (.seq (.reg [⟨(some 19), 19, (.load true 2 (.t 1)), none, []⟩,
    ⟨(some 20), 20, (.call 19 [(.t 19), (.k (.c (.s (.pv (.int .i64 1)))))]), none, [0]⟩,
    ⟨(some 18), 18, (.mv (.t 20)), none, [1]⟩,
    ⟨(some 21), 21, (.ext 0 (.t 18)), none, [2]⟩,
    ⟨(some 22), 22, (.ext 1 (.t 18)), none, [2]⟩,
    ⟨(some 4), 4, (.mv (.t 21)), none, [3, 1, 0, 1, 2, 3]⟩,
    ⟨(some 5), 5, (.mv (.t 22)), none, [4, 5, 0, 1, 2, 3, 4, 5]⟩])
  (.seq (.reg [⟨(some 24), 24, (.load true 2 (.t 1)), none, []⟩,
    ⟨(some 25), 25, (.call 24 [(.t 24), (.k (.c .zc))]), none, [0]⟩,
    ⟨(some 26), 26, (.call 19 [(.t 25), (.k (.c (.s (.pv (.int .i64 1)))))]), none, [1, 1]⟩,
    ⟨(some 23), 23, (.mv (.t 26)), none, [2]⟩,
    ⟨(some 27), 27, (.ext 0 (.t 23)), none, [3]⟩,
    ⟨(some 28), 28, (.ext 1 (.t 23)), none, [3]⟩,
    ⟨(some 6), 6, (.mv (.t 27)), none, [4, 2, 0, 1, 2, 3, 4]⟩,
    ⟨(some 7), 7, (.mv (.t 28)), none, [5, 6, 0, 1, 2, 3, 4, 5, 6]⟩])
  (.seq (.reg [⟨(some 29), 29, (.mv (.t 2)), none, []⟩,
    ⟨(some 30), 30, (.bin false .eql (.t 29) (.k (.c (.s (.pv (.int .i64 0)))))), none, [0]⟩,
    ⟨(some 31), 31, (.mv (.t 30)), none, [1]⟩,
    ⟨(some 32), 32, (.mv (.t 3)), (some (31, true)), [2]⟩,
    ⟨(some 33), 33, (.bin false .eql (.t 32) (.k (.c (.s (.pv (.int .i64 0)))))), (some (31, true)), [3, 2]⟩,
    ⟨(some 34), 34, (.pick (.t 31) (.t 33) (.k (.c (.s (.pv (.bool false)))))), none, [2, 4]⟩,
    ⟨(some 35), 35, (.mv (.t 34)), none, [5, 2]⟩,
    ⟨(some 36), 36, (.mv (.t 4)), (some (35, true)), [6]⟩,
    ⟨(some 37), 37, (.bin false .eql (.t 36) (.k (.c (.s (.pv (.string ⟨#[48, 49, 50, 51, 52, 53, 54, 55, 56, 57, 97, 98, 99, 100, 101, 102]⟩)))))), (some (35, true)), [7, 6]⟩,
    ⟨(some 38), 38, (.pick (.t 35) (.t 37) (.k (.c (.s (.pv (.bool false)))))), none, [6, 8]⟩,
    ⟨(some 39), 39, (.mv (.t 38)), none, [9, 6]⟩,
    ⟨(some 40), 40, (.mv (.t 5)), (some (39, true)), [10]⟩,
    ⟨(some 41), 41, (.bin false .eql (.t 40) (.k (.c (.s (.pv (.int .i64 0)))))), (some (39, true)), [11, 10]⟩,
    ⟨(some 42), 42, (.pick (.t 39) (.t 41) (.k (.c (.s (.pv (.bool false)))))), none, [10, 12]⟩,
    ⟨(some 43), 43, (.mv (.t 42)), none, [13, 10]⟩,
    ⟨(some 44), 44, (.mv (.t 6)), (some (43, true)), [14]⟩,
    ⟨(some 45), 45, (.slen (.t 44)), (some (43, true)), [15, 14]⟩,
    ⟨(some 46), 46, (.bin false .eql (.t 45) (.k (.c (.s (.pv (.int .i64 16)))))), (some (43, true)), [16, 14]⟩,
    ⟨(some 47), 47, (.pick (.t 43) (.t 46) (.k (.c (.s (.pv (.bool false)))))), none, [14, 17]⟩,
    ⟨(some 48), 48, (.mv (.t 47)), none, [18, 14]⟩,
    ⟨(some 49), 49, (.mv (.t 6)), (some (48, true)), [19]⟩,
    ⟨(some 50), 50, (.sidx (.t 49) (.k (.c (.s (.pv (.int .i64 0)))))), (some (48, true)), [20, 19]⟩,
    ⟨(some 51), 51, (.bin false .eql (.t 50) (.k (.c (.s (.pv (.int .u8 0)))))), (some (48, true)), [21, 19]⟩,
    ⟨(some 52), 52, (.pick (.t 48) (.t 51) (.k (.c (.s (.pv (.bool false)))))), none, [19, 22]⟩,
    ⟨(some 53), 53, (.mv (.t 52)), none, [23, 19]⟩,
    ⟨(some 54), 54, (.mv (.t 7)), (some (53, true)), [24]⟩,
    ⟨(some 55), 55, (.bin false .eql (.t 54) (.k (.c (.s (.pv (.int .i64 0)))))), (some (53, true)), [25, 24]⟩,
    ⟨(some 56), 56, (.pick (.t 53) (.t 55) (.k (.c (.s (.pv (.bool false)))))), none, [24, 26]⟩,
    ⟨(some 57), 57, (.mv (.t 56)), none, [27, 24]⟩,
    ⟨(some 58), 58, (.load true 2 (.t 1)), (some (57, true)), [28]⟩,
    ⟨(some 59), 59, (.call 21 [(.t 58)]), (some (57, true)), [29, 28, 28]⟩,
    ⟨(some 60), 60, (.pick (.t 57) (.t 59) (.k (.c (.s (.pv (.bool false)))))), none, [28, 30]⟩,
    ⟨(some 0), 0, (.mv (.t 60)), none, [31, 30, 0, 1, 2, 3, 4, 5, 6, 7, 8, 9, 10, 11, 12, 13, 14, 15, 16, 17, 18, 19, 20, 21, 22, 23, 24, 25, 26, 27, 28, 29, 30, 31]⟩])
  .ret))))))
theorem fn16 : FnIs Try.prog 16 ac16 [(.t 0)] 61 := ⟨Try.f16, Try.func16, by kernel_rfl, by kernel_rfl, by kernel_rfl⟩
/- lockkeeper/lockkeeperref03.Small -/
def ac17 : ACode := (.seq (.reg [⟨(some 1), 1, (.box 25 2 (.t 0)), none, []⟩,
    ⟨(some 2), 2, (.mv (.k (.c (.s (.pv (.bool false)))))), none, []⟩])
  (.seq (.seq (.reg [⟨(some 5), 5, (.fld 0 (.t 1)), none, []⟩,
    ⟨(some 6), 6, (.load false 1 (.t 5)), none, [0]⟩,
    ⟨(some 7), 7, (.len (.t 6)), none, [1]⟩,
    ⟨(some 8), 8, (.bin false .gtr (.t 7) (.k (.c (.s (.pv (.int .i64 80)))))), none, [2]⟩,
    ⟨(some 9), 9, (.mv (.t 8)), none, [3]⟩,
    ⟨(some 10), 10, (.fld 1 (.t 1)), (some (9, false)), [4]⟩,
    ⟨(some 11), 11, (.load false 1 (.t 10)), (some (9, false)), [5, 4]⟩,
    ⟨(some 12), 12, (.len (.t 11)), (some (9, false)), [6, 4]⟩,
    ⟨(some 13), 13, (.bin false .gtr (.t 12) (.k (.c (.s (.pv (.int .i64 220)))))), (some (9, false)), [7, 4]⟩,
    ⟨(some 14), 14, (.pick (.t 9) (.k (.c (.s (.pv (.bool true))))) (.t 13)), none, [4, 8]⟩])
  (.cond (.t 14) (.seq (.reg [⟨(some 2), 2, (.mv (.k (.c (.s (.pv (.bool false)))))), none, []⟩])
  .ret) .skip))
  (.seq (.seq (.reg [⟨(some 3), 3, (.mv (.k (.c (.s (.pv (.int .i64 0)))))), none, []⟩])
  (.block 0 (.loop (.seq (.seq (.reg [⟨(some 15), 15, (.mv (.t 3)), none, []⟩,
    ⟨(some 16), 16, (.fld 0 (.t 1)), none, []⟩,
    ⟨(some 17), 17, (.load false 1 (.t 16)), none, [1]⟩,
    ⟨(some 18), 18, (.len (.t 17)), none, [2]⟩,
    ⟨(some 19), 19, (.bin false .lss (.t 15) (.t 18)), none, [0, 3]⟩])
  (.cond (.t 19) .skip (.exit 0)))
  (.seq (.block 1 (.seq (.reg [⟨(some 22), 22, (.fld 0 (.t 1)), none, []⟩,
    ⟨(some 23), 23, (.load false 1 (.t 22)), none, [0]⟩,
    ⟨(some 24), 24, (.mv (.t 3)), none, []⟩,
    ⟨(some 25), 25, (.idx 1 (.t 23) (.t 24)), none, [1, 2]⟩,
    ⟨(some 26), 26, (.load false 1 (.t 25)), none, [3]⟩,
    ⟨(some 27), 27, (.slen (.t 26)), none, [4]⟩,
    ⟨(some 28), 28, (.bin false .gtr (.t 27) (.k (.c (.s (.pv (.int .i64 40)))))), none, [5]⟩])
  (.cond (.t 28) (.seq (.reg [⟨(some 2), 2, (.mv (.k (.c (.s (.pv (.bool false)))))), none, []⟩])
  .ret) .skip)))
  (.reg [⟨(some 20), 20, (.mv (.t 3)), none, []⟩,
    ⟨(some 21), 21, (.bin false .add (.t 20) (.k (.c (.s (.pv (.int .i64 1)))))), none, [0]⟩,
    ⟨(some 3), 3, (.mv (.t 21)), none, [1, 0, 1]⟩]))))))
  (.seq (.seq (.reg [⟨(some 4), 4, (.mv (.k (.c (.s (.pv (.int .i64 0)))))), none, []⟩])
  (.block 2 (.loop (.seq (.seq (.reg [⟨(some 29), 29, (.mv (.t 4)), none, []⟩,
    ⟨(some 30), 30, (.fld 1 (.t 1)), none, []⟩,
    ⟨(some 31), 31, (.load false 1 (.t 30)), none, [1]⟩,
    ⟨(some 32), 32, (.len (.t 31)), none, [2]⟩,
    ⟨(some 33), 33, (.bin false .lss (.t 29) (.t 32)), none, [0, 3]⟩])
  (.cond (.t 33) .skip (.exit 2)))
  (.seq (.block 3 (.seq (.reg [⟨(some 36), 36, (.fld 1 (.t 1)), none, []⟩,
    ⟨(some 37), 37, (.load false 1 (.t 36)), none, [0]⟩,
    ⟨(some 38), 38, (.mv (.t 4)), none, []⟩,
    ⟨(some 39), 39, (.idx 2 (.t 37) (.t 38)), none, [1, 2]⟩,
    ⟨(some 40), 40, (.fld 1 (.t 39)), none, [3]⟩,
    ⟨(some 41), 41, (.load false 1 (.t 40)), none, [4]⟩,
    ⟨(some 42), 42, (.slen (.t 41)), none, [5]⟩,
    ⟨(some 43), 43, (.bin false .gtr (.t 42) (.k (.c (.s (.pv (.int .i64 40)))))), none, [6]⟩])
  (.cond (.t 43) (.seq (.reg [⟨(some 2), 2, (.mv (.k (.c (.s (.pv (.bool false)))))), none, []⟩])
  .ret) .skip)))
  (.reg [⟨(some 34), 34, (.mv (.t 4)), none, []⟩,
    ⟨(some 35), 35, (.bin false .add (.t 34) (.k (.c (.s (.pv (.int .i64 1)))))), none, [0]⟩,
    ⟨(some 4), 4, (.mv (.t 35)), none, [1, 0, 1]⟩]))))))
  (.seq (.reg [⟨(some 2), 2, (.mv (.k (.c (.s (.pv (.bool true)))))), none, []⟩])
  .ret)))))
theorem fn17 : FnIs Try.prog 17 ac17 [(.t 2)] 44 := ⟨Try.f17, Try.func17, by kernel_rfl, by kernel_rfl, by kernel_rfl⟩
/- lockkeeper/lockkeeperref03.Right -/
def ac18 : ACode := (.seq (.reg [⟨(some 1), 1, (.box 25 2 (.t 0)), none, []⟩,
    ⟨(some 2), 2, (.mv (.k (.c (.s (.pv (.bool false)))))), none, []⟩])
  (.seq (.seq (.reg [⟨(some 6), 6, (.fld 0 (.t 1)), none, []⟩,
    ⟨(some 7), 7, (.load false 1 (.t 6)), none, [0]⟩,
    ⟨(some 8), 8, (.len (.t 7)), none, [1]⟩,
    ⟨(some 9), 9, (.bin false .lss (.t 8) (.k (.c (.s (.pv (.int .i64 1)))))), none, [2]⟩,
    ⟨(some 10), 10, (.mv (.t 9)), none, [3]⟩,
    ⟨(some 11), 11, (.fld 0 (.t 1)), (some (10, false)), [4]⟩,
    ⟨(some 12), 12, (.load false 1 (.t 11)), (some (10, false)), [5, 4]⟩,
    ⟨(some 13), 13, (.len (.t 12)), (some (10, false)), [6, 4]⟩,
    ⟨(some 14), 14, (.bin false .gtr (.t 13) (.k (.c (.s (.pv (.int .i64 64)))))), (some (10, false)), [7, 4]⟩,
    ⟨(some 15), 15, (.pick (.t 10) (.k (.c (.s (.pv (.bool true))))) (.t 14)), none, [4, 8]⟩,
    ⟨(some 16), 16, (.mv (.t 15)), none, [9, 4]⟩,
    ⟨(some 17), 17, (.fld 1 (.t 1)), (some (16, false)), [10]⟩,
    ⟨(some 18), 18, (.load false 1 (.t 17)), (some (16, false)), [11, 10]⟩,
    ⟨(some 19), 19, (.len (.t 18)), (some (16, false)), [12, 10]⟩,
    ⟨(some 20), 20, (.bin false .gtr (.t 19) (.k (.c (.s (.pv (.int .i64 200)))))), (some (16, false)), [13, 10]⟩,
    ⟨(some 21), 21, (.pick (.t 16) (.k (.c (.s (.pv (.bool true))))) (.t 20)), none, [10, 14]⟩])
  (.cond (.t 21) (.seq (.reg [⟨(some 2), 2, (.mv (.k (.c (.s (.pv (.bool false)))))), none, []⟩])
  .ret) .skip))
  (.seq (.seq (.reg [⟨(some 3), 3, (.mv (.k (.c (.s (.pv (.int .i64 0)))))), none, []⟩])
  (.block 0 (.loop (.seq (.seq (.reg [⟨(some 22), 22, (.mv (.t 3)), none, []⟩,
    ⟨(some 23), 23, (.fld 0 (.t 1)), none, []⟩,
    ⟨(some 24), 24, (.load false 1 (.t 23)), none, [1]⟩,
    ⟨(some 25), 25, (.len (.t 24)), none, [2]⟩,
    ⟨(some 26), 26, (.bin false .lss (.t 22) (.t 25)), none, [0, 3]⟩])
  (.cond (.t 26) .skip (.exit 0)))
  (.seq (.block 1 (.seq (.reg [⟨(some 29), 29, (.fld 0 (.t 1)), none, []⟩,
    ⟨(some 30), 30, (.load false 1 (.t 29)), none, [0]⟩,
    ⟨(some 31), 31, (.mv (.t 3)), none, []⟩,
    ⟨(some 32), 32, (.idx 1 (.t 30) (.t 31)), none, [1, 2]⟩,
    ⟨(some 33), 33, (.load false 1 (.t 32)), none, [3]⟩,
    ⟨(some 34), 34, (.slen (.t 33)), none, [4]⟩,
    ⟨(some 35), 35, (.bin false .neq (.t 34) (.k (.c (.s (.pv (.int .i64 16)))))), none, [5]⟩])
  (.cond (.t 35) (.seq (.reg [⟨(some 2), 2, (.mv (.k (.c (.s (.pv (.bool false)))))), none, []⟩])
  .ret) .skip)))
  (.reg [⟨(some 27), 27, (.mv (.t 3)), none, []⟩,
    ⟨(some 28), 28, (.bin false .add (.t 27) (.k (.c (.s (.pv (.int .i64 1)))))), none, [0]⟩,
    ⟨(some 3), 3, (.mv (.t 28)), none, [1, 0, 1]⟩]))))))
  (.seq (.seq (.reg [⟨(some 4), 4, (.mv (.k (.c (.s (.pv (.int .i64 0)))))), none, []⟩])
  (.block 2 (.loop (.seq (.seq (.reg [⟨(some 36), 36, (.mv (.t 4)), none, []⟩,
    ⟨(some 37), 37, (.fld 1 (.t 1)), none, []⟩,
    ⟨(some 38), 38, (.load false 1 (.t 37)), none, [1]⟩,
    ⟨(some 39), 39, (.len (.t 38)), none, [2]⟩,
    ⟨(some 40), 40, (.bin false .lss (.t 36) (.t 39)), none, [0, 3]⟩])
  (.cond (.t 40) .skip (.exit 2)))
  (.seq (.block 3 (.seq (.reg [⟨(some 43), 43, (.fld 1 (.t 1)), none, []⟩,
    ⟨(some 44), 44, (.load false 1 (.t 43)), none, [0]⟩,
    ⟨(some 45), 45, (.mv (.t 4)), none, []⟩,
    ⟨(some 46), 46, (.idx 2 (.t 44) (.t 45)), none, [1, 2]⟩,
    ⟨(some 47), 47, (.load true 2 (.t 46)), none, [3]⟩,
    ⟨(some 5), 5, (.mk 32 2 [[(.s (.pv (.int .i64 0))), (.s (.pv (.string ⟨#[]⟩)))]]), none, []⟩,
    ⟨none, 71, (.store 2 (.t 5) (.t 47)), none, [5, 4, 0, 1, 2, 3, 4, 5]⟩])
  (.seq (.reg [⟨(some 48), 48, (.fld 0 (.t 5)), none, []⟩,
    ⟨(some 49), 49, (.load false 1 (.t 48)), none, [0]⟩,
    ⟨(some 50), 50, (.bin false .lss (.t 49) (.k (.c (.s (.pv (.int .i64 0)))))), none, [1]⟩,
    ⟨(some 51), 51, (.mv (.t 50)), none, [2]⟩,
    ⟨(some 52), 52, (.fld 0 (.t 5)), (some (51, false)), [3]⟩,
    ⟨(some 53), 53, (.load false 1 (.t 52)), (some (51, false)), [4, 3]⟩,
    ⟨(some 54), 54, (.fld 0 (.t 1)), (some (51, false)), [3]⟩,
    ⟨(some 55), 55, (.load false 1 (.t 54)), (some (51, false)), [6, 3]⟩,
    ⟨(some 56), 56, (.len (.t 55)), (some (51, false)), [7, 3]⟩,
    ⟨(some 57), 57, (.bin false .geq (.t 53) (.t 56)), (some (51, false)), [5, 8, 3]⟩,
    ⟨(some 58), 58, (.pick (.t 51) (.k (.c (.s (.pv (.bool true))))) (.t 57)), none, [3, 9]⟩,
    ⟨(some 59), 59, (.mv (.t 58)), none, [10, 3]⟩,
    ⟨(some 60), 60, (.fld 1 (.t 5)), (some (59, false)), [11]⟩,
    ⟨(some 61), 61, (.load false 1 (.t 60)), (some (59, false)), [12, 11]⟩,
    ⟨(some 62), 62, (.slen (.t 61)), (some (59, false)), [13, 11]⟩,
    ⟨(some 63), 63, (.bin false .neq (.t 62) (.k (.c (.s (.pv (.int .i64 16)))))), (some (59, false)), [14, 11]⟩,
    ⟨(some 64), 64, (.pick (.t 59) (.k (.c (.s (.pv (.bool true))))) (.t 63)), none, [11, 15]⟩])
  (.cond (.t 64) (.seq (.reg [⟨(some 2), 2, (.mv (.k (.c (.s (.pv (.bool false)))))), none, []⟩])
  .ret) .skip))))
  (.reg [⟨(some 41), 41, (.mv (.t 4)), none, []⟩,
    ⟨(some 42), 42, (.bin false .add (.t 41) (.k (.c (.s (.pv (.int .i64 1)))))), none, [0]⟩,
    ⟨(some 4), 4, (.mv (.t 42)), none, [1, 0, 1]⟩]))))))
  (.seq (.reg [⟨(some 2), 2, (.mv (.k (.c (.s (.pv (.bool true)))))), none, []⟩])
  .ret)))))
theorem fn18 : FnIs Try.prog 18 ac18 [(.t 2)] 65 := ⟨Try.f18, Try.func18, by kernel_rfl, by kernel_rfl, by kernel_rfl⟩
/- lockkeeper/disk.Put -/
def ac20 : ACode := (.seq (.reg [⟨(some 2), 2, (.box 25 2 (.t 0)), none, []⟩,
    ⟨(some 3), 3, (.box 32 2 (.t 1)), none, []⟩,
    ⟨(some 4), 4, (.mk 25 2 [[.zc, .zc]]), none, []⟩,
    ⟨(some 5), 5, (.mv (.k (.c (.s (.pv (.int .i64 0)))))), none, []⟩])
  (.seq (.seq (.reg [⟨(some 6), 6, (.load true 2 (.t 2)), none, []⟩,
    ⟨(some 7), 7, (.call 21 [(.t 6)]), none, [0]⟩,
    ⟨(some 8), 8, (.not (.t 7)), none, [1]⟩,
    ⟨(some 9), 9, (.mv (.t 8)), none, [2, 1]⟩,
    ⟨(some 10), 10, (.load true 2 (.t 2)), (some (9, false)), [3]⟩,
    ⟨(some 11), 11, (.load true 2 (.t 3)), (some (9, false)), [3]⟩,
    ⟨(some 12), 12, (.call 44 [(.t 10), (.t 11)]), (some (9, false)), [4, 5, 3, 3]⟩,
    ⟨(some 13), 13, (.not (.t 12)), (some (9, false)), [6, 3]⟩,
    ⟨(some 14), 14, (.pick (.t 9) (.k (.c (.s (.pv (.bool true))))) (.t 13)), none, [3, 7]⟩])
  (.cond (.t 14) (.seq (.reg [⟨(some 15), 15, (.load true 2 (.t 2)), none, []⟩,
    ⟨none, 31, (.store 2 (.t 4) (.t 15)), none, [0, 0]⟩,
    ⟨(some 5), 5, (.mv (.k (.c (.s (.pv (.int .i64 1)))))), none, [1, 0, 1]⟩])
  .ret) .skip))
  (.seq (.seq (.reg [⟨(some 16), 16, (.fld 1 (.t 2)), none, []⟩,
    ⟨(some 17), 17, (.load false 1 (.t 16)), none, [0]⟩,
    ⟨(some 18), 18, (.len (.t 17)), none, [1]⟩,
    ⟨(some 19), 19, (.bin false .eql (.t 18) (.k (.c (.s (.pv (.int .i64 200)))))), none, [2]⟩])
  (.cond (.t 19) (.seq (.reg [⟨(some 20), 20, (.load true 2 (.t 2)), none, []⟩,
    ⟨none, 31, (.store 2 (.t 4) (.t 20)), none, [0, 0]⟩,
    ⟨(some 5), 5, (.mv (.k (.c (.s (.pv (.int .i64 7)))))), none, [1, 0, 1]⟩])
  .ret) .skip))
  (.seq (.draw [⟨(some 21), 21, (.fld 0 (.t 2)), none, []⟩,
    ⟨(some 22), 22, (.load false 1 (.t 21)), none, [0]⟩,
    ⟨(some 23), 23, (.fld 1 (.t 2)), none, []⟩,
    ⟨(some 24), 24, (.load false 1 (.t 23)), none, [2]⟩,
    ⟨(some 25), 25, (.call 45 [(.t 24)]), none, [3]⟩,
    ⟨(some 26), 26, (.load true 2 (.t 3)), none, []⟩,
    ⟨(some 27), 27, (.bslice 32 2 [(.s (.pv (.int .i64 0))), (.s (.pv (.string ⟨#[]⟩)))] 1 [(0, 2, (.t 26))]), none, [5]⟩,
    ⟨(some 28), 28, (.app 32 2 24 (.t 25) (.t 27)), none, [4, 6, 4]⟩,
    ⟨(some 29), 29, (.build [.zc, .zc] [(0, 1, (.t 22)), (1, 1, (.t 28))]), none, [1, 7]⟩,
    ⟨none, 39, (.store 2 (.t 4) (.t 29)), none, [8, 7, 0, 1, 2, 3, 4, 5, 6, 7, 8]⟩,
    ⟨(some 5), 5, (.mv (.k (.c (.s (.pv (.int .i64 0)))))), none, [9, 0, 1, 2, 3, 4, 5, 6, 7, 8, 9]⟩])
  .ret))))
theorem fn20 : FnIs Try.prog 20 ac20 [(.cell 4 true 2), (.t 5)] 30 := ⟨Try.f20, Try.func20, by kernel_rfl, by kernel_rfl, by kernel_rfl⟩
/- lockkeeper/disk.Right -/
def ac21 : ACode := (.seq (.reg [⟨(some 1), 1, (.box 25 2 (.t 0)), none, []⟩,
    ⟨(some 2), 2, (.mv (.k (.c (.s (.pv (.bool false)))))), none, []⟩])
  (.seq (.seq (.reg [⟨(some 7), 7, (.fld 0 (.t 1)), none, []⟩,
    ⟨(some 8), 8, (.load false 1 (.t 7)), none, [0]⟩,
    ⟨(some 9), 9, (.len (.t 8)), none, [1]⟩,
    ⟨(some 10), 10, (.bin false .lss (.t 9) (.k (.c (.s (.pv (.int .i64 1)))))), none, [2]⟩,
    ⟨(some 11), 11, (.mv (.t 10)), none, [3]⟩,
    ⟨(some 12), 12, (.fld 0 (.t 1)), (some (11, false)), [4]⟩,
    ⟨(some 13), 13, (.load false 1 (.t 12)), (some (11, false)), [5, 4]⟩,
    ⟨(some 14), 14, (.len (.t 13)), (some (11, false)), [6, 4]⟩,
    ⟨(some 15), 15, (.bin false .gtr (.t 14) (.k (.c (.s (.pv (.int .i64 64)))))), (some (11, false)), [7, 4]⟩,
    ⟨(some 16), 16, (.pick (.t 11) (.k (.c (.s (.pv (.bool true))))) (.t 15)), none, [4, 8]⟩,
    ⟨(some 17), 17, (.mv (.t 16)), none, [9, 4]⟩,
    ⟨(some 18), 18, (.fld 1 (.t 1)), (some (17, false)), [10]⟩,
    ⟨(some 19), 19, (.load false 1 (.t 18)), (some (17, false)), [11, 10]⟩,
    ⟨(some 20), 20, (.len (.t 19)), (some (17, false)), [12, 10]⟩,
    ⟨(some 21), 21, (.bin false .gtr (.t 20) (.k (.c (.s (.pv (.int .i64 200)))))), (some (17, false)), [13, 10]⟩,
    ⟨(some 22), 22, (.pick (.t 17) (.k (.c (.s (.pv (.bool true))))) (.t 21)), none, [10, 14]⟩])
  (.cond (.t 22) (.seq (.reg [⟨(some 2), 2, (.mv (.k (.c (.s (.pv (.bool false)))))), none, []⟩])
  .ret) .skip))
  (.seq (.seq (.reg [⟨(some 23), 23, (.fld 0 (.t 1)), none, []⟩,
    ⟨(some 24), 24, (.load false 1 (.t 23)), none, [0]⟩,
    ⟨(some 25), 25, (.len (.t 24)), none, [1]⟩,
    ⟨(some 26), 26, (.mv (.k (.c (.s (.pv (.int .i64 0)))))), none, []⟩])
  (.block 0 (.loop (.seq (.reg [⟨(some 27), 27, (.bin false .lss (.t 26) (.t 25)), none, []⟩])
  (.seq (.cond (.t 27) .skip (.exit 0))
  (.seq (.block 1 (.seq (.reg [⟨(some 28), 28, (.idx 1 (.t 24) (.t 26)), none, []⟩,
    ⟨(some 29), 29, (.load false 1 (.t 28)), none, [0]⟩,
    ⟨(some 4), 4, (.mv (.t 29)), none, [1, 0, 1]⟩])
  (.seq (.reg [⟨(some 30), 30, (.mv (.t 4)), none, []⟩,
    ⟨(some 31), 31, (.slen (.t 30)), none, [0]⟩,
    ⟨(some 32), 32, (.bin false .neq (.t 31) (.k (.c (.s (.pv (.int .i64 16)))))), none, [1]⟩])
  (.cond (.t 32) (.seq (.reg [⟨(some 2), 2, (.mv (.k (.c (.s (.pv (.bool false)))))), none, []⟩])
  .ret) .skip))))
  (.reg [⟨(some 33), 33, (.bin false .add (.t 26) (.k (.c (.s (.pv (.int .i64 1)))))), none, []⟩,
    ⟨(some 26), 26, (.mv (.t 33)), none, [0]⟩])))))))
  (.seq (.seq (.reg [⟨(some 34), 34, (.fld 1 (.t 1)), none, []⟩,
    ⟨(some 35), 35, (.load false 1 (.t 34)), none, [0]⟩,
    ⟨(some 36), 36, (.len (.t 35)), none, [1]⟩,
    ⟨(some 37), 37, (.mv (.k (.c (.s (.pv (.int .i64 0)))))), none, []⟩])
  (.block 2 (.loop (.seq (.reg [⟨(some 38), 38, (.bin false .lss (.t 37) (.t 36)), none, []⟩])
  (.seq (.cond (.t 38) .skip (.exit 2))
  (.seq (.block 3 (.seq (.reg [⟨(some 39), 39, (.idx 2 (.t 35) (.t 37)), none, []⟩,
    ⟨(some 40), 40, (.load true 2 (.t 39)), none, [0]⟩,
    ⟨(some 6), 6, (.mk 32 2 [[(.s (.pv (.int .i64 0))), (.s (.pv (.string ⟨#[]⟩)))]]), none, []⟩,
    ⟨none, 49, (.store 2 (.t 6) (.t 40)), none, [2, 1, 0, 1, 2]⟩])
  (.seq (.reg [⟨(some 41), 41, (.load true 2 (.t 1)), none, []⟩,
    ⟨(some 42), 42, (.load true 2 (.t 6)), none, []⟩,
    ⟨(some 43), 43, (.call 44 [(.t 41), (.t 42)]), none, [0, 1]⟩,
    ⟨(some 44), 44, (.not (.t 43)), none, [2]⟩])
  (.cond (.t 44) (.seq (.reg [⟨(some 2), 2, (.mv (.k (.c (.s (.pv (.bool false)))))), none, []⟩])
  .ret) .skip))))
  (.reg [⟨(some 45), 45, (.bin false .add (.t 37) (.k (.c (.s (.pv (.int .i64 1)))))), none, []⟩,
    ⟨(some 37), 37, (.mv (.t 45)), none, [0]⟩])))))))
  (.seq (.reg [⟨(some 2), 2, (.mv (.k (.c (.s (.pv (.bool true)))))), none, []⟩])
  .ret)))))
theorem fn21 : FnIs Try.prog 21 ac21 [(.t 2)] 46 := ⟨Try.f21, Try.func21, by kernel_rfl, by kernel_rfl, by kernel_rfl⟩
/- lockkeeper/lockkeeperref03.Same -/
def ac22 : ACode := (.seq (.reg [⟨(some 2), 2, (.box 25 2 (.t 0)), none, []⟩,
    ⟨(some 3), 3, (.box 25 2 (.t 1)), none, []⟩,
    ⟨(some 4), 4, (.mv (.k (.c (.s (.pv (.bool false)))))), none, []⟩])
  (.seq (.seq (.reg [⟨(some 7), 7, (.fld 0 (.t 2)), none, []⟩,
    ⟨(some 8), 8, (.load false 1 (.t 7)), none, [0]⟩,
    ⟨(some 9), 9, (.len (.t 8)), none, [1]⟩,
    ⟨(some 10), 10, (.fld 0 (.t 3)), none, []⟩,
    ⟨(some 11), 11, (.load false 1 (.t 10)), none, [3]⟩,
    ⟨(some 12), 12, (.len (.t 11)), none, [4]⟩,
    ⟨(some 13), 13, (.bin false .neq (.t 9) (.t 12)), none, [2, 5]⟩,
    ⟨(some 14), 14, (.mv (.t 13)), none, [6]⟩,
    ⟨(some 15), 15, (.fld 1 (.t 2)), (some (14, false)), [7]⟩,
    ⟨(some 16), 16, (.load false 1 (.t 15)), (some (14, false)), [8, 7]⟩,
    ⟨(some 17), 17, (.len (.t 16)), (some (14, false)), [9, 7]⟩,
    ⟨(some 18), 18, (.fld 1 (.t 3)), (some (14, false)), [7]⟩,
    ⟨(some 19), 19, (.load false 1 (.t 18)), (some (14, false)), [11, 7]⟩,
    ⟨(some 20), 20, (.len (.t 19)), (some (14, false)), [12, 7]⟩,
    ⟨(some 21), 21, (.bin false .neq (.t 17) (.t 20)), (some (14, false)), [10, 13, 7]⟩,
    ⟨(some 22), 22, (.pick (.t 14) (.k (.c (.s (.pv (.bool true))))) (.t 21)), none, [7, 14]⟩])
  (.cond (.t 22) (.seq (.reg [⟨(some 4), 4, (.mv (.k (.c (.s (.pv (.bool false)))))), none, []⟩])
  .ret) .skip))
  (.seq (.seq (.reg [⟨(some 5), 5, (.mv (.k (.c (.s (.pv (.int .i64 0)))))), none, []⟩])
  (.block 0 (.loop (.seq (.seq (.reg [⟨(some 23), 23, (.mv (.t 5)), none, []⟩,
    ⟨(some 24), 24, (.fld 0 (.t 2)), none, []⟩,
    ⟨(some 25), 25, (.load false 1 (.t 24)), none, [1]⟩,
    ⟨(some 26), 26, (.len (.t 25)), none, [2]⟩,
    ⟨(some 27), 27, (.bin false .lss (.t 23) (.t 26)), none, [0, 3]⟩])
  (.cond (.t 27) .skip (.exit 0)))
  (.seq (.block 1 (.seq (.draw [⟨(some 30), 30, (.fld 0 (.t 2)), none, []⟩,
    ⟨(some 31), 31, (.load false 1 (.t 30)), none, [0]⟩,
    ⟨(some 32), 32, (.mv (.t 5)), none, []⟩,
    ⟨(some 33), 33, (.idx 1 (.t 31) (.t 32)), none, [1, 2]⟩,
    ⟨(some 34), 34, (.load false 1 (.t 33)), none, [3]⟩,
    ⟨(some 35), 35, (.fld 0 (.t 3)), none, []⟩,
    ⟨(some 36), 36, (.load false 1 (.t 35)), none, [5]⟩,
    ⟨(some 37), 37, (.mv (.t 5)), none, []⟩,
    ⟨(some 38), 38, (.idx 1 (.t 36) (.t 37)), none, [6, 7]⟩,
    ⟨(some 39), 39, (.load false 1 (.t 38)), none, [8]⟩,
    ⟨(some 40), 40, (.bin false .neq (.t 34) (.t 39)), none, [4, 9]⟩])
  (.cond (.t 40) (.seq (.reg [⟨(some 4), 4, (.mv (.k (.c (.s (.pv (.bool false)))))), none, []⟩])
  .ret) .skip)))
  (.reg [⟨(some 28), 28, (.mv (.t 5)), none, []⟩,
    ⟨(some 29), 29, (.bin false .add (.t 28) (.k (.c (.s (.pv (.int .i64 1)))))), none, [0]⟩,
    ⟨(some 5), 5, (.mv (.t 29)), none, [1, 0, 1]⟩]))))))
  (.seq (.seq (.reg [⟨(some 6), 6, (.mv (.k (.c (.s (.pv (.int .i64 0)))))), none, []⟩])
  (.block 2 (.loop (.seq (.seq (.reg [⟨(some 41), 41, (.mv (.t 6)), none, []⟩,
    ⟨(some 42), 42, (.fld 1 (.t 2)), none, []⟩,
    ⟨(some 43), 43, (.load false 1 (.t 42)), none, [1]⟩,
    ⟨(some 44), 44, (.len (.t 43)), none, [2]⟩,
    ⟨(some 45), 45, (.bin false .lss (.t 41) (.t 44)), none, [0, 3]⟩])
  (.cond (.t 45) .skip (.exit 2)))
  (.seq (.block 3 (.seq (.draw [⟨(some 48), 48, (.fld 1 (.t 2)), none, []⟩,
    ⟨(some 49), 49, (.load false 1 (.t 48)), none, [0]⟩,
    ⟨(some 50), 50, (.mv (.t 6)), none, []⟩,
    ⟨(some 51), 51, (.idx 2 (.t 49) (.t 50)), none, [1, 2]⟩,
    ⟨(some 52), 52, (.load true 2 (.t 51)), none, [3]⟩,
    ⟨(some 53), 53, (.fld 1 (.t 3)), none, []⟩,
    ⟨(some 54), 54, (.load false 1 (.t 53)), none, [5]⟩,
    ⟨(some 55), 55, (.mv (.t 6)), none, []⟩,
    ⟨(some 56), 56, (.idx 2 (.t 54) (.t 55)), none, [6, 7]⟩,
    ⟨(some 57), 57, (.load true 2 (.t 56)), none, [8]⟩,
    ⟨(some 58), 58, (.eqs true 32 (.t 52) (.t 57)), none, [4, 9]⟩])
  (.cond (.t 58) (.seq (.reg [⟨(some 4), 4, (.mv (.k (.c (.s (.pv (.bool false)))))), none, []⟩])
  .ret) .skip)))
  (.reg [⟨(some 46), 46, (.mv (.t 6)), none, []⟩,
    ⟨(some 47), 47, (.bin false .add (.t 46) (.k (.c (.s (.pv (.int .i64 1)))))), none, [0]⟩,
    ⟨(some 6), 6, (.mv (.t 47)), none, [1, 0, 1]⟩]))))))
  (.seq (.reg [⟨(some 4), 4, (.mv (.k (.c (.s (.pv (.bool true)))))), none, []⟩])
  .ret)))))
theorem fn22 : FnIs Try.prog 22 ac22 [(.t 4)] 59 := ⟨Try.f22, Try.func22, by kernel_rfl, by kernel_rfl, by kernel_rfl⟩
/- lockkeeper/disk.Sync -/
def ac23 : ACode := (.seq (.reg [⟨(some 1), 1, (.box 25 2 (.t 0)), none, []⟩,
    ⟨(some 2), 2, (.mk 25 2 [[.zc, .zc]]), none, []⟩])
  (.seq (.seq (.reg [⟨(some 3), 3, (.load true 2 (.t 1)), none, []⟩,
    ⟨(some 4), 4, (.call 21 [(.t 3)]), none, [0]⟩,
    ⟨(some 5), 5, (.not (.t 4)), none, [1]⟩])
  (.cond (.t 5) (.seq (.reg [⟨(some 6), 6, (.load true 2 (.t 1)), none, []⟩,
    ⟨none, 12, (.store 2 (.t 2) (.t 6)), none, [0, 0]⟩])
  .ret) .skip))
  (.seq (.reg [⟨(some 7), 7, (.load true 2 (.t 1)), none, []⟩,
    ⟨(some 8), 8, (.fld 1 (.t 1)), none, []⟩,
    ⟨(some 9), 9, (.load false 1 (.t 8)), none, [1]⟩,
    ⟨(some 10), 10, (.call 46 [(.t 7), (.t 9)]), none, [0, 2]⟩,
    ⟨none, 15, (.store 2 (.t 2) (.t 10)), none, [3, 3, 0, 1, 2, 3]⟩])
  .ret)))
theorem fn23 : FnIs Try.prog 23 ac23 [(.cell 2 true 2)] 11 := ⟨Try.f23, Try.func23, by kernel_rfl, by kernel_rfl, by kernel_rfl⟩
/- lockkeeper/disk.Crash -/
def ac24 : ACode := (.seq (.reg [⟨(some 2), 2, (.box 25 2 (.t 0)), none, []⟩,
    ⟨(some 4), 4, (.mk 25 2 [[.zc, .zc]]), none, []⟩])
  (.seq (.seq (.reg [⟨(some 11), 11, (.load true 2 (.t 2)), none, []⟩,
    ⟨(some 12), 12, (.call 21 [(.t 11)]), none, [0]⟩,
    ⟨(some 13), 13, (.not (.t 12)), none, [1]⟩])
  (.cond (.t 13) (.seq (.reg [⟨(some 14), 14, (.load true 2 (.t 2)), none, []⟩,
    ⟨none, 58, (.store 2 (.t 4) (.t 14)), none, [0, 0]⟩])
  .ret) .skip))
  (.seq (.reg [⟨(some 15), 15, (.fld 1 (.t 2)), none, []⟩,
    ⟨(some 16), 16, (.load false 1 (.t 15)), none, [0]⟩,
    ⟨(some 17), 17, (.len (.t 16)), none, [1]⟩,
    ⟨(some 18), 18, (.mkSlice 4 1 1 [(.pv (.bool false))] (.t 17) (.t 17)), none, [2, 2]⟩,
    ⟨(some 5), 5, (.mv (.t 18)), none, [3, 0, 1, 2, 3]⟩])
  (.seq (.seq (.reg [⟨(some 19), 19, (.mv (.t 1)), none, []⟩,
    ⟨(some 20), 20, (.len (.t 19)), none, [0]⟩,
    ⟨(some 21), 21, (.mv (.k (.c (.s (.pv (.int .i64 0)))))), none, []⟩])
  (.block 0 (.loop (.seq (.reg [⟨(some 22), 22, (.bin false .lss (.t 21) (.t 20)), none, []⟩])
  (.seq (.cond (.t 22) .skip (.exit 0))
  (.seq (.block 1 (.seq (.reg [⟨(some 23), 23, (.idx 1 (.t 19) (.t 21)), none, []⟩,
    ⟨(some 24), 24, (.load false 1 (.t 23)), none, [0]⟩,
    ⟨(some 7), 7, (.mv (.t 24)), none, [1, 0, 1]⟩])
  (.seq (.reg [⟨(some 25), 25, (.mv (.t 7)), none, []⟩,
    ⟨(some 26), 26, (.bin false .geq (.t 25) (.k (.c (.s (.pv (.int .i64 0)))))), none, [0]⟩,
    ⟨(some 27), 27, (.mv (.t 26)), none, [1]⟩,
    ⟨(some 28), 28, (.mv (.t 7)), (some (27, true)), [2]⟩,
    ⟨(some 29), 29, (.mv (.t 5)), (some (27, true)), [2]⟩,
    ⟨(some 30), 30, (.len (.t 29)), (some (27, true)), [4, 2]⟩,
    ⟨(some 31), 31, (.bin false .lss (.t 28) (.t 30)), (some (27, true)), [3, 5, 2]⟩,
    ⟨(some 32), 32, (.pick (.t 27) (.t 31) (.k (.c (.s (.pv (.bool false)))))), none, [2, 6]⟩])
  (.cond (.t 32) (.reg [⟨(some 33), 33, (.mv (.t 5)), none, []⟩,
    ⟨(some 34), 34, (.mv (.t 7)), none, []⟩,
    ⟨(some 35), 35, (.idx 1 (.t 33) (.t 34)), none, [0, 1, 0, 1]⟩,
    ⟨none, 60, (.store 1 (.t 35) (.k (.c (.s (.pv (.bool true)))))), none, [2, 0, 1]⟩]) .skip))))
  (.reg [⟨(some 36), 36, (.bin false .add (.t 21) (.k (.c (.s (.pv (.int .i64 1)))))), none, []⟩,
    ⟨(some 21), 21, (.mv (.t 36)), none, [0]⟩])))))))
  (.seq (.reg [⟨(some 8), 8, (.mv (.k (.c .zc))), none, []⟩])
  (.seq (.seq (.reg [⟨(some 37), 37, (.fld 1 (.t 2)), none, []⟩,
    ⟨(some 38), 38, (.load false 1 (.t 37)), none, [0]⟩,
    ⟨(some 39), 39, (.len (.t 38)), none, [1]⟩,
    ⟨(some 40), 40, (.mv (.k (.c (.s (.pv (.int .i64 0)))))), none, []⟩])
  (.block 2 (.loop (.seq (.reg [⟨(some 41), 41, (.bin false .lss (.t 40) (.t 39)), none, []⟩])
  (.seq (.cond (.t 41) .skip (.exit 2))
  (.seq (.block 3 (.seq (.reg [⟨(some 42), 42, (.mv (.t 40)), none, []⟩,
    ⟨(some 43), 43, (.idx 2 (.t 38) (.t 40)), none, []⟩,
    ⟨(some 44), 44, (.load true 2 (.t 43)), none, [1]⟩,
    ⟨(some 10), 10, (.mk 32 2 [[(.s (.pv (.int .i64 0))), (.s (.pv (.string ⟨#[]⟩)))]]), none, []⟩,
    ⟨(some 9), 9, (.mv (.t 42)), none, [0, 0, 1, 2, 3]⟩,
    ⟨none, 62, (.store 2 (.t 10) (.t 44)), none, [3, 2, 4, 0, 1, 2, 3, 4]⟩])
  (.seq (.reg [⟨(some 45), 45, (.mv (.t 5)), none, []⟩,
    ⟨(some 46), 46, (.mv (.t 9)), none, []⟩,
    ⟨(some 47), 47, (.idx 1 (.t 45) (.t 46)), none, [0, 1]⟩,
    ⟨(some 48), 48, (.load false 1 (.t 47)), none, [2]⟩])
  (.cond (.t 48) (.reg [⟨(some 49), 49, (.mv (.t 8)), none, []⟩,
    ⟨(some 50), 50, (.load true 2 (.t 10)), none, []⟩,
    ⟨(some 51), 51, (.bslice 32 2 [(.s (.pv (.int .i64 0))), (.s (.pv (.string ⟨#[]⟩)))] 1 [(0, 2, (.t 50))]), none, [1]⟩,
    ⟨(some 52), 52, (.app 32 2 24 (.t 49) (.t 51)), none, [0, 2]⟩,
    ⟨(some 8), 8, (.mv (.t 52)), none, [3, 3, 0, 1, 2, 3]⟩]) .skip))))
  (.reg [⟨(some 53), 53, (.bin false .add (.t 40) (.k (.c (.s (.pv (.int .i64 1)))))), none, []⟩,
    ⟨(some 40), 40, (.mv (.t 53)), none, [0]⟩])))))))
  (.seq (.reg [⟨(some 54), 54, (.load true 2 (.t 2)), none, []⟩,
    ⟨(some 55), 55, (.mv (.t 8)), none, []⟩,
    ⟨(some 56), 56, (.call 46 [(.t 54), (.t 55)]), none, [0, 1]⟩,
    ⟨none, 60, (.store 2 (.t 4) (.t 56)), none, [2, 2, 0, 1, 2]⟩])
  .ret)))))))
theorem fn24 : FnIs Try.prog 24 ac24 [(.cell 4 true 2)] 57 := ⟨Try.f24, Try.func24, by kernel_rfl, by kernel_rfl, by kernel_rfl⟩
/- lockkeeper/lockkeeperref03.Sync -/
def ac25 : ACode := (.seq (.reg [⟨(some 1), 1, (.box 25 2 (.t 0)), none, []⟩,
    ⟨(some 2), 2, (.mk 25 2 [[.zc, .zc]]), none, []⟩])
  (.seq (.reg [⟨(some 3), 3, (.mk 25 2 [[.zc, .zc]]), none, []⟩])
  (.seq (.seq (.reg [⟨(some 4), 4, (.mv (.k (.c (.s (.pv (.int .i64 0)))))), none, []⟩])
  (.block 0 (.loop (.seq (.seq (.reg [⟨(some 5), 5, (.mv (.t 4)), none, []⟩,
    ⟨(some 6), 6, (.fld 0 (.t 1)), none, []⟩,
    ⟨(some 7), 7, (.load false 1 (.t 6)), none, [1]⟩,
    ⟨(some 8), 8, (.len (.t 7)), none, [2]⟩,
    ⟨(some 9), 9, (.bin false .lss (.t 5) (.t 8)), none, [0, 3]⟩])
  (.cond (.t 9) .skip (.exit 0)))
  (.seq (.block 1 (.draw [⟨(some 12), 12, (.fld 0 (.t 3)), none, []⟩,
    ⟨(some 13), 13, (.load false 1 (.t 12)), none, [0]⟩,
    ⟨(some 14), 14, (.load true 2 (.t 1)), none, []⟩,
    ⟨(some 15), 15, (.mv (.t 4)), none, []⟩,
    ⟨(some 16), 16, (.call 27 [(.t 14), (.t 15)]), none, [2, 3]⟩,
    ⟨(some 17), 17, (.bslice 9 1 [(.s (.pv (.string ⟨#[]⟩)))] 1 [(0, 1, (.t 16))]), none, [4]⟩,
    ⟨(some 18), 18, (.app 9 1 16 (.t 13) (.t 17)), none, [1, 5, 4]⟩,
    ⟨(some 19), 19, (.fld 0 (.t 3)), none, [0, 1, 2, 3, 4, 5, 6]⟩,
    ⟨none, 29, (.store 1 (.t 19) (.t 18)), none, [7, 6, 6, 0, 1, 2, 3, 4, 5, 6]⟩]))
  (.reg [⟨(some 10), 10, (.mv (.t 4)), none, []⟩,
    ⟨(some 11), 11, (.bin false .add (.t 10) (.k (.c (.s (.pv (.int .i64 1)))))), none, [0]⟩,
    ⟨(some 4), 4, (.mv (.t 11)), none, [1, 0, 1]⟩]))))))
  (.seq (.reg [⟨(some 20), 20, (.load true 2 (.t 3)), none, []⟩,
    ⟨none, 22, (.store 2 (.t 2) (.t 20)), none, [0, 0]⟩])
  .ret))))
theorem fn25 : FnIs Try.prog 25 ac25 [(.cell 2 true 2)] 21 := ⟨Try.f25, Try.func25, by kernel_rfl, by kernel_rfl, by kernel_rfl⟩
/- lockkeeper/lockkeeperref03.Crash -/
def ac26 : ACode := (.seq (.reg [⟨(some 2), 2, (.box 25 2 (.t 0)), none, []⟩,
    ⟨(some 4), 4, (.mk 25 2 [[.zc, .zc]]), none, []⟩])
  (.seq (.reg [⟨(some 5), 5, (.mk 25 2 [[.zc, .zc]]), none, []⟩])
  (.seq (.seq (.reg [⟨(some 6), 6, (.mv (.k (.c (.s (.pv (.int .i64 0)))))), none, []⟩])
  (.block 0 (.loop (.seq (.seq (.reg [⟨(some 9), 9, (.mv (.t 6)), none, []⟩,
    ⟨(some 10), 10, (.fld 0 (.t 2)), none, []⟩,
    ⟨(some 11), 11, (.load false 1 (.t 10)), none, [1]⟩,
    ⟨(some 12), 12, (.len (.t 11)), none, [2]⟩,
    ⟨(some 13), 13, (.bin false .lss (.t 9) (.t 12)), none, [0, 3]⟩])
  (.cond (.t 13) .skip (.exit 0)))
  (.seq (.block 1 (.seq (.reg [⟨(some 16), 16, (.fld 0 (.t 2)), none, []⟩,
    ⟨(some 17), 17, (.load false 1 (.t 16)), none, [0]⟩,
    ⟨(some 18), 18, (.mv (.t 6)), none, []⟩,
    ⟨(some 19), 19, (.idx 1 (.t 17) (.t 18)), none, [1, 2]⟩,
    ⟨(some 20), 20, (.load false 1 (.t 19)), none, [3]⟩,
    ⟨(some 7), 7, (.mv (.t 20)), none, [4, 0, 1, 2, 3, 4]⟩])
  (.seq (.seq (.reg [⟨(some 8), 8, (.mv (.k (.c (.s (.pv (.int .i64 0)))))), none, []⟩])
  (.block 2 (.loop (.seq (.seq (.reg [⟨(some 21), 21, (.mv (.t 8)), none, []⟩,
    ⟨(some 22), 22, (.fld 1 (.t 2)), none, []⟩,
    ⟨(some 23), 23, (.load false 1 (.t 22)), none, [1]⟩,
    ⟨(some 24), 24, (.len (.t 23)), none, [2]⟩,
    ⟨(some 25), 25, (.bin false .lss (.t 21) (.t 24)), none, [0, 3]⟩])
  (.cond (.t 25) .skip (.exit 2)))
  (.seq (.block 3 (.seq (.reg [⟨(some 28), 28, (.fld 1 (.t 2)), none, []⟩,
    ⟨(some 29), 29, (.load false 1 (.t 28)), none, [0]⟩,
    ⟨(some 30), 30, (.mv (.t 8)), none, []⟩,
    ⟨(some 31), 31, (.idx 2 (.t 29) (.t 30)), none, [1, 2]⟩,
    ⟨(some 32), 32, (.fld 0 (.t 31)), none, [3]⟩,
    ⟨(some 33), 33, (.load false 1 (.t 32)), none, [4]⟩,
    ⟨(some 34), 34, (.mv (.t 6)), none, []⟩,
    ⟨(some 35), 35, (.bin false .eql (.t 33) (.t 34)), none, [5, 6]⟩,
    ⟨(some 36), 36, (.mv (.t 35)), none, [7]⟩,
    ⟨(some 37), 37, (.mv (.t 1)), (some (36, true)), [8]⟩,
    ⟨(some 38), 38, (.mv (.t 8)), (some (36, true)), [8]⟩,
    ⟨(some 39), 39, (.call 47 [(.t 37), (.t 38)]), (some (36, true)), [9, 10, 8, 8]⟩,
    ⟨(some 40), 40, (.pick (.t 36) (.t 39) (.k (.c (.s (.pv (.bool false)))))), none, [8, 11]⟩])
  (.cond (.t 40) (.reg [⟨(some 41), 41, (.fld 1 (.t 2)), none, []⟩,
    ⟨(some 42), 42, (.load false 1 (.t 41)), none, [0]⟩,
    ⟨(some 43), 43, (.mv (.t 8)), none, []⟩,
    ⟨(some 44), 44, (.idx 2 (.t 42) (.t 43)), none, [1, 2]⟩,
    ⟨(some 45), 45, (.fld 1 (.t 44)), none, [3]⟩,
    ⟨(some 46), 46, (.load false 1 (.t 45)), none, [4]⟩,
    ⟨(some 7), 7, (.mv (.t 46)), none, [5, 0, 1, 2, 3, 4, 5]⟩]) .skip)))
  (.reg [⟨(some 26), 26, (.mv (.t 8)), none, []⟩,
    ⟨(some 27), 27, (.bin false .add (.t 26) (.k (.c (.s (.pv (.int .i64 1)))))), none, [0]⟩,
    ⟨(some 8), 8, (.mv (.t 27)), none, [1, 0, 1]⟩]))))))
  (.reg [⟨(some 47), 47, (.fld 0 (.t 5)), none, []⟩,
    ⟨(some 48), 48, (.load false 1 (.t 47)), none, [0]⟩,
    ⟨(some 49), 49, (.mv (.t 7)), none, []⟩,
    ⟨(some 50), 50, (.bslice 9 1 [(.s (.pv (.string ⟨#[]⟩)))] 1 [(0, 1, (.t 49))]), none, [2]⟩,
    ⟨(some 51), 51, (.app 9 1 16 (.t 48) (.t 50)), none, [1, 3]⟩,
    ⟨(some 52), 52, (.fld 0 (.t 5)), none, [0, 1, 2, 3, 4]⟩,
    ⟨none, 60, (.store 1 (.t 52) (.t 51)), none, [5, 4, 4, 0, 1, 2, 3, 4]⟩]))))
  (.reg [⟨(some 14), 14, (.mv (.t 6)), none, []⟩,
    ⟨(some 15), 15, (.bin false .add (.t 14) (.k (.c (.s (.pv (.int .i64 1)))))), none, [0]⟩,
    ⟨(some 6), 6, (.mv (.t 15)), none, [1, 0, 1]⟩]))))))
  (.seq (.reg [⟨(some 53), 53, (.load true 2 (.t 5)), none, []⟩,
    ⟨none, 55, (.store 2 (.t 4) (.t 53)), none, [0, 0]⟩])
  .ret))))
theorem fn26 : FnIs Try.prog 26 ac26 [(.cell 4 true 2)] 54 := ⟨Try.f26, Try.func26, by kernel_rfl, by kernel_rfl, by kernel_rfl⟩
/- lockkeeper/lockkeeperref03.Read -/
def ac27 : ACode := (.seq (.reg [⟨(some 2), 2, (.box 25 2 (.t 0)), none, []⟩,
    ⟨(some 4), 4, (.mv (.k (.c (.s (.pv (.string ⟨#[]⟩)))))), none, []⟩])
  (.seq (.seq (.reg [⟨(some 6), 6, (.fld 1 (.t 2)), none, []⟩,
    ⟨(some 7), 7, (.load false 1 (.t 6)), none, [0]⟩,
    ⟨(some 8), 8, (.len (.t 7)), none, [1]⟩,
    ⟨(some 9), 9, (.bin false .sub (.t 8) (.k (.c (.s (.pv (.int .i64 1)))))), none, [2]⟩,
    ⟨(some 5), 5, (.mv (.t 9)), none, [3, 0, 1, 2, 3]⟩])
  (.block 0 (.loop (.seq (.seq (.reg [⟨(some 10), 10, (.mv (.t 5)), none, []⟩,
    ⟨(some 11), 11, (.bin false .geq (.t 10) (.k (.c (.s (.pv (.int .i64 0)))))), none, [0]⟩])
  (.cond (.t 11) .skip (.exit 0)))
  (.seq (.block 1 (.seq (.reg [⟨(some 14), 14, (.fld 1 (.t 2)), none, []⟩,
    ⟨(some 15), 15, (.load false 1 (.t 14)), none, [0]⟩,
    ⟨(some 16), 16, (.mv (.t 5)), none, []⟩,
    ⟨(some 17), 17, (.idx 2 (.t 15) (.t 16)), none, [1, 2]⟩,
    ⟨(some 18), 18, (.fld 0 (.t 17)), none, [3]⟩,
    ⟨(some 19), 19, (.load false 1 (.t 18)), none, [4]⟩,
    ⟨(some 20), 20, (.mv (.t 1)), none, []⟩,
    ⟨(some 21), 21, (.bin false .eql (.t 19) (.t 20)), none, [5, 6]⟩])
  (.cond (.t 21) (.seq (.reg [⟨(some 22), 22, (.fld 1 (.t 2)), none, []⟩,
    ⟨(some 23), 23, (.load false 1 (.t 22)), none, [0]⟩,
    ⟨(some 24), 24, (.mv (.t 5)), none, []⟩,
    ⟨(some 25), 25, (.idx 2 (.t 23) (.t 24)), none, [1, 2]⟩,
    ⟨(some 26), 26, (.fld 1 (.t 25)), none, [3]⟩,
    ⟨(some 27), 27, (.load false 1 (.t 26)), none, [4]⟩,
    ⟨(some 4), 4, (.mv (.t 27)), none, [5, 0, 1, 2, 3, 4, 5]⟩])
  .ret) .skip)))
  (.reg [⟨(some 12), 12, (.mv (.t 5)), none, []⟩,
    ⟨(some 13), 13, (.bin false .sub (.t 12) (.k (.c (.s (.pv (.int .i64 1)))))), none, [0]⟩,
    ⟨(some 5), 5, (.mv (.t 13)), none, [1, 0, 1]⟩]))))))
  (.seq (.reg [⟨(some 28), 28, (.fld 0 (.t 2)), none, []⟩,
    ⟨(some 29), 29, (.load false 1 (.t 28)), none, [0]⟩,
    ⟨(some 30), 30, (.mv (.t 1)), none, []⟩,
    ⟨(some 31), 31, (.idx 1 (.t 29) (.t 30)), none, [1, 2]⟩,
    ⟨(some 32), 32, (.load false 1 (.t 31)), none, [3]⟩,
    ⟨(some 4), 4, (.mv (.t 32)), none, [4, 0, 1, 2, 3, 4]⟩])
  .ret)))
theorem fn27 : FnIs Try.prog 27 ac27 [(.t 4)] 33 := ⟨Try.f27, Try.func27, by kernel_rfl, by kernel_rfl, by kernel_rfl⟩
/- lockkeeper/lockkeeperlaw03.letters -/
def ac28 : ACode := (.seq (.reg [⟨(some 2), 2, (.mv (.k (.c (.s (.pv (.string ⟨#[]⟩)))))), none, []⟩])
  (.seq (.reg [⟨(some 3), 3, (.mv (.k (.c (.s (.pv (.string ⟨#[]⟩)))))), none, []⟩])
  (.seq (.seq (.reg [⟨(some 4), 4, (.mv (.k (.c (.s (.pv (.int .i64 0)))))), none, []⟩])
  (.block 0 (.loop (.seq (.reg [⟨(some 5), 5, (.bin false .lss (.t 4) (.k (.c (.s (.pv (.int .i64 16)))))), none, []⟩])
  (.seq (.cond (.t 5) .skip (.exit 0))
  (.seq (.block 1 (.reg [⟨(some 6), 6, (.mv (.t 3)), none, []⟩,
    ⟨(some 7), 7, (.mv (.t 0)), none, []⟩,
    ⟨(some 8), 8, (.bin false .rem (.t 7) (.k (.c (.s (.pv (.int .u8 26)))))), none, [1]⟩,
    ⟨(some 9), 9, (.bin false .add (.k (.c (.s (.pv (.int .u8 97))))) (.t 8)), none, [2]⟩,
    ⟨(some 10), 10, (.bslice 5 1 [(.s (.pv (.int .u8 0)))] 1 [(0, 1, (.t 9))]), none, [3]⟩,
    ⟨(some 11), 11, (.b2s (.t 10)), none, [4]⟩,
    ⟨(some 12), 12, (.bin false .add (.t 6) (.t 11)), none, [0, 5]⟩,
    ⟨(some 3), 3, (.mv (.t 12)), none, [6, 0, 1, 2, 3, 4, 5, 6]⟩]))
  (.reg [⟨(some 13), 13, (.bin false .add (.t 4) (.k (.c (.s (.pv (.int .i64 1)))))), none, []⟩,
    ⟨(some 4), 4, (.mv (.t 13)), none, [0]⟩])))))))
  (.seq (.reg [⟨(some 14), 14, (.mv (.t 3)), none, []⟩,
    ⟨(some 2), 2, (.mv (.t 14)), none, [0, 0]⟩])
  .ret))))
theorem fn28 : FnIs Try.prog 28 ac28 [(.t 2)] 15 := ⟨Try.f28, Try.func28, by kernel_rfl, by kernel_rfl, by kernel_rfl⟩
/- lockkeeper/lockkeeperlaw04.ref -/
def ac29 : ACode := (.seq (.reg [⟨(some 1), 1, (.box 50 4 (.t 0)), none, []⟩,
    ⟨(some 2), 2, (.mk 53 4 [[.zc, .zc, (.s (.pv (.int .i64 0))), .zc]]), none, []⟩,
    ⟨(some 3), 3, (.mv (.k (.c (.s (.pv (.bool false)))))), none, []⟩])
  (.seq (.reg [⟨(some 7), 7, (.fld 0 (.t 1)), none, []⟩,
    ⟨(some 8), 8, (.load true 2 (.t 7)), none, [0]⟩,
    ⟨(some 9), 9, (.fld 2 (.t 1)), none, []⟩,
    ⟨(some 10), 10, (.load false 1 (.t 9)), none, [2]⟩,
    ⟨(some 11), 11, (.build [.zc, .zc, (.s (.pv (.int .i64 0))), .zc] [(0, 2, (.t 8)), (2, 1, (.t 10))]), none, [1, 3]⟩,
    ⟨(some 4), 4, (.mk 53 4 [[.zc, .zc, (.s (.pv (.int .i64 0))), .zc]]), none, []⟩,
    ⟨none, 49, (.store 4 (.t 4) (.t 11)), none, [5, 4, 0, 1, 2, 3, 4, 5]⟩])
  (.seq (.seq (.reg [⟨(some 12), 12, (.fld 0 (.t 1)), none, []⟩,
    ⟨(some 13), 13, (.load true 2 (.t 12)), none, [0]⟩,
    ⟨(some 14), 14, (.call 17 [(.t 13)]), none, [1]⟩,
    ⟨(some 15), 15, (.not (.t 14)), none, [2]⟩,
    ⟨(some 16), 16, (.mv (.t 15)), none, [3, 2]⟩,
    ⟨(some 17), 17, (.fld 3 (.t 1)), (some (16, false)), [4]⟩,
    ⟨(some 18), 18, (.load false 1 (.t 17)), (some (16, false)), [5, 4]⟩,
    ⟨(some 19), 19, (.len (.t 18)), (some (16, false)), [6, 4]⟩,
    ⟨(some 20), 20, (.bin false .gtr (.t 19) (.k (.c (.s (.pv (.int .i64 20)))))), (some (16, false)), [7, 4]⟩,
    ⟨(some 21), 21, (.pick (.t 16) (.k (.c (.s (.pv (.bool true))))) (.t 20)), none, [4, 8]⟩])
  (.cond (.t 21) (.seq (.reg [⟨(some 22), 22, (.load true 4 (.t 4)), none, []⟩,
    ⟨none, 44, (.store 4 (.t 2) (.t 22)), none, [0, 0]⟩,
    ⟨(some 3), 3, (.mv (.k (.c (.s (.pv (.bool false)))))), none, [1, 0, 1]⟩])
  .ret) .skip))
  (.seq (.seq (.reg [⟨(some 23), 23, (.fld 3 (.t 1)), none, []⟩,
    ⟨(some 24), 24, (.load false 1 (.t 23)), none, [0]⟩,
    ⟨(some 25), 25, (.len (.t 24)), none, [1]⟩,
    ⟨(some 26), 26, (.mv (.k (.c (.s (.pv (.int .i64 0)))))), none, []⟩])
  (.block 0 (.loop (.seq (.reg [⟨(some 27), 27, (.bin false .lss (.t 26) (.t 25)), none, []⟩])
  (.seq (.cond (.t 27) .skip (.exit 0))
  (.seq (.block 1 (.seq (.reg [⟨(some 28), 28, (.idx 4 (.t 24) (.t 26)), none, []⟩,
    ⟨(some 29), 29, (.load true 4 (.t 28)), none, [0]⟩,
    ⟨(some 6), 6, (.mk 65 4 [[(.s (.pv (.int .i64 0))), (.s (.pv (.int .i64 0))), (.s (.pv (.int .i64 0))), (.s (.pv (.string ⟨#[]⟩)))]]), none, []⟩,
    ⟨none, 46, (.store 4 (.t 6) (.t 29)), none, [2, 1, 0, 1, 2]⟩])
  (.seq (.seq (.reg [⟨(some 30), 30, (.fld 3 (.t 6)), none, []⟩,
    ⟨(some 31), 31, (.load false 1 (.t 30)), none, [0]⟩,
    ⟨(some 32), 32, (.slen (.t 31)), none, [1]⟩,
    ⟨(some 33), 33, (.bin false .gtr (.t 32) (.k (.c (.s (.pv (.int .i64 100)))))), none, [2]⟩])
  (.cond (.t 33) (.seq (.reg [⟨(some 34), 34, (.load true 4 (.t 4)), none, []⟩,
    ⟨none, 44, (.store 4 (.t 2) (.t 34)), none, [0, 0]⟩,
    ⟨(some 3), 3, (.mv (.k (.c (.s (.pv (.bool false)))))), none, [1, 0, 1]⟩])
  .ret) .skip))
  (.reg [⟨(some 35), 35, (.fld 3 (.t 4)), none, []⟩,
    ⟨(some 36), 36, (.load false 1 (.t 35)), none, [0]⟩,
    ⟨(some 37), 37, (.load true 4 (.t 6)), none, []⟩,
    ⟨(some 38), 38, (.bslice 68 4 [(.s (.pv (.int .i64 0))), (.s (.pv (.int .i64 0))), (.s (.pv (.int .i64 0))), (.s (.pv (.string ⟨#[]⟩)))] 1 [(0, 4, (.t 37))]), none, [2]⟩,
    ⟨(some 39), 39, (.app 68 4 40 (.t 36) (.t 38)), none, [1, 3]⟩,
    ⟨(some 40), 40, (.fld 3 (.t 4)), none, [0, 1, 2, 3, 4]⟩,
    ⟨none, 49, (.store 1 (.t 40) (.t 39)), none, [5, 4, 4, 0, 1, 2, 3, 4]⟩]))))
  (.reg [⟨(some 41), 41, (.bin false .add (.t 26) (.k (.c (.s (.pv (.int .i64 1)))))), none, []⟩,
    ⟨(some 26), 26, (.mv (.t 41)), none, [0]⟩])))))))
  (.seq (.reg [⟨(some 42), 42, (.load true 4 (.t 4)), none, []⟩,
    ⟨none, 44, (.store 4 (.t 2) (.t 42)), none, [0, 0]⟩,
    ⟨(some 3), 3, (.mv (.k (.c (.s (.pv (.bool true)))))), none, [1, 0, 1]⟩])
  .ret)))))
theorem fn29 : FnIs Try.prog 29 ac29 [(.cell 2 true 4), (.t 3)] 43 := ⟨Try.f29, Try.func29, by kernel_rfl, by kernel_rfl, by kernel_rfl⟩
/- lockkeeper/lockkeeperlaw04.awake -/
def ac30 : ACode := (.seq (.reg [⟨(some 0), 0, (.mv (.k (.c (.s (.pv (.bool false)))))), none, []⟩])
  (.seq (.reg [⟨(some 1), 1, (.mv (.k (.c (.s (.pv (.string ⟨#[48, 49, 50, 51, 52, 53, 54, 55, 56, 57, 97, 98, 99, 100, 101, 102, 48, 49, 50, 51, 52, 53, 54, 55, 56, 57, 65, 66, 67, 68, 69, 70]⟩)))))), none, []⟩])
  (.seq (.reg [⟨(some 13), 13, (.call 39 []), none, []⟩,
    ⟨(some 14), 14, (.mv (.t 1)), none, []⟩,
    ⟨(some 15), 15, (.call 31 [(.t 13), (.k (.c (.s (.pv (.int .i64 2))))), (.k (.c (.s (.pv (.int .i64 1))))), (.t 14)]), none, [0, 1, 0]⟩,
    ⟨(some 12), 12, (.mv (.t 15)), none, [2]⟩,
    ⟨(some 16), 16, (.ext 0 (.t 12)), none, [3]⟩,
    ⟨(some 17), 17, (.ext 1 (.t 12)), none, [3]⟩,
    ⟨(some 18), 18, (.ext 2 (.t 12)), none, [3]⟩,
    ⟨(some 2), 2, (.mk 50 4 [[.zc, .zc, (.s (.pv (.int .i64 0))), .zc]]), none, []⟩,
    ⟨none, 75, (.store 4 (.t 2) (.t 16)), none, [7, 4, 2, 0, 1, 2, 3, 4, 7]⟩,
    ⟨(some 3), 3, (.mv (.t 17)), none, [5, 8, 0, 1, 2, 3, 4, 5, 7, 8]⟩,
    ⟨(some 4), 4, (.mv (.t 18)), none, [6, 9, 0, 1, 2, 3, 4, 5, 6, 7, 8, 9]⟩])
  (.seq (.reg [⟨(some 20), 20, (.load true 4 (.t 2)), none, []⟩,
    ⟨(some 21), 21, (.call 31 [(.t 20), (.k (.c (.s (.pv (.int .i64 1))))), (.k (.c (.s (.pv (.int .i64 1))))), (.k (.c (.s (.pv (.string ⟨#[]⟩)))))]), none, [0]⟩,
    ⟨(some 19), 19, (.mv (.t 21)), none, [1]⟩,
    ⟨(some 22), 22, (.ext 0 (.t 19)), none, [2]⟩,
    ⟨(some 23), 23, (.ext 1 (.t 19)), none, [2]⟩,
    ⟨(some 24), 24, (.ext 2 (.t 19)), none, [2]⟩,
    ⟨none, 73, (.store 4 (.t 2) (.t 22)), none, [3, 1, 0, 1, 2, 3]⟩,
    ⟨(some 5), 5, (.mv (.t 23)), none, [4, 6, 0, 1, 2, 3, 4, 6]⟩,
    ⟨(some 6), 6, (.mv (.t 24)), none, [5, 7, 0, 1, 2, 3, 4, 5, 6, 7]⟩])
  (.seq (.reg [⟨(some 26), 26, (.load true 4 (.t 2)), none, []⟩,
    ⟨(some 27), 27, (.call 36 [(.t 26), (.k (.c (.s (.pv (.int .i64 0))))), (.k (.c (.s (.pv (.bool false)))))]), none, [0]⟩,
    ⟨(some 25), 25, (.mv (.t 27)), none, [1]⟩,
    ⟨(some 28), 28, (.ext 0 (.t 25)), none, [2]⟩,
    ⟨(some 29), 29, (.ext 1 (.t 25)), none, [2]⟩,
    ⟨(some 30), 30, (.ext 2 (.t 25)), none, [2]⟩,
    ⟨(some 7), 7, (.mk 65 4 [[(.s (.pv (.int .i64 0))), (.s (.pv (.int .i64 0))), (.s (.pv (.int .i64 0))), (.s (.pv (.string ⟨#[]⟩)))]]), none, []⟩,
    ⟨none, 74, (.store 4 (.t 2) (.t 28)), none, [3, 1, 0, 1, 2, 3, 6]⟩,
    ⟨none, 75, (.store 4 (.t 7) (.t 29)), none, [6, 4, 7, 0, 1, 2, 3, 4, 6, 7]⟩,
    ⟨(some 8), 8, (.mv (.t 30)), none, [5, 8, 0, 1, 2, 3, 4, 5, 6, 7, 8]⟩])
  (.seq (.reg [⟨(some 32), 32, (.load true 4 (.t 2)), none, []⟩,
    ⟨(some 33), 33, (.call 36 [(.t 32), (.k (.c (.s (.pv (.int .i64 0))))), (.k (.c (.s (.pv (.bool false)))))]), none, [0]⟩,
    ⟨(some 31), 31, (.mv (.t 33)), none, [1]⟩,
    ⟨(some 34), 34, (.ext 0 (.t 31)), none, [2]⟩,
    ⟨(some 35), 35, (.ext 1 (.t 31)), none, [2]⟩,
    ⟨(some 36), 36, (.ext 2 (.t 31)), none, [2]⟩,
    ⟨(some 9), 9, (.mk 50 4 [[.zc, .zc, (.s (.pv (.int .i64 0))), .zc]]), none, []⟩,
    ⟨(some 10), 10, (.mk 65 4 [[(.s (.pv (.int .i64 0))), (.s (.pv (.int .i64 0))), (.s (.pv (.int .i64 0))), (.s (.pv (.string ⟨#[]⟩)))]]), none, []⟩,
    ⟨none, 75, (.store 4 (.t 9) (.t 34)), none, [6, 3, 1, 0, 1, 2, 3, 6, 7]⟩,
    ⟨none, 76, (.store 4 (.t 10) (.t 35)), none, [7, 4, 8, 0, 1, 2, 3, 4, 6, 7, 8]⟩,
    ⟨(some 11), 11, (.mv (.t 36)), none, [5, 9, 0, 1, 2, 3, 4, 5, 6, 7, 8, 9]⟩])
  (.seq (.reg [⟨(some 37), 37, (.mv (.t 3)), none, []⟩,
    ⟨(some 38), 38, (.bin false .eql (.t 37) (.k (.c (.s (.pv (.int .i64 0)))))), none, [0]⟩,
    ⟨(some 39), 39, (.mv (.t 38)), none, [1]⟩,
    ⟨(some 40), 40, (.mv (.t 5)), (some (39, true)), [2]⟩,
    ⟨(some 41), 41, (.bin false .eql (.t 40) (.k (.c (.s (.pv (.int .i64 1)))))), (some (39, true)), [3, 2]⟩,
    ⟨(some 42), 42, (.pick (.t 39) (.t 41) (.k (.c (.s (.pv (.bool false)))))), none, [2, 4]⟩,
    ⟨(some 43), 43, (.mv (.t 42)), none, [5, 2]⟩,
    ⟨(some 44), 44, (.mv (.t 4)), (some (43, true)), [6]⟩,
    ⟨(some 45), 45, (.bin false .eql (.t 44) (.k (.c (.s (.pv (.int .i64 0)))))), (some (43, true)), [7, 6]⟩,
    ⟨(some 46), 46, (.pick (.t 43) (.t 45) (.k (.c (.s (.pv (.bool false)))))), none, [6, 8]⟩,
    ⟨(some 47), 47, (.mv (.t 46)), none, [9, 6]⟩,
    ⟨(some 48), 48, (.mv (.t 6)), (some (47, true)), [10]⟩,
    ⟨(some 49), 49, (.bin false .eql (.t 48) (.k (.c (.s (.pv (.int .i64 0)))))), (some (47, true)), [11, 10]⟩,
    ⟨(some 50), 50, (.pick (.t 47) (.t 49) (.k (.c (.s (.pv (.bool false)))))), none, [10, 12]⟩,
    ⟨(some 51), 51, (.mv (.t 50)), none, [13, 10]⟩,
    ⟨(some 52), 52, (.mv (.t 8)), (some (51, true)), [14]⟩,
    ⟨(some 53), 53, (.bin false .eql (.t 52) (.k (.c (.s (.pv (.int .i64 0)))))), (some (51, true)), [15, 14]⟩,
    ⟨(some 54), 54, (.pick (.t 51) (.t 53) (.k (.c (.s (.pv (.bool false)))))), none, [14, 16]⟩,
    ⟨(some 55), 55, (.mv (.t 54)), none, [17, 14]⟩,
    ⟨(some 56), 56, (.fld 3 (.t 10)), (some (55, true)), [18]⟩,
    ⟨(some 57), 57, (.load false 1 (.t 56)), (some (55, true)), [19, 18]⟩,
    ⟨(some 58), 58, (.mv (.t 1)), (some (55, true)), [18]⟩,
    ⟨(some 59), 59, (.bin false .eql (.t 57) (.t 58)), (some (55, true)), [20, 21, 18]⟩,
    ⟨(some 60), 60, (.pick (.t 55) (.t 59) (.k (.c (.s (.pv (.bool false)))))), none, [18, 22]⟩,
    ⟨(some 61), 61, (.mv (.t 60)), none, [23, 18]⟩,
    ⟨(some 62), 62, (.mv (.t 11)), (some (61, true)), [24]⟩,
    ⟨(some 63), 63, (.bin false .eql (.t 62) (.k (.c (.s (.pv (.int .i64 0)))))), (some (61, true)), [25, 24]⟩,
    ⟨(some 64), 64, (.pick (.t 61) (.t 63) (.k (.c (.s (.pv (.bool false)))))), none, [24, 26]⟩,
    ⟨(some 65), 65, (.mv (.t 64)), none, [27, 24]⟩,
    ⟨(some 66), 66, (.pick (.t 65) (.k (.c (.s (.pv (.bool true))))) (.k (.c (.s (.pv (.bool false)))))), none, [28]⟩,
    ⟨(some 0), 0, (.mv (.t 66)), none, [29, 28, 0, 1, 2, 3, 4, 5, 6, 7, 8, 9, 10, 11, 12, 13, 14, 15, 16, 17, 18, 19, 20, 21, 22, 23, 24, 25, 26, 27, 28, 29]⟩])
  .ret)))))))
theorem fn30 : FnIs Try.prog 30 ac30 [(.t 0)] 67 := ⟨Try.f30, Try.func30, by kernel_rfl, by kernel_rfl, by kernel_rfl⟩
/- lockkeeper/device.Submit -/
def ac31 : ACode := (.seq (.reg [⟨(some 4), 4, (.box 50 4 (.t 0)), none, []⟩,
    ⟨(some 8), 8, (.mk 50 4 [[.zc, .zc, (.s (.pv (.int .i64 0))), .zc]]), none, []⟩,
    ⟨(some 9), 9, (.mv (.k (.c (.s (.pv (.int .i64 0)))))), none, []⟩,
    ⟨(some 10), 10, (.mv (.k (.c (.s (.pv (.int .i64 0)))))), none, [2]⟩])
  (.seq (.seq (.reg [⟨(some 12), 12, (.load true 4 (.t 4)), none, []⟩,
    ⟨(some 13), 13, (.call 34 [(.t 12)]), none, [0]⟩,
    ⟨(some 14), 14, (.not (.t 13)), none, [1]⟩,
    ⟨(some 15), 15, (.mv (.t 14)), none, [2, 1]⟩,
    ⟨(some 16), 16, (.fld 2 (.t 4)), (some (15, false)), [3]⟩,
    ⟨(some 17), 17, (.load false 1 (.t 16)), (some (15, false)), [4, 3]⟩,
    ⟨(some 18), 18, (.bin false .eql (.t 17) (.k (.c (.s (.pv (.int .i64 2147483647)))))), (some (15, false)), [5, 3]⟩,
    ⟨(some 19), 19, (.pick (.t 15) (.k (.c (.s (.pv (.bool true))))) (.t 18)), none, [3, 6]⟩,
    ⟨(some 20), 20, (.mv (.t 19)), none, [7, 3]⟩,
    ⟨(some 21), 21, (.mv (.t 1)), (some (20, false)), [8]⟩,
    ⟨(some 22), 22, (.mv (.t 2)), (some (20, false)), [8]⟩,
    ⟨(some 23), 23, (.mv (.t 3)), (some (20, false)), [8]⟩,
    ⟨(some 24), 24, (.call 48 [(.t 21), (.t 22), (.t 23)]), (some (20, false)), [9, 10, 11, 8, 8]⟩,
    ⟨(some 25), 25, (.not (.t 24)), (some (20, false)), [12, 8]⟩,
    ⟨(some 26), 26, (.pick (.t 20) (.k (.c (.s (.pv (.bool true))))) (.t 25)), none, [8, 13]⟩])
  (.cond (.t 26) (.seq (.reg [⟨(some 27), 27, (.load true 4 (.t 4)), none, []⟩,
    ⟨none, 54, (.store 4 (.t 8) (.t 27)), none, [0, 0]⟩,
    ⟨(some 9), 9, (.mv (.k (.c (.s (.pv (.int .i64 0)))))), none, [1, 0, 1]⟩,
    ⟨(some 10), 10, (.mv (.k (.c (.s (.pv (.int .i64 1)))))), none, [2, 0, 1, 2]⟩])
  .ret) .skip))
  (.seq (.seq (.reg [⟨(some 28), 28, (.fld 3 (.t 4)), none, []⟩,
    ⟨(some 29), 29, (.load false 1 (.t 28)), none, [0]⟩,
    ⟨(some 30), 30, (.len (.t 29)), none, [1]⟩,
    ⟨(some 31), 31, (.bin false .eql (.t 30) (.k (.c (.s (.pv (.int .i64 4)))))), none, [2]⟩])
  (.cond (.t 31) (.seq (.reg [⟨(some 32), 32, (.load true 4 (.t 4)), none, []⟩,
    ⟨none, 54, (.store 4 (.t 8) (.t 32)), none, [0, 0]⟩,
    ⟨(some 9), 9, (.mv (.k (.c (.s (.pv (.int .i64 0)))))), none, [1, 0, 1]⟩,
    ⟨(some 10), 10, (.mv (.k (.c (.s (.pv (.int .i64 6)))))), none, [2, 0, 1, 2]⟩])
  .ret) .skip))
  (.seq (.reg [⟨(some 33), 33, (.fld 2 (.t 4)), none, []⟩,
    ⟨(some 34), 34, (.load false 1 (.t 33)), none, [0]⟩,
    ⟨(some 35), 35, (.mv (.t 1)), none, []⟩,
    ⟨(some 36), 36, (.mv (.t 2)), none, []⟩,
    ⟨(some 37), 37, (.mv (.t 3)), none, []⟩,
    ⟨(some 38), 38, (.build [(.s (.pv (.int .i64 0))), (.s (.pv (.int .i64 0))), (.s (.pv (.int .i64 0))), (.s (.pv (.string ⟨#[]⟩)))] [(0, 1, (.t 34)), (1, 1, (.t 35)), (2, 1, (.t 36)), (3, 1, (.t 37))]), none, [1, 2, 3, 4]⟩,
    ⟨(some 11), 11, (.mk 65 4 [[(.s (.pv (.int .i64 0))), (.s (.pv (.int .i64 0))), (.s (.pv (.int .i64 0))), (.s (.pv (.string ⟨#[]⟩)))]]), none, []⟩,
    ⟨none, 60, (.store 4 (.t 11) (.t 38)), none, [6, 5, 0, 1, 2, 3, 4, 5, 6]⟩])
  (.seq (.draw [⟨(some 39), 39, (.fld 0 (.t 4)), none, []⟩,
    ⟨(some 40), 40, (.load true 2 (.t 39)), none, [0]⟩,
    ⟨(some 41), 41, (.fld 2 (.t 4)), none, []⟩,
    ⟨(some 42), 42, (.load false 1 (.t 41)), none, [2]⟩,
    ⟨(some 43), 43, (.bin false .add (.t 42) (.k (.c (.s (.pv (.int .i64 1)))))), none, [3]⟩,
    ⟨(some 44), 44, (.fld 3 (.t 4)), none, []⟩,
    ⟨(some 45), 45, (.load false 1 (.t 44)), none, [5]⟩,
    ⟨(some 46), 46, (.call 49 [(.t 45)]), none, [6]⟩,
    ⟨(some 47), 47, (.load true 4 (.t 11)), none, []⟩,
    ⟨(some 48), 48, (.bslice 65 4 [(.s (.pv (.int .i64 0))), (.s (.pv (.int .i64 0))), (.s (.pv (.int .i64 0))), (.s (.pv (.string ⟨#[]⟩)))] 1 [(0, 4, (.t 47))]), none, [8]⟩,
    ⟨(some 49), 49, (.app 65 4 40 (.t 46) (.t 48)), none, [7, 9, 7]⟩,
    ⟨(some 50), 50, (.build [.zc, .zc, (.s (.pv (.int .i64 0))), .zc] [(0, 2, (.t 40)), (2, 1, (.t 43)), (3, 1, (.t 49))]), none, [1, 4, 10]⟩,
    ⟨(some 51), 51, (.fld 0 (.t 11)), none, []⟩,
    ⟨(some 52), 52, (.load false 1 (.t 51)), none, [12]⟩,
    ⟨none, 67, (.store 4 (.t 8) (.t 50)), none, [11, 10, 0, 1, 2, 3, 4, 5, 6, 7, 8, 9, 10, 11]⟩,
    ⟨(some 9), 9, (.mv (.t 52)), none, [13, 14, 0, 1, 2, 3, 4, 5, 6, 7, 8, 9, 10, 11, 12, 13, 14]⟩,
    ⟨(some 10), 10, (.mv (.k (.c (.s (.pv (.int .i64 0)))))), none, [15, 0, 1, 2, 3, 4, 5, 6, 7, 8, 9, 10, 11, 12, 13, 14, 15]⟩])
  .ret)))))
theorem fn31 : FnIs Try.prog 31 ac31 [(.cell 8 true 4), (.t 9), (.t 10)] 53 := ⟨Try.f31, Try.func31, by kernel_rfl, by kernel_rfl, by kernel_rfl⟩
/- lockkeeper/lockkeeperref04.Submit -/
def ac32 : ACode := (.seq (.reg [⟨(some 4), 4, (.box 53 4 (.t 0)), none, []⟩,
    ⟨(some 8), 8, (.mk 53 4 [[.zc, .zc, (.s (.pv (.int .i64 0))), .zc]]), none, []⟩,
    ⟨(some 9), 9, (.mv (.k (.c (.s (.pv (.int .i64 0)))))), none, []⟩,
    ⟨(some 10), 10, (.mv (.k (.c (.s (.pv (.int .i64 0)))))), none, [2]⟩])
  (.seq (.seq (.reg [⟨(some 12), 12, (.load true 4 (.t 4)), none, []⟩,
    ⟨(some 13), 13, (.call 35 [(.t 12)]), none, [0]⟩,
    ⟨(some 14), 14, (.not (.t 13)), none, [1]⟩,
    ⟨(some 15), 15, (.mv (.t 14)), none, [2, 1]⟩,
    ⟨(some 16), 16, (.fld 2 (.t 4)), (some (15, false)), [3]⟩,
    ⟨(some 17), 17, (.load false 1 (.t 16)), (some (15, false)), [4, 3]⟩,
    ⟨(some 18), 18, (.bin false .eql (.t 17) (.k (.c (.s (.pv (.int .i64 2147483647)))))), (some (15, false)), [5, 3]⟩,
    ⟨(some 19), 19, (.pick (.t 15) (.k (.c (.s (.pv (.bool true))))) (.t 18)), none, [3, 6]⟩,
    ⟨(some 20), 20, (.mv (.t 19)), none, [7, 3]⟩,
    ⟨(some 21), 21, (.mv (.t 1)), (some (20, false)), [8]⟩,
    ⟨(some 22), 22, (.mv (.t 2)), (some (20, false)), [8]⟩,
    ⟨(some 23), 23, (.mv (.t 3)), (some (20, false)), [8]⟩,
    ⟨(some 24), 24, (.call 50 [(.t 21), (.t 22), (.t 23)]), (some (20, false)), [9, 10, 11, 8, 8]⟩,
    ⟨(some 25), 25, (.not (.t 24)), (some (20, false)), [12, 8]⟩,
    ⟨(some 26), 26, (.pick (.t 20) (.k (.c (.s (.pv (.bool true))))) (.t 25)), none, [8, 13]⟩])
  (.cond (.t 26) (.seq (.reg [⟨(some 27), 27, (.load true 4 (.t 4)), none, []⟩,
    ⟨none, 60, (.store 4 (.t 8) (.t 27)), none, [0, 0]⟩,
    ⟨(some 9), 9, (.mv (.k (.c (.s (.pv (.int .i64 0)))))), none, [1, 0, 1]⟩,
    ⟨(some 10), 10, (.mv (.k (.c (.s (.pv (.int .i64 1)))))), none, [2, 0, 1, 2]⟩])
  .ret) .skip))
  (.seq (.seq (.reg [⟨(some 28), 28, (.fld 3 (.t 4)), none, []⟩,
    ⟨(some 29), 29, (.load false 1 (.t 28)), none, [0]⟩,
    ⟨(some 30), 30, (.len (.t 29)), none, [1]⟩,
    ⟨(some 31), 31, (.bin false .eql (.t 30) (.k (.c (.s (.pv (.int .i64 4)))))), none, [2]⟩])
  (.cond (.t 31) (.seq (.reg [⟨(some 32), 32, (.load true 4 (.t 4)), none, []⟩,
    ⟨none, 60, (.store 4 (.t 8) (.t 32)), none, [0, 0]⟩,
    ⟨(some 9), 9, (.mv (.k (.c (.s (.pv (.int .i64 0)))))), none, [1, 0, 1]⟩,
    ⟨(some 10), 10, (.mv (.k (.c (.s (.pv (.int .i64 6)))))), none, [2, 0, 1, 2]⟩])
  .ret) .skip))
  (.seq (.reg [⟨(some 33), 33, (.fld 0 (.t 4)), none, []⟩,
    ⟨(some 34), 34, (.load true 2 (.t 33)), none, [0]⟩,
    ⟨(some 35), 35, (.fld 2 (.t 4)), none, []⟩,
    ⟨(some 36), 36, (.load false 1 (.t 35)), none, [2]⟩,
    ⟨(some 37), 37, (.bin false .add (.t 36) (.k (.c (.s (.pv (.int .i64 1)))))), none, [3]⟩,
    ⟨(some 38), 38, (.build [.zc, .zc, (.s (.pv (.int .i64 0))), .zc] [(0, 2, (.t 34)), (2, 1, (.t 37))]), none, [1, 4]⟩,
    ⟨(some 11), 11, (.mk 53 4 [[.zc, .zc, (.s (.pv (.int .i64 0))), .zc]]), none, []⟩,
    ⟨none, 66, (.store 4 (.t 11) (.t 38)), none, [6, 5, 0, 1, 2, 3, 4, 5, 6]⟩])
  (.seq (.reg [⟨(some 39), 39, (.fld 3 (.t 11)), none, []⟩,
    ⟨(some 40), 40, (.load false 1 (.t 39)), none, [0]⟩,
    ⟨(some 41), 41, (.fld 3 (.t 4)), none, []⟩,
    ⟨(some 42), 42, (.load false 1 (.t 41)), none, [2]⟩,
    ⟨(some 43), 43, (.app 68 4 40 (.t 40) (.t 42)), none, [1, 3]⟩,
    ⟨(some 44), 44, (.fld 3 (.t 11)), none, [0, 1, 2, 3, 4]⟩,
    ⟨none, 65, (.store 1 (.t 44) (.t 43)), none, [5, 4, 4, 0, 1, 2, 3, 4]⟩])
  (.seq (.reg [⟨(some 45), 45, (.fld 3 (.t 11)), none, []⟩,
    ⟨(some 46), 46, (.load false 1 (.t 45)), none, [0]⟩,
    ⟨(some 47), 47, (.fld 2 (.t 4)), none, []⟩,
    ⟨(some 48), 48, (.load false 1 (.t 47)), none, [2]⟩,
    ⟨(some 49), 49, (.mv (.t 1)), none, []⟩,
    ⟨(some 50), 50, (.mv (.t 2)), none, []⟩,
    ⟨(some 51), 51, (.mv (.t 3)), none, []⟩,
    ⟨(some 52), 52, (.build [(.s (.pv (.int .i64 0))), (.s (.pv (.int .i64 0))), (.s (.pv (.int .i64 0))), (.s (.pv (.string ⟨#[]⟩)))] [(0, 1, (.t 48)), (1, 1, (.t 49)), (2, 1, (.t 50)), (3, 1, (.t 51))]), none, [3, 4, 5, 6]⟩,
    ⟨(some 53), 53, (.bslice 68 4 [(.s (.pv (.int .i64 0))), (.s (.pv (.int .i64 0))), (.s (.pv (.int .i64 0))), (.s (.pv (.string ⟨#[]⟩)))] 1 [(0, 4, (.t 52))]), none, [7]⟩,
    ⟨(some 54), 54, (.app 68 4 40 (.t 46) (.t 53)), none, [1, 8]⟩,
    ⟨(some 55), 55, (.fld 3 (.t 11)), none, [0, 1, 2, 3, 4, 5, 6, 7, 8, 9]⟩,
    ⟨none, 70, (.store 1 (.t 55) (.t 54)), none, [10, 9, 9, 0, 1, 2, 3, 4, 5, 6, 7, 8, 9]⟩])
  (.seq (.draw [⟨(some 56), 56, (.load true 4 (.t 11)), none, []⟩,
    ⟨(some 57), 57, (.fld 2 (.t 4)), none, []⟩,
    ⟨(some 58), 58, (.load false 1 (.t 57)), none, [1]⟩,
    ⟨none, 62, (.store 4 (.t 8) (.t 56)), none, [0, 0]⟩,
    ⟨(some 9), 9, (.mv (.t 58)), none, [2, 3, 0, 1, 2, 3]⟩,
    ⟨(some 10), 10, (.mv (.k (.c (.s (.pv (.int .i64 0)))))), none, [4, 0, 1, 2, 3, 4]⟩])
  .ret)))))))
theorem fn32 : FnIs Try.prog 32 ac32 [(.cell 8 true 4), (.t 9), (.t 10)] 59 := ⟨Try.f32, Try.func32, by kernel_rfl, by kernel_rfl, by kernel_rfl⟩
/- lockkeeper/lockkeeperref04.Same -/
def ac33 : ACode := (.seq (.reg [⟨(some 2), 2, (.box 53 4 (.t 0)), none, []⟩,
    ⟨(some 3), 3, (.box 53 4 (.t 1)), none, []⟩,
    ⟨(some 4), 4, (.mv (.k (.c (.s (.pv (.bool false)))))), none, []⟩])
  (.seq (.seq (.reg [⟨(some 6), 6, (.fld 0 (.t 2)), none, []⟩,
    ⟨(some 7), 7, (.load true 2 (.t 6)), none, [0]⟩,
    ⟨(some 8), 8, (.fld 0 (.t 3)), none, []⟩,
    ⟨(some 9), 9, (.load true 2 (.t 8)), none, [2]⟩,
    ⟨(some 10), 10, (.call 22 [(.t 7), (.t 9)]), none, [1, 3]⟩,
    ⟨(some 11), 11, (.not (.t 10)), none, [4]⟩,
    ⟨(some 12), 12, (.mv (.t 11)), none, [5, 4]⟩,
    ⟨(some 13), 13, (.fld 2 (.t 2)), (some (12, false)), [6]⟩,
    ⟨(some 14), 14, (.load false 1 (.t 13)), (some (12, false)), [7, 6]⟩,
    ⟨(some 15), 15, (.fld 2 (.t 3)), (some (12, false)), [6]⟩,
    ⟨(some 16), 16, (.load false 1 (.t 15)), (some (12, false)), [9, 6]⟩,
    ⟨(some 17), 17, (.bin false .neq (.t 14) (.t 16)), (some (12, false)), [8, 10, 6]⟩,
    ⟨(some 18), 18, (.pick (.t 12) (.k (.c (.s (.pv (.bool true))))) (.t 17)), none, [6, 11]⟩,
    ⟨(some 19), 19, (.mv (.t 18)), none, [12, 6]⟩,
    ⟨(some 20), 20, (.fld 3 (.t 2)), (some (19, false)), [13]⟩,
    ⟨(some 21), 21, (.load false 1 (.t 20)), (some (19, false)), [14, 13]⟩,
    ⟨(some 22), 22, (.len (.t 21)), (some (19, false)), [15, 13]⟩,
    ⟨(some 23), 23, (.fld 3 (.t 3)), (some (19, false)), [13]⟩,
    ⟨(some 24), 24, (.load false 1 (.t 23)), (some (19, false)), [17, 13]⟩,
    ⟨(some 25), 25, (.len (.t 24)), (some (19, false)), [18, 13]⟩,
    ⟨(some 26), 26, (.bin false .neq (.t 22) (.t 25)), (some (19, false)), [16, 19, 13]⟩,
    ⟨(some 27), 27, (.pick (.t 19) (.k (.c (.s (.pv (.bool true))))) (.t 26)), none, [13, 20]⟩])
  (.cond (.t 27) (.seq (.reg [⟨(some 4), 4, (.mv (.k (.c (.s (.pv (.bool false)))))), none, []⟩])
  .ret) .skip))
  (.seq (.seq (.reg [⟨(some 5), 5, (.mv (.k (.c (.s (.pv (.int .i64 0)))))), none, []⟩])
  (.block 0 (.loop (.seq (.seq (.reg [⟨(some 28), 28, (.mv (.t 5)), none, []⟩,
    ⟨(some 29), 29, (.fld 3 (.t 2)), none, []⟩,
    ⟨(some 30), 30, (.load false 1 (.t 29)), none, [1]⟩,
    ⟨(some 31), 31, (.len (.t 30)), none, [2]⟩,
    ⟨(some 32), 32, (.bin false .lss (.t 28) (.t 31)), none, [0, 3]⟩])
  (.cond (.t 32) .skip (.exit 0)))
  (.seq (.block 1 (.seq (.draw [⟨(some 35), 35, (.fld 3 (.t 2)), none, []⟩,
    ⟨(some 36), 36, (.load false 1 (.t 35)), none, [0]⟩,
    ⟨(some 37), 37, (.mv (.t 5)), none, []⟩,
    ⟨(some 38), 38, (.idx 4 (.t 36) (.t 37)), none, [1, 2]⟩,
    ⟨(some 39), 39, (.load true 4 (.t 38)), none, [3]⟩,
    ⟨(some 40), 40, (.fld 3 (.t 3)), none, []⟩,
    ⟨(some 41), 41, (.load false 1 (.t 40)), none, [5]⟩,
    ⟨(some 42), 42, (.mv (.t 5)), none, []⟩,
    ⟨(some 43), 43, (.idx 4 (.t 41) (.t 42)), none, [6, 7]⟩,
    ⟨(some 44), 44, (.load true 4 (.t 43)), none, [8]⟩,
    ⟨(some 45), 45, (.eqs true 68 (.t 39) (.t 44)), none, [4, 9]⟩])
  (.cond (.t 45) (.seq (.reg [⟨(some 4), 4, (.mv (.k (.c (.s (.pv (.bool false)))))), none, []⟩])
  .ret) .skip)))
  (.reg [⟨(some 33), 33, (.mv (.t 5)), none, []⟩,
    ⟨(some 34), 34, (.bin false .add (.t 33) (.k (.c (.s (.pv (.int .i64 1)))))), none, [0]⟩,
    ⟨(some 5), 5, (.mv (.t 34)), none, [1, 0, 1]⟩]))))))
  (.seq (.reg [⟨(some 4), 4, (.mv (.k (.c (.s (.pv (.bool true)))))), none, []⟩])
  .ret))))
theorem fn33 : FnIs Try.prog 33 ac33 [(.t 4)] 46 := ⟨Try.f33, Try.func33, by kernel_rfl, by kernel_rfl, by kernel_rfl⟩
/- lockkeeper/device.Right -/
def ac34 : ACode := (.seq (.reg [⟨(some 1), 1, (.box 50 4 (.t 0)), none, []⟩,
    ⟨(some 2), 2, (.mv (.k (.c (.s (.pv (.bool false)))))), none, []⟩])
  (.seq (.seq (.reg [⟨(some 6), 6, (.fld 0 (.t 1)), none, []⟩,
    ⟨(some 7), 7, (.load true 2 (.t 6)), none, [0]⟩,
    ⟨(some 8), 8, (.call 21 [(.t 7)]), none, [1]⟩,
    ⟨(some 9), 9, (.not (.t 8)), none, [2]⟩,
    ⟨(some 10), 10, (.mv (.t 9)), none, [3, 2]⟩,
    ⟨(some 11), 11, (.fld 0 (.t 1)), (some (10, false)), [4]⟩,
    ⟨(some 12), 12, (.fld 0 (.t 11)), (some (10, false)), [5, 4]⟩,
    ⟨(some 13), 13, (.load false 1 (.t 12)), (some (10, false)), [6, 4]⟩,
    ⟨(some 14), 14, (.len (.t 13)), (some (10, false)), [7, 4]⟩,
    ⟨(some 15), 15, (.bin false .lss (.t 14) (.k (.c (.s (.pv (.int .i64 35)))))), (some (10, false)), [8, 4]⟩,
    ⟨(some 16), 16, (.pick (.t 10) (.k (.c (.s (.pv (.bool true))))) (.t 15)), none, [4, 9]⟩])
  (.cond (.t 16) (.seq (.reg [⟨(some 2), 2, (.mv (.k (.c (.s (.pv (.bool false)))))), none, []⟩])
  .ret) .skip))
  (.seq (.seq (.reg [⟨(some 17), 17, (.fld 2 (.t 1)), none, []⟩,
    ⟨(some 18), 18, (.load false 1 (.t 17)), none, [0]⟩,
    ⟨(some 19), 19, (.bin false .lss (.t 18) (.k (.c (.s (.pv (.int .i64 0)))))), none, [1]⟩,
    ⟨(some 20), 20, (.mv (.t 19)), none, [2]⟩,
    ⟨(some 21), 21, (.fld 2 (.t 1)), (some (20, false)), [3]⟩,
    ⟨(some 22), 22, (.load false 1 (.t 21)), (some (20, false)), [4, 3]⟩,
    ⟨(some 23), 23, (.bin false .gtr (.t 22) (.k (.c (.s (.pv (.int .i64 2147483647)))))), (some (20, false)), [5, 3]⟩,
    ⟨(some 24), 24, (.pick (.t 20) (.k (.c (.s (.pv (.bool true))))) (.t 23)), none, [3, 6]⟩,
    ⟨(some 25), 25, (.mv (.t 24)), none, [7, 3]⟩,
    ⟨(some 26), 26, (.fld 3 (.t 1)), (some (25, false)), [8]⟩,
    ⟨(some 27), 27, (.load false 1 (.t 26)), (some (25, false)), [9, 8]⟩,
    ⟨(some 28), 28, (.len (.t 27)), (some (25, false)), [10, 8]⟩,
    ⟨(some 29), 29, (.bin false .gtr (.t 28) (.k (.c (.s (.pv (.int .i64 4)))))), (some (25, false)), [11, 8]⟩,
    ⟨(some 30), 30, (.pick (.t 25) (.k (.c (.s (.pv (.bool true))))) (.t 29)), none, [8, 12]⟩])
  (.cond (.t 30) (.seq (.reg [⟨(some 2), 2, (.mv (.k (.c (.s (.pv (.bool false)))))), none, []⟩])
  .ret) .skip))
  (.seq (.reg [⟨(some 3), 3, (.mv (.k (.c (.s (.pv (.int .i64 (-1))))))), none, []⟩])
  (.seq (.seq (.reg [⟨(some 31), 31, (.fld 3 (.t 1)), none, []⟩,
    ⟨(some 32), 32, (.load false 1 (.t 31)), none, [0]⟩,
    ⟨(some 33), 33, (.len (.t 32)), none, [1]⟩,
    ⟨(some 34), 34, (.mv (.k (.c (.s (.pv (.int .i64 0)))))), none, []⟩])
  (.block 0 (.loop (.seq (.reg [⟨(some 35), 35, (.bin false .lss (.t 34) (.t 33)), none, []⟩])
  (.seq (.cond (.t 35) .skip (.exit 0))
  (.seq (.block 1 (.seq (.reg [⟨(some 36), 36, (.idx 4 (.t 32) (.t 34)), none, []⟩,
    ⟨(some 37), 37, (.load true 4 (.t 36)), none, [0]⟩,
    ⟨(some 5), 5, (.mk 65 4 [[(.s (.pv (.int .i64 0))), (.s (.pv (.int .i64 0))), (.s (.pv (.int .i64 0))), (.s (.pv (.string ⟨#[]⟩)))]]), none, []⟩,
    ⟨none, 65, (.store 4 (.t 5) (.t 37)), none, [2, 1, 0, 1, 2]⟩])
  (.seq (.seq (.reg [⟨(some 38), 38, (.fld 0 (.t 5)), none, []⟩,
    ⟨(some 39), 39, (.load false 1 (.t 38)), none, [0]⟩,
    ⟨(some 40), 40, (.mv (.t 3)), none, []⟩,
    ⟨(some 41), 41, (.bin false .leq (.t 39) (.t 40)), none, [1, 2]⟩,
    ⟨(some 42), 42, (.mv (.t 41)), none, [3]⟩,
    ⟨(some 43), 43, (.fld 0 (.t 5)), (some (42, false)), [4]⟩,
    ⟨(some 44), 44, (.load false 1 (.t 43)), (some (42, false)), [5, 4]⟩,
    ⟨(some 45), 45, (.fld 2 (.t 1)), (some (42, false)), [4]⟩,
    ⟨(some 46), 46, (.load false 1 (.t 45)), (some (42, false)), [7, 4]⟩,
    ⟨(some 47), 47, (.bin false .geq (.t 44) (.t 46)), (some (42, false)), [6, 8, 4]⟩,
    ⟨(some 48), 48, (.pick (.t 42) (.k (.c (.s (.pv (.bool true))))) (.t 47)), none, [4, 9]⟩,
    ⟨(some 49), 49, (.mv (.t 48)), none, [10, 4]⟩,
    ⟨(some 50), 50, (.fld 1 (.t 5)), (some (49, false)), [11]⟩,
    ⟨(some 51), 51, (.load false 1 (.t 50)), (some (49, false)), [12, 11]⟩,
    ⟨(some 52), 52, (.fld 2 (.t 5)), (some (49, false)), [11]⟩,
    ⟨(some 53), 53, (.load false 1 (.t 52)), (some (49, false)), [14, 11]⟩,
    ⟨(some 54), 54, (.fld 3 (.t 5)), (some (49, false)), [11]⟩,
    ⟨(some 55), 55, (.load false 1 (.t 54)), (some (49, false)), [16, 11]⟩,
    ⟨(some 56), 56, (.call 48 [(.t 51), (.t 53), (.t 55)]), (some (49, false)), [13, 15, 17, 11, 11]⟩,
    ⟨(some 57), 57, (.not (.t 56)), (some (49, false)), [18, 11]⟩,
    ⟨(some 58), 58, (.pick (.t 49) (.k (.c (.s (.pv (.bool true))))) (.t 57)), none, [11, 19]⟩])
  (.cond (.t 58) (.seq (.reg [⟨(some 2), 2, (.mv (.k (.c (.s (.pv (.bool false)))))), none, []⟩])
  .ret) .skip))
  (.reg [⟨(some 59), 59, (.fld 0 (.t 5)), none, []⟩,
    ⟨(some 60), 60, (.load false 1 (.t 59)), none, [0]⟩,
    ⟨(some 3), 3, (.mv (.t 60)), none, [1, 0, 1]⟩]))))
  (.reg [⟨(some 61), 61, (.bin false .add (.t 34) (.k (.c (.s (.pv (.int .i64 1)))))), none, []⟩,
    ⟨(some 34), 34, (.mv (.t 61)), none, [0]⟩])))))))
  (.seq (.reg [⟨(some 2), 2, (.mv (.k (.c (.s (.pv (.bool true)))))), none, []⟩])
  .ret))))))
theorem fn34 : FnIs Try.prog 34 ac34 [(.t 2)] 62 := ⟨Try.f34, Try.func34, by kernel_rfl, by kernel_rfl, by kernel_rfl⟩
/- lockkeeper/lockkeeperref04.Right -/
def ac35 : ACode := (.seq (.reg [⟨(some 1), 1, (.box 53 4 (.t 0)), none, []⟩,
    ⟨(some 2), 2, (.mv (.k (.c (.s (.pv (.bool false)))))), none, []⟩])
  (.seq (.seq (.reg [⟨(some 5), 5, (.fld 0 (.t 1)), none, []⟩,
    ⟨(some 6), 6, (.load true 2 (.t 5)), none, [0]⟩,
    ⟨(some 7), 7, (.call 18 [(.t 6)]), none, [1]⟩,
    ⟨(some 8), 8, (.not (.t 7)), none, [2]⟩,
    ⟨(some 9), 9, (.mv (.t 8)), none, [3, 2]⟩,
    ⟨(some 10), 10, (.fld 0 (.t 1)), (some (9, false)), [4]⟩,
    ⟨(some 11), 11, (.fld 0 (.t 10)), (some (9, false)), [5, 4]⟩,
    ⟨(some 12), 12, (.load false 1 (.t 11)), (some (9, false)), [6, 4]⟩,
    ⟨(some 13), 13, (.len (.t 12)), (some (9, false)), [7, 4]⟩,
    ⟨(some 14), 14, (.bin false .lss (.t 13) (.k (.c (.s (.pv (.int .i64 35)))))), (some (9, false)), [8, 4]⟩,
    ⟨(some 15), 15, (.pick (.t 9) (.k (.c (.s (.pv (.bool true))))) (.t 14)), none, [4, 9]⟩,
    ⟨(some 16), 16, (.mv (.t 15)), none, [10, 4]⟩,
    ⟨(some 17), 17, (.fld 2 (.t 1)), (some (16, false)), [11]⟩,
    ⟨(some 18), 18, (.load false 1 (.t 17)), (some (16, false)), [12, 11]⟩,
    ⟨(some 19), 19, (.bin false .lss (.t 18) (.k (.c (.s (.pv (.int .i64 0)))))), (some (16, false)), [13, 11]⟩,
    ⟨(some 20), 20, (.pick (.t 16) (.k (.c (.s (.pv (.bool true))))) (.t 19)), none, [11, 14]⟩,
    ⟨(some 21), 21, (.mv (.t 20)), none, [15, 11]⟩,
    ⟨(some 22), 22, (.fld 2 (.t 1)), (some (21, false)), [16]⟩,
    ⟨(some 23), 23, (.load false 1 (.t 22)), (some (21, false)), [17, 16]⟩,
    ⟨(some 24), 24, (.bin false .gtr (.t 23) (.k (.c (.s (.pv (.int .i64 2147483647)))))), (some (21, false)), [18, 16]⟩,
    ⟨(some 25), 25, (.pick (.t 21) (.k (.c (.s (.pv (.bool true))))) (.t 24)), none, [16, 19]⟩,
    ⟨(some 26), 26, (.mv (.t 25)), none, [20, 16]⟩,
    ⟨(some 27), 27, (.fld 3 (.t 1)), (some (26, false)), [21]⟩,
    ⟨(some 28), 28, (.load false 1 (.t 27)), (some (26, false)), [22, 21]⟩,
    ⟨(some 29), 29, (.len (.t 28)), (some (26, false)), [23, 21]⟩,
    ⟨(some 30), 30, (.bin false .gtr (.t 29) (.k (.c (.s (.pv (.int .i64 4)))))), (some (26, false)), [24, 21]⟩,
    ⟨(some 31), 31, (.pick (.t 26) (.k (.c (.s (.pv (.bool true))))) (.t 30)), none, [21, 25]⟩])
  (.cond (.t 31) (.seq (.reg [⟨(some 2), 2, (.mv (.k (.c (.s (.pv (.bool false)))))), none, []⟩])
  .ret) .skip))
  (.seq (.seq (.reg [⟨(some 3), 3, (.mv (.k (.c (.s (.pv (.int .i64 0)))))), none, []⟩])
  (.block 0 (.loop (.seq (.seq (.reg [⟨(some 32), 32, (.mv (.t 3)), none, []⟩,
    ⟨(some 33), 33, (.fld 3 (.t 1)), none, []⟩,
    ⟨(some 34), 34, (.load false 1 (.t 33)), none, [1]⟩,
    ⟨(some 35), 35, (.len (.t 34)), none, [2]⟩,
    ⟨(some 36), 36, (.bin false .lss (.t 32) (.t 35)), none, [0, 3]⟩])
  (.cond (.t 36) .skip (.exit 0)))
  (.seq (.block 1 (.seq (.reg [⟨(some 39), 39, (.fld 3 (.t 1)), none, []⟩,
    ⟨(some 40), 40, (.load false 1 (.t 39)), none, [0]⟩,
    ⟨(some 41), 41, (.mv (.t 3)), none, []⟩,
    ⟨(some 42), 42, (.idx 4 (.t 40) (.t 41)), none, [1, 2]⟩,
    ⟨(some 43), 43, (.load true 4 (.t 42)), none, [3]⟩,
    ⟨(some 4), 4, (.mk 68 4 [[(.s (.pv (.int .i64 0))), (.s (.pv (.int .i64 0))), (.s (.pv (.int .i64 0))), (.s (.pv (.string ⟨#[]⟩)))]]), none, []⟩,
    ⟨none, 86, (.store 4 (.t 4) (.t 43)), none, [5, 4, 0, 1, 2, 3, 4, 5]⟩])
  (.seq (.draw [⟨(some 44), 44, (.fld 0 (.t 4)), none, []⟩,
    ⟨(some 45), 45, (.load false 1 (.t 44)), none, [0]⟩,
    ⟨(some 46), 46, (.bin false .lss (.t 45) (.k (.c (.s (.pv (.int .i64 0)))))), none, [1]⟩,
    ⟨(some 47), 47, (.mv (.t 46)), none, [2]⟩,
    ⟨(some 48), 48, (.fld 0 (.t 4)), (some (47, false)), [3]⟩,
    ⟨(some 49), 49, (.load false 1 (.t 48)), (some (47, false)), [4, 3]⟩,
    ⟨(some 50), 50, (.fld 2 (.t 1)), (some (47, false)), [3]⟩,
    ⟨(some 51), 51, (.load false 1 (.t 50)), (some (47, false)), [6, 3]⟩,
    ⟨(some 52), 52, (.bin false .geq (.t 49) (.t 51)), (some (47, false)), [5, 7, 3]⟩,
    ⟨(some 53), 53, (.pick (.t 47) (.k (.c (.s (.pv (.bool true))))) (.t 52)), none, [3, 8]⟩,
    ⟨(some 54), 54, (.mv (.t 53)), none, [9, 3]⟩,
    ⟨(some 55), 55, (.mv (.t 3)), (some (54, false)), [10]⟩,
    ⟨(some 56), 56, (.bin false .gtr (.t 55) (.k (.c (.s (.pv (.int .i64 0)))))), (some (54, false)), [11, 10]⟩,
    ⟨(some 57), 57, (.mv (.t 56)), (some (54, false)), [12, 10, 10]⟩,
    ⟨(some 58), 58, (.fld 0 (.t 4)), (some (57, true)), [13]⟩,
    ⟨(some 59), 59, (.load false 1 (.t 58)), (some (57, true)), [14, 13]⟩,
    ⟨(some 60), 60, (.fld 3 (.t 1)), (some (57, true)), [13]⟩,
    ⟨(some 61), 61, (.load false 1 (.t 60)), (some (57, true)), [16, 13]⟩,
    ⟨(some 62), 62, (.mv (.t 3)), (some (57, true)), [13]⟩,
    ⟨(some 63), 63, (.bin false .sub (.t 62) (.k (.c (.s (.pv (.int .i64 1)))))), (some (57, true)), [18, 13]⟩,
    ⟨(some 64), 64, (.idx 4 (.t 61) (.t 63)), (some (57, true)), [17, 19, 13]⟩,
    ⟨(some 65), 65, (.fld 0 (.t 64)), (some (57, true)), [20, 13]⟩,
    ⟨(some 66), 66, (.load false 1 (.t 65)), (some (57, true)), [21, 13]⟩,
    ⟨(some 67), 67, (.bin false .leq (.t 59) (.t 66)), (some (57, true)), [15, 22, 13]⟩,
    ⟨(some 68), 68, (.pick (.t 57) (.t 67) (.k (.c (.s (.pv (.bool false)))))), (some (54, false)), [13, 23, 10]⟩,
    ⟨(some 69), 69, (.pick (.t 54) (.k (.c (.s (.pv (.bool true))))) (.t 68)), none, [10, 24]⟩,
    ⟨(some 70), 70, (.mv (.t 69)), none, [25, 13]⟩,
    ⟨(some 71), 71, (.fld 1 (.t 4)), (some (70, false)), [26]⟩,
    ⟨(some 72), 72, (.load false 1 (.t 71)), (some (70, false)), [27, 26]⟩,
    ⟨(some 73), 73, (.fld 2 (.t 4)), (some (70, false)), [26]⟩,
    ⟨(some 74), 74, (.load false 1 (.t 73)), (some (70, false)), [29, 26]⟩,
    ⟨(some 75), 75, (.fld 3 (.t 4)), (some (70, false)), [26]⟩,
    ⟨(some 76), 76, (.load false 1 (.t 75)), (some (70, false)), [31, 26]⟩,
    ⟨(some 77), 77, (.call 50 [(.t 72), (.t 74), (.t 76)]), (some (70, false)), [28, 30, 32, 26, 26]⟩,
    ⟨(some 78), 78, (.not (.t 77)), (some (70, false)), [33, 26]⟩,
    ⟨(some 79), 79, (.pick (.t 70) (.k (.c (.s (.pv (.bool true))))) (.t 78)), none, [26, 34]⟩])
  (.cond (.t 79) (.seq (.reg [⟨(some 2), 2, (.mv (.k (.c (.s (.pv (.bool false)))))), none, []⟩])
  .ret) .skip))))
  (.reg [⟨(some 37), 37, (.mv (.t 3)), none, []⟩,
    ⟨(some 38), 38, (.bin false .add (.t 37) (.k (.c (.s (.pv (.int .i64 1)))))), none, [0]⟩,
    ⟨(some 3), 3, (.mv (.t 38)), none, [1, 0, 1]⟩]))))))
  (.seq (.reg [⟨(some 2), 2, (.mv (.k (.c (.s (.pv (.bool true)))))), none, []⟩])
  .ret))))
theorem fn35 : FnIs Try.prog 35 ac35 [(.t 2)] 80 := ⟨Try.f35, Try.func35, by kernel_rfl, by kernel_rfl, by kernel_rfl⟩
/- lockkeeper/device.Finish -/
def ac36 : ACode := (.seq (.reg [⟨(some 3), 3, (.box 50 4 (.t 0)), none, []⟩,
    ⟨(some 6), 6, (.mk 50 4 [[.zc, .zc, (.s (.pv (.int .i64 0))), .zc]]), none, []⟩,
    ⟨(some 7), 7, (.mk 65 4 [[(.s (.pv (.int .i64 0))), (.s (.pv (.int .i64 0))), (.s (.pv (.int .i64 0))), (.s (.pv (.string ⟨#[]⟩)))]]), none, []⟩,
    ⟨(some 8), 8, (.mv (.k (.c (.s (.pv (.int .i64 0)))))), none, []⟩])
  (.seq (.seq (.reg [⟨(some 11), 11, (.load true 4 (.t 3)), none, []⟩,
    ⟨(some 12), 12, (.call 34 [(.t 11)]), none, [0]⟩,
    ⟨(some 13), 13, (.not (.t 12)), none, [1]⟩,
    ⟨(some 14), 14, (.mv (.t 13)), none, [2, 1]⟩,
    ⟨(some 15), 15, (.mv (.t 1)), (some (14, false)), [3]⟩,
    ⟨(some 16), 16, (.bin false .lss (.t 15) (.k (.c (.s (.pv (.int .i64 0)))))), (some (14, false)), [4, 3]⟩,
    ⟨(some 17), 17, (.pick (.t 14) (.k (.c (.s (.pv (.bool true))))) (.t 16)), none, [3, 5]⟩,
    ⟨(some 18), 18, (.mv (.t 17)), none, [6, 3]⟩,
    ⟨(some 19), 19, (.mv (.t 1)), (some (18, false)), [7]⟩,
    ⟨(some 20), 20, (.fld 3 (.t 3)), (some (18, false)), [7]⟩,
    ⟨(some 21), 21, (.load false 1 (.t 20)), (some (18, false)), [9, 7]⟩,
    ⟨(some 22), 22, (.len (.t 21)), (some (18, false)), [10, 7]⟩,
    ⟨(some 23), 23, (.bin false .geq (.t 19) (.t 22)), (some (18, false)), [8, 11, 7]⟩,
    ⟨(some 24), 24, (.pick (.t 18) (.k (.c (.s (.pv (.bool true))))) (.t 23)), none, [7, 12]⟩])
  (.cond (.t 24) (.seq (.reg [⟨(some 25), 25, (.load true 4 (.t 3)), none, []⟩,
    ⟨(some 26), 26, (.build [(.s (.pv (.int .i64 0))), (.s (.pv (.int .i64 0))), (.s (.pv (.int .i64 0))), (.s (.pv (.string ⟨#[]⟩)))] []), none, []⟩,
    ⟨none, 77, (.store 4 (.t 6) (.t 25)), none, [0, 0]⟩,
    ⟨none, 78, (.store 4 (.t 7) (.t 26)), none, [1, 2, 0, 1, 2]⟩,
    ⟨(some 8), 8, (.mv (.k (.c (.s (.pv (.int .i64 1)))))), none, [3, 0, 1, 2, 3]⟩])
  .ret) .skip))
  (.seq (.reg [⟨(some 27), 27, (.fld 3 (.t 3)), none, []⟩,
    ⟨(some 28), 28, (.load false 1 (.t 27)), none, [0]⟩,
    ⟨(some 29), 29, (.mv (.t 1)), none, []⟩,
    ⟨(some 30), 30, (.idx 4 (.t 28) (.t 29)), none, [1, 2]⟩,
    ⟨(some 31), 31, (.load true 4 (.t 30)), none, [3]⟩,
    ⟨(some 9), 9, (.mk 65 4 [[(.s (.pv (.int .i64 0))), (.s (.pv (.int .i64 0))), (.s (.pv (.int .i64 0))), (.s (.pv (.string ⟨#[]⟩)))]]), none, []⟩,
    ⟨none, 81, (.store 4 (.t 9) (.t 31)), none, [5, 4, 0, 1, 2, 3, 4, 5]⟩])
  (.seq (.reg [⟨(some 32), 32, (.fld 3 (.t 3)), none, []⟩,
    ⟨(some 33), 33, (.load false 1 (.t 32)), none, [0]⟩,
    ⟨(some 34), 34, (.call 49 [(.t 33)]), none, [1]⟩,
    ⟨(some 35), 35, (.mv (.t 1)), none, []⟩,
    ⟨(some 36), 36, (.mv (.t 1)), none, []⟩,
    ⟨(some 37), 37, (.bin false .add (.t 36) (.k (.c (.s (.pv (.int .i64 1)))))), none, [4]⟩,
    ⟨(some 38), 38, (.call 51 [(.t 34), (.t 35), (.t 37)]), none, [2, 3, 5, 2]⟩,
    ⟨(some 39), 39, (.fld 3 (.t 3)), none, [0, 1, 2, 3, 4, 5, 6]⟩,
    ⟨none, 83, (.store 1 (.t 39) (.t 38)), none, [7, 6, 6, 0, 1, 2, 3, 4, 5, 6]⟩])
  (.seq (.seq (.reg [⟨(some 40), 40, (.mv (.t 2)), none, []⟩])
  (.cond (.t 40) (.seq (.draw [⟨(some 41), 41, (.load true 4 (.t 3)), none, []⟩,
    ⟨(some 42), 42, (.load true 4 (.t 9)), none, []⟩,
    ⟨none, 77, (.store 4 (.t 6) (.t 41)), none, [0, 0]⟩,
    ⟨none, 78, (.store 4 (.t 7) (.t 42)), none, [1, 2, 0, 1, 2]⟩,
    ⟨(some 8), 8, (.mv (.k (.c (.s (.pv (.int .i64 8)))))), none, [3, 0, 1, 2, 3]⟩])
  .ret) .skip))
  (.seq (.reg [⟨(some 10), 10, (.mv (.k (.c (.s (.pv (.int .i64 0)))))), none, []⟩])
  (.seq (.seq (.reg [⟨(some 43), 43, (.fld 1 (.t 9)), none, []⟩,
    ⟨(some 44), 44, (.load false 1 (.t 43)), none, [0]⟩])
  (.block 0 (.seq (.reg [⟨(some 46), 46, (.bin false .eql (.t 44) (.k (.c (.s (.pv (.int .i64 1)))))), none, []⟩,
    ⟨(some 45), 45, (.mv (.t 46)), none, [0]⟩])
  (.cond (.t 45) (.reg [⟨(some 47), 47, (.fld 0 (.t 3)), none, []⟩,
    ⟨(some 48), 48, (.load true 2 (.t 47)), none, [0]⟩,
    ⟨(some 49), 49, (.fld 2 (.t 9)), none, []⟩,
    ⟨(some 50), 50, (.load false 1 (.t 49)), none, [2]⟩,
    ⟨(some 51), 51, (.call 52 [(.t 48), (.t 50)]), none, [1, 3]⟩,
    ⟨(some 52), 52, (.fld 3 (.t 9)), none, [0, 1, 2, 3, 4]⟩,
    ⟨none, 81, (.store 1 (.t 52) (.t 51)), none, [5, 4, 4, 0, 1, 2, 3, 4]⟩]) (.seq (.reg [⟨(some 54), 54, (.bin false .eql (.t 44) (.k (.c (.s (.pv (.int .i64 2)))))), none, []⟩,
    ⟨(some 53), 53, (.mv (.t 54)), none, [0]⟩])
  (.cond (.t 53) (.reg [⟨(some 56), 56, (.fld 0 (.t 3)), none, []⟩,
    ⟨(some 57), 57, (.load true 2 (.t 56)), none, [0]⟩,
    ⟨(some 58), 58, (.fld 2 (.t 9)), none, []⟩,
    ⟨(some 59), 59, (.load false 1 (.t 58)), none, [2]⟩,
    ⟨(some 60), 60, (.fld 3 (.t 9)), none, []⟩,
    ⟨(some 61), 61, (.load false 1 (.t 60)), none, [4]⟩,
    ⟨(some 62), 62, (.call 53 [(.t 57), (.t 59), (.t 61)]), none, [1, 3, 5]⟩,
    ⟨(some 55), 55, (.mv (.t 62)), none, [6]⟩,
    ⟨(some 63), 63, (.ext 0 (.t 55)), none, [7]⟩,
    ⟨(some 64), 64, (.ext 1 (.t 55)), none, [7]⟩,
    ⟨(some 65), 65, (.fld 0 (.t 3)), none, [0, 1, 2, 3, 4, 5, 6, 7, 8]⟩,
    ⟨none, 86, (.store 2 (.t 65) (.t 63)), none, [10, 8, 6, 0, 1, 2, 3, 4, 5, 6, 7, 8]⟩,
    ⟨(some 10), 10, (.mv (.t 64)), none, [9, 11, 0, 1, 2, 3, 4, 5, 6, 7, 8, 9, 10, 11]⟩]) (.seq (.reg [⟨(some 67), 67, (.bin false .eql (.t 44) (.k (.c (.s (.pv (.int .i64 3)))))), none, []⟩,
    ⟨(some 66), 66, (.mv (.t 67)), none, [0]⟩])
  (.cond (.t 66) (.reg [⟨(some 68), 68, (.fld 0 (.t 3)), none, []⟩,
    ⟨(some 69), 69, (.load true 2 (.t 68)), none, [0]⟩,
    ⟨(some 70), 70, (.call 23 [(.t 69)]), none, [1]⟩,
    ⟨(some 71), 71, (.fld 0 (.t 3)), none, [0, 1, 2]⟩,
    ⟨none, 79, (.store 2 (.t 71) (.t 70)), none, [3, 2, 2, 0, 1, 2]⟩]) .skip))))))))
  (.seq (.draw [⟨(some 72), 72, (.load true 4 (.t 3)), none, []⟩,
    ⟨(some 73), 73, (.load true 4 (.t 9)), none, []⟩,
    ⟨(some 74), 74, (.mv (.t 10)), none, []⟩,
    ⟨none, 78, (.store 4 (.t 6) (.t 72)), none, [0, 0]⟩,
    ⟨none, 79, (.store 4 (.t 7) (.t 73)), none, [1, 3, 0, 1, 3]⟩,
    ⟨(some 8), 8, (.mv (.t 74)), none, [2, 4, 0, 1, 2, 3, 4]⟩])
  .ret))))))))
theorem fn36 : FnIs Try.prog 36 ac36 [(.cell 6 true 4), (.cell 7 true 4), (.t 8)] 75 := ⟨Try.f36, Try.func36, by kernel_rfl, by kernel_rfl, by kernel_rfl⟩
/- lockkeeper/lockkeeperref04.Finish -/
def ac37 : ACode := (.seq (.reg [⟨(some 3), 3, (.box 53 4 (.t 0)), none, []⟩,
    ⟨(some 6), 6, (.mk 53 4 [[.zc, .zc, (.s (.pv (.int .i64 0))), .zc]]), none, []⟩,
    ⟨(some 7), 7, (.mk 68 4 [[(.s (.pv (.int .i64 0))), (.s (.pv (.int .i64 0))), (.s (.pv (.int .i64 0))), (.s (.pv (.string ⟨#[]⟩)))]]), none, []⟩,
    ⟨(some 8), 8, (.mv (.k (.c (.s (.pv (.int .i64 0)))))), none, []⟩])
  (.seq (.seq (.reg [⟨(some 15), 15, (.load true 4 (.t 3)), none, []⟩,
    ⟨(some 16), 16, (.call 35 [(.t 15)]), none, [0]⟩,
    ⟨(some 17), 17, (.not (.t 16)), none, [1]⟩,
    ⟨(some 18), 18, (.mv (.t 17)), none, [2, 1]⟩,
    ⟨(some 19), 19, (.mv (.t 1)), (some (18, false)), [3]⟩,
    ⟨(some 20), 20, (.bin false .lss (.t 19) (.k (.c (.s (.pv (.int .i64 0)))))), (some (18, false)), [4, 3]⟩,
    ⟨(some 21), 21, (.pick (.t 18) (.k (.c (.s (.pv (.bool true))))) (.t 20)), none, [3, 5]⟩,
    ⟨(some 22), 22, (.mv (.t 21)), none, [6, 3]⟩,
    ⟨(some 23), 23, (.mv (.t 1)), (some (22, false)), [7]⟩,
    ⟨(some 24), 24, (.fld 3 (.t 3)), (some (22, false)), [7]⟩,
    ⟨(some 25), 25, (.load false 1 (.t 24)), (some (22, false)), [9, 7]⟩,
    ⟨(some 26), 26, (.len (.t 25)), (some (22, false)), [10, 7]⟩,
    ⟨(some 27), 27, (.bin false .geq (.t 23) (.t 26)), (some (22, false)), [8, 11, 7]⟩,
    ⟨(some 28), 28, (.pick (.t 22) (.k (.c (.s (.pv (.bool true))))) (.t 27)), none, [7, 12]⟩])
  (.cond (.t 28) (.seq (.reg [⟨(some 29), 29, (.load true 4 (.t 3)), none, []⟩,
    ⟨(some 30), 30, (.build [(.s (.pv (.int .i64 0))), (.s (.pv (.int .i64 0))), (.s (.pv (.int .i64 0))), (.s (.pv (.string ⟨#[]⟩)))] []), none, []⟩,
    ⟨none, 134, (.store 4 (.t 6) (.t 29)), none, [0, 0]⟩,
    ⟨none, 135, (.store 4 (.t 7) (.t 30)), none, [1, 2, 0, 1, 2]⟩,
    ⟨(some 8), 8, (.mv (.k (.c (.s (.pv (.int .i64 1)))))), none, [3, 0, 1, 2, 3]⟩])
  .ret) .skip))
  (.seq (.reg [⟨(some 31), 31, (.fld 0 (.t 3)), none, []⟩,
    ⟨(some 32), 32, (.load true 2 (.t 31)), none, [0]⟩,
    ⟨(some 33), 33, (.fld 2 (.t 3)), none, []⟩,
    ⟨(some 34), 34, (.load false 1 (.t 33)), none, [2]⟩,
    ⟨(some 35), 35, (.build [.zc, .zc, (.s (.pv (.int .i64 0))), .zc] [(0, 2, (.t 32)), (2, 1, (.t 34))]), none, [1, 3]⟩,
    ⟨(some 9), 9, (.mk 53 4 [[.zc, .zc, (.s (.pv (.int .i64 0))), .zc]]), none, []⟩,
    ⟨none, 138, (.store 4 (.t 9) (.t 35)), none, [5, 4, 0, 1, 2, 3, 4, 5]⟩])
  (.seq (.seq (.reg [⟨(some 10), 10, (.mv (.k (.c (.s (.pv (.int .i64 0)))))), none, []⟩])
  (.block 0 (.loop (.seq (.seq (.reg [⟨(some 36), 36, (.mv (.t 10)), none, []⟩,
    ⟨(some 37), 37, (.fld 3 (.t 3)), none, []⟩,
    ⟨(some 38), 38, (.load false 1 (.t 37)), none, [1]⟩,
    ⟨(some 39), 39, (.len (.t 38)), none, [2]⟩,
    ⟨(some 40), 40, (.bin false .lss (.t 36) (.t 39)), none, [0, 3]⟩])
  (.cond (.t 40) .skip (.exit 0)))
  (.seq (.block 1 (.seq (.reg [⟨(some 43), 43, (.mv (.t 10)), none, []⟩,
    ⟨(some 44), 44, (.mv (.t 1)), none, []⟩,
    ⟨(some 45), 45, (.bin false .neq (.t 43) (.t 44)), none, [0, 1]⟩])
  (.cond (.t 45) (.draw [⟨(some 46), 46, (.fld 3 (.t 9)), none, []⟩,
    ⟨(some 47), 47, (.load false 1 (.t 46)), none, [0]⟩,
    ⟨(some 48), 48, (.fld 3 (.t 3)), none, []⟩,
    ⟨(some 49), 49, (.load false 1 (.t 48)), none, [2]⟩,
    ⟨(some 50), 50, (.mv (.t 10)), none, []⟩,
    ⟨(some 51), 51, (.idx 4 (.t 49) (.t 50)), none, [3, 4]⟩,
    ⟨(some 52), 52, (.load true 4 (.t 51)), none, [5]⟩,
    ⟨(some 53), 53, (.bslice 68 4 [(.s (.pv (.int .i64 0))), (.s (.pv (.int .i64 0))), (.s (.pv (.int .i64 0))), (.s (.pv (.string ⟨#[]⟩)))] 1 [(0, 4, (.t 52))]), none, [6]⟩,
    ⟨(some 54), 54, (.app 68 4 40 (.t 47) (.t 53)), none, [1, 7]⟩,
    ⟨(some 55), 55, (.fld 3 (.t 9)), none, [0, 1, 2, 3, 4, 5, 6, 7, 8]⟩,
    ⟨none, 142, (.store 1 (.t 55) (.t 54)), none, [9, 8, 8, 0, 1, 2, 3, 4, 5, 6, 7, 8]⟩]) .skip)))
  (.reg [⟨(some 41), 41, (.mv (.t 10)), none, []⟩,
    ⟨(some 42), 42, (.bin false .add (.t 41) (.k (.c (.s (.pv (.int .i64 1)))))), none, [0]⟩,
    ⟨(some 10), 10, (.mv (.t 42)), none, [1, 0, 1]⟩]))))))
  (.seq (.reg [⟨(some 56), 56, (.fld 3 (.t 3)), none, []⟩,
    ⟨(some 57), 57, (.load false 1 (.t 56)), none, [0]⟩,
    ⟨(some 58), 58, (.mv (.t 1)), none, []⟩,
    ⟨(some 59), 59, (.idx 4 (.t 57) (.t 58)), none, [1, 2]⟩,
    ⟨(some 60), 60, (.load true 4 (.t 59)), none, [3]⟩,
    ⟨(some 11), 11, (.mk 68 4 [[(.s (.pv (.int .i64 0))), (.s (.pv (.int .i64 0))), (.s (.pv (.int .i64 0))), (.s (.pv (.string ⟨#[]⟩)))]]), none, []⟩,
    ⟨none, 138, (.store 4 (.t 11) (.t 60)), none, [5, 4, 0, 1, 2, 3, 4, 5]⟩])
  (.seq (.seq (.reg [⟨(some 61), 61, (.mv (.t 2)), none, []⟩])
  (.cond (.t 61) (.seq (.draw [⟨(some 62), 62, (.load true 4 (.t 9)), none, []⟩,
    ⟨(some 63), 63, (.load true 4 (.t 11)), none, []⟩,
    ⟨none, 134, (.store 4 (.t 6) (.t 62)), none, [0, 0]⟩,
    ⟨none, 135, (.store 4 (.t 7) (.t 63)), none, [1, 2, 0, 1, 2]⟩,
    ⟨(some 8), 8, (.mv (.k (.c (.s (.pv (.int .i64 8)))))), none, [3, 0, 1, 2, 3]⟩])
  .ret) .skip))
  (.seq (.reg [⟨(some 64), 64, (.fld 2 (.t 11)), none, []⟩,
    ⟨(some 65), 65, (.load false 1 (.t 64)), none, [0]⟩,
    ⟨(some 66), 66, (.bin false .mul (.k (.c (.s (.pv (.int .i64 2))))) (.t 65)), none, [1]⟩,
    ⟨(some 67), 67, (.bin false .add (.t 66) (.k (.c (.s (.pv (.int .i64 1)))))), none, [2]⟩,
    ⟨(some 12), 12, (.mv (.t 67)), none, [3, 0, 1, 2, 3]⟩])
  (.seq (.seq (.reg [⟨(some 68), 68, (.fld 1 (.t 11)), none, []⟩,
    ⟨(some 69), 69, (.load false 1 (.t 68)), none, [0]⟩])
  (.block 2 (.seq (.reg [⟨(some 75), 75, (.bin false .eql (.t 69) (.k (.c (.s (.pv (.int .i64 1)))))), none, []⟩,
    ⟨(some 74), 74, (.mv (.t 75)), none, [0]⟩])
  (.cond (.t 74) (.draw [⟨(some 76), 76, (.fld 0 (.t 3)), none, []⟩,
    ⟨(some 77), 77, (.load true 2 (.t 76)), none, [0]⟩,
    ⟨(some 78), 78, (.mv (.t 12)), none, []⟩,
    ⟨(some 79), 79, (.call 27 [(.t 77), (.t 78)]), none, [1, 2]⟩,
    ⟨(some 80), 80, (.fld 0 (.t 3)), none, []⟩,
    ⟨(some 81), 81, (.load true 2 (.t 80)), none, [4]⟩,
    ⟨(some 82), 82, (.mv (.t 12)), none, []⟩,
    ⟨(some 83), 83, (.bin false .add (.t 82) (.k (.c (.s (.pv (.int .i64 1)))))), none, [6]⟩,
    ⟨(some 84), 84, (.call 27 [(.t 81), (.t 83)]), none, [5, 7, 3]⟩,
    ⟨(some 85), 85, (.bin false .add (.t 79) (.t 84)), none, [3, 8]⟩,
    ⟨(some 86), 86, (.fld 3 (.t 11)), none, [0, 1, 2, 3, 4, 5, 6, 7, 8, 9]⟩,
    ⟨none, 143, (.store 1 (.t 86) (.t 85)), none, [10, 9, 8, 0, 1, 2, 3, 4, 5, 6, 7, 8, 9]⟩]) (.seq (.reg [⟨(some 88), 88, (.bin false .eql (.t 69) (.k (.c (.s (.pv (.int .i64 2)))))), none, []⟩,
    ⟨(some 87), 87, (.mv (.t 88)), none, [0]⟩])
  (.cond (.t 87) (.seq (.reg [⟨(some 13), 13, (.mv (.k (.c .zc))), none, []⟩])
  (.seq (.reg [⟨(some 89), 89, (.mv (.t 13)), none, []⟩,
    ⟨(some 90), 90, (.fld 0 (.t 3)), none, []⟩,
    ⟨(some 91), 91, (.fld 1 (.t 90)), none, [1]⟩,
    ⟨(some 92), 92, (.load false 1 (.t 91)), none, [2]⟩,
    ⟨(some 93), 93, (.app 32 2 24 (.t 89) (.t 92)), none, [0, 3]⟩,
    ⟨(some 13), 13, (.mv (.t 93)), none, [4, 4, 0, 1, 2, 3, 4]⟩])
  (.seq (.seq (.reg [⟨(some 94), 94, (.mv (.t 13)), none, []⟩,
    ⟨(some 95), 95, (.len (.t 94)), none, [0]⟩,
    ⟨(some 96), 96, (.bin false .lss (.t 95) (.k (.c (.s (.pv (.int .i64 200)))))), none, [1]⟩])
  (.cond (.t 96) (.reg [⟨(some 97), 97, (.mv (.t 13)), none, []⟩,
    ⟨(some 98), 98, (.mv (.t 12)), none, []⟩,
    ⟨(some 99), 99, (.fld 3 (.t 11)), none, []⟩,
    ⟨(some 100), 100, (.load false 1 (.t 99)), none, [2]⟩,
    ⟨(some 101), 101, (.ssub (.t 100) none (some (.k (.c (.s (.pv (.int .i64 16))))))), none, [3]⟩,
    ⟨(some 102), 102, (.build [(.s (.pv (.int .i64 0))), (.s (.pv (.string ⟨#[]⟩)))] [(0, 1, (.t 98)), (1, 1, (.t 101))]), none, [1, 4]⟩,
    ⟨(some 103), 103, (.bslice 32 2 [(.s (.pv (.int .i64 0))), (.s (.pv (.string ⟨#[]⟩)))] 1 [(0, 2, (.t 102))]), none, [5]⟩,
    ⟨(some 104), 104, (.app 32 2 24 (.t 97) (.t 103)), none, [0, 6]⟩,
    ⟨(some 13), 13, (.mv (.t 104)), none, [7, 7, 0, 1, 2, 3, 4, 5, 6, 7]⟩]) (.seq (.draw [⟨(some 105), 105, (.load true 4 (.t 9)), none, []⟩,
    ⟨(some 106), 106, (.load true 4 (.t 11)), none, []⟩,
    ⟨none, 134, (.store 4 (.t 6) (.t 105)), none, [0, 0]⟩,
    ⟨none, 135, (.store 4 (.t 7) (.t 106)), none, [1, 2, 0, 1, 2]⟩,
    ⟨(some 8), 8, (.mv (.k (.c (.s (.pv (.int .i64 7)))))), none, [3, 0, 1, 2, 3]⟩])
  .ret)))
  (.seq (.reg [⟨(some 107), 107, (.mv (.t 13)), none, []⟩,
    ⟨(some 108), 108, (.len (.t 107)), none, [0]⟩,
    ⟨(some 109), 109, (.bin false .eql (.t 108) (.k (.c (.s (.pv (.int .i64 200)))))), none, [1]⟩,
    ⟨(some 14), 14, (.mv (.t 109)), none, [2, 0, 1, 2]⟩])
  (.seq (.seq (.reg [⟨(some 110), 110, (.mv (.t 14)), none, []⟩,
    ⟨(some 111), 111, (.not (.t 110)), none, [0]⟩])
  (.cond (.t 111) (.reg [⟨(some 112), 112, (.mv (.t 13)), none, []⟩,
    ⟨(some 113), 113, (.mv (.t 12)), none, []⟩,
    ⟨(some 114), 114, (.bin false .add (.t 113) (.k (.c (.s (.pv (.int .i64 1)))))), none, [1]⟩,
    ⟨(some 115), 115, (.fld 3 (.t 11)), none, []⟩,
    ⟨(some 116), 116, (.load false 1 (.t 115)), none, [3]⟩,
    ⟨(some 117), 117, (.ssub (.t 116) (some (.k (.c (.s (.pv (.int .i64 16)))))) none), none, [4]⟩,
    ⟨(some 118), 118, (.build [(.s (.pv (.int .i64 0))), (.s (.pv (.string ⟨#[]⟩)))] [(0, 1, (.t 114)), (1, 1, (.t 117))]), none, [2, 5]⟩,
    ⟨(some 119), 119, (.bslice 32 2 [(.s (.pv (.int .i64 0))), (.s (.pv (.string ⟨#[]⟩)))] 1 [(0, 2, (.t 118))]), none, [6]⟩,
    ⟨(some 120), 120, (.app 32 2 24 (.t 112) (.t 119)), none, [0, 7]⟩,
    ⟨(some 13), 13, (.mv (.t 120)), none, [8, 8, 0, 1, 2, 3, 4, 5, 6, 7, 8]⟩]) .skip))
  (.seq (.reg [⟨(some 121), 121, (.fld 0 (.t 3)), none, []⟩,
    ⟨(some 122), 122, (.fld 0 (.t 121)), none, [0]⟩,
    ⟨(some 123), 123, (.load false 1 (.t 122)), none, [1]⟩,
    ⟨(some 124), 124, (.mv (.t 13)), none, []⟩,
    ⟨(some 125), 125, (.build [.zc, .zc] [(0, 1, (.t 123)), (1, 1, (.t 124))]), none, [2, 3]⟩,
    ⟨(some 126), 126, (.fld 0 (.t 9)), none, [0, 1, 2, 3, 4]⟩,
    ⟨none, 138, (.store 2 (.t 126) (.t 125)), none, [5, 4, 0, 1, 2, 3, 4]⟩])
  (.seq (.reg [⟨(some 127), 127, (.mv (.t 14)), none, []⟩])
  (.cond (.t 127) (.seq (.draw [⟨(some 128), 128, (.load true 4 (.t 9)), none, []⟩,
    ⟨(some 129), 129, (.load true 4 (.t 11)), none, []⟩,
    ⟨none, 134, (.store 4 (.t 6) (.t 128)), none, [0, 0]⟩,
    ⟨none, 135, (.store 4 (.t 7) (.t 129)), none, [1, 2, 0, 1, 2]⟩,
    ⟨(some 8), 8, (.mv (.k (.c (.s (.pv (.int .i64 7)))))), none, [3, 0, 1, 2, 3]⟩])
  .ret) .skip)))))))) (.reg [⟨(some 70), 70, (.fld 0 (.t 3)), none, []⟩,
    ⟨(some 71), 71, (.load true 2 (.t 70)), none, [0]⟩,
    ⟨(some 72), 72, (.call 25 [(.t 71)]), none, [1]⟩,
    ⟨(some 73), 73, (.fld 0 (.t 9)), none, [0, 1, 2]⟩,
    ⟨none, 136, (.store 2 (.t 73) (.t 72)), none, [3, 2, 2, 0, 1, 2]⟩])))))))
  (.seq (.draw [⟨(some 130), 130, (.load true 4 (.t 9)), none, []⟩,
    ⟨(some 131), 131, (.load true 4 (.t 11)), none, []⟩,
    ⟨none, 134, (.store 4 (.t 6) (.t 130)), none, [0, 0]⟩,
    ⟨none, 135, (.store 4 (.t 7) (.t 131)), none, [1, 2, 0, 1, 2]⟩,
    ⟨(some 8), 8, (.mv (.k (.c (.s (.pv (.int .i64 0)))))), none, [3, 0, 1, 2, 3]⟩])
  .ret)))))))))
theorem fn37 : FnIs Try.prog 37 ac37 [(.cell 6 true 4), (.cell 7 true 4), (.t 8)] 132 := ⟨Try.f37, Try.func37, by kernel_rfl, by kernel_rfl, by kernel_rfl⟩
/- lockkeeper/device.Crash -/
def ac38 : ACode := (.seq (.reg [⟨(some 2), 2, (.box 50 4 (.t 0)), none, []⟩,
    ⟨(some 4), 4, (.mk 50 4 [[.zc, .zc, (.s (.pv (.int .i64 0))), .zc]]), none, []⟩])
  (.seq (.seq (.reg [⟨(some 5), 5, (.load true 4 (.t 2)), none, []⟩,
    ⟨(some 6), 6, (.call 34 [(.t 5)]), none, [0]⟩,
    ⟨(some 7), 7, (.not (.t 6)), none, [1]⟩])
  (.cond (.t 7) (.seq (.reg [⟨(some 8), 8, (.load true 4 (.t 2)), none, []⟩,
    ⟨none, 17, (.store 4 (.t 4) (.t 8)), none, [0, 0]⟩])
  .ret) .skip))
  (.seq (.draw [⟨(some 9), 9, (.fld 0 (.t 2)), none, []⟩,
    ⟨(some 10), 10, (.load true 2 (.t 9)), none, [0]⟩,
    ⟨(some 11), 11, (.mv (.t 1)), none, []⟩,
    ⟨(some 12), 12, (.call 24 [(.t 10), (.t 11)]), none, [1, 2]⟩,
    ⟨(some 13), 13, (.fld 2 (.t 2)), none, []⟩,
    ⟨(some 14), 14, (.load false 1 (.t 13)), none, [4]⟩,
    ⟨(some 15), 15, (.build [.zc, .zc, (.s (.pv (.int .i64 0))), .zc] [(0, 2, (.t 12)), (2, 1, (.t 14))]), none, [3, 5]⟩,
    ⟨none, 23, (.store 4 (.t 4) (.t 15)), none, [6, 3, 0, 1, 2, 3, 4, 5, 6]⟩])
  .ret)))
theorem fn38 : FnIs Try.prog 38 ac38 [(.cell 4 true 4)] 16 := ⟨Try.f38, Try.func38, by kernel_rfl, by kernel_rfl, by kernel_rfl⟩
/- lockkeeper/lockkeeperlaw04.New -/
def ac39 : ACode := (.seq (.reg [⟨(some 0), 0, (.mk 50 4 [[.zc, .zc, (.s (.pv (.int .i64 0))), .zc]]), none, []⟩])
  (.seq (.reg [⟨(some 4), 4, (.call 15 [(.k (.c (.s (.pv (.int .i64 35)))))]), none, []⟩,
    ⟨(some 3), 3, (.mv (.t 4)), none, [0]⟩,
    ⟨(some 5), 5, (.ext 0 (.t 3)), none, [1]⟩,
    ⟨(some 6), 6, (.ext 1 (.t 3)), none, [1]⟩,
    ⟨(some 1), 1, (.mk 25 2 [[.zc, .zc]]), none, []⟩,
    ⟨none, 14, (.store 2 (.t 1) (.t 5)), none, [4, 2, 0, 0, 1, 2, 4]⟩,
    ⟨(some 2), 2, (.mv (.t 6)), none, [3, 5, 0, 1, 2, 3, 4, 5]⟩])
  (.seq (.reg [⟨(some 7), 7, (.load true 2 (.t 1)), none, []⟩,
    ⟨(some 8), 8, (.build [.zc, .zc, (.s (.pv (.int .i64 0))), .zc] [(0, 2, (.t 7))]), none, [0]⟩,
    ⟨none, 11, (.store 4 (.t 0) (.t 8)), none, [1, 0, 1]⟩])
  .ret)))
theorem fn39 : FnIs Try.prog 39 ac39 [(.cell 0 true 4)] 9 := ⟨Try.f39, Try.func39, by kernel_rfl, by kernel_rfl, by kernel_rfl⟩
/- lockkeeper/disk.has -/
def ac42 : ACode := (.seq (.reg [⟨(some 2), 2, (.box 25 2 (.t 0)), none, []⟩,
    ⟨(some 4), 4, (.mv (.k (.c (.s (.pv (.bool false)))))), none, []⟩])
  (.seq (.reg [⟨(some 5), 5, (.mv (.t 1)), none, []⟩,
    ⟨(some 6), 6, (.bin false .geq (.t 5) (.k (.c (.s (.pv (.int .i64 0)))))), none, [0]⟩,
    ⟨(some 7), 7, (.mv (.t 6)), none, [1]⟩,
    ⟨(some 8), 8, (.mv (.t 1)), (some (7, true)), [2]⟩,
    ⟨(some 9), 9, (.fld 0 (.t 2)), (some (7, true)), [2]⟩,
    ⟨(some 10), 10, (.load false 1 (.t 9)), (some (7, true)), [4, 2]⟩,
    ⟨(some 11), 11, (.len (.t 10)), (some (7, true)), [5, 2]⟩,
    ⟨(some 12), 12, (.bin false .lss (.t 8) (.t 11)), (some (7, true)), [3, 6, 2]⟩,
    ⟨(some 13), 13, (.pick (.t 7) (.t 12) (.k (.c (.s (.pv (.bool false)))))), none, [2, 7]⟩,
    ⟨(some 4), 4, (.mv (.t 13)), none, [8, 2, 0, 1, 2, 3, 4, 5, 6, 7, 8]⟩])
  .ret))
theorem fn42 : FnIs Try.prog 42 ac42 [(.t 4)] 14 := ⟨Try.f42, Try.func42, by kernel_rfl, by kernel_rfl, by kernel_rfl⟩
/- slices.Backward[[]lockkeeper/api.Write,lockkeeper/api.Write] -/
def ac43 : ACode := (.seq (.reg [⟨(some 1), 1, (.box 23 1 (.t 0)), none, []⟩,
    ⟨(some 2), 2, (.mv (.k (.c (.s (.pv .nilFunc))))), none, []⟩])
  (.seq (.reg [⟨(some 3), 3, (.clo 60 [(.t 1)]), none, []⟩,
    ⟨(some 2), 2, (.mv (.t 3)), none, [0, 0]⟩])
  .ret))
theorem fn43 : FnIs Try.prog 43 ac43 [(.t 2)] 4 := ⟨Try.f43, Try.func43, by kernel_rfl, by kernel_rfl, by kernel_rfl⟩
/- lockkeeper/disk.fits -/
def ac44 : ACode := (.seq (.reg [⟨(some 2), 2, (.box 25 2 (.t 0)), none, []⟩,
    ⟨(some 3), 3, (.box 32 2 (.t 1)), none, []⟩,
    ⟨(some 4), 4, (.mv (.k (.c (.s (.pv (.bool false)))))), none, []⟩])
  (.seq (.reg [⟨(some 5), 5, (.load true 2 (.t 2)), none, []⟩,
    ⟨(some 6), 6, (.fld 0 (.t 3)), none, []⟩,
    ⟨(some 7), 7, (.load false 1 (.t 6)), none, [1]⟩,
    ⟨(some 8), 8, (.call 42 [(.t 5), (.t 7)]), none, [0, 2]⟩,
    ⟨(some 9), 9, (.mv (.t 8)), none, [3, 3]⟩,
    ⟨(some 10), 10, (.fld 1 (.t 3)), (some (9, true)), [4]⟩,
    ⟨(some 11), 11, (.load false 1 (.t 10)), (some (9, true)), [5, 4]⟩,
    ⟨(some 12), 12, (.slen (.t 11)), (some (9, true)), [6, 4]⟩,
    ⟨(some 13), 13, (.bin false .eql (.t 12) (.k (.c (.s (.pv (.int .i64 16)))))), (some (9, true)), [7, 4]⟩,
    ⟨(some 14), 14, (.pick (.t 9) (.t 13) (.k (.c (.s (.pv (.bool false)))))), none, [4, 8]⟩,
    ⟨(some 4), 4, (.mv (.t 14)), none, [9, 4, 0, 1, 2, 3, 4, 5, 6, 7, 8, 9]⟩])
  .ret))
theorem fn44 : FnIs Try.prog 44 ac44 [(.t 4)] 15 := ⟨Try.f44, Try.func44, by kernel_rfl, by kernel_rfl, by kernel_rfl⟩
/- slices.Clone[[]lockkeeper/api.Write,lockkeeper/api.Write] -/
def ac45 : ACode := (.seq (.reg [⟨(some 2), 2, (.mv (.k (.c .zc))), none, []⟩])
  (.seq (.seq (.reg [⟨(some 3), 3, (.mv (.t 0)), none, []⟩,
    ⟨(some 4), 4, (.isnil (.t 3)), none, [0]⟩])
  (.cond (.t 4) (.seq (.reg [⟨(some 2), 2, (.mv (.k (.c .zc))), none, []⟩])
  .ret) .skip))
  (.seq (.reg [⟨(some 5), 5, (.bslice 32 2 [(.s (.pv (.int .i64 0))), (.s (.pv (.string ⟨#[]⟩)))] 0 []), none, []⟩,
    ⟨(some 6), 6, (.mv (.t 0)), none, []⟩,
    ⟨(some 7), 7, (.app 32 2 24 (.t 5) (.t 6)), none, [0, 1]⟩,
    ⟨(some 2), 2, (.mv (.t 7)), none, [2, 2, 0, 1, 2]⟩])
  .ret)))
theorem fn45 : FnIs Try.prog 45 ac45 [(.t 2)] 8 := ⟨Try.f45, Try.func45, by kernel_rfl, by kernel_rfl, by kernel_rfl⟩
/- lockkeeper/disk.done -/
def ac46 : ACode := (.seq (.reg [⟨(some 2), 2, (.box 25 2 (.t 0)), none, []⟩,
    ⟨(some 4), 4, (.mk 25 2 [[.zc, .zc]]), none, []⟩])
  (.seq (.reg [⟨(some 8), 8, (.fld 0 (.t 2)), none, []⟩,
    ⟨(some 9), 9, (.load false 1 (.t 8)), none, [0]⟩,
    ⟨(some 10), 10, (.call 61 [(.t 9)]), none, [1]⟩,
    ⟨(some 5), 5, (.mv (.t 10)), none, [2, 2, 0, 1, 2]⟩])
  (.seq (.seq (.reg [⟨(some 11), 11, (.mv (.t 1)), none, []⟩,
    ⟨(some 12), 12, (.len (.t 11)), none, [0]⟩,
    ⟨(some 13), 13, (.mv (.k (.c (.s (.pv (.int .i64 0)))))), none, []⟩])
  (.block 0 (.loop (.seq (.reg [⟨(some 14), 14, (.bin false .lss (.t 13) (.t 12)), none, []⟩])
  (.seq (.cond (.t 14) .skip (.exit 0))
  (.seq (.block 1 (.seq (.reg [⟨(some 15), 15, (.idx 2 (.t 11) (.t 13)), none, []⟩,
    ⟨(some 16), 16, (.load true 2 (.t 15)), none, [0]⟩,
    ⟨(some 7), 7, (.mk 32 2 [[(.s (.pv (.int .i64 0))), (.s (.pv (.string ⟨#[]⟩)))]]), none, []⟩,
    ⟨none, 29, (.store 2 (.t 7) (.t 16)), none, [2, 1, 0, 1, 2]⟩])
  (.reg [⟨(some 17), 17, (.mv (.t 5)), none, []⟩,
    ⟨(some 18), 18, (.fld 0 (.t 7)), none, []⟩,
    ⟨(some 19), 19, (.load false 1 (.t 18)), none, [1]⟩,
    ⟨(some 20), 20, (.fld 1 (.t 7)), none, []⟩,
    ⟨(some 21), 21, (.load false 1 (.t 20)), none, [3]⟩,
    ⟨(some 22), 22, (.idx 1 (.t 17) (.t 19)), none, [0, 2, 0, 1, 2, 3, 4]⟩,
    ⟨none, 32, (.store 1 (.t 22) (.t 21)), none, [5, 4, 0, 1, 2, 3, 4]⟩])))
  (.reg [⟨(some 23), 23, (.bin false .add (.t 13) (.k (.c (.s (.pv (.int .i64 1)))))), none, []⟩,
    ⟨(some 13), 13, (.mv (.t 23)), none, [0]⟩])))))))
  (.seq (.reg [⟨(some 24), 24, (.mv (.t 5)), none, []⟩,
    ⟨(some 25), 25, (.build [.zc, .zc] [(0, 1, (.t 24))]), none, [0]⟩,
    ⟨none, 28, (.store 2 (.t 4) (.t 25)), none, [1, 0, 1]⟩])
  .ret))))
theorem fn46 : FnIs Try.prog 46 ac46 [(.cell 4 true 2)] 26 := ⟨Try.f46, Try.func46, by kernel_rfl, by kernel_rfl, by kernel_rfl⟩
/- lockkeeper/lockkeeperref03.in -/
def ac47 : ACode := (.seq (.reg [⟨(some 4), 4, (.mv (.k (.c (.s (.pv (.bool false)))))), none, []⟩])
  (.seq (.seq (.reg [⟨(some 5), 5, (.mv (.k (.c (.s (.pv (.int .i64 0)))))), none, []⟩])
  (.block 0 (.loop (.seq (.seq (.reg [⟨(some 6), 6, (.mv (.t 5)), none, []⟩,
    ⟨(some 7), 7, (.mv (.t 0)), none, []⟩,
    ⟨(some 8), 8, (.len (.t 7)), none, [1]⟩,
    ⟨(some 9), 9, (.bin false .lss (.t 6) (.t 8)), none, [0, 2]⟩])
  (.cond (.t 9) .skip (.exit 0)))
  (.seq (.block 1 (.seq (.reg [⟨(some 12), 12, (.mv (.t 0)), none, []⟩,
    ⟨(some 13), 13, (.mv (.t 5)), none, []⟩,
    ⟨(some 14), 14, (.idx 1 (.t 12) (.t 13)), none, [0, 1]⟩,
    ⟨(some 15), 15, (.load false 1 (.t 14)), none, [2]⟩,
    ⟨(some 16), 16, (.mv (.t 1)), none, []⟩,
    ⟨(some 17), 17, (.bin false .eql (.t 15) (.t 16)), none, [3, 4]⟩])
  (.cond (.t 17) (.seq (.reg [⟨(some 4), 4, (.mv (.k (.c (.s (.pv (.bool true)))))), none, []⟩])
  .ret) .skip)))
  (.reg [⟨(some 10), 10, (.mv (.t 5)), none, []⟩,
    ⟨(some 11), 11, (.bin false .add (.t 10) (.k (.c (.s (.pv (.int .i64 1)))))), none, [0]⟩,
    ⟨(some 5), 5, (.mv (.t 11)), none, [1, 0, 1]⟩]))))))
  (.seq (.reg [⟨(some 4), 4, (.mv (.k (.c (.s (.pv (.bool false)))))), none, []⟩])
  .ret)))
theorem fn47 : FnIs Try.prog 47 ac47 [(.t 4)] 18 := ⟨Try.f47, Try.func47, by kernel_rfl, by kernel_rfl, by kernel_rfl⟩
/- lockkeeper/device.is -/
def ac48 : ACode := (.seq (.reg [⟨(some 6), 6, (.mv (.k (.c (.s (.pv (.bool false)))))), none, []⟩])
  (.seq (.reg [⟨(some 8), 8, (.mv (.t 1)), none, []⟩,
    ⟨(some 9), 9, (.bin false .geq (.t 8) (.k (.c (.s (.pv (.int .i64 1)))))), none, [0]⟩,
    ⟨(some 10), 10, (.mv (.t 9)), none, [1]⟩,
    ⟨(some 11), 11, (.mv (.t 1)), (some (10, true)), [2]⟩,
    ⟨(some 12), 12, (.bin false .leq (.t 11) (.k (.c (.s (.pv (.int .i64 16)))))), (some (10, true)), [3, 2]⟩,
    ⟨(some 13), 13, (.pick (.t 10) (.t 12) (.k (.c (.s (.pv (.bool false)))))), none, [2, 4]⟩,
    ⟨(some 7), 7, (.mv (.t 13)), none, [5, 2, 0, 1, 2, 3, 4, 5]⟩])
  (.seq (.seq (.reg [⟨(some 14), 14, (.mv (.t 0)), none, []⟩])
  (.block 0 (.seq (.reg [⟨(some 16), 16, (.bin false .eql (.t 14) (.k (.c (.s (.pv (.int .i64 1)))))), none, []⟩,
    ⟨(some 15), 15, (.mv (.t 16)), none, [0]⟩])
  (.cond (.t 15) (.seq (.reg [⟨(some 17), 17, (.mv (.t 7)), none, []⟩,
    ⟨(some 18), 18, (.mv (.t 17)), none, [0]⟩,
    ⟨(some 19), 19, (.mv (.t 2)), (some (18, true)), [1]⟩,
    ⟨(some 20), 20, (.bin false .eql (.t 19) (.k (.c (.s (.pv (.string ⟨#[]⟩)))))), (some (18, true)), [2, 1]⟩,
    ⟨(some 21), 21, (.pick (.t 18) (.t 20) (.k (.c (.s (.pv (.bool false)))))), none, [1, 3]⟩,
    ⟨(some 6), 6, (.mv (.t 21)), none, [4, 1, 0, 1, 2, 3, 4]⟩])
  .ret) (.seq (.reg [⟨(some 23), 23, (.bin false .eql (.t 14) (.k (.c (.s (.pv (.int .i64 2)))))), none, []⟩,
    ⟨(some 22), 22, (.mv (.t 23)), none, [0]⟩])
  (.cond (.t 22) (.seq (.reg [⟨(some 24), 24, (.mv (.t 7)), none, []⟩,
    ⟨(some 25), 25, (.mv (.t 24)), none, [0]⟩,
    ⟨(some 26), 26, (.mv (.t 2)), (some (25, true)), [1]⟩,
    ⟨(some 27), 27, (.slen (.t 26)), (some (25, true)), [2, 1]⟩,
    ⟨(some 28), 28, (.bin false .eql (.t 27) (.k (.c (.s (.pv (.int .i64 32)))))), (some (25, true)), [3, 1]⟩,
    ⟨(some 29), 29, (.pick (.t 25) (.t 28) (.k (.c (.s (.pv (.bool false)))))), none, [1, 4]⟩,
    ⟨(some 6), 6, (.mv (.t 29)), none, [5, 1, 0, 1, 2, 3, 4, 5]⟩])
  .ret) (.seq (.reg [⟨(some 31), 31, (.bin false .eql (.t 14) (.k (.c (.s (.pv (.int .i64 3)))))), none, []⟩,
    ⟨(some 30), 30, (.mv (.t 31)), none, [0]⟩])
  (.cond (.t 30) (.seq (.reg [⟨(some 32), 32, (.mv (.t 1)), none, []⟩,
    ⟨(some 33), 33, (.bin false .eql (.t 32) (.k (.c (.s (.pv (.int .i64 0)))))), none, [0]⟩,
    ⟨(some 34), 34, (.mv (.t 33)), none, [1]⟩,
    ⟨(some 35), 35, (.mv (.t 2)), (some (34, true)), [2]⟩,
    ⟨(some 36), 36, (.bin false .eql (.t 35) (.k (.c (.s (.pv (.string ⟨#[]⟩)))))), (some (34, true)), [3, 2]⟩,
    ⟨(some 37), 37, (.pick (.t 34) (.t 36) (.k (.c (.s (.pv (.bool false)))))), none, [2, 4]⟩,
    ⟨(some 6), 6, (.mv (.t 37)), none, [5, 2, 0, 1, 2, 3, 4, 5]⟩])
  .ret) .skip))))))))
  (.seq (.reg [⟨(some 6), 6, (.mv (.k (.c (.s (.pv (.bool false)))))), none, []⟩])
  .ret))))
theorem fn48 : FnIs Try.prog 48 ac48 [(.t 6)] 38 := ⟨Try.f48, Try.func48, by kernel_rfl, by kernel_rfl, by kernel_rfl⟩
/- slices.Clone[[]lockkeeper/device.Request,lockkeeper/device.Request] -/
def ac49 : ACode := (.seq (.reg [⟨(some 2), 2, (.mv (.k (.c .zc))), none, []⟩])
  (.seq (.seq (.reg [⟨(some 3), 3, (.mv (.t 0)), none, []⟩,
    ⟨(some 4), 4, (.isnil (.t 3)), none, [0]⟩])
  (.cond (.t 4) (.seq (.reg [⟨(some 2), 2, (.mv (.k (.c .zc))), none, []⟩])
  .ret) .skip))
  (.seq (.reg [⟨(some 5), 5, (.bslice 65 4 [(.s (.pv (.int .i64 0))), (.s (.pv (.int .i64 0))), (.s (.pv (.int .i64 0))), (.s (.pv (.string ⟨#[]⟩)))] 0 []), none, []⟩,
    ⟨(some 6), 6, (.mv (.t 0)), none, []⟩,
    ⟨(some 7), 7, (.app 65 4 40 (.t 5) (.t 6)), none, [0, 1]⟩,
    ⟨(some 2), 2, (.mv (.t 7)), none, [2, 2, 0, 1, 2]⟩])
  .ret)))
theorem fn49 : FnIs Try.prog 49 ac49 [(.t 2)] 8 := ⟨Try.f49, Try.func49, by kernel_rfl, by kernel_rfl, by kernel_rfl⟩
/- lockkeeper/lockkeeperref04.May -/
def ac50 : ACode := (.seq (.reg [⟨(some 6), 6, (.mv (.k (.c (.s (.pv (.bool false)))))), none, []⟩])
  (.seq (.seq (.reg [⟨(some 7), 7, (.mv (.t 0)), none, []⟩,
    ⟨(some 8), 8, (.bin false .eql (.t 7) (.k (.c (.s (.pv (.int .i64 3)))))), none, [0]⟩])
  (.cond (.t 8) (.seq (.reg [⟨(some 9), 9, (.mv (.t 1)), none, []⟩,
    ⟨(some 10), 10, (.bin false .eql (.t 9) (.k (.c (.s (.pv (.int .i64 0)))))), none, [0]⟩,
    ⟨(some 11), 11, (.mv (.t 10)), none, [1]⟩,
    ⟨(some 12), 12, (.mv (.t 2)), (some (11, true)), [2]⟩,
    ⟨(some 13), 13, (.bin false .eql (.t 12) (.k (.c (.s (.pv (.string ⟨#[]⟩)))))), (some (11, true)), [3, 2]⟩,
    ⟨(some 14), 14, (.pick (.t 11) (.t 13) (.k (.c (.s (.pv (.bool false)))))), none, [2, 4]⟩,
    ⟨(some 6), 6, (.mv (.t 14)), none, [5, 2, 0, 1, 2, 3, 4, 5]⟩])
  .ret) .skip))
  (.seq (.seq (.reg [⟨(some 15), 15, (.mv (.t 0)), none, []⟩,
    ⟨(some 16), 16, (.bin false .neq (.t 15) (.k (.c (.s (.pv (.int .i64 1)))))), none, [0]⟩,
    ⟨(some 17), 17, (.mv (.t 16)), none, [1]⟩,
    ⟨(some 18), 18, (.mv (.t 0)), (some (17, true)), [2]⟩,
    ⟨(some 19), 19, (.bin false .neq (.t 18) (.k (.c (.s (.pv (.int .i64 2)))))), (some (17, true)), [3, 2]⟩,
    ⟨(some 20), 20, (.pick (.t 17) (.t 19) (.k (.c (.s (.pv (.bool false)))))), none, [2, 4]⟩,
    ⟨(some 21), 21, (.mv (.t 20)), none, [5, 2]⟩,
    ⟨(some 22), 22, (.mv (.t 1)), (some (21, false)), [6]⟩,
    ⟨(some 23), 23, (.bin false .lss (.t 22) (.k (.c (.s (.pv (.int .i64 1)))))), (some (21, false)), [7, 6]⟩,
    ⟨(some 24), 24, (.pick (.t 21) (.k (.c (.s (.pv (.bool true))))) (.t 23)), none, [6, 8]⟩,
    ⟨(some 25), 25, (.mv (.t 24)), none, [9, 6]⟩,
    ⟨(some 26), 26, (.mv (.t 1)), (some (25, false)), [10]⟩,
    ⟨(some 27), 27, (.bin false .gtr (.t 26) (.k (.c (.s (.pv (.int .i64 16)))))), (some (25, false)), [11, 10]⟩,
    ⟨(some 28), 28, (.pick (.t 25) (.k (.c (.s (.pv (.bool true))))) (.t 27)), none, [10, 12]⟩])
  (.cond (.t 28) (.seq (.reg [⟨(some 6), 6, (.mv (.k (.c (.s (.pv (.bool false)))))), none, []⟩])
  .ret) .skip))
  (.seq (.reg [⟨(some 29), 29, (.mv (.t 0)), none, []⟩,
    ⟨(some 30), 30, (.bin false .eql (.t 29) (.k (.c (.s (.pv (.int .i64 1)))))), none, [0]⟩,
    ⟨(some 31), 31, (.mv (.t 30)), none, [1]⟩,
    ⟨(some 32), 32, (.mv (.t 2)), (some (31, true)), [2]⟩,
    ⟨(some 33), 33, (.slen (.t 32)), (some (31, true)), [3, 2]⟩,
    ⟨(some 34), 34, (.bin false .eql (.t 33) (.k (.c (.s (.pv (.int .i64 0)))))), (some (31, true)), [4, 2]⟩,
    ⟨(some 35), 35, (.pick (.t 31) (.t 34) (.k (.c (.s (.pv (.bool false)))))), none, [2, 5]⟩,
    ⟨(some 36), 36, (.mv (.t 35)), none, [6, 2]⟩,
    ⟨(some 37), 37, (.mv (.t 0)), (some (36, false)), [7]⟩,
    ⟨(some 38), 38, (.bin false .eql (.t 37) (.k (.c (.s (.pv (.int .i64 2)))))), (some (36, false)), [8, 7]⟩,
    ⟨(some 39), 39, (.mv (.t 38)), (some (36, false)), [9, 7, 7]⟩,
    ⟨(some 40), 40, (.mv (.t 2)), (some (39, true)), [10]⟩,
    ⟨(some 41), 41, (.slen (.t 40)), (some (39, true)), [11, 10]⟩,
    ⟨(some 42), 42, (.bin false .eql (.t 41) (.k (.c (.s (.pv (.int .i64 32)))))), (some (39, true)), [12, 10]⟩,
    ⟨(some 43), 43, (.pick (.t 39) (.t 42) (.k (.c (.s (.pv (.bool false)))))), (some (36, false)), [10, 13, 7]⟩,
    ⟨(some 44), 44, (.pick (.t 36) (.k (.c (.s (.pv (.bool true))))) (.t 43)), none, [7, 14]⟩,
    ⟨(some 6), 6, (.mv (.t 44)), none, [15, 10, 0, 1, 2, 3, 4, 5, 6, 7, 8, 9, 10, 11, 12, 13, 14, 15]⟩])
  .ret))))
theorem fn50 : FnIs Try.prog 50 ac50 [(.t 6)] 45 := ⟨Try.f50, Try.func50, by kernel_rfl, by kernel_rfl, by kernel_rfl⟩
/- lockkeeper/device.read -/
def ac52 : ACode := (.seq (.reg [⟨(some 2), 2, (.box 25 2 (.t 0)), none, []⟩,
    ⟨(some 4), 4, (.mv (.k (.c (.s (.pv (.string ⟨#[]⟩)))))), none, []⟩])
  (.seq (.draw [⟨(some 10), 10, (.load true 2 (.t 2)), none, []⟩,
    ⟨(some 11), 11, (.mv (.t 1)), none, []⟩,
    ⟨(some 12), 12, (.call 62 [(.t 11)]), none, [1]⟩,
    ⟨(some 13), 13, (.call 19 [(.t 10), (.t 12)]), none, [0, 2, 2]⟩,
    ⟨(some 9), 9, (.mv (.t 13)), none, [3]⟩,
    ⟨(some 14), 14, (.ext 0 (.t 9)), none, [4]⟩,
    ⟨(some 15), 15, (.ext 1 (.t 9)), none, [4]⟩,
    ⟨(some 5), 5, (.mv (.t 14)), none, [5, 3, 0, 1, 2, 3, 4, 5]⟩,
    ⟨(some 6), 6, (.mv (.t 15)), none, [6, 7, 0, 1, 2, 3, 4, 5, 6, 7]⟩])
  (.seq (.draw [⟨(some 17), 17, (.load true 2 (.t 2)), none, []⟩,
    ⟨(some 18), 18, (.mv (.t 1)), none, []⟩,
    ⟨(some 19), 19, (.call 62 [(.t 18)]), none, [1]⟩,
    ⟨(some 20), 20, (.bin false .add (.t 19) (.k (.c (.s (.pv (.int .i64 1)))))), none, [2]⟩,
    ⟨(some 21), 21, (.call 19 [(.t 17), (.t 20)]), none, [0, 3, 2]⟩,
    ⟨(some 16), 16, (.mv (.t 21)), none, [4]⟩,
    ⟨(some 22), 22, (.ext 0 (.t 16)), none, [5]⟩,
    ⟨(some 23), 23, (.ext 1 (.t 16)), none, [5]⟩,
    ⟨(some 7), 7, (.mv (.t 22)), none, [6, 4, 0, 1, 2, 3, 4, 5, 6]⟩,
    ⟨(some 8), 8, (.mv (.t 23)), none, [7, 8, 0, 1, 2, 3, 4, 5, 6, 7, 8]⟩])
  (.seq (.reg [⟨(some 24), 24, (.mv (.t 5)), none, []⟩,
    ⟨(some 25), 25, (.mv (.t 7)), none, []⟩,
    ⟨(some 26), 26, (.bin false .add (.t 24) (.t 25)), none, [0, 1]⟩,
    ⟨(some 4), 4, (.mv (.t 26)), none, [2, 0, 1, 2]⟩])
  .ret))))
theorem fn52 : FnIs Try.prog 52 ac52 [(.t 4)] 27 := ⟨Try.f52, Try.func52, by kernel_rfl, by kernel_rfl, by kernel_rfl⟩
/- lockkeeper/device.write -/
def ac53 : ACode := (.seq (.reg [⟨(some 3), 3, (.box 25 2 (.t 0)), none, []⟩,
    ⟨(some 6), 6, (.mk 25 2 [[.zc, .zc]]), none, []⟩,
    ⟨(some 7), 7, (.mv (.k (.c (.s (.pv (.int .i64 0)))))), none, []⟩])
  (.seq (.draw [⟨(some 10), 10, (.load true 2 (.t 3)), none, []⟩,
    ⟨(some 11), 11, (.mv (.t 1)), none, []⟩,
    ⟨(some 12), 12, (.call 62 [(.t 11)]), none, [1]⟩,
    ⟨(some 13), 13, (.mv (.t 2)), none, []⟩,
    ⟨(some 14), 14, (.ssub (.t 13) none (some (.k (.c (.s (.pv (.int .i64 16))))))), none, [3]⟩,
    ⟨(some 15), 15, (.build [(.s (.pv (.int .i64 0))), (.s (.pv (.string ⟨#[]⟩)))] [(0, 1, (.t 12)), (1, 1, (.t 14))]), none, [2, 4]⟩,
    ⟨(some 16), 16, (.call 20 [(.t 10), (.t 15)]), none, [0, 5, 2]⟩,
    ⟨(some 9), 9, (.mv (.t 16)), none, [6]⟩,
    ⟨(some 17), 17, (.ext 0 (.t 9)), none, [7]⟩,
    ⟨(some 18), 18, (.ext 1 (.t 9)), none, [7]⟩,
    ⟨none, 43, (.store 2 (.t 3) (.t 17)), none, [8, 6, 0, 1, 2, 3, 4, 5, 6, 7, 8]⟩,
    ⟨(some 8), 8, (.mv (.t 18)), none, [9, 10, 0, 1, 2, 3, 4, 5, 6, 7, 8, 9, 10]⟩])
  (.seq (.seq (.reg [⟨(some 19), 19, (.mv (.t 8)), none, []⟩,
    ⟨(some 20), 20, (.bin false .neq (.t 19) (.k (.c (.s (.pv (.int .i64 0)))))), none, [0]⟩])
  (.cond (.t 20) (.seq (.reg [⟨(some 21), 21, (.load true 2 (.t 3)), none, []⟩,
    ⟨(some 22), 22, (.mv (.t 8)), none, []⟩,
    ⟨none, 35, (.store 2 (.t 6) (.t 21)), none, [0, 0]⟩,
    ⟨(some 7), 7, (.mv (.t 22)), none, [1, 2, 0, 1, 2]⟩])
  .ret) .skip))
  (.seq (.draw [⟨(some 23), 23, (.load true 2 (.t 3)), none, []⟩,
    ⟨(some 24), 24, (.mv (.t 1)), none, []⟩,
    ⟨(some 25), 25, (.call 62 [(.t 24)]), none, [1]⟩,
    ⟨(some 26), 26, (.bin false .add (.t 25) (.k (.c (.s (.pv (.int .i64 1)))))), none, [2]⟩,
    ⟨(some 27), 27, (.mv (.t 2)), none, []⟩,
    ⟨(some 28), 28, (.ssub (.t 27) (some (.k (.c (.s (.pv (.int .i64 16)))))) none), none, [4]⟩,
    ⟨(some 29), 29, (.build [(.s (.pv (.int .i64 0))), (.s (.pv (.string ⟨#[]⟩)))] [(0, 1, (.t 26)), (1, 1, (.t 28))]), none, [3, 5]⟩,
    ⟨(some 30), 30, (.call 20 [(.t 23), (.t 29)]), none, [0, 6, 2]⟩,
    ⟨(some 31), 31, (.ext 0 (.t 30)), none, [7]⟩,
    ⟨(some 32), 32, (.ext 1 (.t 30)), none, [7]⟩,
    ⟨none, 43, (.store 2 (.t 6) (.t 31)), none, [8, 7, 0, 1, 2, 3, 4, 5, 6, 7, 8, 9]⟩,
    ⟨(some 7), 7, (.mv (.t 32)), none, [9, 10, 0, 1, 2, 3, 4, 5, 6, 7, 8, 9, 10]⟩])
  .ret))))
theorem fn53 : FnIs Try.prog 53 ac53 [(.cell 6 true 2), (.t 7)] 33 := ⟨Try.f53, Try.func53, by kernel_rfl, by kernel_rfl, by kernel_rfl⟩
/- math/bits.Mul -/
def ac54 : ACode := (.seq (.reg [⟨(some 4), 4, (.mv (.k (.c (.s (.pv (.int .u64 0)))))), none, []⟩,
    ⟨(some 5), 5, (.mv (.k (.c (.s (.pv (.int .u64 0)))))), none, [0]⟩])
  (.seq (.cond (.k (.c (.s (.pv (.bool false))))) (.seq (.reg [⟨(some 11), 11, (.mv (.t 0)), none, []⟩,
    ⟨(some 12), 12, (.conv .u32 (.t 11)), none, [0]⟩,
    ⟨(some 13), 13, (.mv (.t 1)), none, []⟩,
    ⟨(some 14), 14, (.conv .u32 (.t 13)), none, [2]⟩,
    ⟨(some 15), 15, (.call 63 [(.t 12), (.t 14)]), none, [1, 3]⟩,
    ⟨(some 10), 10, (.mv (.t 15)), none, [4]⟩,
    ⟨(some 16), 16, (.ext 0 (.t 10)), none, [5]⟩,
    ⟨(some 17), 17, (.ext 1 (.t 10)), none, [5]⟩,
    ⟨(some 6), 6, (.mv (.t 16)), none, [6, 4, 0, 1, 2, 3, 4, 5, 6]⟩,
    ⟨(some 7), 7, (.mv (.t 17)), none, [7, 8, 0, 1, 2, 3, 4, 5, 6, 7, 8]⟩])
  (.seq (.reg [⟨(some 18), 18, (.mv (.t 6)), none, []⟩,
    ⟨(some 19), 19, (.conv .u64 (.t 18)), none, [0]⟩,
    ⟨(some 20), 20, (.mv (.t 7)), none, []⟩,
    ⟨(some 21), 21, (.conv .u64 (.t 20)), none, [2]⟩,
    ⟨(some 4), 4, (.mv (.t 19)), none, [1, 0, 1]⟩,
    ⟨(some 5), 5, (.mv (.t 21)), none, [3, 4, 0, 1, 2, 3, 4]⟩])
  .ret)) .skip)
  (.seq (.reg [⟨(some 23), 23, (.mv (.t 0)), none, []⟩,
    ⟨(some 24), 24, (.mv (.t 1)), none, []⟩,
    ⟨(some 25), 25, (.call 64 [(.t 23), (.t 24)]), none, [0, 1]⟩,
    ⟨(some 22), 22, (.mv (.t 25)), none, [2]⟩,
    ⟨(some 26), 26, (.ext 0 (.t 22)), none, [3]⟩,
    ⟨(some 27), 27, (.ext 1 (.t 22)), none, [3]⟩,
    ⟨(some 8), 8, (.mv (.t 26)), none, [4, 2, 0, 1, 2, 3, 4]⟩,
    ⟨(some 9), 9, (.mv (.t 27)), none, [5, 6, 0, 1, 2, 3, 4, 5, 6]⟩])
  (.seq (.reg [⟨(some 28), 28, (.mv (.t 8)), none, []⟩,
    ⟨(some 29), 29, (.mv (.t 9)), none, []⟩,
    ⟨(some 4), 4, (.mv (.t 28)), none, [0, 0]⟩,
    ⟨(some 5), 5, (.mv (.t 29)), none, [1, 2, 0, 1, 2]⟩])
  .ret))))
theorem fn54 : FnIs Try.prog 54 ac54 [(.t 4), (.t 5)] 30 := ⟨Try.f54, Try.func54, by kernel_rfl, by kernel_rfl, by kernel_rfl⟩
/- strings.HasPrefix -/
def ac55 : ACode := (.seq (.reg [⟨(some 4), 4, (.mv (.k (.c (.s (.pv (.bool false)))))), none, []⟩])
  (.seq (.reg [⟨(some 5), 5, (.mv (.t 0)), none, []⟩,
    ⟨(some 6), 6, (.mv (.t 1)), none, []⟩,
    ⟨(some 7), 7, (.call 65 [(.t 5), (.t 6)]), none, [0, 1]⟩,
    ⟨(some 4), 4, (.mv (.t 7)), none, [2, 2, 0, 1, 2]⟩])
  .ret))
theorem fn55 : FnIs Try.prog 55 ac55 [(.t 4)] 8 := ⟨Try.f55, Try.func55, by kernel_rfl, by kernel_rfl, by kernel_rfl⟩
/- (*strings.Builder).Len -/
def ac58 : ACode := (.seq (.reg [⟨(some 2), 2, (.mv (.k (.c (.s (.pv (.int .i64 0)))))), none, []⟩])
  (.seq (.reg [⟨(some 3), 3, (.mv (.t 0)), none, []⟩,
    ⟨(some 4), 4, (.nilc (.t 3)), none, [0]⟩,
    ⟨(some 5), 5, (.fld 1 (.t 4)), none, [1]⟩,
    ⟨(some 6), 6, (.load false 1 (.t 5)), none, [2]⟩,
    ⟨(some 7), 7, (.len (.t 6)), none, [3]⟩,
    ⟨(some 2), 2, (.mv (.t 7)), none, [4, 0, 1, 2, 3, 4]⟩])
  .ret))
theorem fn58 : FnIs Try.prog 58 ac58 [(.t 2)] 8 := ⟨Try.f58, Try.func58, by kernel_rfl, by kernel_rfl, by kernel_rfl⟩
/- slices.Backward[[]lockkeeper/api.Write,lockkeeper/api.Write]$1 -/
def ac60 : ACode := (.seq (.reg [⟨(some 4), 4, (.load false 1 (.t 1)), none, []⟩,
    ⟨(some 5), 5, (.len (.t 4)), none, [0]⟩,
    ⟨(some 6), 6, (.bin false .sub (.t 5) (.k (.c (.s (.pv (.int .i64 1)))))), none, [1]⟩,
    ⟨(some 3), 3, (.mv (.t 6)), none, [2, 0, 1, 2]⟩])
  (.block 0 (.loop (.seq (.seq (.reg [⟨(some 7), 7, (.mv (.t 3)), none, []⟩,
    ⟨(some 8), 8, (.bin false .geq (.t 7) (.k (.c (.s (.pv (.int .i64 0)))))), none, [0]⟩])
  (.cond (.t 8) .skip (.exit 0)))
  (.seq (.block 1 (.seq (.reg [⟨(some 11), 11, (.mv (.t 0)), none, []⟩,
    ⟨(some 12), 12, (.mv (.t 3)), none, []⟩,
    ⟨(some 13), 13, (.load false 1 (.t 1)), none, []⟩,
    ⟨(some 14), 14, (.mv (.t 3)), none, []⟩,
    ⟨(some 15), 15, (.idx 2 (.t 13) (.t 14)), none, [2, 3]⟩,
    ⟨(some 16), 16, (.load true 2 (.t 15)), none, [4]⟩,
    ⟨(some 17), 17, (.callv (.t 11) [(.t 12), (.t 16)]), none, [0, 1, 5]⟩,
    ⟨(some 18), 18, (.not (.t 17)), none, [6]⟩])
  (.cond (.t 18) .ret .skip)))
  (.reg [⟨(some 9), 9, (.mv (.t 3)), none, []⟩,
    ⟨(some 10), 10, (.bin false .sub (.t 9) (.k (.c (.s (.pv (.int .i64 1)))))), none, [0]⟩,
    ⟨(some 3), 3, (.mv (.t 10)), none, [1, 0, 1]⟩]))))))
theorem fn60 : FnIs Try.prog 60 ac60 [] 19 := ⟨Try.f60, Try.func60, by kernel_rfl, by kernel_rfl, by kernel_rfl⟩
/- slices.Clone[[]string,string] -/
def ac61 : ACode := (.seq (.reg [⟨(some 2), 2, (.mv (.k (.c .zc))), none, []⟩])
  (.seq (.seq (.reg [⟨(some 3), 3, (.mv (.t 0)), none, []⟩,
    ⟨(some 4), 4, (.isnil (.t 3)), none, [0]⟩])
  (.cond (.t 4) (.seq (.reg [⟨(some 2), 2, (.mv (.k (.c .zc))), none, []⟩])
  .ret) .skip))
  (.seq (.reg [⟨(some 5), 5, (.bslice 9 1 [(.s (.pv (.string ⟨#[]⟩)))] 0 []), none, []⟩,
    ⟨(some 6), 6, (.mv (.t 0)), none, []⟩,
    ⟨(some 7), 7, (.app 9 1 16 (.t 5) (.t 6)), none, [0, 1]⟩,
    ⟨(some 2), 2, (.mv (.t 7)), none, [2, 2, 0, 1, 2]⟩])
  .ret)))
theorem fn61 : FnIs Try.prog 61 ac61 [(.t 2)] 8 := ⟨Try.f61, Try.func61, by kernel_rfl, by kernel_rfl, by kernel_rfl⟩
/- lockkeeper/device.home -/
def ac62 : ACode := (.seq (.reg [⟨(some 2), 2, (.mv (.k (.c (.s (.pv (.int .i64 0)))))), none, []⟩])
  (.seq (.reg [⟨(some 3), 3, (.mv (.t 0)), none, []⟩,
    ⟨(some 4), 4, (.bin false .mul (.k (.c (.s (.pv (.int .i64 2))))) (.t 3)), none, [0]⟩,
    ⟨(some 5), 5, (.bin false .add (.t 4) (.k (.c (.s (.pv (.int .i64 1)))))), none, [1]⟩,
    ⟨(some 2), 2, (.mv (.t 5)), none, [2, 0, 1, 2]⟩])
  .ret))
theorem fn62 : FnIs Try.prog 62 ac62 [(.t 2)] 6 := ⟨Try.f62, Try.func62, by kernel_rfl, by kernel_rfl, by kernel_rfl⟩
/- math/bits.Mul32 -/
def ac63 : ACode := (.seq (.reg [⟨(some 4), 4, (.mv (.k (.c (.s (.pv (.int .u32 0)))))), none, []⟩,
    ⟨(some 5), 5, (.mv (.k (.c (.s (.pv (.int .u32 0)))))), none, [0]⟩])
  (.seq (.reg [⟨(some 7), 7, (.mv (.t 0)), none, []⟩,
    ⟨(some 8), 8, (.conv .u64 (.t 7)), none, [0]⟩,
    ⟨(some 9), 9, (.mv (.t 1)), none, []⟩,
    ⟨(some 10), 10, (.conv .u64 (.t 9)), none, [2]⟩,
    ⟨(some 11), 11, (.bin false .mul (.t 8) (.t 10)), none, [1, 3]⟩,
    ⟨(some 6), 6, (.mv (.t 11)), none, [4, 0, 1, 2, 3, 4]⟩])
  (.seq (.reg [⟨(some 12), 12, (.mv (.t 6)), none, []⟩,
    ⟨(some 13), 13, (.bin false .shr (.t 12) (.k (.c (.s (.pv (.int .u64 32)))))), none, [0]⟩,
    ⟨(some 14), 14, (.conv .u32 (.t 13)), none, [1]⟩,
    ⟨(some 15), 15, (.mv (.t 6)), none, []⟩,
    ⟨(some 16), 16, (.conv .u32 (.t 15)), none, [3]⟩,
    ⟨(some 4), 4, (.mv (.t 14)), none, [2, 0, 1, 2]⟩,
    ⟨(some 5), 5, (.mv (.t 16)), none, [4, 5, 0, 1, 2, 3, 4, 5]⟩])
  .ret)))
theorem fn63 : FnIs Try.prog 63 ac63 [(.t 4), (.t 5)] 17 := ⟨Try.f63, Try.func63, by kernel_rfl, by kernel_rfl, by kernel_rfl⟩
/- math/bits.Mul64 -/
def ac64 : ACode := (.seq (.reg [⟨(some 4), 4, (.mv (.k (.c (.s (.pv (.int .u64 0)))))), none, []⟩,
    ⟨(some 5), 5, (.mv (.k (.c (.s (.pv (.int .u64 0)))))), none, [0]⟩])
  (.seq (.reg [⟨(some 14), 14, (.mv (.t 0)), none, []⟩,
    ⟨(some 15), 15, (.bin false .and (.t 14) (.k (.c (.s (.pv (.int .u64 4294967295)))))), none, [0]⟩,
    ⟨(some 6), 6, (.mv (.t 15)), none, [1, 0, 1]⟩])
  (.seq (.reg [⟨(some 16), 16, (.mv (.t 0)), none, []⟩,
    ⟨(some 17), 17, (.bin false .shr (.t 16) (.k (.c (.s (.pv (.int .u64 32)))))), none, [0]⟩,
    ⟨(some 7), 7, (.mv (.t 17)), none, [1, 0, 1]⟩])
  (.seq (.reg [⟨(some 18), 18, (.mv (.t 1)), none, []⟩,
    ⟨(some 19), 19, (.bin false .and (.t 18) (.k (.c (.s (.pv (.int .u64 4294967295)))))), none, [0]⟩,
    ⟨(some 8), 8, (.mv (.t 19)), none, [1, 0, 1]⟩])
  (.seq (.reg [⟨(some 20), 20, (.mv (.t 1)), none, []⟩,
    ⟨(some 21), 21, (.bin false .shr (.t 20) (.k (.c (.s (.pv (.int .u64 32)))))), none, [0]⟩,
    ⟨(some 9), 9, (.mv (.t 21)), none, [1, 0, 1]⟩])
  (.seq (.reg [⟨(some 22), 22, (.mv (.t 6)), none, []⟩,
    ⟨(some 23), 23, (.mv (.t 8)), none, []⟩,
    ⟨(some 24), 24, (.bin false .mul (.t 22) (.t 23)), none, [0, 1]⟩,
    ⟨(some 10), 10, (.mv (.t 24)), none, [2, 0, 1, 2]⟩])
  (.seq (.reg [⟨(some 25), 25, (.mv (.t 7)), none, []⟩,
    ⟨(some 26), 26, (.mv (.t 8)), none, []⟩,
    ⟨(some 27), 27, (.bin false .mul (.t 25) (.t 26)), none, [0, 1]⟩,
    ⟨(some 28), 28, (.mv (.t 10)), none, []⟩,
    ⟨(some 29), 29, (.bin false .shr (.t 28) (.k (.c (.s (.pv (.int .u64 32)))))), none, [3]⟩,
    ⟨(some 30), 30, (.bin false .add (.t 27) (.t 29)), none, [2, 4]⟩,
    ⟨(some 11), 11, (.mv (.t 30)), none, [5, 0, 1, 2, 3, 4, 5]⟩])
  (.seq (.reg [⟨(some 31), 31, (.mv (.t 11)), none, []⟩,
    ⟨(some 32), 32, (.bin false .and (.t 31) (.k (.c (.s (.pv (.int .u64 4294967295)))))), none, [0]⟩,
    ⟨(some 12), 12, (.mv (.t 32)), none, [1, 0, 1]⟩])
  (.seq (.reg [⟨(some 33), 33, (.mv (.t 11)), none, []⟩,
    ⟨(some 34), 34, (.bin false .shr (.t 33) (.k (.c (.s (.pv (.int .u64 32)))))), none, [0]⟩,
    ⟨(some 13), 13, (.mv (.t 34)), none, [1, 0, 1]⟩])
  (.seq (.reg [⟨(some 35), 35, (.mv (.t 12)), none, []⟩,
    ⟨(some 36), 36, (.mv (.t 6)), none, []⟩,
    ⟨(some 37), 37, (.mv (.t 9)), none, []⟩,
    ⟨(some 38), 38, (.bin false .mul (.t 36) (.t 37)), none, [1, 2]⟩,
    ⟨(some 39), 39, (.bin false .add (.t 35) (.t 38)), none, [0, 3]⟩,
    ⟨(some 12), 12, (.mv (.t 39)), none, [4, 0, 1, 2, 3, 4]⟩])
  (.seq (.reg [⟨(some 40), 40, (.mv (.t 7)), none, []⟩,
    ⟨(some 41), 41, (.mv (.t 9)), none, []⟩,
    ⟨(some 42), 42, (.bin false .mul (.t 40) (.t 41)), none, [0, 1]⟩,
    ⟨(some 43), 43, (.mv (.t 13)), none, []⟩,
    ⟨(some 44), 44, (.bin false .add (.t 42) (.t 43)), none, [2, 3]⟩,
    ⟨(some 45), 45, (.mv (.t 12)), none, []⟩,
    ⟨(some 46), 46, (.bin false .shr (.t 45) (.k (.c (.s (.pv (.int .u64 32)))))), none, [5]⟩,
    ⟨(some 47), 47, (.bin false .add (.t 44) (.t 46)), none, [4, 6]⟩,
    ⟨(some 4), 4, (.mv (.t 47)), none, [7, 0, 1, 2, 3, 4, 5, 6, 7]⟩])
  (.seq (.reg [⟨(some 48), 48, (.mv (.t 0)), none, []⟩,
    ⟨(some 49), 49, (.mv (.t 1)), none, []⟩,
    ⟨(some 50), 50, (.bin false .mul (.t 48) (.t 49)), none, [0, 1]⟩,
    ⟨(some 5), 5, (.mv (.t 50)), none, [2, 0, 1, 2]⟩])
  .ret))))))))))))
theorem fn64 : FnIs Try.prog 64 ac64 [(.t 4), (.t 5)] 51 := ⟨Try.f64, Try.func64, by kernel_rfl, by kernel_rfl, by kernel_rfl⟩
/- internal/stringslite.HasPrefix -/
def ac65 : ACode := (.seq (.reg [⟨(some 4), 4, (.mv (.k (.c (.s (.pv (.bool false)))))), none, []⟩])
  (.seq (.reg [⟨(some 5), 5, (.mv (.t 0)), none, []⟩,
    ⟨(some 6), 6, (.slen (.t 5)), none, [0]⟩,
    ⟨(some 7), 7, (.mv (.t 1)), none, []⟩,
    ⟨(some 8), 8, (.slen (.t 7)), none, [2]⟩,
    ⟨(some 9), 9, (.bin false .geq (.t 6) (.t 8)), none, [1, 3]⟩,
    ⟨(some 10), 10, (.mv (.t 9)), none, [4]⟩,
    ⟨(some 11), 11, (.mv (.t 0)), (some (10, true)), [5]⟩,
    ⟨(some 12), 12, (.mv (.t 1)), (some (10, true)), [5]⟩,
    ⟨(some 13), 13, (.slen (.t 12)), (some (10, true)), [7, 5]⟩,
    ⟨(some 14), 14, (.ssub (.t 11) none (some (.t 13))), (some (10, true)), [6, 8, 5]⟩,
    ⟨(some 15), 15, (.mv (.t 1)), (some (10, true)), [5]⟩,
    ⟨(some 16), 16, (.bin false .eql (.t 14) (.t 15)), (some (10, true)), [9, 10, 5]⟩,
    ⟨(some 17), 17, (.pick (.t 10) (.t 16) (.k (.c (.s (.pv (.bool false)))))), none, [5, 11]⟩,
    ⟨(some 4), 4, (.mv (.t 17)), none, [12, 5, 0, 1, 2, 3, 4, 5, 6, 7, 8, 9, 10, 11, 12]⟩])
  .ret))
theorem fn65 : FnIs Try.prog 65 ac65 [(.t 4)] 18 := ⟨Try.f65, Try.func65, by kernel_rfl, by kernel_rfl, by kernel_rfl⟩

end Go.Proofs.Ytmknfchmnangbaa
