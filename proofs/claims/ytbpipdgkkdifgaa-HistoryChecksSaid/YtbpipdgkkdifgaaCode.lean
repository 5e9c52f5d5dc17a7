/- THE PROGRAM's functions, as the abstract machine's code (printed by wip/tools/code.py out of the translation). No condition. -/
import Derived.Test.YtbpipdgkkdifgaaAm22
import Derived.Test.YtbpipdgkkdifgaaProg
import Derived.KernelRfl
namespace Go.Proofs.Ytbpipdgkkdifgaa
set_option maxRecDepth 100000
/- lockkeeper/lockkeeperlaw21.HistoryChecks -/
def ac3 : ACode := (.seq (.reg [⟨(some 2), 2, (.box 24 1 (.t 0)), none, []⟩,
    ⟨(some 4), 4, (.mv (.k (.c (.s (.pv (.bool false)))))), none, []⟩])
  (.seq (.seq (.reg [⟨(some 15), 15, (.mv (.t 1)), none, []⟩,
    ⟨(some 16), 16, (.call 9 [(.t 15)]), none, [0]⟩,
    ⟨(some 17), 17, (.not (.t 16)), none, [1]⟩,
    ⟨(some 18), 18, (.mv (.t 17)), none, [2, 1]⟩,
    ⟨(some 19), 19, (.load true 1 (.t 2)), (some (18, false)), [3]⟩,
    ⟨(some 20), 20, (.call 10 [(.t 19)]), (some (18, false)), [4, 3, 3]⟩,
    ⟨(some 21), 21, (.not (.t 20)), (some (18, false)), [5, 3]⟩,
    ⟨(some 22), 22, (.pick (.t 18) (.k (.c (.s (.pv (.bool true))))) (.t 21)), none, [3, 6]⟩])
  (.cond (.t 22) (.seq (.reg [⟨(some 23), 23, (.call 11 []), none, []⟩,
    ⟨(some 4), 4, (.mv (.t 23)), none, [0, 0, 0]⟩])
  .ret) .skip))
  (.seq (.reg [⟨(some 24), 24, (.mv (.t 1)), none, []⟩,
    ⟨(some 25), 25, (.call 12 [(.t 24)]), none, [0]⟩,
    ⟨(some 5), 5, (.mv (.t 25)), none, [1, 1, 0, 1]⟩])
  (.seq (.reg [⟨(some 27), 27, (.load true 1 (.t 2)), none, []⟩,
    ⟨(some 28), 28, (.mv (.t 1)), none, []⟩,
    ⟨(some 29), 29, (.call 13 [(.t 27), (.t 28)]), none, [0, 1]⟩,
    ⟨(some 26), 26, (.mv (.t 29)), none, [2]⟩,
    ⟨(some 30), 30, (.ext 0 (.t 26)), none, [3]⟩,
    ⟨(some 31), 31, (.ext 1 (.t 26)), none, [3]⟩,
    ⟨(some 32), 32, (.ext 2 (.t 26)), none, [3]⟩,
    ⟨(some 6), 6, (.mk 24 1 [[.zc]]), none, []⟩,
    ⟨none, 98, (.store 1 (.t 6) (.t 30)), none, [7, 4, 2, 0, 1, 2, 3, 4, 7]⟩,
    ⟨(some 7), 7, (.mv (.t 31)), none, [5, 8, 0, 1, 2, 3, 4, 5, 7, 8]⟩,
    ⟨(some 8), 8, (.mv (.t 32)), none, [6, 9, 0, 1, 2, 3, 4, 5, 6, 7, 8, 9]⟩])
  (.seq (.reg [⟨(some 34), 34, (.fld 0 (.t 2)), none, []⟩,
    ⟨(some 35), 35, (.load false 1 (.t 34)), none, [0]⟩,
    ⟨(some 36), 36, (.mv (.t 5)), none, []⟩,
    ⟨(some 37), 37, (.call 14 [(.t 35), (.t 36)]), none, [1, 2]⟩,
    ⟨(some 33), 33, (.mv (.t 37)), none, [3]⟩,
    ⟨(some 38), 38, (.ext 0 (.t 33)), none, [4]⟩,
    ⟨(some 39), 39, (.ext 1 (.t 33)), none, [4]⟩,
    ⟨(some 40), 40, (.ext 2 (.t 33)), none, [4]⟩,
    ⟨(some 9), 9, (.mv (.t 38)), none, [5, 3, 0, 1, 2, 3, 4, 5]⟩,
    ⟨(some 10), 10, (.mv (.t 39)), none, [6, 8, 0, 1, 2, 3, 4, 5, 6, 8]⟩,
    ⟨(some 11), 11, (.mv (.t 40)), none, [7, 9, 0, 1, 2, 3, 4, 5, 6, 7, 8, 9]⟩])
  (.seq (.reg [⟨(some 41), 41, (.mv (.t 1)), none, []⟩,
    ⟨(some 42), 42, (.call 15 [(.t 41)]), none, [0]⟩,
    ⟨(some 43), 43, (.call 12 [(.t 42)]), none, [1, 1]⟩,
    ⟨(some 12), 12, (.mv (.t 43)), none, [2, 2, 0, 1, 2]⟩])
  (.seq (.reg [⟨(some 44), 44, (.mv (.t 5)), none, []⟩,
    ⟨(some 45), 45, (.call 16 [(.t 44)]), none, [0]⟩,
    ⟨(some 13), 13, (.mv (.t 45)), none, [1, 1, 0, 1]⟩])
  (.seq (.seq (.reg [⟨(some 46), 46, (.mv (.t 12)), none, []⟩,
    ⟨(some 47), 47, (.len (.t 46)), none, [0]⟩,
    ⟨(some 48), 48, (.mv (.t 13)), none, []⟩,
    ⟨(some 49), 49, (.len (.t 48)), none, [2]⟩,
    ⟨(some 50), 50, (.bin false .neq (.t 47) (.t 49)), none, [1, 3]⟩])
  (.cond (.t 50) (.seq (.reg [⟨(some 4), 4, (.mv (.k (.c (.s (.pv (.bool false)))))), none, []⟩])
  .ret) .skip))
  (.seq (.seq (.reg [⟨(some 51), 51, (.mv (.t 12)), none, []⟩,
    ⟨(some 52), 52, (.len (.t 51)), none, [0]⟩,
    ⟨(some 53), 53, (.mv (.k (.c (.s (.pv (.int .i64 0)))))), none, []⟩])
  (.block 0 (.loop (.seq (.reg [⟨(some 54), 54, (.bin false .lss (.t 53) (.t 52)), none, []⟩])
  (.seq (.cond (.t 54) .skip (.exit 0))
  (.seq (.block 1 (.seq (.reg [⟨(some 55), 55, (.mv (.t 53)), none, []⟩,
    ⟨(some 14), 14, (.mv (.t 55)), none, [0, 0]⟩])
  (.seq (.draw [⟨(some 56), 56, (.mv (.t 12)), none, []⟩,
    ⟨(some 57), 57, (.mv (.t 14)), none, []⟩,
    ⟨(some 58), 58, (.idx 11 (.t 56) (.t 57)), none, [0, 1]⟩,
    ⟨(some 59), 59, (.load true 11 (.t 58)), none, [2]⟩,
    ⟨(some 60), 60, (.mv (.t 13)), none, []⟩,
    ⟨(some 61), 61, (.mv (.t 14)), none, []⟩,
    ⟨(some 62), 62, (.idx 11 (.t 60) (.t 61)), none, [4, 5]⟩,
    ⟨(some 63), 63, (.load true 11 (.t 62)), none, [6]⟩,
    ⟨(some 64), 64, (.eqs true 43 (.t 59) (.t 63)), none, [3, 7]⟩])
  (.cond (.t 64) (.seq (.reg [⟨(some 4), 4, (.mv (.k (.c (.s (.pv (.bool false)))))), none, []⟩])
  .ret) .skip))))
  (.reg [⟨(some 65), 65, (.bin false .add (.t 53) (.k (.c (.s (.pv (.int .i64 1)))))), none, []⟩,
    ⟨(some 53), 53, (.mv (.t 65)), none, [0]⟩])))))))
  (.seq (.reg [⟨(some 66), 66, (.fld 0 (.t 6)), none, []⟩,
    ⟨(some 67), 67, (.load false 1 (.t 66)), none, [0]⟩,
    ⟨(some 68), 68, (.mv (.t 9)), none, []⟩,
    ⟨(some 69), 69, (.call 17 [(.t 67), (.t 68)]), none, [1, 2]⟩,
    ⟨(some 70), 70, (.mv (.t 69)), none, [3, 3]⟩,
    ⟨(some 71), 71, (.mv (.t 7)), (some (70, true)), [4]⟩,
    ⟨(some 72), 72, (.mv (.t 10)), (some (70, true)), [4]⟩,
    ⟨(some 73), 73, (.bin false .eql (.t 71) (.t 72)), (some (70, true)), [5, 6, 4]⟩,
    ⟨(some 74), 74, (.pick (.t 70) (.t 73) (.k (.c (.s (.pv (.bool false)))))), none, [4, 7]⟩,
    ⟨(some 75), 75, (.mv (.t 74)), none, [8, 4]⟩,
    ⟨(some 76), 76, (.mv (.t 8)), (some (75, true)), [9]⟩,
    ⟨(some 77), 77, (.mv (.t 11)), (some (75, true)), [9]⟩,
    ⟨(some 78), 78, (.bin false .eql (.t 76) (.t 77)), (some (75, true)), [10, 11, 9]⟩,
    ⟨(some 79), 79, (.pick (.t 75) (.t 78) (.k (.c (.s (.pv (.bool false)))))), none, [9, 12]⟩,
    ⟨(some 80), 80, (.mv (.t 79)), none, [13, 9]⟩,
    ⟨(some 81), 81, (.mv (.t 1)), (some (80, true)), [14]⟩,
    ⟨(some 82), 82, (.call 18 [(.t 81)]), (some (80, true)), [15, 14, 14]⟩,
    ⟨(some 83), 83, (.mv (.t 5)), (some (80, true)), [14]⟩,
    ⟨(some 84), 84, (.call 19 [(.t 83)]), (some (80, true)), [17, 16, 14]⟩,
    ⟨(some 85), 85, (.bin true .eql (.t 82) (.t 84)), (some (80, true)), [16, 18, 14]⟩,
    ⟨(some 86), 86, (.pick (.t 80) (.t 85) (.k (.c (.s (.pv (.bool false)))))), none, [14, 19]⟩,
    ⟨(some 87), 87, (.mv (.t 86)), none, [20, 18]⟩,
    ⟨(some 88), 88, (.call 11 []), (some (87, true)), [21, 21]⟩,
    ⟨(some 89), 89, (.pick (.t 87) (.t 88) (.k (.c (.s (.pv (.bool false)))))), none, [21, 22]⟩,
    ⟨(some 4), 4, (.mv (.t 89)), none, [23, 22, 0, 1, 2, 3, 4, 5, 6, 7, 8, 9, 10, 11, 12, 13, 14, 15, 16, 17, 18, 19, 20, 21, 22, 23]⟩])
  .ret))))))))))
theorem fn3 : FnIs Try.prog 3 ac3 [(.t 4)] 90 := ⟨Try.f3, Try.func3, by kernel_rfl, by kernel_rfl, by kernel_rfl⟩
/- lockkeeper/lockkeeperlaw21.HistoryBegins -/
def ac4 : ACode := (.seq (.reg [⟨(some 3), 3, (.box 24 1 (.t 0)), none, []⟩,
    ⟨(some 6), 6, (.mv (.k (.c (.s (.pv (.bool false)))))), none, []⟩])
  (.seq (.seq (.reg [⟨(some 18), 18, (.mv (.t 1)), none, []⟩,
    ⟨(some 19), 19, (.call 9 [(.t 18)]), none, [0]⟩,
    ⟨(some 20), 20, (.not (.t 19)), none, [1]⟩,
    ⟨(some 21), 21, (.mv (.t 20)), none, [2, 1]⟩,
    ⟨(some 22), 22, (.load true 1 (.t 3)), (some (21, false)), [3]⟩,
    ⟨(some 23), 23, (.call 10 [(.t 22)]), (some (21, false)), [4, 3, 3]⟩,
    ⟨(some 24), 24, (.not (.t 23)), (some (21, false)), [5, 3]⟩,
    ⟨(some 25), 25, (.pick (.t 21) (.k (.c (.s (.pv (.bool true))))) (.t 24)), none, [3, 6]⟩])
  (.cond (.t 25) (.seq (.reg [⟨(some 26), 26, (.call 11 []), none, []⟩,
    ⟨(some 6), 6, (.mv (.t 26)), none, [0, 0, 0]⟩])
  .ret) .skip))
  (.seq (.reg [⟨(some 28), 28, (.load true 1 (.t 3)), none, []⟩,
    ⟨(some 29), 29, (.mv (.t 1)), none, []⟩,
    ⟨(some 30), 30, (.call 13 [(.t 28), (.t 29)]), none, [0, 1]⟩,
    ⟨(some 27), 27, (.mv (.t 30)), none, [2]⟩,
    ⟨(some 31), 31, (.ext 0 (.t 27)), none, [3]⟩,
    ⟨(some 32), 32, (.ext 1 (.t 27)), none, [3]⟩,
    ⟨(some 33), 33, (.ext 2 (.t 27)), none, [3]⟩,
    ⟨(some 7), 7, (.mk 24 1 [[.zc]]), none, []⟩,
    ⟨none, 119, (.store 1 (.t 7) (.t 31)), none, [7, 4, 2, 0, 1, 2, 3, 4, 7]⟩,
    ⟨(some 8), 8, (.mv (.t 32)), none, [5, 8, 0, 1, 2, 3, 4, 5, 7, 8]⟩,
    ⟨(some 9), 9, (.mv (.t 33)), none, [6, 9, 0, 1, 2, 3, 4, 5, 6, 7, 8, 9]⟩])
  (.seq (.seq (.reg [⟨(some 34), 34, (.mv (.t 9)), none, []⟩,
    ⟨(some 35), 35, (.bin false .neq (.t 34) (.k (.c (.s (.pv (.int .i64 0)))))), none, [0]⟩])
  (.cond (.t 35) (.seq (.reg [⟨(some 36), 36, (.mv (.t 8)), none, []⟩,
    ⟨(some 37), 37, (.bin false .eql (.t 36) (.k (.c (.s (.pv (.int .i64 0)))))), none, [0]⟩,
    ⟨(some 38), 38, (.mv (.t 37)), none, [1]⟩,
    ⟨(some 39), 39, (.mv (.t 9)), (some (38, false)), [2]⟩,
    ⟨(some 40), 40, (.bin false .eql (.t 39) (.k (.c (.s (.pv (.int .i64 2)))))), (some (38, false)), [3, 2]⟩,
    ⟨(some 41), 41, (.pick (.t 38) (.k (.c (.s (.pv (.bool true))))) (.t 40)), none, [2, 4]⟩,
    ⟨(some 42), 42, (.mv (.t 41)), none, [5, 2]⟩,
    ⟨(some 43), 43, (.call 11 []), (some (42, true)), [6, 6]⟩,
    ⟨(some 44), 44, (.pick (.t 42) (.t 43) (.k (.c (.s (.pv (.bool false)))))), none, [6, 7]⟩,
    ⟨(some 6), 6, (.mv (.t 44)), none, [8, 7, 0, 1, 2, 3, 4, 5, 6, 7, 8]⟩])
  .ret) .skip))
  (.seq (.reg [⟨(some 45), 45, (.mv (.t 1)), none, []⟩,
    ⟨(some 46), 46, (.call 15 [(.t 45)]), none, [0]⟩,
    ⟨(some 10), 10, (.mv (.t 46)), none, [1, 1, 0, 1]⟩])
  (.seq (.seq (.reg [⟨(some 47), 47, (.mv (.t 10)), none, []⟩,
    ⟨(some 48), 48, (.len (.t 47)), none, [0]⟩,
    ⟨(some 49), 49, (.mv (.t 1)), none, []⟩,
    ⟨(some 50), 50, (.len (.t 49)), none, [2]⟩,
    ⟨(some 51), 51, (.bin false .neq (.t 48) (.t 50)), none, [1, 3]⟩])
  (.cond (.t 51) (.seq (.reg [⟨(some 6), 6, (.mv (.k (.c (.s (.pv (.bool false)))))), none, []⟩])
  .ret) .skip))
  (.seq (.reg [⟨(some 52), 52, (.mv (.t 2)), none, []⟩,
    ⟨(some 53), 53, (.conv .i64 (.t 52)), none, [0]⟩,
    ⟨(some 54), 54, (.mv (.t 1)), none, []⟩,
    ⟨(some 55), 55, (.len (.t 54)), none, [2]⟩,
    ⟨(some 56), 56, (.bin false .add (.t 55) (.k (.c (.s (.pv (.int .i64 1)))))), none, [3]⟩,
    ⟨(some 57), 57, (.bin false .rem (.t 53) (.t 56)), none, [1, 4]⟩,
    ⟨(some 11), 11, (.mv (.t 57)), none, [5, 0, 1, 2, 3, 4, 5]⟩])
  (.seq (.draw [⟨(some 59), 59, (.load true 1 (.t 3)), none, []⟩,
    ⟨(some 60), 60, (.mv (.t 10)), none, []⟩,
    ⟨(some 61), 61, (.mv (.t 11)), none, []⟩,
    ⟨(some 62), 62, (.sub 11 (.t 60) none (some (.t 61))), none, [1, 2]⟩,
    ⟨(some 63), 63, (.call 13 [(.t 59), (.t 62)]), none, [0, 3]⟩,
    ⟨(some 58), 58, (.mv (.t 63)), none, [4]⟩,
    ⟨(some 64), 64, (.ext 0 (.t 58)), none, [5]⟩,
    ⟨(some 65), 65, (.ext 1 (.t 58)), none, [5]⟩,
    ⟨(some 66), 66, (.ext 2 (.t 58)), none, [5]⟩,
    ⟨(some 12), 12, (.mk 24 1 [[.zc]]), none, []⟩,
    ⟨none, 121, (.store 1 (.t 12) (.t 64)), none, [9, 6, 4, 0, 1, 2, 3, 4, 5, 6, 9]⟩,
    ⟨(some 13), 13, (.mv (.t 65)), none, [7, 10, 0, 1, 2, 3, 4, 5, 6, 7, 9, 10]⟩,
    ⟨(some 14), 14, (.mv (.t 66)), none, [8, 11, 0, 1, 2, 3, 4, 5, 6, 7, 8, 9, 10, 11]⟩])
  (.seq (.draw [⟨(some 68), 68, (.load true 1 (.t 12)), none, []⟩,
    ⟨(some 69), 69, (.mv (.t 10)), none, []⟩,
    ⟨(some 70), 70, (.mv (.t 11)), none, []⟩,
    ⟨(some 71), 71, (.sub 11 (.t 69) (some (.t 70)) none), none, [1, 2]⟩,
    ⟨(some 72), 72, (.call 13 [(.t 68), (.t 71)]), none, [0, 3]⟩,
    ⟨(some 67), 67, (.mv (.t 72)), none, [4]⟩,
    ⟨(some 73), 73, (.ext 0 (.t 67)), none, [5]⟩,
    ⟨(some 74), 74, (.ext 1 (.t 67)), none, [5]⟩,
    ⟨(some 75), 75, (.ext 2 (.t 67)), none, [5]⟩,
    ⟨(some 15), 15, (.mk 24 1 [[.zc]]), none, []⟩,
    ⟨none, 121, (.store 1 (.t 15) (.t 73)), none, [9, 6, 4, 0, 1, 2, 3, 4, 5, 6, 9]⟩,
    ⟨(some 16), 16, (.mv (.t 74)), none, [7, 10, 0, 1, 2, 3, 4, 5, 6, 7, 9, 10]⟩,
    ⟨(some 17), 17, (.mv (.t 75)), none, [8, 11, 0, 1, 2, 3, 4, 5, 6, 7, 8, 9, 10, 11]⟩])
  (.seq (.reg [⟨(some 76), 76, (.mv (.t 8)), none, []⟩,
    ⟨(some 77), 77, (.mv (.t 1)), none, []⟩,
    ⟨(some 78), 78, (.len (.t 77)), none, [1]⟩,
    ⟨(some 79), 79, (.bin false .eql (.t 76) (.t 78)), none, [0, 2]⟩,
    ⟨(some 80), 80, (.mv (.t 79)), none, [3]⟩,
    ⟨(some 81), 81, (.mv (.t 14)), (some (80, true)), [4]⟩,
    ⟨(some 82), 82, (.bin false .eql (.t 81) (.k (.c (.s (.pv (.int .i64 0)))))), (some (80, true)), [5, 4]⟩,
    ⟨(some 83), 83, (.pick (.t 80) (.t 82) (.k (.c (.s (.pv (.bool false)))))), none, [4, 6]⟩,
    ⟨(some 84), 84, (.mv (.t 83)), none, [7, 4]⟩,
    ⟨(some 85), 85, (.mv (.t 13)), (some (84, true)), [8]⟩,
    ⟨(some 86), 86, (.mv (.t 11)), (some (84, true)), [8]⟩,
    ⟨(some 87), 87, (.bin false .eql (.t 85) (.t 86)), (some (84, true)), [9, 10, 8]⟩,
    ⟨(some 88), 88, (.pick (.t 84) (.t 87) (.k (.c (.s (.pv (.bool false)))))), none, [8, 11]⟩,
    ⟨(some 89), 89, (.mv (.t 88)), none, [12, 8]⟩,
    ⟨(some 90), 90, (.mv (.t 17)), (some (89, true)), [13]⟩,
    ⟨(some 91), 91, (.bin false .eql (.t 90) (.k (.c (.s (.pv (.int .i64 0)))))), (some (89, true)), [14, 13]⟩,
    ⟨(some 92), 92, (.pick (.t 89) (.t 91) (.k (.c (.s (.pv (.bool false)))))), none, [13, 15]⟩,
    ⟨(some 93), 93, (.mv (.t 92)), none, [16, 13]⟩,
    ⟨(some 94), 94, (.mv (.t 16)), (some (93, true)), [17]⟩,
    ⟨(some 95), 95, (.mv (.t 1)), (some (93, true)), [17]⟩,
    ⟨(some 96), 96, (.len (.t 95)), (some (93, true)), [19, 17]⟩,
    ⟨(some 97), 97, (.mv (.t 11)), (some (93, true)), [17]⟩,
    ⟨(some 98), 98, (.bin false .sub (.t 96) (.t 97)), (some (93, true)), [20, 21, 17]⟩,
    ⟨(some 99), 99, (.bin false .eql (.t 94) (.t 98)), (some (93, true)), [18, 22, 17]⟩,
    ⟨(some 100), 100, (.pick (.t 93) (.t 99) (.k (.c (.s (.pv (.bool false)))))), none, [17, 23]⟩,
    ⟨(some 101), 101, (.mv (.t 100)), none, [24, 17]⟩,
    ⟨(some 102), 102, (.fld 0 (.t 15)), (some (101, true)), [25]⟩,
    ⟨(some 103), 103, (.load false 1 (.t 102)), (some (101, true)), [26, 25]⟩,
    ⟨(some 104), 104, (.fld 0 (.t 7)), (some (101, true)), [25]⟩,
    ⟨(some 105), 105, (.load false 1 (.t 104)), (some (101, true)), [28, 25]⟩,
    ⟨(some 106), 106, (.call 17 [(.t 103), (.t 105)]), (some (101, true)), [27, 29, 25, 25]⟩,
    ⟨(some 107), 107, (.pick (.t 101) (.t 106) (.k (.c (.s (.pv (.bool false)))))), none, [25, 30]⟩,
    ⟨(some 108), 108, (.mv (.t 107)), none, [31, 30]⟩,
    ⟨(some 109), 109, (.call 11 []), (some (108, true)), [32, 32]⟩,
    ⟨(some 110), 110, (.pick (.t 108) (.t 109) (.k (.c (.s (.pv (.bool false)))))), none, [32, 33]⟩,
    ⟨(some 6), 6, (.mv (.t 110)), none, [34, 33, 0, 1, 2, 3, 4, 5, 6, 7, 8, 9, 10, 11, 12, 13, 14, 15, 16, 17, 18, 19, 20, 21, 22, 23, 24, 25, 26, 27, 28, 29, 30, 31, 32, 33, 34]⟩])
  .ret))))))))))
theorem fn4 : FnIs Try.prog 4 ac4 [(.t 6)] 111 := ⟨Try.f4, Try.func4, by kernel_rfl, by kernel_rfl, by kernel_rfl⟩
/- lockkeeper/lockkeeperlaw21.HistoryTurned -/
def ac5 : ACode := (.seq (.reg [⟨(some 4), 4, (.box 24 1 (.t 0)), none, []⟩,
    ⟨(some 8), 8, (.mv (.k (.c (.s (.pv (.bool false)))))), none, []⟩])
  (.seq (.seq (.reg [⟨(some 17), 17, (.mv (.t 1)), none, []⟩,
    ⟨(some 18), 18, (.call 9 [(.t 17)]), none, [0]⟩,
    ⟨(some 19), 19, (.not (.t 18)), none, [1]⟩,
    ⟨(some 20), 20, (.mv (.t 19)), none, [2, 1]⟩,
    ⟨(some 21), 21, (.load true 1 (.t 4)), (some (20, false)), [3]⟩,
    ⟨(some 22), 22, (.call 10 [(.t 21)]), (some (20, false)), [4, 3, 3]⟩,
    ⟨(some 23), 23, (.not (.t 22)), (some (20, false)), [5, 3]⟩,
    ⟨(some 24), 24, (.pick (.t 20) (.k (.c (.s (.pv (.bool true))))) (.t 23)), none, [3, 6]⟩,
    ⟨(some 25), 25, (.mv (.t 24)), none, [7, 5]⟩,
    ⟨(some 26), 26, (.mv (.t 1)), (some (25, false)), [8]⟩,
    ⟨(some 27), 27, (.len (.t 26)), (some (25, false)), [9, 8]⟩,
    ⟨(some 28), 28, (.bin false .eql (.t 27) (.k (.c (.s (.pv (.int .i64 0)))))), (some (25, false)), [10, 8]⟩,
    ⟨(some 29), 29, (.pick (.t 25) (.k (.c (.s (.pv (.bool true))))) (.t 28)), none, [8, 11]⟩])
  (.cond (.t 29) (.seq (.reg [⟨(some 30), 30, (.call 11 []), none, []⟩,
    ⟨(some 8), 8, (.mv (.t 30)), none, [0, 0, 0]⟩])
  .ret) .skip))
  (.seq (.reg [⟨(some 32), 32, (.load true 1 (.t 4)), none, []⟩,
    ⟨(some 33), 33, (.mv (.t 1)), none, []⟩,
    ⟨(some 34), 34, (.call 13 [(.t 32), (.t 33)]), none, [0, 1]⟩,
    ⟨(some 31), 31, (.mv (.t 34)), none, [2]⟩,
    ⟨(some 35), 35, (.ext 0 (.t 31)), none, [3]⟩,
    ⟨(some 36), 36, (.ext 1 (.t 31)), none, [3]⟩,
    ⟨(some 37), 37, (.ext 2 (.t 31)), none, [3]⟩,
    ⟨(some 9), 9, (.mk 24 1 [[.zc]]), none, []⟩,
    ⟨none, 95, (.store 1 (.t 9) (.t 35)), none, [7, 4, 2, 0, 1, 2, 3, 4, 7]⟩,
    ⟨(some 10), 10, (.mv (.t 36)), none, [5, 8, 0, 1, 2, 3, 4, 5, 7, 8]⟩,
    ⟨(some 11), 11, (.mv (.t 37)), none, [6, 9, 0, 1, 2, 3, 4, 5, 6, 7, 8, 9]⟩])
  (.seq (.seq (.reg [⟨(some 38), 38, (.mv (.t 11)), none, []⟩,
    ⟨(some 39), 39, (.bin false .neq (.t 38) (.k (.c (.s (.pv (.int .i64 0)))))), none, [0]⟩])
  (.cond (.t 39) (.seq (.reg [⟨(some 40), 40, (.call 11 []), none, []⟩,
    ⟨(some 8), 8, (.mv (.t 40)), none, [0, 0, 0]⟩])
  .ret) .skip))
  (.seq (.reg [⟨(some 41), 41, (.bslice 52 11 [(.s (.pv (.int .i64 0))), (.s (.pv (.int .i64 0))), (.s (.pv (.int .i64 0))), (.s (.pv (.string ⟨#[]⟩))), (.s (.pv (.int .i64 0))), (.s (.pv (.int .i64 0))), (.s (.pv (.int .i64 0))), (.s (.pv (.string ⟨#[]⟩))), (.s (.pv (.int .i64 0))), (.s (.pv (.int .i64 0))), (.s (.pv (.int .i64 0)))] 0 []), none, []⟩,
    ⟨(some 42), 42, (.mv (.t 1)), none, []⟩,
    ⟨(some 43), 43, (.call 15 [(.t 42)]), none, [1]⟩,
    ⟨(some 44), 44, (.app 52 11 104 (.t 41) (.t 43)), none, [0, 2, 2]⟩,
    ⟨(some 12), 12, (.mv (.t 44)), none, [3, 3, 0, 1, 2, 3]⟩])
  (.seq (.seq (.reg [⟨(some 45), 45, (.mv (.t 12)), none, []⟩,
    ⟨(some 46), 46, (.len (.t 45)), none, [0]⟩,
    ⟨(some 47), 47, (.mv (.t 1)), none, []⟩,
    ⟨(some 48), 48, (.len (.t 47)), none, [2]⟩,
    ⟨(some 49), 49, (.bin false .neq (.t 46) (.t 48)), none, [1, 3]⟩])
  (.cond (.t 49) (.seq (.reg [⟨(some 8), 8, (.mv (.k (.c (.s (.pv (.bool false)))))), none, []⟩])
  .ret) .skip))
  (.seq (.reg [⟨(some 50), 50, (.mv (.t 2)), none, []⟩,
    ⟨(some 51), 51, (.conv .i64 (.t 50)), none, [0]⟩,
    ⟨(some 52), 52, (.mv (.t 12)), none, []⟩,
    ⟨(some 53), 53, (.len (.t 52)), none, [2]⟩,
    ⟨(some 54), 54, (.bin false .rem (.t 51) (.t 53)), none, [1, 3]⟩,
    ⟨(some 13), 13, (.mv (.t 54)), none, [4, 0, 1, 2, 3, 4]⟩])
  (.seq (.reg [⟨(some 55), 55, (.mv (.t 12)), none, []⟩,
    ⟨(some 56), 56, (.mv (.t 13)), none, []⟩,
    ⟨(some 57), 57, (.idx 11 (.t 55) (.t 56)), none, [0, 1]⟩,
    ⟨(some 58), 58, (.fld 4 (.t 57)), none, [2]⟩,
    ⟨(some 59), 59, (.fld 1 (.t 58)), none, [3]⟩,
    ⟨(some 60), 60, (.fld 1 (.t 59)), none, [4]⟩,
    ⟨(some 61), 61, (.load false 1 (.t 60)), none, [5]⟩,
    ⟨(some 62), 62, (.mv (.t 3)), none, []⟩,
    ⟨(some 63), 63, (.conv .i64 (.t 62)), none, [7]⟩,
    ⟨(some 64), 64, (.bin false .add (.k (.c (.s (.pv (.int .i64 1))))) (.t 63)), none, [8]⟩,
    ⟨(some 65), 65, (.bin false .add (.t 61) (.t 64)), none, [6, 9]⟩,
    ⟨(some 66), 66, (.idx 11 (.t 55) (.t 56)), none, [0, 1, 0, 1, 2, 3, 4, 5, 6, 7, 8, 9, 10]⟩,
    ⟨(some 67), 67, (.fld 4 (.t 66)), none, [11, 0, 1, 2, 3, 4, 5, 6, 7, 8, 9, 10]⟩,
    ⟨(some 68), 68, (.fld 1 (.t 67)), none, [12, 0, 1, 2, 3, 4, 5, 6, 7, 8, 9, 10]⟩,
    ⟨(some 69), 69, (.fld 1 (.t 68)), none, [13, 0, 1, 2, 3, 4, 5, 6, 7, 8, 9, 10]⟩,
    ⟨none, 102, (.store 1 (.t 69) (.t 65)), none, [14, 10, 0, 1, 2, 3, 4, 5, 6, 7, 8, 9, 10]⟩])
  (.seq (.reg [⟨(some 71), 71, (.load true 1 (.t 4)), none, []⟩,
    ⟨(some 72), 72, (.mv (.t 12)), none, []⟩,
    ⟨(some 73), 73, (.call 13 [(.t 71), (.t 72)]), none, [0, 1]⟩,
    ⟨(some 70), 70, (.mv (.t 73)), none, [2]⟩,
    ⟨(some 74), 74, (.ext 0 (.t 70)), none, [3]⟩,
    ⟨(some 75), 75, (.ext 1 (.t 70)), none, [3]⟩,
    ⟨(some 76), 76, (.ext 2 (.t 70)), none, [3]⟩,
    ⟨(some 14), 14, (.mk 24 1 [[.zc]]), none, []⟩,
    ⟨none, 95, (.store 1 (.t 14) (.t 74)), none, [7, 4, 2, 0, 1, 2, 3, 4, 7]⟩,
    ⟨(some 15), 15, (.mv (.t 75)), none, [5, 8, 0, 1, 2, 3, 4, 5, 7, 8]⟩,
    ⟨(some 16), 16, (.mv (.t 76)), none, [6, 9, 0, 1, 2, 3, 4, 5, 6, 7, 8, 9]⟩])
  (.seq (.reg [⟨(some 77), 77, (.mv (.t 16)), none, []⟩,
    ⟨(some 78), 78, (.bin false .eql (.t 77) (.k (.c (.s (.pv (.int .i64 2)))))), none, [0]⟩,
    ⟨(some 79), 79, (.mv (.t 78)), none, [1]⟩,
    ⟨(some 80), 80, (.mv (.t 15)), (some (79, true)), [2]⟩,
    ⟨(some 81), 81, (.mv (.t 13)), (some (79, true)), [2]⟩,
    ⟨(some 82), 82, (.bin false .eql (.t 80) (.t 81)), (some (79, true)), [3, 4, 2]⟩,
    ⟨(some 83), 83, (.pick (.t 79) (.t 82) (.k (.c (.s (.pv (.bool false)))))), none, [2, 5]⟩,
    ⟨(some 84), 84, (.mv (.t 83)), none, [6, 2]⟩,
    ⟨(some 85), 85, (.call 11 []), (some (84, true)), [7, 7]⟩,
    ⟨(some 86), 86, (.pick (.t 84) (.t 85) (.k (.c (.s (.pv (.bool false)))))), none, [7, 8]⟩,
    ⟨(some 8), 8, (.mv (.t 86)), none, [9, 8, 0, 1, 2, 3, 4, 5, 6, 7, 8, 9]⟩])
  .ret))))))))))
theorem fn5 : FnIs Try.prog 5 ac5 [(.t 8)] 87 := ⟨Try.f5, Try.func5, by kernel_rfl, by kernel_rfl, by kernel_rfl⟩
/- lockkeeper/lockkeeperlaw21.HistoryAny -/
def ac6 : ACode := (.seq (.reg [⟨(some 3), 3, (.box 24 1 (.t 0)), none, []⟩,
    ⟨(some 6), 6, (.mv (.k (.c (.s (.pv (.bool false)))))), none, []⟩])
  (.seq (.seq (.reg [⟨(some 16), 16, (.mv (.t 1)), none, []⟩,
    ⟨(some 17), 17, (.call 9 [(.t 16)]), none, [0]⟩,
    ⟨(some 18), 18, (.not (.t 17)), none, [1]⟩,
    ⟨(some 19), 19, (.mv (.t 18)), none, [2, 1]⟩,
    ⟨(some 20), 20, (.load true 1 (.t 3)), (some (19, false)), [3]⟩,
    ⟨(some 21), 21, (.call 10 [(.t 20)]), (some (19, false)), [4, 3, 3]⟩,
    ⟨(some 22), 22, (.not (.t 21)), (some (19, false)), [5, 3]⟩,
    ⟨(some 23), 23, (.pick (.t 19) (.k (.c (.s (.pv (.bool true))))) (.t 22)), none, [3, 6]⟩,
    ⟨(some 24), 24, (.mv (.t 23)), none, [7, 5]⟩,
    ⟨(some 25), 25, (.mv (.t 1)), (some (24, false)), [8]⟩,
    ⟨(some 26), 26, (.len (.t 25)), (some (24, false)), [9, 8]⟩,
    ⟨(some 27), 27, (.bin false .eql (.t 26) (.k (.c (.s (.pv (.int .i64 0)))))), (some (24, false)), [10, 8]⟩,
    ⟨(some 28), 28, (.pick (.t 24) (.k (.c (.s (.pv (.bool true))))) (.t 27)), none, [8, 11]⟩])
  (.cond (.t 28) (.seq (.reg [⟨(some 29), 29, (.call 11 []), none, []⟩,
    ⟨(some 6), 6, (.mv (.t 29)), none, [0, 0, 0]⟩])
  .ret) .skip))
  (.seq (.reg [⟨(some 30), 30, (.mv (.t 2)), none, []⟩,
    ⟨(some 31), 31, (.conv .i64 (.t 30)), none, [0]⟩,
    ⟨(some 32), 32, (.mv (.t 1)), none, []⟩,
    ⟨(some 33), 33, (.len (.t 32)), none, [2]⟩,
    ⟨(some 34), 34, (.bin false .rem (.t 31) (.t 33)), none, [1, 3]⟩,
    ⟨(some 7), 7, (.mv (.t 34)), none, [4, 0, 1, 2, 3, 4]⟩])
  (.seq (.reg [⟨(some 8), 8, (.mv (.k (.c .zc))), none, []⟩])
  (.seq (.seq (.reg [⟨(some 35), 35, (.mv (.t 1)), none, []⟩,
    ⟨(some 36), 36, (.len (.t 35)), none, [0]⟩,
    ⟨(some 37), 37, (.mv (.k (.c (.s (.pv (.int .i64 0)))))), none, []⟩])
  (.block 0 (.loop (.seq (.reg [⟨(some 38), 38, (.bin false .lss (.t 37) (.t 36)), none, []⟩])
  (.seq (.cond (.t 38) .skip (.exit 0))
  (.seq (.block 1 (.seq (.reg [⟨(some 39), 39, (.mv (.t 37)), none, []⟩,
    ⟨(some 9), 9, (.mv (.t 39)), none, [0, 0]⟩])
  (.reg [⟨(some 40), 40, (.mv (.t 8)), none, []⟩,
    ⟨(some 41), 41, (.mv (.t 1)), none, []⟩,
    ⟨(some 42), 42, (.mv (.t 1)), none, []⟩,
    ⟨(some 43), 43, (.len (.t 42)), none, [2]⟩,
    ⟨(some 44), 44, (.mv (.t 9)), none, []⟩,
    ⟨(some 45), 45, (.bin false .sub (.t 43) (.t 44)), none, [3, 4]⟩,
    ⟨(some 46), 46, (.mv (.t 7)), none, []⟩,
    ⟨(some 47), 47, (.bin false .add (.t 45) (.t 46)), none, [5, 6]⟩,
    ⟨(some 48), 48, (.mv (.t 1)), none, []⟩,
    ⟨(some 49), 49, (.len (.t 48)), none, [8]⟩,
    ⟨(some 50), 50, (.bin false .rem (.t 47) (.t 49)), none, [7, 9]⟩,
    ⟨(some 51), 51, (.idx 11 (.t 41) (.t 50)), none, [1, 10]⟩,
    ⟨(some 52), 52, (.load true 11 (.t 51)), none, [11]⟩,
    ⟨(some 53), 53, (.bslice 52 11 [(.s (.pv (.int .i64 0))), (.s (.pv (.int .i64 0))), (.s (.pv (.int .i64 0))), (.s (.pv (.string ⟨#[]⟩))), (.s (.pv (.int .i64 0))), (.s (.pv (.int .i64 0))), (.s (.pv (.int .i64 0))), (.s (.pv (.string ⟨#[]⟩))), (.s (.pv (.int .i64 0))), (.s (.pv (.int .i64 0))), (.s (.pv (.int .i64 0)))] 1 [(0, 11, (.t 52))]), none, [12]⟩,
    ⟨(some 54), 54, (.app 52 11 104 (.t 40) (.t 53)), none, [0, 13]⟩,
    ⟨(some 8), 8, (.mv (.t 54)), none, [14, 14, 0, 1, 2, 3, 4, 5, 6, 7, 8, 9, 10, 11, 12, 13, 14]⟩])))
  (.reg [⟨(some 55), 55, (.bin false .add (.t 37) (.k (.c (.s (.pv (.int .i64 1)))))), none, []⟩,
    ⟨(some 37), 37, (.mv (.t 55)), none, [0]⟩])))))))
  (.seq (.reg [⟨(some 57), 57, (.load true 1 (.t 3)), none, []⟩,
    ⟨(some 58), 58, (.mv (.t 1)), none, []⟩,
    ⟨(some 59), 59, (.call 13 [(.t 57), (.t 58)]), none, [0, 1]⟩,
    ⟨(some 56), 56, (.mv (.t 59)), none, [2]⟩,
    ⟨(some 60), 60, (.ext 0 (.t 56)), none, [3]⟩,
    ⟨(some 61), 61, (.ext 1 (.t 56)), none, [3]⟩,
    ⟨(some 62), 62, (.ext 2 (.t 56)), none, [3]⟩,
    ⟨(some 10), 10, (.mk 24 1 [[.zc]]), none, []⟩,
    ⟨none, 103, (.store 1 (.t 10) (.t 60)), none, [7, 4, 2, 0, 1, 2, 3, 4, 7]⟩,
    ⟨(some 11), 11, (.mv (.t 61)), none, [5, 8, 0, 1, 2, 3, 4, 5, 7, 8]⟩,
    ⟨(some 12), 12, (.mv (.t 62)), none, [6, 9, 0, 1, 2, 3, 4, 5, 6, 7, 8, 9]⟩])
  (.seq (.reg [⟨(some 64), 64, (.load true 1 (.t 3)), none, []⟩,
    ⟨(some 65), 65, (.mv (.t 8)), none, []⟩,
    ⟨(some 66), 66, (.call 13 [(.t 64), (.t 65)]), none, [0, 1]⟩,
    ⟨(some 63), 63, (.mv (.t 66)), none, [2]⟩,
    ⟨(some 67), 67, (.ext 0 (.t 63)), none, [3]⟩,
    ⟨(some 68), 68, (.ext 1 (.t 63)), none, [3]⟩,
    ⟨(some 69), 69, (.ext 2 (.t 63)), none, [3]⟩,
    ⟨(some 13), 13, (.mk 24 1 [[.zc]]), none, []⟩,
    ⟨none, 103, (.store 1 (.t 13) (.t 67)), none, [7, 4, 2, 0, 1, 2, 3, 4, 7]⟩,
    ⟨(some 14), 14, (.mv (.t 68)), none, [5, 8, 0, 1, 2, 3, 4, 5, 7, 8]⟩,
    ⟨(some 15), 15, (.mv (.t 69)), none, [6, 9, 0, 1, 2, 3, 4, 5, 6, 7, 8, 9]⟩])
  (.seq (.reg [⟨(some 70), 70, (.fld 0 (.t 10)), none, []⟩,
    ⟨(some 71), 71, (.load false 1 (.t 70)), none, [0]⟩,
    ⟨(some 72), 72, (.fld 0 (.t 13)), none, []⟩,
    ⟨(some 73), 73, (.load false 1 (.t 72)), none, [2]⟩,
    ⟨(some 74), 74, (.call 17 [(.t 71), (.t 73)]), none, [1, 3]⟩,
    ⟨(some 75), 75, (.mv (.t 74)), none, [4, 4]⟩,
    ⟨(some 76), 76, (.mv (.t 11)), (some (75, true)), [5]⟩,
    ⟨(some 77), 77, (.mv (.t 14)), (some (75, true)), [5]⟩,
    ⟨(some 78), 78, (.bin false .eql (.t 76) (.t 77)), (some (75, true)), [6, 7, 5]⟩,
    ⟨(some 79), 79, (.pick (.t 75) (.t 78) (.k (.c (.s (.pv (.bool false)))))), none, [5, 8]⟩,
    ⟨(some 80), 80, (.mv (.t 79)), none, [9, 5]⟩,
    ⟨(some 81), 81, (.mv (.t 12)), (some (80, true)), [10]⟩,
    ⟨(some 82), 82, (.mv (.t 15)), (some (80, true)), [10]⟩,
    ⟨(some 83), 83, (.bin false .eql (.t 81) (.t 82)), (some (80, true)), [11, 12, 10]⟩,
    ⟨(some 84), 84, (.pick (.t 80) (.t 83) (.k (.c (.s (.pv (.bool false)))))), none, [10, 13]⟩,
    ⟨(some 85), 85, (.mv (.t 84)), none, [14, 10]⟩,
    ⟨(some 86), 86, (.mv (.t 1)), (some (85, true)), [15]⟩,
    ⟨(some 87), 87, (.call 18 [(.t 86)]), (some (85, true)), [16, 15, 15]⟩,
    ⟨(some 88), 88, (.mv (.t 8)), (some (85, true)), [15]⟩,
    ⟨(some 89), 89, (.call 18 [(.t 88)]), (some (85, true)), [18, 17, 15]⟩,
    ⟨(some 90), 90, (.bin true .eql (.t 87) (.t 89)), (some (85, true)), [17, 19, 15]⟩,
    ⟨(some 91), 91, (.pick (.t 85) (.t 90) (.k (.c (.s (.pv (.bool false)))))), none, [15, 20]⟩,
    ⟨(some 92), 92, (.mv (.t 91)), none, [21, 19]⟩,
    ⟨(some 93), 93, (.call 11 []), (some (92, true)), [22, 22]⟩,
    ⟨(some 94), 94, (.pick (.t 92) (.t 93) (.k (.c (.s (.pv (.bool false)))))), none, [22, 23]⟩,
    ⟨(some 6), 6, (.mv (.t 94)), none, [24, 23, 0, 1, 2, 3, 4, 5, 6, 7, 8, 9, 10, 11, 12, 13, 14, 15, 16, 17, 18, 19, 20, 21, 22, 23, 24]⟩])
  .ret))))))))
theorem fn6 : FnIs Try.prog 6 ac6 [(.t 6)] 95 := ⟨Try.f6, Try.func6, by kernel_rfl, by kernel_rfl, by kernel_rfl⟩
/- lockkeeper/lockkeeperlaw21.HistoryOps -/
def ac7 : ACode := (.seq (.reg [⟨(some 2), 2, (.box 24 1 (.t 0)), none, []⟩,
    ⟨(some 4), 4, (.mv (.k (.c (.s (.pv (.bool false)))))), none, []⟩])
  (.seq (.seq (.reg [⟨(some 15), 15, (.load true 1 (.t 2)), none, []⟩,
    ⟨(some 16), 16, (.call 10 [(.t 15)]), none, [0]⟩,
    ⟨(some 17), 17, (.not (.t 16)), none, [1]⟩,
    ⟨(some 18), 18, (.mv (.t 17)), none, [2, 1]⟩,
    ⟨(some 19), 19, (.mv (.t 1)), (some (18, false)), [3]⟩,
    ⟨(some 20), 20, (.len (.t 19)), (some (18, false)), [4, 3]⟩,
    ⟨(some 21), 21, (.bin false .gtr (.t 20) (.k (.c (.s (.pv (.int .i64 60)))))), (some (18, false)), [5, 3]⟩,
    ⟨(some 22), 22, (.pick (.t 18) (.k (.c (.s (.pv (.bool true))))) (.t 21)), none, [3, 6]⟩,
    ⟨(some 23), 23, (.mv (.t 22)), none, [7, 3]⟩,
    ⟨(some 24), 24, (.fld 0 (.t 2)), (some (23, false)), [8]⟩,
    ⟨(some 25), 25, (.load false 1 (.t 24)), (some (23, false)), [9, 8]⟩,
    ⟨(some 26), 26, (.call 20 [(.t 25)]), (some (23, false)), [10, 8, 8]⟩,
    ⟨(some 27), 27, (.not (.t 26)), (some (23, false)), [11, 8]⟩,
    ⟨(some 28), 28, (.pick (.t 23) (.k (.c (.s (.pv (.bool true))))) (.t 27)), none, [8, 12]⟩])
  (.cond (.t 28) (.seq (.reg [⟨(some 29), 29, (.call 11 []), none, []⟩,
    ⟨(some 4), 4, (.mv (.t 29)), none, [0, 0, 0]⟩])
  .ret) .skip))
  (.seq (.seq (.reg [⟨(some 30), 30, (.mv (.t 1)), none, []⟩,
    ⟨(some 31), 31, (.len (.t 30)), none, [0]⟩,
    ⟨(some 32), 32, (.mv (.k (.c (.s (.pv (.int .i64 0)))))), none, []⟩])
  (.block 0 (.loop (.seq (.reg [⟨(some 33), 33, (.bin false .lss (.t 32) (.t 31)), none, []⟩])
  (.seq (.cond (.t 33) .skip (.exit 0))
  (.seq (.block 1 (.seq (.reg [⟨(some 34), 34, (.idx 3 (.t 30) (.t 32)), none, []⟩,
    ⟨(some 35), 35, (.load true 3 (.t 34)), none, [0]⟩,
    ⟨(some 6), 6, (.mk 50 3 [[(.s (.pv (.int .i64 0))), (.s (.pv (.int .i64 0))), (.s (.pv (.string ⟨#[]⟩)))]]), none, []⟩,
    ⟨none, 101, (.store 3 (.t 6) (.t 35)), none, [2, 1, 0, 1, 2]⟩])
  (.seq (.reg [⟨(some 36), 36, (.fld 2 (.t 6)), none, []⟩,
    ⟨(some 37), 37, (.load false 1 (.t 36)), none, [0]⟩,
    ⟨(some 38), 38, (.slen (.t 37)), none, [1]⟩,
    ⟨(some 39), 39, (.bin false .gtr (.t 38) (.k (.c (.s (.pv (.int .i64 100)))))), none, [2]⟩])
  (.cond (.t 39) (.seq (.reg [⟨(some 40), 40, (.call 11 []), none, []⟩,
    ⟨(some 4), 4, (.mv (.t 40)), none, [0, 0, 0]⟩])
  .ret) .skip))))
  (.reg [⟨(some 41), 41, (.bin false .add (.t 32) (.k (.c (.s (.pv (.int .i64 1)))))), none, []⟩,
    ⟨(some 32), 32, (.mv (.t 41)), none, [0]⟩])))))))
  (.seq (.reg [⟨(some 43), 43, (.load true 1 (.t 2)), none, []⟩,
    ⟨(some 44), 44, (.mv (.t 1)), none, []⟩,
    ⟨(some 45), 45, (.call 21 [(.t 43), (.t 44)]), none, [0, 1]⟩,
    ⟨(some 42), 42, (.mv (.t 45)), none, [2]⟩,
    ⟨(some 46), 46, (.ext 0 (.t 42)), none, [3]⟩,
    ⟨(some 47), 47, (.ext 1 (.t 42)), none, [3]⟩,
    ⟨(some 7), 7, (.mk 24 1 [[.zc]]), none, []⟩,
    ⟨none, 105, (.store 1 (.t 7) (.t 46)), none, [6, 4, 2, 0, 1, 2, 3, 4, 6]⟩,
    ⟨(some 8), 8, (.mv (.t 47)), none, [5, 7, 0, 1, 2, 3, 4, 5, 6, 7]⟩])
  (.seq (.seq (.reg [⟨(some 48), 48, (.mv (.t 8)), none, []⟩,
    ⟨(some 49), 49, (.len (.t 48)), none, [0]⟩,
    ⟨(some 50), 50, (.mv (.t 1)), none, []⟩,
    ⟨(some 51), 51, (.len (.t 50)), none, [2]⟩,
    ⟨(some 52), 52, (.bin false .neq (.t 49) (.t 51)), none, [1, 3]⟩])
  (.cond (.t 52) (.seq (.reg [⟨(some 4), 4, (.mv (.k (.c (.s (.pv (.bool false)))))), none, []⟩])
  .ret) .skip))
  (.seq (.reg [⟨(some 9), 9, (.mv (.k (.c .zc))), none, []⟩])
  (.seq (.seq (.reg [⟨(some 53), 53, (.mv (.t 1)), none, []⟩,
    ⟨(some 54), 54, (.len (.t 53)), none, [0]⟩,
    ⟨(some 55), 55, (.mv (.k (.c (.s (.pv (.int .i64 0)))))), none, []⟩])
  (.block 2 (.loop (.seq (.reg [⟨(some 56), 56, (.bin false .lss (.t 55) (.t 54)), none, []⟩])
  (.seq (.cond (.t 56) .skip (.exit 2))
  (.seq (.block 3 (.seq (.reg [⟨(some 57), 57, (.mv (.t 55)), none, []⟩,
    ⟨(some 58), 58, (.idx 3 (.t 53) (.t 55)), none, []⟩,
    ⟨(some 59), 59, (.load true 3 (.t 58)), none, [1]⟩,
    ⟨(some 11), 11, (.mk 50 3 [[(.s (.pv (.int .i64 0))), (.s (.pv (.int .i64 0))), (.s (.pv (.string ⟨#[]⟩)))]]), none, []⟩,
    ⟨(some 10), 10, (.mv (.t 57)), none, [0, 0, 1, 2, 3]⟩,
    ⟨none, 103, (.store 3 (.t 11) (.t 59)), none, [3, 2, 4, 0, 1, 2, 3, 4]⟩])
  (.draw [⟨(some 60), 60, (.mv (.t 9)), none, []⟩,
    ⟨(some 61), 61, (.mv (.t 10)), none, []⟩,
    ⟨(some 62), 62, (.load true 3 (.t 11)), none, []⟩,
    ⟨(some 63), 63, (.mv (.t 8)), none, []⟩,
    ⟨(some 64), 64, (.mv (.t 10)), none, []⟩,
    ⟨(some 65), 65, (.idx 4 (.t 63) (.t 64)), none, [3, 4]⟩,
    ⟨(some 66), 66, (.load true 4 (.t 65)), none, [5]⟩,
    ⟨(some 67), 67, (.mv (.t 10)), none, []⟩,
    ⟨(some 68), 68, (.bin false .add (.k (.c (.s (.pv (.int .i64 1))))) (.t 67)), none, [7]⟩,
    ⟨(some 69), 69, (.build [(.s (.pv (.int .i64 0))), (.s (.pv (.int .i64 0))), (.s (.pv (.int .i64 0))), (.s (.pv (.string ⟨#[]⟩))), (.s (.pv (.int .i64 0))), (.s (.pv (.int .i64 0))), (.s (.pv (.int .i64 0))), (.s (.pv (.string ⟨#[]⟩))), (.s (.pv (.int .i64 0))), (.s (.pv (.int .i64 0))), (.s (.pv (.int .i64 0)))] [(0, 1, (.t 61)), (1, 3, (.t 62)), (4, 4, (.t 66)), (8, 1, (.k (.c (.s (.pv (.int .i64 0)))))), (9, 1, (.t 68)), (10, 1, (.k (.c (.s (.pv (.int .i64 1000))))))]), none, [1, 2, 6, 8]⟩,
    ⟨(some 70), 70, (.bslice 52 11 [(.s (.pv (.int .i64 0))), (.s (.pv (.int .i64 0))), (.s (.pv (.int .i64 0))), (.s (.pv (.string ⟨#[]⟩))), (.s (.pv (.int .i64 0))), (.s (.pv (.int .i64 0))), (.s (.pv (.int .i64 0))), (.s (.pv (.string ⟨#[]⟩))), (.s (.pv (.int .i64 0))), (.s (.pv (.int .i64 0))), (.s (.pv (.int .i64 0)))] 1 [(0, 11, (.t 69))]), none, [9]⟩,
    ⟨(some 71), 71, (.app 52 11 104 (.t 60) (.t 70)), none, [0, 10]⟩,
    ⟨(some 9), 9, (.mv (.t 71)), none, [11, 11, 0, 1, 2, 3, 4, 5, 6, 7, 8, 9, 10, 11]⟩])))
  (.reg [⟨(some 72), 72, (.bin false .add (.t 55) (.k (.c (.s (.pv (.int .i64 1)))))), none, []⟩,
    ⟨(some 55), 55, (.mv (.t 72)), none, [0]⟩])))))))
  (.seq (.reg [⟨(some 74), 74, (.load true 1 (.t 2)), none, []⟩,
    ⟨(some 75), 75, (.mv (.t 9)), none, []⟩,
    ⟨(some 76), 76, (.call 13 [(.t 74), (.t 75)]), none, [0, 1]⟩,
    ⟨(some 73), 73, (.mv (.t 76)), none, [2]⟩,
    ⟨(some 77), 77, (.ext 0 (.t 73)), none, [3]⟩,
    ⟨(some 78), 78, (.ext 1 (.t 73)), none, [3]⟩,
    ⟨(some 79), 79, (.ext 2 (.t 73)), none, [3]⟩,
    ⟨(some 12), 12, (.mk 24 1 [[.zc]]), none, []⟩,
    ⟨none, 106, (.store 1 (.t 12) (.t 77)), none, [7, 4, 2, 0, 1, 2, 3, 4, 7]⟩,
    ⟨(some 13), 13, (.mv (.t 78)), none, [5, 8, 0, 1, 2, 3, 4, 5, 7, 8]⟩,
    ⟨(some 14), 14, (.mv (.t 79)), none, [6, 9, 0, 1, 2, 3, 4, 5, 6, 7, 8, 9]⟩])
  (.seq (.reg [⟨(some 80), 80, (.mv (.t 14)), none, []⟩,
    ⟨(some 81), 81, (.bin false .eql (.t 80) (.k (.c (.s (.pv (.int .i64 0)))))), none, [0]⟩,
    ⟨(some 82), 82, (.mv (.t 81)), none, [1]⟩,
    ⟨(some 83), 83, (.mv (.t 13)), (some (82, true)), [2]⟩,
    ⟨(some 84), 84, (.mv (.t 9)), (some (82, true)), [2]⟩,
    ⟨(some 85), 85, (.len (.t 84)), (some (82, true)), [4, 2]⟩,
    ⟨(some 86), 86, (.bin false .eql (.t 83) (.t 85)), (some (82, true)), [3, 5, 2]⟩,
    ⟨(some 87), 87, (.pick (.t 82) (.t 86) (.k (.c (.s (.pv (.bool false)))))), none, [2, 6]⟩,
    ⟨(some 88), 88, (.mv (.t 87)), none, [7, 2]⟩,
    ⟨(some 89), 89, (.fld 0 (.t 12)), (some (88, true)), [8]⟩,
    ⟨(some 90), 90, (.load false 1 (.t 89)), (some (88, true)), [9, 8]⟩,
    ⟨(some 91), 91, (.fld 0 (.t 7)), (some (88, true)), [8]⟩,
    ⟨(some 92), 92, (.load false 1 (.t 91)), (some (88, true)), [11, 8]⟩,
    ⟨(some 93), 93, (.call 17 [(.t 90), (.t 92)]), (some (88, true)), [10, 12, 8, 8]⟩,
    ⟨(some 94), 94, (.pick (.t 88) (.t 93) (.k (.c (.s (.pv (.bool false)))))), none, [8, 13]⟩,
    ⟨(some 95), 95, (.mv (.t 94)), none, [14, 13]⟩,
    ⟨(some 96), 96, (.call 11 []), (some (95, true)), [15, 15]⟩,
    ⟨(some 97), 97, (.pick (.t 95) (.t 96) (.k (.c (.s (.pv (.bool false)))))), none, [15, 16]⟩,
    ⟨(some 4), 4, (.mv (.t 97)), none, [17, 16, 0, 1, 2, 3, 4, 5, 6, 7, 8, 9, 10, 11, 12, 13, 14, 15, 16, 17]⟩])
  .ret)))))))))
theorem fn7 : FnIs Try.prog 7 ac7 [(.t 4)] 98 := ⟨Try.f7, Try.func7, by kernel_rfl, by kernel_rfl, by kernel_rfl⟩
/- lockkeeper/lockkeeperlaw21.HistoryLate -/
def ac8 : ACode := (.seq (.reg [⟨(some 8), 8, (.mv (.k (.c (.s (.pv (.bool false)))))), none, []⟩])
  (.seq (.reg [⟨(some 16), 16, (.mv (.t 3)), none, []⟩,
    ⟨(some 17), 17, (.build [(.s (.pv (.int .i64 0))), (.s (.pv (.int .i64 0))), (.s (.pv (.string ⟨#[]⟩)))] [(0, 1, (.k (.c (.s (.pv (.int .i64 2)))))), (1, 1, (.k (.c (.s (.pv (.int .i64 1))))))]), none, []⟩,
    ⟨(some 18), 18, (.build [(.s (.pv (.int .i64 0))), (.s (.pv (.int .i64 0))), (.s (.pv (.int .i64 0))), (.s (.pv (.string ⟨#[]⟩)))] [(0, 1, (.k (.c (.s (.pv (.int .i64 3))))))]), none, []⟩,
    ⟨(some 19), 19, (.mv (.t 0)), none, []⟩,
    ⟨(some 20), 20, (.mv (.t 1)), none, []⟩,
    ⟨(some 21), 21, (.mv (.t 2)), none, []⟩,
    ⟨(some 22), 22, (.build [(.s (.pv (.int .i64 0))), (.s (.pv (.int .i64 0))), (.s (.pv (.int .i64 0))), (.s (.pv (.string ⟨#[]⟩))), (.s (.pv (.int .i64 0))), (.s (.pv (.int .i64 0))), (.s (.pv (.int .i64 0))), (.s (.pv (.string ⟨#[]⟩))), (.s (.pv (.int .i64 0))), (.s (.pv (.int .i64 0))), (.s (.pv (.int .i64 0)))] [(0, 1, (.t 16)), (1, 3, (.t 17)), (4, 4, (.t 18)), (8, 1, (.t 19)), (9, 1, (.t 20)), (10, 1, (.t 21))]), none, [0, 1, 2, 3, 4, 5]⟩,
    ⟨(some 9), 9, (.mk 52 11 [[(.s (.pv (.int .i64 0))), (.s (.pv (.int .i64 0))), (.s (.pv (.int .i64 0))), (.s (.pv (.string ⟨#[]⟩))), (.s (.pv (.int .i64 0))), (.s (.pv (.int .i64 0))), (.s (.pv (.int .i64 0))), (.s (.pv (.string ⟨#[]⟩))), (.s (.pv (.int .i64 0))), (.s (.pv (.int .i64 0))), (.s (.pv (.int .i64 0)))]]), none, []⟩,
    ⟨none, 86, (.store 11 (.t 9) (.t 22)), none, [7, 6, 0, 1, 2, 3, 4, 5, 6, 7]⟩])
  (.seq (.reg [⟨(some 24), 24, (.build [.zc] []), none, []⟩,
    ⟨(some 25), 25, (.load true 11 (.t 9)), none, []⟩,
    ⟨(some 26), 26, (.bslice 52 11 [(.s (.pv (.int .i64 0))), (.s (.pv (.int .i64 0))), (.s (.pv (.int .i64 0))), (.s (.pv (.string ⟨#[]⟩))), (.s (.pv (.int .i64 0))), (.s (.pv (.int .i64 0))), (.s (.pv (.int .i64 0))), (.s (.pv (.string ⟨#[]⟩))), (.s (.pv (.int .i64 0))), (.s (.pv (.int .i64 0))), (.s (.pv (.int .i64 0)))] 1 [(0, 11, (.t 25))]), none, [1]⟩,
    ⟨(some 27), 27, (.call 13 [(.t 24), (.t 26)]), none, [0, 2]⟩,
    ⟨(some 23), 23, (.mv (.t 27)), none, [3]⟩,
    ⟨(some 28), 28, (.ext 0 (.t 23)), none, [4]⟩,
    ⟨(some 29), 29, (.ext 1 (.t 23)), none, [4]⟩,
    ⟨(some 30), 30, (.ext 2 (.t 23)), none, [4]⟩,
    ⟨(some 10), 10, (.mk 24 1 [[.zc]]), none, []⟩,
    ⟨none, 87, (.store 1 (.t 10) (.t 28)), none, [8, 5, 3, 0, 1, 2, 3, 4, 5, 8]⟩,
    ⟨(some 11), 11, (.mv (.t 29)), none, [6, 9, 0, 1, 2, 3, 4, 5, 6, 8, 9]⟩,
    ⟨(some 12), 12, (.mv (.t 30)), none, [7, 10, 0, 1, 2, 3, 4, 5, 6, 7, 8, 9, 10]⟩])
  (.seq (.seq (.reg [⟨(some 31), 31, (.mv (.t 0)), none, []⟩,
    ⟨(some 32), 32, (.mv (.t 1)), none, []⟩,
    ⟨(some 33), 33, (.bin false .geq (.t 31) (.t 32)), none, [0, 1]⟩,
    ⟨(some 34), 34, (.mv (.t 33)), none, [2]⟩,
    ⟨(some 35), 35, (.mv (.t 1)), (some (34, false)), [3]⟩,
    ⟨(some 36), 36, (.mv (.t 2)), (some (34, false)), [3]⟩,
    ⟨(some 37), 37, (.bin false .geq (.t 35) (.t 36)), (some (34, false)), [4, 5, 3]⟩,
    ⟨(some 38), 38, (.pick (.t 34) (.k (.c (.s (.pv (.bool true))))) (.t 37)), none, [3, 6]⟩])
  (.cond (.t 38) (.seq (.reg [⟨(some 39), 39, (.mv (.t 11)), none, []⟩,
    ⟨(some 40), 40, (.bin false .eql (.t 39) (.k (.c (.s (.pv (.int .i64 0)))))), none, [0]⟩,
    ⟨(some 41), 41, (.mv (.t 40)), none, [1]⟩,
    ⟨(some 42), 42, (.mv (.t 12)), (some (41, true)), [2]⟩,
    ⟨(some 43), 43, (.bin false .eql (.t 42) (.k (.c (.s (.pv (.int .i64 2)))))), (some (41, true)), [3, 2]⟩,
    ⟨(some 44), 44, (.pick (.t 41) (.t 43) (.k (.c (.s (.pv (.bool false)))))), none, [2, 4]⟩,
    ⟨(some 45), 45, (.mv (.t 44)), none, [5, 2]⟩,
    ⟨(some 46), 46, (.call 11 []), (some (45, true)), [6, 6]⟩,
    ⟨(some 47), 47, (.pick (.t 45) (.t 46) (.k (.c (.s (.pv (.bool false)))))), none, [6, 7]⟩,
    ⟨(some 8), 8, (.mv (.t 47)), none, [8, 7, 0, 1, 2, 3, 4, 5, 6, 7, 8]⟩])
  .ret) .skip))
  (.seq (.reg [⟨(some 49), 49, (.build [.zc] []), none, []⟩,
    ⟨(some 50), 50, (.load true 11 (.t 9)), none, []⟩,
    ⟨(some 51), 51, (.mv (.t 3)), none, []⟩,
    ⟨(some 52), 52, (.fld 1 (.t 9)), none, []⟩,
    ⟨(some 53), 53, (.load true 3 (.t 52)), none, [3]⟩,
    ⟨(some 54), 54, (.fld 4 (.t 9)), none, []⟩,
    ⟨(some 55), 55, (.load true 4 (.t 54)), none, [5]⟩,
    ⟨(some 56), 56, (.mv (.t 0)), none, []⟩,
    ⟨(some 57), 57, (.mv (.t 1)), none, []⟩,
    ⟨(some 58), 58, (.mv (.t 2)), none, []⟩,
    ⟨(some 59), 59, (.build [(.s (.pv (.int .i64 0))), (.s (.pv (.int .i64 0))), (.s (.pv (.int .i64 0))), (.s (.pv (.string ⟨#[]⟩))), (.s (.pv (.int .i64 0))), (.s (.pv (.int .i64 0))), (.s (.pv (.int .i64 0))), (.s (.pv (.string ⟨#[]⟩))), (.s (.pv (.int .i64 0))), (.s (.pv (.int .i64 0))), (.s (.pv (.int .i64 0)))] [(0, 1, (.t 51)), (1, 3, (.t 53)), (4, 4, (.t 55)), (8, 1, (.t 56)), (9, 1, (.t 57)), (10, 1, (.t 58))]), none, [2, 4, 6, 7, 8, 9]⟩,
    ⟨(some 60), 60, (.bslice 52 11 [(.s (.pv (.int .i64 0))), (.s (.pv (.int .i64 0))), (.s (.pv (.int .i64 0))), (.s (.pv (.string ⟨#[]⟩))), (.s (.pv (.int .i64 0))), (.s (.pv (.int .i64 0))), (.s (.pv (.int .i64 0))), (.s (.pv (.string ⟨#[]⟩))), (.s (.pv (.int .i64 0))), (.s (.pv (.int .i64 0))), (.s (.pv (.int .i64 0)))] 2 [(0, 11, (.t 50)), (11, 11, (.t 59))]), none, [1, 10]⟩,
    ⟨(some 61), 61, (.call 13 [(.t 49), (.t 60)]), none, [0, 11]⟩,
    ⟨(some 48), 48, (.mv (.t 61)), none, [12]⟩,
    ⟨(some 62), 62, (.ext 0 (.t 48)), none, [13]⟩,
    ⟨(some 63), 63, (.ext 1 (.t 48)), none, [13]⟩,
    ⟨(some 64), 64, (.ext 2 (.t 48)), none, [13]⟩,
    ⟨(some 13), 13, (.mk 24 1 [[.zc]]), none, []⟩,
    ⟨none, 96, (.store 1 (.t 13) (.t 62)), none, [17, 14, 12, 0, 1, 2, 3, 4, 5, 6, 7, 8, 9, 10, 11, 12, 13, 14, 17]⟩,
    ⟨(some 14), 14, (.mv (.t 63)), none, [15, 18, 0, 1, 2, 3, 4, 5, 6, 7, 8, 9, 10, 11, 12, 13, 14, 15, 17, 18]⟩,
    ⟨(some 15), 15, (.mv (.t 64)), none, [16, 19, 0, 1, 2, 3, 4, 5, 6, 7, 8, 9, 10, 11, 12, 13, 14, 15, 16, 17, 18, 19]⟩])
  (.seq (.reg [⟨(some 65), 65, (.mv (.t 11)), none, []⟩,
    ⟨(some 66), 66, (.bin false .eql (.t 65) (.k (.c (.s (.pv (.int .i64 1)))))), none, [0]⟩,
    ⟨(some 67), 67, (.mv (.t 66)), none, [1]⟩,
    ⟨(some 68), 68, (.mv (.t 12)), (some (67, true)), [2]⟩,
    ⟨(some 69), 69, (.bin false .eql (.t 68) (.k (.c (.s (.pv (.int .i64 0)))))), (some (67, true)), [3, 2]⟩,
    ⟨(some 70), 70, (.pick (.t 67) (.t 69) (.k (.c (.s (.pv (.bool false)))))), none, [2, 4]⟩,
    ⟨(some 71), 71, (.mv (.t 70)), none, [5, 2]⟩,
    ⟨(some 72), 72, (.mv (.t 15)), (some (71, true)), [6]⟩,
    ⟨(some 73), 73, (.bin false .eql (.t 72) (.k (.c (.s (.pv (.int .i64 2)))))), (some (71, true)), [7, 6]⟩,
    ⟨(some 74), 74, (.pick (.t 71) (.t 73) (.k (.c (.s (.pv (.bool false)))))), none, [6, 8]⟩,
    ⟨(some 75), 75, (.mv (.t 74)), none, [9, 6]⟩,
    ⟨(some 76), 76, (.call 11 []), (some (75, true)), [10, 10]⟩,
    ⟨(some 77), 77, (.pick (.t 75) (.t 76) (.k (.c (.s (.pv (.bool false)))))), none, [10, 11]⟩,
    ⟨(some 8), 8, (.mv (.t 77)), none, [12, 11, 0, 1, 2, 3, 4, 5, 6, 7, 8, 9, 10, 11, 12]⟩])
  .ret))))))
theorem fn8 : FnIs Try.prog 8 ac8 [(.t 8)] 78 := ⟨Try.f8, Try.func8, by kernel_rfl, by kernel_rfl, by kernel_rfl⟩
/- lockkeeper/lockkeeperlaw21.small -/
def ac9 : ACode := (.seq (.reg [⟨(some 2), 2, (.mv (.k (.c (.s (.pv (.bool false)))))), none, []⟩])
  (.seq (.seq (.reg [⟨(some 3), 3, (.mv (.k (.c (.s (.pv (.int .i64 0)))))), none, []⟩])
  (.block 0 (.loop (.seq (.seq (.reg [⟨(some 4), 4, (.mv (.t 3)), none, []⟩,
    ⟨(some 5), 5, (.mv (.t 0)), none, []⟩,
    ⟨(some 6), 6, (.len (.t 5)), none, [1]⟩,
    ⟨(some 7), 7, (.bin false .lss (.t 4) (.t 6)), none, [0, 2]⟩,
    ⟨(some 8), 8, (.mv (.t 7)), none, [3]⟩,
    ⟨(some 9), 9, (.mv (.t 3)), (some (8, true)), [4]⟩,
    ⟨(some 10), 10, (.bin false .lss (.t 9) (.k (.c (.s (.pv (.int .i64 60)))))), (some (8, true)), [5, 4]⟩,
    ⟨(some 11), 11, (.pick (.t 8) (.t 10) (.k (.c (.s (.pv (.bool false)))))), none, [4, 6]⟩])
  (.cond (.t 11) .skip (.exit 0)))
  (.seq (.block 1 (.seq (.reg [⟨(some 14), 14, (.mv (.t 0)), none, []⟩,
    ⟨(some 15), 15, (.mv (.t 3)), none, []⟩,
    ⟨(some 16), 16, (.idx 11 (.t 14) (.t 15)), none, [0, 1]⟩,
    ⟨(some 17), 17, (.fld 1 (.t 16)), none, [2]⟩,
    ⟨(some 18), 18, (.fld 2 (.t 17)), none, [3]⟩,
    ⟨(some 19), 19, (.load false 1 (.t 18)), none, [4]⟩,
    ⟨(some 20), 20, (.slen (.t 19)), none, [5]⟩,
    ⟨(some 21), 21, (.bin false .gtr (.t 20) (.k (.c (.s (.pv (.int .i64 100)))))), none, [6]⟩,
    ⟨(some 22), 22, (.mv (.t 21)), none, [7]⟩,
    ⟨(some 23), 23, (.mv (.t 0)), (some (22, false)), [8]⟩,
    ⟨(some 24), 24, (.mv (.t 3)), (some (22, false)), [8]⟩,
    ⟨(some 25), 25, (.idx 11 (.t 23) (.t 24)), (some (22, false)), [9, 10, 8]⟩,
    ⟨(some 26), 26, (.fld 4 (.t 25)), (some (22, false)), [11, 8]⟩,
    ⟨(some 27), 27, (.fld 1 (.t 26)), (some (22, false)), [12, 8]⟩,
    ⟨(some 28), 28, (.fld 2 (.t 27)), (some (22, false)), [13, 8]⟩,
    ⟨(some 29), 29, (.load false 1 (.t 28)), (some (22, false)), [14, 8]⟩,
    ⟨(some 30), 30, (.slen (.t 29)), (some (22, false)), [15, 8]⟩,
    ⟨(some 31), 31, (.bin false .gtr (.t 30) (.k (.c (.s (.pv (.int .i64 100)))))), (some (22, false)), [16, 8]⟩,
    ⟨(some 32), 32, (.pick (.t 22) (.k (.c (.s (.pv (.bool true))))) (.t 31)), none, [8, 17]⟩])
  (.cond (.t 32) (.seq (.reg [⟨(some 2), 2, (.mv (.k (.c (.s (.pv (.bool false)))))), none, []⟩])
  .ret) .skip)))
  (.reg [⟨(some 12), 12, (.mv (.t 3)), none, []⟩,
    ⟨(some 13), 13, (.bin false .add (.t 12) (.k (.c (.s (.pv (.int .i64 1)))))), none, [0]⟩,
    ⟨(some 3), 3, (.mv (.t 13)), none, [1, 0, 1]⟩]))))))
  (.seq (.reg [⟨(some 33), 33, (.mv (.t 0)), none, []⟩,
    ⟨(some 34), 34, (.len (.t 33)), none, [0]⟩,
    ⟨(some 35), 35, (.bin false .leq (.t 34) (.k (.c (.s (.pv (.int .i64 60)))))), none, [1]⟩,
    ⟨(some 2), 2, (.mv (.t 35)), none, [2, 0, 1, 2]⟩])
  .ret)))
theorem fn9 : FnIs Try.prog 9 ac9 [(.t 2)] 36 := ⟨Try.f9, Try.func9, by kernel_rfl, by kernel_rfl, by kernel_rfl⟩
/- lockkeeper/lockkeeperlaw21.pages -/
def ac10 : ACode := (.seq (.reg [⟨(some 1), 1, (.box 24 1 (.t 0)), none, []⟩,
    ⟨(some 2), 2, (.mv (.k (.c (.s (.pv (.bool false)))))), none, []⟩])
  (.seq (.seq (.reg [⟨(some 5), 5, (.fld 0 (.t 1)), none, []⟩,
    ⟨(some 6), 6, (.load false 1 (.t 5)), none, [0]⟩,
    ⟨(some 7), 7, (.len (.t 6)), none, [1]⟩,
    ⟨(some 8), 8, (.mv (.k (.c (.s (.pv (.int .i64 0)))))), none, []⟩])
  (.block 0 (.loop (.seq (.reg [⟨(some 9), 9, (.bin false .lss (.t 8) (.t 7)), none, []⟩])
  (.seq (.cond (.t 9) .skip (.exit 0))
  (.seq (.block 1 (.seq (.reg [⟨(some 10), 10, (.mv (.t 8)), none, []⟩,
    ⟨(some 11), 11, (.idx 3 (.t 6) (.t 8)), none, []⟩,
    ⟨(some 12), 12, (.load true 3 (.t 11)), none, [1]⟩,
    ⟨(some 4), 4, (.mk 41 3 [[(.s (.pv (.int .i64 0))), (.s (.pv (.int .i64 0))), (.s (.pv (.string ⟨#[]⟩)))]]), none, []⟩,
    ⟨(some 3), 3, (.mv (.t 10)), none, [0, 0, 1, 2, 3]⟩,
    ⟨none, 31, (.store 3 (.t 4) (.t 12)), none, [3, 2, 4, 0, 1, 2, 3, 4]⟩])
  (.seq (.reg [⟨(some 13), 13, (.mv (.t 3)), none, []⟩,
    ⟨(some 14), 14, (.bin false .lss (.t 13) (.k (.c (.s (.pv (.int .i64 40)))))), none, [0]⟩,
    ⟨(some 15), 15, (.mv (.t 14)), none, [1]⟩,
    ⟨(some 16), 16, (.fld 2 (.t 4)), (some (15, true)), [2]⟩,
    ⟨(some 17), 17, (.load false 1 (.t 16)), (some (15, true)), [3, 2]⟩,
    ⟨(some 18), 18, (.slen (.t 17)), (some (15, true)), [4, 2]⟩,
    ⟨(some 19), 19, (.bin false .gtr (.t 18) (.k (.c (.s (.pv (.int .i64 100)))))), (some (15, true)), [5, 2]⟩,
    ⟨(some 20), 20, (.pick (.t 15) (.t 19) (.k (.c (.s (.pv (.bool false)))))), none, [2, 6]⟩])
  (.cond (.t 20) (.seq (.reg [⟨(some 2), 2, (.mv (.k (.c (.s (.pv (.bool false)))))), none, []⟩])
  .ret) .skip))))
  (.reg [⟨(some 21), 21, (.bin false .add (.t 8) (.k (.c (.s (.pv (.int .i64 1)))))), none, []⟩,
    ⟨(some 8), 8, (.mv (.t 21)), none, [0]⟩])))))))
  (.seq (.reg [⟨(some 22), 22, (.fld 0 (.t 1)), none, []⟩,
    ⟨(some 23), 23, (.load false 1 (.t 22)), none, [0]⟩,
    ⟨(some 24), 24, (.len (.t 23)), none, [1]⟩,
    ⟨(some 25), 25, (.bin false .leq (.t 24) (.k (.c (.s (.pv (.int .i64 40)))))), none, [2]⟩,
    ⟨(some 2), 2, (.mv (.t 25)), none, [3, 0, 1, 2, 3]⟩])
  .ret)))
theorem fn10 : FnIs Try.prog 10 ac10 [(.t 2)] 26 := ⟨Try.f10, Try.func10, by kernel_rfl, by kernel_rfl, by kernel_rfl⟩
/- lockkeeper/lockkeeperlaw21.awake -/
def ac11 : ACode := (.seq (.reg [⟨(some 0), 0, (.mv (.k (.c (.s (.pv (.bool false)))))), none, []⟩])
  (.seq (.reg [⟨(some 9), 9, (.build [(.s (.pv (.int .i64 0))), (.s (.pv (.int .i64 0))), (.s (.pv (.string ⟨#[]⟩)))] [(0, 1, (.k (.c (.s (.pv (.int .i64 1)))))), (1, 1, (.k (.c (.s (.pv (.int .i64 1))))))]), none, []⟩,
    ⟨(some 10), 10, (.build [(.s (.pv (.int .i64 0))), (.s (.pv (.int .i64 0))), (.s (.pv (.string ⟨#[]⟩)))] [(0, 1, (.k (.c (.s (.pv (.int .i64 1)))))), (1, 1, (.k (.c (.s (.pv (.int .i64 1))))))]), none, []⟩,
    ⟨(some 11), 11, (.build [(.s (.pv (.int .i64 0))), (.s (.pv (.int .i64 0))), (.s (.pv (.int .i64 0))), (.s (.pv (.string ⟨#[]⟩)))] [(1, 3, (.t 10))]), none, [1]⟩,
    ⟨(some 12), 12, (.build [(.s (.pv (.int .i64 0))), (.s (.pv (.int .i64 0))), (.s (.pv (.int .i64 0))), (.s (.pv (.string ⟨#[]⟩))), (.s (.pv (.int .i64 0))), (.s (.pv (.int .i64 0))), (.s (.pv (.int .i64 0))), (.s (.pv (.string ⟨#[]⟩))), (.s (.pv (.int .i64 0))), (.s (.pv (.int .i64 0))), (.s (.pv (.int .i64 0)))] [(1, 3, (.t 9)), (4, 4, (.t 11)), (8, 1, (.k (.c (.s (.pv (.int .i64 0)))))), (9, 1, (.k (.c (.s (.pv (.int .i64 1)))))), (10, 1, (.k (.c (.s (.pv (.int .i64 2))))))]), none, [0, 2]⟩,
    ⟨(some 1), 1, (.mk 52 11 [[(.s (.pv (.int .i64 0))), (.s (.pv (.int .i64 0))), (.s (.pv (.int .i64 0))), (.s (.pv (.string ⟨#[]⟩))), (.s (.pv (.int .i64 0))), (.s (.pv (.int .i64 0))), (.s (.pv (.int .i64 0))), (.s (.pv (.string ⟨#[]⟩))), (.s (.pv (.int .i64 0))), (.s (.pv (.int .i64 0))), (.s (.pv (.int .i64 0)))]]), none, []⟩,
    ⟨none, 72, (.store 11 (.t 1) (.t 12)), none, [4, 3, 0, 1, 2, 3, 4]⟩])
  (.seq (.reg [⟨(some 13), 13, (.build [(.s (.pv (.int .i64 0))), (.s (.pv (.int .i64 0))), (.s (.pv (.string ⟨#[]⟩)))] [(0, 1, (.k (.c (.s (.pv (.int .i64 2)))))), (1, 1, (.k (.c (.s (.pv (.int .i64 1))))))]), none, []⟩,
    ⟨(some 14), 14, (.build [(.s (.pv (.int .i64 0))), (.s (.pv (.int .i64 0))), (.s (.pv (.string ⟨#[]⟩)))] [(0, 1, (.k (.c (.s (.pv (.int .i64 1)))))), (1, 1, (.k (.c (.s (.pv (.int .i64 2))))))]), none, []⟩,
    ⟨(some 15), 15, (.build [(.s (.pv (.int .i64 0))), (.s (.pv (.int .i64 0))), (.s (.pv (.int .i64 0))), (.s (.pv (.string ⟨#[]⟩)))] [(1, 3, (.t 14))]), none, [1]⟩,
    ⟨(some 16), 16, (.build [(.s (.pv (.int .i64 0))), (.s (.pv (.int .i64 0))), (.s (.pv (.int .i64 0))), (.s (.pv (.string ⟨#[]⟩))), (.s (.pv (.int .i64 0))), (.s (.pv (.int .i64 0))), (.s (.pv (.int .i64 0))), (.s (.pv (.string ⟨#[]⟩))), (.s (.pv (.int .i64 0))), (.s (.pv (.int .i64 0))), (.s (.pv (.int .i64 0)))] [(1, 3, (.t 13)), (4, 4, (.t 15)), (8, 1, (.k (.c (.s (.pv (.int .i64 3)))))), (9, 1, (.k (.c (.s (.pv (.int .i64 4)))))), (10, 1, (.k (.c (.s (.pv (.int .i64 5))))))]), none, [0, 2]⟩,
    ⟨(some 2), 2, (.mk 52 11 [[(.s (.pv (.int .i64 0))), (.s (.pv (.int .i64 0))), (.s (.pv (.int .i64 0))), (.s (.pv (.string ⟨#[]⟩))), (.s (.pv (.int .i64 0))), (.s (.pv (.int .i64 0))), (.s (.pv (.int .i64 0))), (.s (.pv (.string ⟨#[]⟩))), (.s (.pv (.int .i64 0))), (.s (.pv (.int .i64 0))), (.s (.pv (.int .i64 0)))]]), none, []⟩,
    ⟨none, 72, (.store 11 (.t 2) (.t 16)), none, [4, 3, 0, 1, 2, 3, 4]⟩])
  (.seq (.reg [⟨(some 18), 18, (.build [.zc] []), none, []⟩,
    ⟨(some 19), 19, (.load true 11 (.t 1)), none, []⟩,
    ⟨(some 20), 20, (.bslice 52 11 [(.s (.pv (.int .i64 0))), (.s (.pv (.int .i64 0))), (.s (.pv (.int .i64 0))), (.s (.pv (.string ⟨#[]⟩))), (.s (.pv (.int .i64 0))), (.s (.pv (.int .i64 0))), (.s (.pv (.int .i64 0))), (.s (.pv (.string ⟨#[]⟩))), (.s (.pv (.int .i64 0))), (.s (.pv (.int .i64 0))), (.s (.pv (.int .i64 0)))] 1 [(0, 11, (.t 19))]), none, [1]⟩,
    ⟨(some 21), 21, (.call 13 [(.t 18), (.t 20)]), none, [0, 2]⟩,
    ⟨(some 17), 17, (.mv (.t 21)), none, [3]⟩,
    ⟨(some 22), 22, (.ext 0 (.t 17)), none, [4]⟩,
    ⟨(some 23), 23, (.ext 1 (.t 17)), none, [4]⟩,
    ⟨(some 24), 24, (.ext 2 (.t 17)), none, [4]⟩,
    ⟨(some 3), 3, (.mk 24 1 [[.zc]]), none, []⟩,
    ⟨none, 76, (.store 1 (.t 3) (.t 22)), none, [8, 5, 3, 0, 1, 2, 3, 4, 5, 8]⟩,
    ⟨(some 4), 4, (.mv (.t 23)), none, [6, 9, 0, 1, 2, 3, 4, 5, 6, 8, 9]⟩,
    ⟨(some 5), 5, (.mv (.t 24)), none, [7, 10, 0, 1, 2, 3, 4, 5, 6, 7, 8, 9, 10]⟩])
  (.seq (.reg [⟨(some 26), 26, (.build [.zc] []), none, []⟩,
    ⟨(some 27), 27, (.load true 11 (.t 2)), none, []⟩,
    ⟨(some 28), 28, (.load true 11 (.t 1)), none, []⟩,
    ⟨(some 29), 29, (.bslice 52 11 [(.s (.pv (.int .i64 0))), (.s (.pv (.int .i64 0))), (.s (.pv (.int .i64 0))), (.s (.pv (.string ⟨#[]⟩))), (.s (.pv (.int .i64 0))), (.s (.pv (.int .i64 0))), (.s (.pv (.int .i64 0))), (.s (.pv (.string ⟨#[]⟩))), (.s (.pv (.int .i64 0))), (.s (.pv (.int .i64 0))), (.s (.pv (.int .i64 0)))] 2 [(0, 11, (.t 27)), (11, 11, (.t 28))]), none, [1, 2]⟩,
    ⟨(some 30), 30, (.call 13 [(.t 26), (.t 29)]), none, [0, 3]⟩,
    ⟨(some 25), 25, (.mv (.t 30)), none, [4]⟩,
    ⟨(some 31), 31, (.ext 0 (.t 25)), none, [5]⟩,
    ⟨(some 32), 32, (.ext 1 (.t 25)), none, [5]⟩,
    ⟨(some 33), 33, (.ext 2 (.t 25)), none, [5]⟩,
    ⟨(some 6), 6, (.mk 24 1 [[.zc]]), none, []⟩,
    ⟨none, 77, (.store 1 (.t 6) (.t 31)), none, [9, 6, 4, 0, 1, 2, 3, 4, 5, 6, 9]⟩,
    ⟨(some 7), 7, (.mv (.t 32)), none, [7, 10, 0, 1, 2, 3, 4, 5, 6, 7, 9, 10]⟩,
    ⟨(some 8), 8, (.mv (.t 33)), none, [8, 11, 0, 1, 2, 3, 4, 5, 6, 7, 8, 9, 10, 11]⟩])
  (.seq (.reg [⟨(some 34), 34, (.fld 0 (.t 3)), none, []⟩,
    ⟨(some 35), 35, (.load false 1 (.t 34)), none, [0]⟩,
    ⟨(some 36), 36, (.len (.t 35)), none, [1]⟩,
    ⟨(some 37), 37, (.bin false .eql (.t 36) (.k (.c (.s (.pv (.int .i64 1)))))), none, [2]⟩,
    ⟨(some 38), 38, (.mv (.t 37)), none, [3]⟩,
    ⟨(some 39), 39, (.mv (.t 4)), (some (38, true)), [4]⟩,
    ⟨(some 40), 40, (.bin false .eql (.t 39) (.k (.c (.s (.pv (.int .i64 1)))))), (some (38, true)), [5, 4]⟩,
    ⟨(some 41), 41, (.pick (.t 38) (.t 40) (.k (.c (.s (.pv (.bool false)))))), none, [4, 6]⟩,
    ⟨(some 42), 42, (.mv (.t 41)), none, [7, 4]⟩,
    ⟨(some 43), 43, (.mv (.t 5)), (some (42, true)), [8]⟩,
    ⟨(some 44), 44, (.bin false .eql (.t 43) (.k (.c (.s (.pv (.int .i64 0)))))), (some (42, true)), [9, 8]⟩,
    ⟨(some 45), 45, (.pick (.t 42) (.t 44) (.k (.c (.s (.pv (.bool false)))))), none, [8, 10]⟩,
    ⟨(some 46), 46, (.mv (.t 45)), none, [11, 8]⟩,
    ⟨(some 47), 47, (.mv (.t 7)), (some (46, true)), [12]⟩,
    ⟨(some 48), 48, (.bin false .eql (.t 47) (.k (.c (.s (.pv (.int .i64 1)))))), (some (46, true)), [13, 12]⟩,
    ⟨(some 49), 49, (.pick (.t 46) (.t 48) (.k (.c (.s (.pv (.bool false)))))), none, [12, 14]⟩,
    ⟨(some 50), 50, (.mv (.t 49)), none, [15, 12]⟩,
    ⟨(some 51), 51, (.mv (.t 8)), (some (50, true)), [16]⟩,
    ⟨(some 52), 52, (.bin false .eql (.t 51) (.k (.c (.s (.pv (.int .i64 2)))))), (some (50, true)), [17, 16]⟩,
    ⟨(some 53), 53, (.pick (.t 50) (.t 52) (.k (.c (.s (.pv (.bool false)))))), none, [16, 18]⟩,
    ⟨(some 54), 54, (.mv (.t 53)), none, [19, 16]⟩,
    ⟨(some 55), 55, (.load true 11 (.t 1)), (some (54, true)), [20]⟩,
    ⟨(some 56), 56, (.load true 11 (.t 2)), (some (54, true)), [20]⟩,
    ⟨(some 57), 57, (.bslice 52 11 [(.s (.pv (.int .i64 0))), (.s (.pv (.int .i64 0))), (.s (.pv (.int .i64 0))), (.s (.pv (.string ⟨#[]⟩))), (.s (.pv (.int .i64 0))), (.s (.pv (.int .i64 0))), (.s (.pv (.int .i64 0))), (.s (.pv (.string ⟨#[]⟩))), (.s (.pv (.int .i64 0))), (.s (.pv (.int .i64 0))), (.s (.pv (.int .i64 0)))] 2 [(0, 11, (.t 55)), (11, 11, (.t 56))]), (some (54, true)), [21, 22, 20]⟩,
    ⟨(some 58), 58, (.call 18 [(.t 57)]), (some (54, true)), [23, 20, 20]⟩,
    ⟨(some 59), 59, (.pick (.t 54) (.t 58) (.k (.c (.s (.pv (.bool false)))))), none, [20, 24]⟩,
    ⟨(some 60), 60, (.mv (.t 59)), none, [25, 24]⟩,
    ⟨(some 61), 61, (.load true 11 (.t 1)), (some (60, true)), [26]⟩,
    ⟨(some 62), 62, (.load true 11 (.t 1)), (some (60, true)), [26]⟩,
    ⟨(some 63), 63, (.bslice 52 11 [(.s (.pv (.int .i64 0))), (.s (.pv (.int .i64 0))), (.s (.pv (.int .i64 0))), (.s (.pv (.string ⟨#[]⟩))), (.s (.pv (.int .i64 0))), (.s (.pv (.int .i64 0))), (.s (.pv (.int .i64 0))), (.s (.pv (.string ⟨#[]⟩))), (.s (.pv (.int .i64 0))), (.s (.pv (.int .i64 0))), (.s (.pv (.int .i64 0)))] 2 [(0, 11, (.t 61)), (11, 11, (.t 62))]), (some (60, true)), [27, 28, 26]⟩,
    ⟨(some 64), 64, (.call 18 [(.t 63)]), (some (60, true)), [29, 26, 26]⟩,
    ⟨(some 65), 65, (.not (.t 64)), (some (60, true)), [30, 26]⟩,
    ⟨(some 66), 66, (.pick (.t 60) (.t 65) (.k (.c (.s (.pv (.bool false)))))), none, [26, 31]⟩,
    ⟨(some 0), 0, (.mv (.t 66)), none, [32, 30, 0, 1, 2, 3, 4, 5, 6, 7, 8, 9, 10, 11, 12, 13, 14, 15, 16, 17, 18, 19, 20, 21, 22, 23, 24, 25, 26, 27, 28, 29, 30, 31, 32]⟩])
  .ret))))))
theorem fn11 : FnIs Try.prog 11 ac11 [(.t 0)] 67 := ⟨Try.f11, Try.func11, by kernel_rfl, by kernel_rfl, by kernel_rfl⟩
/- lockkeeper/lockkeeperlaw19.Events -/
def ac12 : ACode := (.seq (.reg [⟨(some 2), 2, (.mv (.k (.c .zc))), none, []⟩])
  (.seq (.reg [⟨(some 3), 3, (.mv (.k (.c .zc))), none, []⟩])
  (.seq (.seq (.reg [⟨(some 6), 6, (.mv (.t 0)), none, []⟩,
    ⟨(some 7), 7, (.len (.t 6)), none, [0]⟩,
    ⟨(some 8), 8, (.mv (.k (.c (.s (.pv (.int .i64 0)))))), none, []⟩])
  (.block 0 (.loop (.seq (.reg [⟨(some 9), 9, (.bin false .lss (.t 8) (.t 7)), none, []⟩])
  (.seq (.cond (.t 9) .skip (.exit 0))
  (.seq (.block 1 (.seq (.reg [⟨(some 10), 10, (.idx 11 (.t 6) (.t 8)), none, []⟩,
    ⟨(some 11), 11, (.load true 11 (.t 10)), none, [0]⟩,
    ⟨(some 5), 5, (.mk 52 11 [[(.s (.pv (.int .i64 0))), (.s (.pv (.int .i64 0))), (.s (.pv (.int .i64 0))), (.s (.pv (.string ⟨#[]⟩))), (.s (.pv (.int .i64 0))), (.s (.pv (.int .i64 0))), (.s (.pv (.int .i64 0))), (.s (.pv (.string ⟨#[]⟩))), (.s (.pv (.int .i64 0))), (.s (.pv (.int .i64 0))), (.s (.pv (.int .i64 0)))]]), none, []⟩,
    ⟨none, 37, (.store 11 (.t 5) (.t 11)), none, [2, 1, 0, 1, 2]⟩])
  (.reg [⟨(some 12), 12, (.mv (.t 3)), none, []⟩,
    ⟨(some 13), 13, (.fld 0 (.t 5)), none, []⟩,
    ⟨(some 14), 14, (.load false 1 (.t 13)), none, [1]⟩,
    ⟨(some 15), 15, (.fld 1 (.t 5)), none, []⟩,
    ⟨(some 16), 16, (.load true 3 (.t 15)), none, [3]⟩,
    ⟨(some 17), 17, (.fld 4 (.t 5)), none, []⟩,
    ⟨(some 18), 18, (.fld 0 (.t 17)), none, [5]⟩,
    ⟨(some 19), 19, (.load false 1 (.t 18)), none, [6]⟩,
    ⟨(some 20), 20, (.fld 4 (.t 5)), none, []⟩,
    ⟨(some 21), 21, (.fld 1 (.t 20)), none, [8]⟩,
    ⟨(some 22), 22, (.load true 3 (.t 21)), none, [9]⟩,
    ⟨(some 23), 23, (.fld 8 (.t 5)), none, []⟩,
    ⟨(some 24), 24, (.load false 1 (.t 23)), none, [11]⟩,
    ⟨(some 25), 25, (.fld 9 (.t 5)), none, []⟩,
    ⟨(some 26), 26, (.load false 1 (.t 25)), none, [13]⟩,
    ⟨(some 27), 27, (.fld 10 (.t 5)), none, []⟩,
    ⟨(some 28), 28, (.load false 1 (.t 27)), none, [15]⟩,
    ⟨(some 29), 29, (.build [(.s (.pv (.int .i64 0))), (.s (.pv (.int .i64 0))), (.s (.pv (.int .i64 0))), (.s (.pv (.string ⟨#[]⟩))), (.s (.pv (.int .i64 0))), (.s (.pv (.int .i64 0))), (.s (.pv (.int .i64 0))), (.s (.pv (.string ⟨#[]⟩))), (.s (.pv (.int .i64 0))), (.s (.pv (.int .i64 0))), (.s (.pv (.int .i64 0)))] [(0, 1, (.t 14)), (1, 3, (.t 16)), (4, 1, (.t 19)), (5, 3, (.t 22)), (8, 1, (.t 24)), (9, 1, (.t 26)), (10, 1, (.t 28))]), none, [2, 4, 7, 10, 12, 14, 16]⟩,
    ⟨(some 30), 30, (.bslice 43 11 [(.s (.pv (.int .i64 0))), (.s (.pv (.int .i64 0))), (.s (.pv (.int .i64 0))), (.s (.pv (.string ⟨#[]⟩))), (.s (.pv (.int .i64 0))), (.s (.pv (.int .i64 0))), (.s (.pv (.int .i64 0))), (.s (.pv (.string ⟨#[]⟩))), (.s (.pv (.int .i64 0))), (.s (.pv (.int .i64 0))), (.s (.pv (.int .i64 0)))] 1 [(0, 11, (.t 29))]), none, [17]⟩,
    ⟨(some 31), 31, (.app 43 11 104 (.t 12) (.t 30)), none, [0, 18]⟩,
    ⟨(some 3), 3, (.mv (.t 31)), none, [19, 19, 0, 1, 2, 3, 4, 5, 6, 7, 8, 9, 10, 11, 12, 13, 14, 15, 16, 17, 18, 19]⟩])))
  (.reg [⟨(some 32), 32, (.bin false .add (.t 8) (.k (.c (.s (.pv (.int .i64 1)))))), none, []⟩,
    ⟨(some 8), 8, (.mv (.t 32)), none, [0]⟩])))))))
  (.seq (.reg [⟨(some 33), 33, (.mv (.t 3)), none, []⟩,
    ⟨(some 2), 2, (.mv (.t 33)), none, [0, 0]⟩])
  .ret))))
theorem fn12 : FnIs Try.prog 12 ac12 [(.t 2)] 34 := ⟨Try.f12, Try.func12, by kernel_rfl, by kernel_rfl, by kernel_rfl⟩
/- lockkeeper/history.Check -/
def ac13 : ACode := (.seq (.reg [⟨(some 2), 2, (.box 24 1 (.t 0)), none, []⟩,
    ⟨(some 4), 4, (.mk 24 1 [[.zc]]), none, []⟩,
    ⟨(some 5), 5, (.mv (.k (.c (.s (.pv (.int .i64 0)))))), none, []⟩,
    ⟨(some 6), 6, (.mv (.k (.c (.s (.pv (.int .i64 0)))))), none, [2]⟩])
  (.seq (.block 0 (.seq (.reg [⟨(some 12), 12, (.mv (.t 1)), none, []⟩,
    ⟨(some 13), 13, (.len (.t 12)), none, [0]⟩,
    ⟨(some 14), 14, (.bin false .gtr (.t 13) (.k (.c (.s (.pv (.int .i64 400)))))), none, [1]⟩,
    ⟨(some 11), 11, (.mv (.t 14)), none, [2]⟩])
  (.cond (.t 11) (.seq (.reg [⟨(some 15), 15, (.load true 1 (.t 2)), none, []⟩,
    ⟨none, 57, (.store 1 (.t 4) (.t 15)), none, [0, 0]⟩,
    ⟨(some 5), 5, (.mv (.k (.c (.s (.pv (.int .i64 0)))))), none, [1, 0, 1]⟩,
    ⟨(some 6), 6, (.mv (.k (.c (.s (.pv (.int .i64 5)))))), none, [2, 0, 1, 2]⟩])
  .ret) (.seq (.reg [⟨(some 17), 17, (.load true 1 (.t 2)), none, []⟩,
    ⟨(some 18), 18, (.call 22 [(.t 17)]), none, [0]⟩,
    ⟨(some 19), 19, (.not (.t 18)), none, [1]⟩,
    ⟨(some 16), 16, (.mv (.t 19)), none, [2, 1]⟩])
  (.cond (.t 16) (.seq (.reg [⟨(some 20), 20, (.load true 1 (.t 2)), none, []⟩,
    ⟨none, 57, (.store 1 (.t 4) (.t 20)), none, [0, 0]⟩,
    ⟨(some 5), 5, (.mv (.k (.c (.s (.pv (.int .i64 0)))))), none, [1, 0, 1]⟩,
    ⟨(some 6), 6, (.mv (.k (.c (.s (.pv (.int .i64 1)))))), none, [2, 0, 1, 2]⟩])
  .ret) (.seq (.reg [⟨(some 22), 22, (.mv (.t 1)), none, []⟩,
    ⟨(some 23), 23, (.call 18 [(.t 22)]), none, [0]⟩,
    ⟨(some 24), 24, (.not (.t 23)), none, [1]⟩,
    ⟨(some 21), 21, (.mv (.t 24)), none, [2, 1]⟩])
  (.cond (.t 21) (.seq (.reg [⟨(some 25), 25, (.load true 1 (.t 2)), none, []⟩,
    ⟨none, 57, (.store 1 (.t 4) (.t 25)), none, [0, 0]⟩,
    ⟨(some 5), 5, (.mv (.k (.c (.s (.pv (.int .i64 0)))))), none, [1, 0, 1]⟩,
    ⟨(some 6), 6, (.mv (.k (.c (.s (.pv (.int .i64 2)))))), none, [2, 0, 1, 2]⟩])
  .ret) .skip)))))))
  (.seq (.seq (.reg [⟨(some 26), 26, (.mv (.t 1)), none, []⟩,
    ⟨(some 27), 27, (.call 15 [(.t 26)]), none, [0]⟩,
    ⟨(some 28), 28, (.len (.t 27)), none, [1]⟩,
    ⟨(some 29), 29, (.mv (.k (.c (.s (.pv (.int .i64 0)))))), none, []⟩])
  (.block 1 (.loop (.seq (.reg [⟨(some 30), 30, (.bin false .lss (.t 29) (.t 28)), none, []⟩])
  (.seq (.cond (.t 30) .skip (.exit 1))
  (.seq (.block 2 (.seq (.reg [⟨(some 31), 31, (.mv (.t 29)), none, []⟩,
    ⟨(some 32), 32, (.idx 11 (.t 27) (.t 29)), none, []⟩,
    ⟨(some 33), 33, (.load true 11 (.t 32)), none, [1]⟩,
    ⟨(some 8), 8, (.mk 52 11 [[(.s (.pv (.int .i64 0))), (.s (.pv (.int .i64 0))), (.s (.pv (.int .i64 0))), (.s (.pv (.string ⟨#[]⟩))), (.s (.pv (.int .i64 0))), (.s (.pv (.int .i64 0))), (.s (.pv (.int .i64 0))), (.s (.pv (.string ⟨#[]⟩))), (.s (.pv (.int .i64 0))), (.s (.pv (.int .i64 0))), (.s (.pv (.int .i64 0)))]]), none, []⟩,
    ⟨(some 7), 7, (.mv (.t 31)), none, [0, 0, 1, 2, 3]⟩,
    ⟨none, 61, (.store 11 (.t 8) (.t 33)), none, [3, 2, 4, 0, 1, 2, 3, 4]⟩])
  (.seq (.seq (.reg [⟨(some 34), 34, (.fld 4 (.t 8)), none, []⟩,
    ⟨(some 35), 35, (.load true 4 (.t 34)), none, [0]⟩,
    ⟨(some 36), 36, (.build [(.s (.pv (.int .i64 0))), (.s (.pv (.int .i64 0))), (.s (.pv (.int .i64 0))), (.s (.pv (.string ⟨#[]⟩)))] [(0, 1, (.k (.c (.s (.pv (.int .i64 8))))))]), none, []⟩,
    ⟨(some 37), 37, (.eqs false 49 (.t 35) (.t 36)), none, [1, 2]⟩])
  (.cond (.t 37) (.exit 2) .skip))
  (.seq (.reg [⟨(some 39), 39, (.load true 1 (.t 2)), none, []⟩,
    ⟨(some 40), 40, (.fld 1 (.t 8)), none, []⟩,
    ⟨(some 41), 41, (.load true 3 (.t 40)), none, [1]⟩,
    ⟨(some 42), 42, (.call 23 [(.t 39), (.t 41)]), none, [0, 2]⟩,
    ⟨(some 38), 38, (.mv (.t 42)), none, [3]⟩,
    ⟨(some 43), 43, (.ext 0 (.t 38)), none, [4]⟩,
    ⟨(some 44), 44, (.ext 1 (.t 38)), none, [4]⟩,
    ⟨(some 9), 9, (.mk 24 1 [[.zc]]), none, []⟩,
    ⟨(some 10), 10, (.mk 49 4 [[(.s (.pv (.int .i64 0))), (.s (.pv (.int .i64 0))), (.s (.pv (.int .i64 0))), (.s (.pv (.string ⟨#[]⟩)))]]), none, []⟩,
    ⟨none, 65, (.store 1 (.t 9) (.t 43)), none, [7, 5, 3, 0, 1, 2, 3, 4, 5, 7, 8]⟩,
    ⟨none, 66, (.store 4 (.t 10) (.t 44)), none, [8, 6, 9, 0, 1, 2, 3, 4, 5, 6, 7, 8, 9]⟩])
  (.seq (.seq (.reg [⟨(some 45), 45, (.load true 4 (.t 10)), none, []⟩,
    ⟨(some 46), 46, (.fld 4 (.t 8)), none, []⟩,
    ⟨(some 47), 47, (.load true 4 (.t 46)), none, [1]⟩,
    ⟨(some 48), 48, (.eqs true 49 (.t 45) (.t 47)), none, [0, 2]⟩])
  (.cond (.t 48) (.seq (.reg [⟨(some 49), 49, (.load true 1 (.t 2)), none, []⟩,
    ⟨(some 50), 50, (.mv (.t 7)), none, []⟩,
    ⟨none, 58, (.store 1 (.t 4) (.t 49)), none, [0, 0]⟩,
    ⟨(some 5), 5, (.mv (.t 50)), none, [1, 2, 0, 1, 2]⟩,
    ⟨(some 6), 6, (.mv (.k (.c (.s (.pv (.int .i64 2)))))), none, [3, 0, 1, 2, 3]⟩])
  .ret) .skip))
  (.reg [⟨(some 51), 51, (.load true 1 (.t 9)), none, []⟩,
    ⟨none, 57, (.store 1 (.t 2) (.t 51)), none, [0, 0]⟩]))))))
  (.reg [⟨(some 52), 52, (.bin false .add (.t 29) (.k (.c (.s (.pv (.int .i64 1)))))), none, []⟩,
    ⟨(some 29), 29, (.mv (.t 52)), none, [0]⟩])))))))
  (.seq (.reg [⟨(some 53), 53, (.load true 1 (.t 2)), none, []⟩,
    ⟨(some 54), 54, (.mv (.t 1)), none, []⟩,
    ⟨(some 55), 55, (.len (.t 54)), none, [1]⟩,
    ⟨none, 59, (.store 1 (.t 4) (.t 53)), none, [0, 0]⟩,
    ⟨(some 5), 5, (.mv (.t 55)), none, [2, 3, 0, 1, 2, 3]⟩,
    ⟨(some 6), 6, (.mv (.k (.c (.s (.pv (.int .i64 0)))))), none, [4, 0, 1, 2, 3, 4]⟩])
  .ret))))
theorem fn13 : FnIs Try.prog 13 ac13 [(.cell 4 true 1), (.t 5), (.t 6)] 56 := ⟨Try.f13, Try.func13, by kernel_rfl, by kernel_rfl, by kernel_rfl⟩
/- lockkeeper/lockkeeperref21.Check -/
def ac14 : ACode := (.seq (.reg [⟨(some 4), 4, (.mv (.k (.c .zc))), none, []⟩,
    ⟨(some 5), 5, (.mv (.k (.c (.s (.pv (.int .i64 0)))))), none, [0]⟩,
    ⟨(some 6), 6, (.mv (.k (.c (.s (.pv (.int .i64 0)))))), none, [1]⟩])
  (.seq (.seq (.reg [⟨(some 11), 11, (.mv (.t 1)), none, []⟩,
    ⟨(some 12), 12, (.len (.t 11)), none, [0]⟩,
    ⟨(some 13), 13, (.bin false .gtr (.t 12) (.k (.c (.s (.pv (.int .i64 400)))))), none, [1]⟩])
  (.cond (.t 13) (.seq (.reg [⟨(some 14), 14, (.mv (.t 0)), none, []⟩,
    ⟨(some 4), 4, (.mv (.t 14)), none, [0, 0]⟩,
    ⟨(some 5), 5, (.mv (.k (.c (.s (.pv (.int .i64 0)))))), none, [1, 0, 1]⟩,
    ⟨(some 6), 6, (.mv (.k (.c (.s (.pv (.int .i64 5)))))), none, [2, 0, 1, 2]⟩])
  .ret) .skip))
  (.seq (.seq (.reg [⟨(some 15), 15, (.mv (.t 0)), none, []⟩,
    ⟨(some 16), 16, (.call 20 [(.t 15)]), none, [0]⟩,
    ⟨(some 17), 17, (.not (.t 16)), none, [1]⟩])
  (.cond (.t 17) (.seq (.reg [⟨(some 18), 18, (.mv (.t 0)), none, []⟩,
    ⟨(some 4), 4, (.mv (.t 18)), none, [0, 0]⟩,
    ⟨(some 5), 5, (.mv (.k (.c (.s (.pv (.int .i64 0)))))), none, [1, 0, 1]⟩,
    ⟨(some 6), 6, (.mv (.k (.c (.s (.pv (.int .i64 1)))))), none, [2, 0, 1, 2]⟩])
  .ret) .skip))
  (.seq (.seq (.reg [⟨(some 19), 19, (.mv (.t 1)), none, []⟩,
    ⟨(some 20), 20, (.call 19 [(.t 19)]), none, [0]⟩,
    ⟨(some 21), 21, (.not (.t 20)), none, [1]⟩])
  (.cond (.t 21) (.seq (.reg [⟨(some 22), 22, (.mv (.t 0)), none, []⟩,
    ⟨(some 4), 4, (.mv (.t 22)), none, [0, 0]⟩,
    ⟨(some 5), 5, (.mv (.k (.c (.s (.pv (.int .i64 0)))))), none, [1, 0, 1]⟩,
    ⟨(some 6), 6, (.mv (.k (.c (.s (.pv (.int .i64 2)))))), none, [2, 0, 1, 2]⟩])
  .ret) .skip))
  (.seq (.reg [⟨(some 23), 23, (.mv (.t 1)), none, []⟩,
    ⟨(some 24), 24, (.call 16 [(.t 23)]), none, [0]⟩,
    ⟨(some 7), 7, (.mv (.t 24)), none, [1, 1, 0, 1]⟩])
  (.seq (.seq (.reg [⟨(some 8), 8, (.mv (.k (.c (.s (.pv (.int .i64 0)))))), none, []⟩])
  (.block 0 (.loop (.seq (.seq (.reg [⟨(some 25), 25, (.mv (.t 8)), none, []⟩,
    ⟨(some 26), 26, (.mv (.t 7)), none, []⟩,
    ⟨(some 27), 27, (.len (.t 26)), none, [1]⟩,
    ⟨(some 28), 28, (.bin false .lss (.t 25) (.t 27)), none, [0, 2]⟩])
  (.cond (.t 28) .skip (.exit 0)))
  (.seq (.block 1 (.seq (.seq (.reg [⟨(some 31), 31, (.mv (.t 7)), none, []⟩,
    ⟨(some 32), 32, (.mv (.t 8)), none, []⟩,
    ⟨(some 33), 33, (.idx 11 (.t 31) (.t 32)), none, [0, 1]⟩,
    ⟨(some 34), 34, (.fld 4 (.t 33)), none, [2]⟩,
    ⟨(some 35), 35, (.load false 1 (.t 34)), none, [3]⟩,
    ⟨(some 36), 36, (.bin false .eql (.t 35) (.k (.c (.s (.pv (.int .i64 8)))))), none, [4]⟩,
    ⟨(some 37), 37, (.mv (.t 36)), none, [5]⟩,
    ⟨(some 38), 38, (.mv (.t 7)), (some (37, true)), [6]⟩,
    ⟨(some 39), 39, (.mv (.t 8)), (some (37, true)), [6]⟩,
    ⟨(some 40), 40, (.idx 11 (.t 38) (.t 39)), (some (37, true)), [7, 8, 6]⟩,
    ⟨(some 41), 41, (.fld 5 (.t 40)), (some (37, true)), [9, 6]⟩,
    ⟨(some 42), 42, (.fld 0 (.t 41)), (some (37, true)), [10, 6]⟩,
    ⟨(some 43), 43, (.load false 1 (.t 42)), (some (37, true)), [11, 6]⟩,
    ⟨(some 44), 44, (.bin false .eql (.t 43) (.k (.c (.s (.pv (.int .i64 0)))))), (some (37, true)), [12, 6]⟩,
    ⟨(some 45), 45, (.pick (.t 37) (.t 44) (.k (.c (.s (.pv (.bool false)))))), none, [6, 13]⟩,
    ⟨(some 46), 46, (.mv (.t 45)), none, [14, 6]⟩,
    ⟨(some 47), 47, (.mv (.t 7)), (some (46, true)), [15]⟩,
    ⟨(some 48), 48, (.mv (.t 8)), (some (46, true)), [15]⟩,
    ⟨(some 49), 49, (.idx 11 (.t 47) (.t 48)), (some (46, true)), [16, 17, 15]⟩,
    ⟨(some 50), 50, (.fld 5 (.t 49)), (some (46, true)), [18, 15]⟩,
    ⟨(some 51), 51, (.fld 1 (.t 50)), (some (46, true)), [19, 15]⟩,
    ⟨(some 52), 52, (.load false 1 (.t 51)), (some (46, true)), [20, 15]⟩,
    ⟨(some 53), 53, (.bin false .eql (.t 52) (.k (.c (.s (.pv (.int .i64 0)))))), (some (46, true)), [21, 15]⟩,
    ⟨(some 54), 54, (.pick (.t 46) (.t 53) (.k (.c (.s (.pv (.bool false)))))), none, [15, 22]⟩,
    ⟨(some 55), 55, (.mv (.t 54)), none, [23, 15]⟩,
    ⟨(some 56), 56, (.mv (.t 7)), (some (55, true)), [24]⟩,
    ⟨(some 57), 57, (.mv (.t 8)), (some (55, true)), [24]⟩,
    ⟨(some 58), 58, (.idx 11 (.t 56) (.t 57)), (some (55, true)), [25, 26, 24]⟩,
    ⟨(some 59), 59, (.fld 5 (.t 58)), (some (55, true)), [27, 24]⟩,
    ⟨(some 60), 60, (.fld 2 (.t 59)), (some (55, true)), [28, 24]⟩,
    ⟨(some 61), 61, (.load false 1 (.t 60)), (some (55, true)), [29, 24]⟩,
    ⟨(some 62), 62, (.bin false .eql (.t 61) (.k (.c (.s (.pv (.string ⟨#[]⟩)))))), (some (55, true)), [30, 24]⟩,
    ⟨(some 63), 63, (.pick (.t 55) (.t 62) (.k (.c (.s (.pv (.bool false)))))), none, [24, 31]⟩])
  (.cond (.t 63) (.exit 1) .skip))
  (.seq (.reg [⟨(some 65), 65, (.mv (.t 0)), none, []⟩,
    ⟨(some 66), 66, (.mv (.t 7)), none, []⟩,
    ⟨(some 67), 67, (.mv (.t 8)), none, []⟩,
    ⟨(some 68), 68, (.idx 11 (.t 66) (.t 67)), none, [1, 2]⟩,
    ⟨(some 69), 69, (.fld 1 (.t 68)), none, [3]⟩,
    ⟨(some 70), 70, (.load true 3 (.t 69)), none, [4]⟩,
    ⟨(some 71), 71, (.call 24 [(.t 65), (.t 70)]), none, [0, 5]⟩,
    ⟨(some 64), 64, (.mv (.t 71)), none, [6]⟩,
    ⟨(some 72), 72, (.ext 0 (.t 64)), none, [7]⟩,
    ⟨(some 73), 73, (.ext 1 (.t 64)), none, [7]⟩,
    ⟨(some 10), 10, (.mk 64 4 [[(.s (.pv (.int .i64 0))), (.s (.pv (.int .i64 0))), (.s (.pv (.int .i64 0))), (.s (.pv (.string ⟨#[]⟩)))]]), none, []⟩,
    ⟨(some 9), 9, (.mv (.t 72)), none, [8, 6, 0, 1, 2, 3, 4, 5, 6, 7, 8, 10]⟩,
    ⟨none, 110, (.store 4 (.t 10) (.t 73)), none, [10, 9, 11, 0, 1, 2, 3, 4, 5, 6, 7, 8, 9, 10, 11]⟩])
  (.seq (.seq (.draw [⟨(some 74), 74, (.fld 0 (.t 10)), none, []⟩,
    ⟨(some 75), 75, (.load false 1 (.t 74)), none, [0]⟩,
    ⟨(some 76), 76, (.mv (.t 7)), none, []⟩,
    ⟨(some 77), 77, (.mv (.t 8)), none, []⟩,
    ⟨(some 78), 78, (.idx 11 (.t 76) (.t 77)), none, [2, 3]⟩,
    ⟨(some 79), 79, (.fld 4 (.t 78)), none, [4]⟩,
    ⟨(some 80), 80, (.load false 1 (.t 79)), none, [5]⟩,
    ⟨(some 81), 81, (.bin false .neq (.t 75) (.t 80)), none, [1, 6]⟩,
    ⟨(some 82), 82, (.mv (.t 81)), none, [7]⟩,
    ⟨(some 83), 83, (.fld 1 (.t 10)), (some (82, false)), [8]⟩,
    ⟨(some 84), 84, (.load true 3 (.t 83)), (some (82, false)), [9, 8]⟩,
    ⟨(some 85), 85, (.mv (.t 7)), (some (82, false)), [8]⟩,
    ⟨(some 86), 86, (.mv (.t 8)), (some (82, false)), [8]⟩,
    ⟨(some 87), 87, (.idx 11 (.t 85) (.t 86)), (some (82, false)), [11, 12, 8]⟩,
    ⟨(some 88), 88, (.fld 5 (.t 87)), (some (82, false)), [13, 8]⟩,
    ⟨(some 89), 89, (.load true 3 (.t 88)), (some (82, false)), [14, 8]⟩,
    ⟨(some 90), 90, (.eqs true 41 (.t 84) (.t 89)), (some (82, false)), [10, 15, 8]⟩,
    ⟨(some 91), 91, (.pick (.t 82) (.k (.c (.s (.pv (.bool true))))) (.t 90)), none, [8, 16]⟩])
  (.cond (.t 91) (.seq (.reg [⟨(some 92), 92, (.mv (.t 0)), none, []⟩,
    ⟨(some 93), 93, (.mv (.t 8)), none, []⟩,
    ⟨(some 4), 4, (.mv (.t 92)), none, [0, 0]⟩,
    ⟨(some 5), 5, (.mv (.t 93)), none, [1, 2, 0, 1, 2]⟩,
    ⟨(some 6), 6, (.mv (.k (.c (.s (.pv (.int .i64 2)))))), none, [3, 0, 1, 2, 3]⟩])
  .ret) .skip))
  (.reg [⟨(some 94), 94, (.mv (.t 9)), none, []⟩,
    ⟨(some 0), 0, (.mv (.t 94)), none, [0, 0]⟩])))))
  (.reg [⟨(some 29), 29, (.mv (.t 8)), none, []⟩,
    ⟨(some 30), 30, (.bin false .add (.t 29) (.k (.c (.s (.pv (.int .i64 1)))))), none, [0]⟩,
    ⟨(some 8), 8, (.mv (.t 30)), none, [1, 0, 1]⟩]))))))
  (.seq (.reg [⟨(some 95), 95, (.mv (.t 0)), none, []⟩,
    ⟨(some 96), 96, (.mv (.t 1)), none, []⟩,
    ⟨(some 97), 97, (.len (.t 96)), none, [1]⟩,
    ⟨(some 4), 4, (.mv (.t 95)), none, [0, 0]⟩,
    ⟨(some 5), 5, (.mv (.t 97)), none, [2, 3, 0, 1, 2, 3]⟩,
    ⟨(some 6), 6, (.mv (.k (.c (.s (.pv (.int .i64 0)))))), none, [4, 0, 1, 2, 3, 4]⟩])
  .ret)))))))
theorem fn14 : FnIs Try.prog 14 ac14 [(.t 4), (.t 5), (.t 6)] 98 := ⟨Try.f14, Try.func14, by kernel_rfl, by kernel_rfl, by kernel_rfl⟩
/- lockkeeper/history.Sort -/
def ac15 : ACode := (.seq (.reg [⟨(some 2), 2, (.mv (.k (.c .zc))), none, []⟩])
  (.seq (.reg [⟨(some 3), 3, (.mv (.t 0)), none, []⟩,
    ⟨(some 4), 4, (.call 25 [(.t 3), (.k (.c (.s (.fn 26 []))))]), none, [0]⟩,
    ⟨(some 2), 2, (.mv (.t 4)), none, [1, 1, 0, 1]⟩])
  .ret))
theorem fn15 : FnIs Try.prog 15 ac15 [(.t 2)] 5 := ⟨Try.f15, Try.func15, by kernel_rfl, by kernel_rfl, by kernel_rfl⟩
/- lockkeeper/lockkeeperref21.Sort -/
def ac16 : ACode := (.seq (.reg [⟨(some 2), 2, (.mv (.k (.c .zc))), none, []⟩])
  (.seq (.reg [⟨(some 3), 3, (.mv (.k (.c .zc))), none, []⟩])
  (.seq (.seq (.reg [⟨(some 4), 4, (.mv (.k (.c (.s (.pv (.int .i64 0)))))), none, []⟩])
  (.block 0 (.loop (.seq (.seq (.reg [⟨(some 8), 8, (.mv (.t 4)), none, []⟩,
    ⟨(some 9), 9, (.mv (.t 0)), none, []⟩,
    ⟨(some 10), 10, (.len (.t 9)), none, [1]⟩,
    ⟨(some 11), 11, (.bin false .lss (.t 8) (.t 10)), none, [0, 2]⟩])
  (.cond (.t 11) .skip (.exit 0)))
  (.seq (.block 1 (.seq (.reg [⟨(some 5), 5, (.mv (.k (.c .zc))), none, []⟩])
  (.seq (.reg [⟨(some 6), 6, (.mv (.k (.c (.s (.pv (.bool false)))))), none, []⟩])
  (.seq (.seq (.reg [⟨(some 7), 7, (.mv (.k (.c (.s (.pv (.int .i64 0)))))), none, []⟩])
  (.block 2 (.loop (.seq (.seq (.reg [⟨(some 14), 14, (.mv (.t 7)), none, []⟩,
    ⟨(some 15), 15, (.mv (.t 3)), none, []⟩,
    ⟨(some 16), 16, (.len (.t 15)), none, [1]⟩,
    ⟨(some 17), 17, (.bin false .lss (.t 14) (.t 16)), none, [0, 2]⟩])
  (.cond (.t 17) .skip (.exit 2)))
  (.seq (.block 3 (.seq (.seq (.draw [⟨(some 20), 20, (.mv (.t 6)), none, []⟩,
    ⟨(some 21), 21, (.not (.t 20)), none, [0]⟩,
    ⟨(some 22), 22, (.mv (.t 21)), none, [1]⟩,
    ⟨(some 23), 23, (.mv (.t 3)), (some (22, true)), [2]⟩,
    ⟨(some 24), 24, (.mv (.t 7)), (some (22, true)), [2]⟩,
    ⟨(some 25), 25, (.idx 11 (.t 23) (.t 24)), (some (22, true)), [3, 4, 2]⟩,
    ⟨(some 26), 26, (.fld 9 (.t 25)), (some (22, true)), [5, 2]⟩,
    ⟨(some 27), 27, (.load false 1 (.t 26)), (some (22, true)), [6, 2]⟩,
    ⟨(some 28), 28, (.mv (.t 0)), (some (22, true)), [2]⟩,
    ⟨(some 29), 29, (.mv (.t 4)), (some (22, true)), [2]⟩,
    ⟨(some 30), 30, (.idx 11 (.t 28) (.t 29)), (some (22, true)), [8, 9, 2]⟩,
    ⟨(some 31), 31, (.fld 9 (.t 30)), (some (22, true)), [10, 2]⟩,
    ⟨(some 32), 32, (.load false 1 (.t 31)), (some (22, true)), [11, 2]⟩,
    ⟨(some 33), 33, (.bin false .gtr (.t 27) (.t 32)), (some (22, true)), [7, 12, 2]⟩,
    ⟨(some 34), 34, (.pick (.t 22) (.t 33) (.k (.c (.s (.pv (.bool false)))))), none, [2, 13]⟩])
  (.cond (.t 34) (.seq (.reg [⟨(some 35), 35, (.mv (.t 5)), none, []⟩,
    ⟨(some 36), 36, (.mv (.t 0)), none, []⟩,
    ⟨(some 37), 37, (.mv (.t 4)), none, []⟩,
    ⟨(some 38), 38, (.idx 11 (.t 36) (.t 37)), none, [1, 2]⟩,
    ⟨(some 39), 39, (.load true 11 (.t 38)), none, [3]⟩,
    ⟨(some 40), 40, (.bslice 43 11 [(.s (.pv (.int .i64 0))), (.s (.pv (.int .i64 0))), (.s (.pv (.int .i64 0))), (.s (.pv (.string ⟨#[]⟩))), (.s (.pv (.int .i64 0))), (.s (.pv (.int .i64 0))), (.s (.pv (.int .i64 0))), (.s (.pv (.string ⟨#[]⟩))), (.s (.pv (.int .i64 0))), (.s (.pv (.int .i64 0))), (.s (.pv (.int .i64 0)))] 1 [(0, 11, (.t 39))]), none, [4]⟩,
    ⟨(some 41), 41, (.app 43 11 104 (.t 35) (.t 40)), none, [0, 5]⟩,
    ⟨(some 5), 5, (.mv (.t 41)), none, [6, 6, 0, 1, 2, 3, 4, 5, 6]⟩])
  (.reg [⟨(some 6), 6, (.mv (.k (.c (.s (.pv (.bool true)))))), none, []⟩])) .skip))
  (.reg [⟨(some 42), 42, (.mv (.t 5)), none, []⟩,
    ⟨(some 43), 43, (.mv (.t 3)), none, []⟩,
    ⟨(some 44), 44, (.mv (.t 7)), none, []⟩,
    ⟨(some 45), 45, (.idx 11 (.t 43) (.t 44)), none, [1, 2]⟩,
    ⟨(some 46), 46, (.load true 11 (.t 45)), none, [3]⟩,
    ⟨(some 47), 47, (.bslice 43 11 [(.s (.pv (.int .i64 0))), (.s (.pv (.int .i64 0))), (.s (.pv (.int .i64 0))), (.s (.pv (.string ⟨#[]⟩))), (.s (.pv (.int .i64 0))), (.s (.pv (.int .i64 0))), (.s (.pv (.int .i64 0))), (.s (.pv (.string ⟨#[]⟩))), (.s (.pv (.int .i64 0))), (.s (.pv (.int .i64 0))), (.s (.pv (.int .i64 0)))] 1 [(0, 11, (.t 46))]), none, [4]⟩,
    ⟨(some 48), 48, (.app 43 11 104 (.t 42) (.t 47)), none, [0, 5]⟩,
    ⟨(some 5), 5, (.mv (.t 48)), none, [6, 6, 0, 1, 2, 3, 4, 5, 6]⟩])))
  (.reg [⟨(some 18), 18, (.mv (.t 7)), none, []⟩,
    ⟨(some 19), 19, (.bin false .add (.t 18) (.k (.c (.s (.pv (.int .i64 1)))))), none, [0]⟩,
    ⟨(some 7), 7, (.mv (.t 19)), none, [1, 0, 1]⟩]))))))
  (.seq (.seq (.reg [⟨(some 49), 49, (.mv (.t 6)), none, []⟩,
    ⟨(some 50), 50, (.not (.t 49)), none, [0]⟩])
  (.cond (.t 50) (.reg [⟨(some 51), 51, (.mv (.t 5)), none, []⟩,
    ⟨(some 52), 52, (.mv (.t 0)), none, []⟩,
    ⟨(some 53), 53, (.mv (.t 4)), none, []⟩,
    ⟨(some 54), 54, (.idx 11 (.t 52) (.t 53)), none, [1, 2]⟩,
    ⟨(some 55), 55, (.load true 11 (.t 54)), none, [3]⟩,
    ⟨(some 56), 56, (.bslice 43 11 [(.s (.pv (.int .i64 0))), (.s (.pv (.int .i64 0))), (.s (.pv (.int .i64 0))), (.s (.pv (.string ⟨#[]⟩))), (.s (.pv (.int .i64 0))), (.s (.pv (.int .i64 0))), (.s (.pv (.int .i64 0))), (.s (.pv (.string ⟨#[]⟩))), (.s (.pv (.int .i64 0))), (.s (.pv (.int .i64 0))), (.s (.pv (.int .i64 0)))] 1 [(0, 11, (.t 55))]), none, [4]⟩,
    ⟨(some 57), 57, (.app 43 11 104 (.t 51) (.t 56)), none, [0, 5]⟩,
    ⟨(some 5), 5, (.mv (.t 57)), none, [6, 6, 0, 1, 2, 3, 4, 5, 6]⟩]) .skip))
  (.reg [⟨(some 58), 58, (.mv (.t 5)), none, []⟩,
    ⟨(some 3), 3, (.mv (.t 58)), none, [0, 0]⟩]))))))
  (.reg [⟨(some 12), 12, (.mv (.t 4)), none, []⟩,
    ⟨(some 13), 13, (.bin false .add (.t 12) (.k (.c (.s (.pv (.int .i64 1)))))), none, [0]⟩,
    ⟨(some 4), 4, (.mv (.t 13)), none, [1, 0, 1]⟩]))))))
  (.seq (.reg [⟨(some 59), 59, (.mv (.t 3)), none, []⟩,
    ⟨(some 2), 2, (.mv (.t 59)), none, [0, 0]⟩])
  .ret))))
theorem fn16 : FnIs Try.prog 16 ac16 [(.t 2)] 60 := ⟨Try.f16, Try.func16, by kernel_rfl, by kernel_rfl, by kernel_rfl⟩
/- lockkeeper/lockkeeperref18.Same -/
def ac17 : ACode := (.seq (.reg [⟨(some 4), 4, (.mv (.k (.c (.s (.pv (.bool false)))))), none, []⟩])
  (.seq (.seq (.reg [⟨(some 6), 6, (.mv (.t 0)), none, []⟩,
    ⟨(some 7), 7, (.len (.t 6)), none, [0]⟩,
    ⟨(some 8), 8, (.mv (.t 1)), none, []⟩,
    ⟨(some 9), 9, (.len (.t 8)), none, [2]⟩,
    ⟨(some 10), 10, (.bin false .neq (.t 7) (.t 9)), none, [1, 3]⟩])
  (.cond (.t 10) (.seq (.reg [⟨(some 4), 4, (.mv (.k (.c (.s (.pv (.bool false)))))), none, []⟩])
  .ret) .skip))
  (.seq (.seq (.reg [⟨(some 5), 5, (.mv (.k (.c (.s (.pv (.int .i64 0)))))), none, []⟩])
  (.block 0 (.loop (.seq (.seq (.reg [⟨(some 11), 11, (.mv (.t 5)), none, []⟩,
    ⟨(some 12), 12, (.mv (.t 0)), none, []⟩,
    ⟨(some 13), 13, (.len (.t 12)), none, [1]⟩,
    ⟨(some 14), 14, (.bin false .lss (.t 11) (.t 13)), none, [0, 2]⟩])
  (.cond (.t 14) .skip (.exit 0)))
  (.seq (.block 1 (.seq (.draw [⟨(some 17), 17, (.mv (.t 0)), none, []⟩,
    ⟨(some 18), 18, (.mv (.t 5)), none, []⟩,
    ⟨(some 19), 19, (.idx 3 (.t 17) (.t 18)), none, [0, 1]⟩,
    ⟨(some 20), 20, (.load true 3 (.t 19)), none, [2]⟩,
    ⟨(some 21), 21, (.mv (.t 1)), none, []⟩,
    ⟨(some 22), 22, (.mv (.t 5)), none, []⟩,
    ⟨(some 23), 23, (.idx 3 (.t 21) (.t 22)), none, [4, 5]⟩,
    ⟨(some 24), 24, (.load true 3 (.t 23)), none, [6]⟩,
    ⟨(some 25), 25, (.eqs true 41 (.t 20) (.t 24)), none, [3, 7]⟩])
  (.cond (.t 25) (.seq (.reg [⟨(some 4), 4, (.mv (.k (.c (.s (.pv (.bool false)))))), none, []⟩])
  .ret) .skip)))
  (.reg [⟨(some 15), 15, (.mv (.t 5)), none, []⟩,
    ⟨(some 16), 16, (.bin false .add (.t 15) (.k (.c (.s (.pv (.int .i64 1)))))), none, [0]⟩,
    ⟨(some 5), 5, (.mv (.t 16)), none, [1, 0, 1]⟩]))))))
  (.seq (.reg [⟨(some 4), 4, (.mv (.k (.c (.s (.pv (.bool true)))))), none, []⟩])
  .ret))))
theorem fn17 : FnIs Try.prog 17 ac17 [(.t 4)] 26 := ⟨Try.f17, Try.func17, by kernel_rfl, by kernel_rfl, by kernel_rfl⟩
/- lockkeeper/history.Apart -/
def ac18 : ACode := (.seq (.reg [⟨(some 2), 2, (.mv (.k (.c (.s (.pv (.bool false)))))), none, []⟩])
  (.seq (.seq (.reg [⟨(some 5), 5, (.mv (.t 0)), none, []⟩,
    ⟨(some 6), 6, (.len (.t 5)), none, [0]⟩,
    ⟨(some 7), 7, (.mv (.k (.c (.s (.pv (.int .i64 0)))))), none, []⟩])
  (.block 0 (.loop (.seq (.reg [⟨(some 8), 8, (.bin false .lss (.t 7) (.t 6)), none, []⟩])
  (.seq (.cond (.t 8) .skip (.exit 0))
  (.seq (.block 1 (.seq (.reg [⟨(some 9), 9, (.idx 11 (.t 5) (.t 7)), none, []⟩,
    ⟨(some 10), 10, (.load true 11 (.t 9)), none, [0]⟩,
    ⟨(some 4), 4, (.mk 52 11 [[(.s (.pv (.int .i64 0))), (.s (.pv (.int .i64 0))), (.s (.pv (.int .i64 0))), (.s (.pv (.string ⟨#[]⟩))), (.s (.pv (.int .i64 0))), (.s (.pv (.int .i64 0))), (.s (.pv (.int .i64 0))), (.s (.pv (.string ⟨#[]⟩))), (.s (.pv (.int .i64 0))), (.s (.pv (.int .i64 0))), (.s (.pv (.int .i64 0)))]]), none, []⟩,
    ⟨none, 33, (.store 11 (.t 4) (.t 10)), none, [2, 1, 0, 1, 2]⟩])
  (.seq (.reg [⟨(some 11), 11, (.fld 8 (.t 4)), none, []⟩,
    ⟨(some 12), 12, (.load false 1 (.t 11)), none, [0]⟩,
    ⟨(some 13), 13, (.fld 9 (.t 4)), none, []⟩,
    ⟨(some 14), 14, (.load false 1 (.t 13)), none, [2]⟩,
    ⟨(some 15), 15, (.bin false .geq (.t 12) (.t 14)), none, [1, 3]⟩,
    ⟨(some 16), 16, (.mv (.t 15)), none, [4]⟩,
    ⟨(some 17), 17, (.fld 9 (.t 4)), (some (16, false)), [5]⟩,
    ⟨(some 18), 18, (.load false 1 (.t 17)), (some (16, false)), [6, 5]⟩,
    ⟨(some 19), 19, (.fld 10 (.t 4)), (some (16, false)), [5]⟩,
    ⟨(some 20), 20, (.load false 1 (.t 19)), (some (16, false)), [8, 5]⟩,
    ⟨(some 21), 21, (.bin false .geq (.t 18) (.t 20)), (some (16, false)), [7, 9, 5]⟩,
    ⟨(some 22), 22, (.pick (.t 16) (.k (.c (.s (.pv (.bool true))))) (.t 21)), none, [5, 10]⟩])
  (.cond (.t 22) (.seq (.reg [⟨(some 2), 2, (.mv (.k (.c (.s (.pv (.bool false)))))), none, []⟩])
  .ret) .skip))))
  (.reg [⟨(some 23), 23, (.bin false .add (.t 7) (.k (.c (.s (.pv (.int .i64 1)))))), none, []⟩,
    ⟨(some 7), 7, (.mv (.t 23)), none, [0]⟩])))))))
  (.seq (.reg [⟨(some 24), 24, (.mv (.t 0)), none, []⟩,
    ⟨(some 25), 25, (.call 28 [(.t 24)]), none, [0]⟩,
    ⟨(some 26), 26, (.mv (.t 25)), none, [1, 1]⟩,
    ⟨(some 27), 27, (.mv (.t 0)), (some (26, true)), [2]⟩,
    ⟨(some 28), 28, (.call 29 [(.t 27)]), (some (26, true)), [3, 2, 2]⟩,
    ⟨(some 29), 29, (.pick (.t 26) (.t 28) (.k (.c (.s (.pv (.bool false)))))), none, [2, 4]⟩,
    ⟨(some 2), 2, (.mv (.t 29)), none, [5, 4, 0, 1, 2, 3, 4, 5]⟩])
  .ret)))
theorem fn18 : FnIs Try.prog 18 ac18 [(.t 2)] 30 := ⟨Try.f18, Try.func18, by kernel_rfl, by kernel_rfl, by kernel_rfl⟩
/- lockkeeper/lockkeeperref21.Apart -/
def ac19 : ACode := (.seq (.reg [⟨(some 2), 2, (.mv (.k (.c (.s (.pv (.bool false)))))), none, []⟩])
  (.seq (.seq (.reg [⟨(some 3), 3, (.mv (.k (.c (.s (.pv (.int .i64 0)))))), none, []⟩])
  (.block 0 (.loop (.seq (.seq (.reg [⟨(some 7), 7, (.mv (.t 3)), none, []⟩,
    ⟨(some 8), 8, (.mv (.t 0)), none, []⟩,
    ⟨(some 9), 9, (.len (.t 8)), none, [1]⟩,
    ⟨(some 10), 10, (.bin false .lss (.t 7) (.t 9)), none, [0, 2]⟩])
  (.cond (.t 10) .skip (.exit 0)))
  (.seq (.block 1 (.seq (.reg [⟨(some 13), 13, (.mv (.t 0)), none, []⟩,
    ⟨(some 14), 14, (.mv (.t 3)), none, []⟩,
    ⟨(some 15), 15, (.idx 11 (.t 13) (.t 14)), none, [0, 1]⟩,
    ⟨(some 16), 16, (.load true 11 (.t 15)), none, [2]⟩,
    ⟨(some 4), 4, (.mk 43 11 [[(.s (.pv (.int .i64 0))), (.s (.pv (.int .i64 0))), (.s (.pv (.int .i64 0))), (.s (.pv (.string ⟨#[]⟩))), (.s (.pv (.int .i64 0))), (.s (.pv (.int .i64 0))), (.s (.pv (.int .i64 0))), (.s (.pv (.string ⟨#[]⟩))), (.s (.pv (.int .i64 0))), (.s (.pv (.int .i64 0))), (.s (.pv (.int .i64 0)))]]), none, []⟩,
    ⟨none, 73, (.store 11 (.t 4) (.t 16)), none, [4, 3, 0, 1, 2, 3, 4]⟩])
  (.seq (.seq (.reg [⟨(some 17), 17, (.fld 8 (.t 4)), none, []⟩,
    ⟨(some 18), 18, (.load false 1 (.t 17)), none, [0]⟩,
    ⟨(some 19), 19, (.fld 9 (.t 4)), none, []⟩,
    ⟨(some 20), 20, (.load false 1 (.t 19)), none, [2]⟩,
    ⟨(some 21), 21, (.bin false .geq (.t 18) (.t 20)), none, [1, 3]⟩,
    ⟨(some 22), 22, (.mv (.t 21)), none, [4]⟩,
    ⟨(some 23), 23, (.fld 9 (.t 4)), (some (22, false)), [5]⟩,
    ⟨(some 24), 24, (.load false 1 (.t 23)), (some (22, false)), [6, 5]⟩,
    ⟨(some 25), 25, (.fld 10 (.t 4)), (some (22, false)), [5]⟩,
    ⟨(some 26), 26, (.load false 1 (.t 25)), (some (22, false)), [8, 5]⟩,
    ⟨(some 27), 27, (.bin false .geq (.t 24) (.t 26)), (some (22, false)), [7, 9, 5]⟩,
    ⟨(some 28), 28, (.pick (.t 22) (.k (.c (.s (.pv (.bool true))))) (.t 27)), none, [5, 10]⟩])
  (.cond (.t 28) (.seq (.reg [⟨(some 2), 2, (.mv (.k (.c (.s (.pv (.bool false)))))), none, []⟩])
  .ret) .skip))
  (.seq (.reg [⟨(some 29), 29, (.mv (.t 3)), none, []⟩,
    ⟨(some 30), 30, (.bin false .add (.t 29) (.k (.c (.s (.pv (.int .i64 1)))))), none, [0]⟩,
    ⟨(some 5), 5, (.mv (.t 30)), none, [1, 0, 1]⟩])
  (.block 2 (.loop (.seq (.seq (.reg [⟨(some 31), 31, (.mv (.t 5)), none, []⟩,
    ⟨(some 32), 32, (.mv (.t 0)), none, []⟩,
    ⟨(some 33), 33, (.len (.t 32)), none, [1]⟩,
    ⟨(some 34), 34, (.bin false .lss (.t 31) (.t 33)), none, [0, 2]⟩])
  (.cond (.t 34) .skip (.exit 2)))
  (.seq (.block 3 (.seq (.reg [⟨(some 37), 37, (.mv (.t 0)), none, []⟩,
    ⟨(some 38), 38, (.mv (.t 5)), none, []⟩,
    ⟨(some 39), 39, (.idx 11 (.t 37) (.t 38)), none, [0, 1]⟩,
    ⟨(some 40), 40, (.load true 11 (.t 39)), none, [2]⟩,
    ⟨(some 6), 6, (.mk 43 11 [[(.s (.pv (.int .i64 0))), (.s (.pv (.int .i64 0))), (.s (.pv (.int .i64 0))), (.s (.pv (.string ⟨#[]⟩))), (.s (.pv (.int .i64 0))), (.s (.pv (.int .i64 0))), (.s (.pv (.int .i64 0))), (.s (.pv (.string ⟨#[]⟩))), (.s (.pv (.int .i64 0))), (.s (.pv (.int .i64 0))), (.s (.pv (.int .i64 0)))]]), none, []⟩,
    ⟨none, 73, (.store 11 (.t 6) (.t 40)), none, [4, 3, 0, 1, 2, 3, 4]⟩])
  (.seq (.reg [⟨(some 41), 41, (.fld 9 (.t 4)), none, []⟩,
    ⟨(some 42), 42, (.load false 1 (.t 41)), none, [0]⟩,
    ⟨(some 43), 43, (.fld 9 (.t 6)), none, []⟩,
    ⟨(some 44), 44, (.load false 1 (.t 43)), none, [2]⟩,
    ⟨(some 45), 45, (.bin false .eql (.t 42) (.t 44)), none, [1, 3]⟩,
    ⟨(some 46), 46, (.mv (.t 45)), none, [4]⟩,
    ⟨(some 47), 47, (.fld 0 (.t 4)), (some (46, false)), [5]⟩,
    ⟨(some 48), 48, (.load false 1 (.t 47)), (some (46, false)), [6, 5]⟩,
    ⟨(some 49), 49, (.fld 0 (.t 6)), (some (46, false)), [5]⟩,
    ⟨(some 50), 50, (.load false 1 (.t 49)), (some (46, false)), [8, 5]⟩,
    ⟨(some 51), 51, (.bin false .eql (.t 48) (.t 50)), (some (46, false)), [7, 9, 5]⟩,
    ⟨(some 52), 52, (.mv (.t 51)), (some (46, false)), [10, 5, 5]⟩,
    ⟨(some 53), 53, (.fld 10 (.t 4)), (some (52, true)), [11]⟩,
    ⟨(some 54), 54, (.load false 1 (.t 53)), (some (52, true)), [12, 11]⟩,
    ⟨(some 55), 55, (.fld 8 (.t 6)), (some (52, true)), [11]⟩,
    ⟨(some 56), 56, (.load false 1 (.t 55)), (some (52, true)), [14, 11]⟩,
    ⟨(some 57), 57, (.bin false .lss (.t 54) (.t 56)), (some (52, true)), [13, 15, 11]⟩,
    ⟨(some 58), 58, (.mv (.t 57)), (some (52, true)), [16, 11, 11]⟩,
    ⟨(some 59), 59, (.fld 10 (.t 6)), (some (58, false)), [17]⟩,
    ⟨(some 60), 60, (.load false 1 (.t 59)), (some (58, false)), [18, 17]⟩,
    ⟨(some 61), 61, (.fld 8 (.t 4)), (some (58, false)), [17]⟩,
    ⟨(some 62), 62, (.load false 1 (.t 61)), (some (58, false)), [20, 17]⟩,
    ⟨(some 63), 63, (.bin false .lss (.t 60) (.t 62)), (some (58, false)), [19, 21, 17]⟩,
    ⟨(some 64), 64, (.pick (.t 58) (.k (.c (.s (.pv (.bool true))))) (.t 63)), (some (52, true)), [17, 22, 11]⟩,
    ⟨(some 65), 65, (.not (.t 64)), (some (52, true)), [23, 11]⟩,
    ⟨(some 66), 66, (.pick (.t 52) (.t 65) (.k (.c (.s (.pv (.bool false)))))), (some (46, false)), [11, 24, 5]⟩,
    ⟨(some 67), 67, (.pick (.t 46) (.k (.c (.s (.pv (.bool true))))) (.t 66)), none, [5, 25]⟩])
  (.cond (.t 67) (.seq (.reg [⟨(some 2), 2, (.mv (.k (.c (.s (.pv (.bool false)))))), none, []⟩])
  .ret) .skip))))
  (.reg [⟨(some 35), 35, (.mv (.t 5)), none, []⟩,
    ⟨(some 36), 36, (.bin false .add (.t 35) (.k (.c (.s (.pv (.int .i64 1)))))), none, [0]⟩,
    ⟨(some 5), 5, (.mv (.t 36)), none, [1, 0, 1]⟩])))))))))
  (.reg [⟨(some 11), 11, (.mv (.t 3)), none, []⟩,
    ⟨(some 12), 12, (.bin false .add (.t 11) (.k (.c (.s (.pv (.int .i64 1)))))), none, [0]⟩,
    ⟨(some 3), 3, (.mv (.t 12)), none, [1, 0, 1]⟩]))))))
  (.seq (.reg [⟨(some 2), 2, (.mv (.k (.c (.s (.pv (.bool true)))))), none, []⟩])
  .ret)))
theorem fn19 : FnIs Try.prog 19 ac19 [(.t 2)] 68 := ⟨Try.f19, Try.func19, by kernel_rfl, by kernel_rfl, by kernel_rfl⟩
/- lockkeeper/lockkeeperref18.Right -/
def ac20 : ACode := (.seq (.reg [⟨(some 2), 2, (.mv (.k (.c (.s (.pv (.bool false)))))), none, []⟩])
  (.seq (.seq (.reg [⟨(some 3), 3, (.mv (.k (.c (.s (.pv (.int .i64 0)))))), none, []⟩])
  (.block 0 (.loop (.seq (.seq (.reg [⟨(some 4), 4, (.mv (.t 3)), none, []⟩,
    ⟨(some 5), 5, (.mv (.t 0)), none, []⟩,
    ⟨(some 6), 6, (.len (.t 5)), none, [1]⟩,
    ⟨(some 7), 7, (.bin false .lss (.t 4) (.t 6)), none, [0, 2]⟩])
  (.cond (.t 7) .skip (.exit 0)))
  (.seq (.block 1 (.seq (.draw [⟨(some 10), 10, (.mv (.t 0)), none, []⟩,
    ⟨(some 11), 11, (.mv (.t 3)), none, []⟩,
    ⟨(some 12), 12, (.idx 3 (.t 10) (.t 11)), none, [0, 1]⟩,
    ⟨(some 13), 13, (.load true 3 (.t 12)), none, [2]⟩,
    ⟨(some 14), 14, (.call 30 [(.t 13)]), none, [3]⟩,
    ⟨(some 15), 15, (.not (.t 14)), none, [4]⟩,
    ⟨(some 16), 16, (.mv (.t 15)), none, [5, 4]⟩,
    ⟨(some 17), 17, (.mv (.t 3)), (some (16, false)), [6]⟩,
    ⟨(some 18), 18, (.bin false .gtr (.t 17) (.k (.c (.s (.pv (.int .i64 0)))))), (some (16, false)), [7, 6]⟩,
    ⟨(some 19), 19, (.mv (.t 18)), (some (16, false)), [8, 6, 6]⟩,
    ⟨(some 20), 20, (.mv (.t 0)), (some (19, true)), [9]⟩,
    ⟨(some 21), 21, (.mv (.t 3)), (some (19, true)), [9]⟩,
    ⟨(some 22), 22, (.idx 3 (.t 20) (.t 21)), (some (19, true)), [10, 11, 9]⟩,
    ⟨(some 23), 23, (.fld 0 (.t 22)), (some (19, true)), [12, 9]⟩,
    ⟨(some 24), 24, (.load false 1 (.t 23)), (some (19, true)), [13, 9]⟩,
    ⟨(some 25), 25, (.mv (.t 0)), (some (19, true)), [9]⟩,
    ⟨(some 26), 26, (.mv (.t 3)), (some (19, true)), [9]⟩,
    ⟨(some 27), 27, (.bin false .sub (.t 26) (.k (.c (.s (.pv (.int .i64 1)))))), (some (19, true)), [16, 9]⟩,
    ⟨(some 28), 28, (.idx 3 (.t 25) (.t 27)), (some (19, true)), [15, 17, 9]⟩,
    ⟨(some 29), 29, (.fld 0 (.t 28)), (some (19, true)), [18, 9]⟩,
    ⟨(some 30), 30, (.load false 1 (.t 29)), (some (19, true)), [19, 9]⟩,
    ⟨(some 31), 31, (.bin false .leq (.t 24) (.t 30)), (some (19, true)), [14, 20, 9]⟩,
    ⟨(some 32), 32, (.pick (.t 19) (.t 31) (.k (.c (.s (.pv (.bool false)))))), (some (16, false)), [9, 21, 6]⟩,
    ⟨(some 33), 33, (.pick (.t 16) (.k (.c (.s (.pv (.bool true))))) (.t 32)), none, [6, 22]⟩])
  (.cond (.t 33) (.seq (.reg [⟨(some 2), 2, (.mv (.k (.c (.s (.pv (.bool false)))))), none, []⟩])
  .ret) .skip)))
  (.reg [⟨(some 8), 8, (.mv (.t 3)), none, []⟩,
    ⟨(some 9), 9, (.bin false .add (.t 8) (.k (.c (.s (.pv (.int .i64 1)))))), none, [0]⟩,
    ⟨(some 3), 3, (.mv (.t 9)), none, [1, 0, 1]⟩]))))))
  (.seq (.reg [⟨(some 2), 2, (.mv (.k (.c (.s (.pv (.bool true)))))), none, []⟩])
  .ret)))
theorem fn20 : FnIs Try.prog 20 ac20 [(.t 2)] 34 := ⟨Try.f20, Try.func20, by kernel_rfl, by kernel_rfl, by kernel_rfl⟩
/- lockkeeper/ops.All -/
def ac21 : ACode := (.seq (.reg [⟨(some 2), 2, (.box 24 1 (.t 0)), none, []⟩,
    ⟨(some 4), 4, (.mk 24 1 [[.zc]]), none, []⟩,
    ⟨(some 5), 5, (.mv (.k (.c .zc))), none, []⟩])
  (.seq (.reg [⟨(some 6), 6, (.mv (.k (.c .zc))), none, []⟩])
  (.seq (.seq (.reg [⟨(some 10), 10, (.mv (.t 1)), none, []⟩,
    ⟨(some 11), 11, (.len (.t 10)), none, [0]⟩,
    ⟨(some 12), 12, (.mv (.k (.c (.s (.pv (.int .i64 0)))))), none, []⟩])
  (.block 0 (.loop (.seq (.reg [⟨(some 13), 13, (.bin false .lss (.t 12) (.t 11)), none, []⟩])
  (.seq (.cond (.t 13) .skip (.exit 0))
  (.seq (.block 1 (.seq (.reg [⟨(some 14), 14, (.idx 3 (.t 10) (.t 12)), none, []⟩,
    ⟨(some 15), 15, (.load true 3 (.t 14)), none, [0]⟩,
    ⟨(some 8), 8, (.mk 50 3 [[(.s (.pv (.int .i64 0))), (.s (.pv (.int .i64 0))), (.s (.pv (.string ⟨#[]⟩)))]]), none, []⟩,
    ⟨none, 32, (.store 3 (.t 8) (.t 15)), none, [2, 1, 0, 1, 2]⟩])
  (.seq (.reg [⟨(some 9), 9, (.mk 49 4 [[(.s (.pv (.int .i64 0))), (.s (.pv (.int .i64 0))), (.s (.pv (.int .i64 0))), (.s (.pv (.string ⟨#[]⟩)))]]), none, []⟩])
  (.seq (.reg [⟨(some 17), 17, (.load true 1 (.t 2)), none, []⟩,
    ⟨(some 18), 18, (.load true 3 (.t 8)), none, []⟩,
    ⟨(some 19), 19, (.call 23 [(.t 17), (.t 18)]), none, [0, 1]⟩,
    ⟨(some 16), 16, (.mv (.t 19)), none, [2]⟩,
    ⟨(some 20), 20, (.ext 0 (.t 16)), none, [3]⟩,
    ⟨(some 21), 21, (.ext 1 (.t 16)), none, [3]⟩,
    ⟨none, 35, (.store 1 (.t 2) (.t 20)), none, [4, 2, 0, 1, 2, 3, 4]⟩,
    ⟨none, 36, (.store 4 (.t 9) (.t 21)), none, [5, 6, 0, 1, 2, 3, 4, 5, 6]⟩])
  (.reg [⟨(some 22), 22, (.mv (.t 6)), none, []⟩,
    ⟨(some 23), 23, (.load true 4 (.t 9)), none, []⟩,
    ⟨(some 24), 24, (.bslice 49 4 [(.s (.pv (.int .i64 0))), (.s (.pv (.int .i64 0))), (.s (.pv (.int .i64 0))), (.s (.pv (.string ⟨#[]⟩)))] 1 [(0, 4, (.t 23))]), none, [1]⟩,
    ⟨(some 25), 25, (.app 49 4 40 (.t 22) (.t 24)), none, [0, 2]⟩,
    ⟨(some 6), 6, (.mv (.t 25)), none, [3, 3, 0, 1, 2, 3]⟩])))))
  (.reg [⟨(some 26), 26, (.bin false .add (.t 12) (.k (.c (.s (.pv (.int .i64 1)))))), none, []⟩,
    ⟨(some 12), 12, (.mv (.t 26)), none, [0]⟩])))))))
  (.seq (.reg [⟨(some 27), 27, (.load true 1 (.t 2)), none, []⟩,
    ⟨(some 28), 28, (.mv (.t 6)), none, []⟩,
    ⟨none, 31, (.store 1 (.t 4) (.t 27)), none, [0, 0]⟩,
    ⟨(some 5), 5, (.mv (.t 28)), none, [1, 2, 0, 1, 2]⟩])
  .ret))))
theorem fn21 : FnIs Try.prog 21 ac21 [(.cell 4 true 1), (.t 5)] 29 := ⟨Try.f21, Try.func21, by kernel_rfl, by kernel_rfl, by kernel_rfl⟩
/- lockkeeper/ops.Right -/
def ac22 : ACode := (.seq (.reg [⟨(some 1), 1, (.box 24 1 (.t 0)), none, []⟩,
    ⟨(some 2), 2, (.mv (.k (.c (.s (.pv (.bool false)))))), none, []⟩])
  (.seq (.reg [⟨(some 3), 3, (.mv (.k (.c (.s (.pv (.int .i64 0)))))), none, []⟩])
  (.seq (.seq (.reg [⟨(some 6), 6, (.fld 0 (.t 1)), none, []⟩,
    ⟨(some 7), 7, (.load false 1 (.t 6)), none, [0]⟩,
    ⟨(some 8), 8, (.len (.t 7)), none, [1]⟩,
    ⟨(some 9), 9, (.mv (.k (.c (.s (.pv (.int .i64 0)))))), none, []⟩])
  (.block 0 (.loop (.seq (.reg [⟨(some 10), 10, (.bin false .lss (.t 9) (.t 8)), none, []⟩])
  (.seq (.cond (.t 10) .skip (.exit 0))
  (.seq (.block 1 (.seq (.reg [⟨(some 11), 11, (.idx 3 (.t 7) (.t 9)), none, []⟩,
    ⟨(some 12), 12, (.load true 3 (.t 11)), none, [0]⟩,
    ⟨(some 5), 5, (.mk 41 3 [[(.s (.pv (.int .i64 0))), (.s (.pv (.int .i64 0))), (.s (.pv (.string ⟨#[]⟩)))]]), none, []⟩,
    ⟨none, 28, (.store 3 (.t 5) (.t 12)), none, [2, 1, 0, 1, 2]⟩])
  (.seq (.seq (.reg [⟨(some 13), 13, (.load true 3 (.t 5)), none, []⟩,
    ⟨(some 14), 14, (.call 31 [(.t 13)]), none, [0]⟩,
    ⟨(some 15), 15, (.not (.t 14)), none, [1]⟩,
    ⟨(some 16), 16, (.mv (.t 15)), none, [2, 1]⟩,
    ⟨(some 17), 17, (.fld 0 (.t 5)), (some (16, false)), [3]⟩,
    ⟨(some 18), 18, (.load false 1 (.t 17)), (some (16, false)), [4, 3]⟩,
    ⟨(some 19), 19, (.mv (.t 3)), (some (16, false)), [3]⟩,
    ⟨(some 20), 20, (.bin false .leq (.t 18) (.t 19)), (some (16, false)), [5, 6, 3]⟩,
    ⟨(some 21), 21, (.pick (.t 16) (.k (.c (.s (.pv (.bool true))))) (.t 20)), none, [3, 7]⟩])
  (.cond (.t 21) (.seq (.reg [⟨(some 2), 2, (.mv (.k (.c (.s (.pv (.bool false)))))), none, []⟩])
  .ret) .skip))
  (.reg [⟨(some 22), 22, (.fld 0 (.t 5)), none, []⟩,
    ⟨(some 23), 23, (.load false 1 (.t 22)), none, [0]⟩,
    ⟨(some 3), 3, (.mv (.t 23)), none, [1, 0, 1]⟩]))))
  (.reg [⟨(some 24), 24, (.bin false .add (.t 9) (.k (.c (.s (.pv (.int .i64 1)))))), none, []⟩,
    ⟨(some 9), 9, (.mv (.t 24)), none, [0]⟩])))))))
  (.seq (.reg [⟨(some 2), 2, (.mv (.k (.c (.s (.pv (.bool true)))))), none, []⟩])
  .ret))))
theorem fn22 : FnIs Try.prog 22 ac22 [(.t 2)] 25 := ⟨Try.f22, Try.func22, by kernel_rfl, by kernel_rfl, by kernel_rfl⟩
/- lockkeeper/ops.Do -/
def ac23 : ACode := (.seq (.reg [⟨(some 2), 2, (.box 24 1 (.t 0)), none, []⟩,
    ⟨(some 3), 3, (.box 50 3 (.t 1)), none, []⟩,
    ⟨(some 4), 4, (.mk 24 1 [[.zc]]), none, []⟩,
    ⟨(some 5), 5, (.mk 49 4 [[(.s (.pv (.int .i64 0))), (.s (.pv (.int .i64 0))), (.s (.pv (.int .i64 0))), (.s (.pv (.string ⟨#[]⟩)))]]), none, []⟩])
  (.seq (.seq (.reg [⟨(some 9), 9, (.load true 1 (.t 2)), none, []⟩,
    ⟨(some 10), 10, (.call 22 [(.t 9)]), none, [0]⟩,
    ⟨(some 11), 11, (.not (.t 10)), none, [1]⟩,
    ⟨(some 12), 12, (.mv (.t 11)), none, [2, 1]⟩,
    ⟨(some 13), 13, (.fld 0 (.t 3)), (some (12, false)), [3]⟩,
    ⟨(some 14), 14, (.load false 1 (.t 13)), (some (12, false)), [4, 3]⟩,
    ⟨(some 15), 15, (.bin false .lss (.t 14) (.k (.c (.s (.pv (.int .i64 1)))))), (some (12, false)), [5, 3]⟩,
    ⟨(some 16), 16, (.pick (.t 12) (.k (.c (.s (.pv (.bool true))))) (.t 15)), none, [3, 6]⟩,
    ⟨(some 17), 17, (.mv (.t 16)), none, [7, 3]⟩,
    ⟨(some 18), 18, (.fld 0 (.t 3)), (some (17, false)), [8]⟩,
    ⟨(some 19), 19, (.load false 1 (.t 18)), (some (17, false)), [9, 8]⟩,
    ⟨(some 20), 20, (.bin false .gtr (.t 19) (.k (.c (.s (.pv (.int .i64 4)))))), (some (17, false)), [10, 8]⟩,
    ⟨(some 21), 21, (.pick (.t 17) (.k (.c (.s (.pv (.bool true))))) (.t 20)), none, [8, 11]⟩,
    ⟨(some 22), 22, (.mv (.t 21)), none, [12, 8]⟩,
    ⟨(some 23), 23, (.fld 1 (.t 3)), (some (22, false)), [13]⟩,
    ⟨(some 24), 24, (.load false 1 (.t 23)), (some (22, false)), [14, 13]⟩,
    ⟨(some 25), 25, (.bin false .lss (.t 24) (.k (.c (.s (.pv (.int .i64 1)))))), (some (22, false)), [15, 13]⟩,
    ⟨(some 26), 26, (.pick (.t 22) (.k (.c (.s (.pv (.bool true))))) (.t 25)), none, [13, 16]⟩,
    ⟨(some 27), 27, (.mv (.t 26)), none, [17, 13]⟩,
    ⟨(some 28), 28, (.fld 1 (.t 3)), (some (27, false)), [18]⟩,
    ⟨(some 29), 29, (.load false 1 (.t 28)), (some (27, false)), [19, 18]⟩,
    ⟨(some 30), 30, (.bin false .gtr (.t 29) (.k (.c (.s (.pv (.int .i64 16)))))), (some (27, false)), [20, 18]⟩,
    ⟨(some 31), 31, (.pick (.t 27) (.k (.c (.s (.pv (.bool true))))) (.t 30)), none, [18, 21]⟩])
  (.cond (.t 31) (.seq (.reg [⟨(some 32), 32, (.load true 1 (.t 2)), none, []⟩,
    ⟨(some 33), 33, (.build [(.s (.pv (.int .i64 0))), (.s (.pv (.int .i64 0))), (.s (.pv (.int .i64 0))), (.s (.pv (.string ⟨#[]⟩)))] [(0, 1, (.k (.c (.s (.pv (.int .i64 1))))))]), none, []⟩,
    ⟨none, 106, (.store 1 (.t 4) (.t 32)), none, [0, 0]⟩,
    ⟨none, 107, (.store 4 (.t 5) (.t 33)), none, [1, 2, 0, 1, 2]⟩])
  .ret) .skip))
  (.seq (.reg [⟨(some 35), 35, (.load true 1 (.t 2)), none, []⟩,
    ⟨(some 36), 36, (.fld 1 (.t 3)), none, []⟩,
    ⟨(some 37), 37, (.load false 1 (.t 36)), none, [1]⟩,
    ⟨(some 38), 38, (.call 32 [(.t 35), (.t 37)]), none, [0, 2]⟩,
    ⟨(some 34), 34, (.mv (.t 38)), none, [3]⟩,
    ⟨(some 39), 39, (.ext 0 (.t 34)), none, [4]⟩,
    ⟨(some 40), 40, (.ext 1 (.t 34)), none, [4]⟩,
    ⟨(some 6), 6, (.mv (.t 39)), none, [5, 3, 0, 1, 2, 3, 4, 5]⟩,
    ⟨(some 7), 7, (.mv (.t 40)), none, [6, 7, 0, 1, 2, 3, 4, 5, 6, 7]⟩])
  (.seq (.block 0 (.seq (.reg [⟨(some 42), 42, (.fld 0 (.t 3)), none, []⟩,
    ⟨(some 43), 43, (.load false 1 (.t 42)), none, [0]⟩,
    ⟨(some 44), 44, (.bin false .eql (.t 43) (.k (.c (.s (.pv (.int .i64 1)))))), none, [1]⟩,
    ⟨(some 45), 45, (.mv (.t 44)), none, [2]⟩,
    ⟨(some 46), 46, (.mv (.t 7)), (some (45, true)), [3]⟩,
    ⟨(some 47), 47, (.pick (.t 45) (.t 46) (.k (.c (.s (.pv (.bool false)))))), none, [3, 4]⟩,
    ⟨(some 41), 41, (.mv (.t 47)), none, [5, 3]⟩])
  (.cond (.t 41) (.seq (.reg [⟨(some 48), 48, (.load true 1 (.t 2)), none, []⟩,
    ⟨(some 49), 49, (.build [(.s (.pv (.int .i64 0))), (.s (.pv (.int .i64 0))), (.s (.pv (.int .i64 0))), (.s (.pv (.string ⟨#[]⟩)))] [(0, 1, (.k (.c (.s (.pv (.int .i64 4))))))]), none, []⟩,
    ⟨none, 106, (.store 1 (.t 4) (.t 48)), none, [0, 0]⟩,
    ⟨none, 107, (.store 4 (.t 5) (.t 49)), none, [1, 2, 0, 1, 2]⟩])
  .ret) (.seq (.reg [⟨(some 51), 51, (.fld 0 (.t 3)), none, []⟩,
    ⟨(some 52), 52, (.load false 1 (.t 51)), none, [0]⟩,
    ⟨(some 53), 53, (.bin false .neq (.t 52) (.k (.c (.s (.pv (.int .i64 1)))))), none, [1]⟩,
    ⟨(some 54), 54, (.mv (.t 53)), none, [2]⟩,
    ⟨(some 55), 55, (.mv (.t 7)), (some (54, true)), [3]⟩,
    ⟨(some 56), 56, (.not (.t 55)), (some (54, true)), [4, 3]⟩,
    ⟨(some 57), 57, (.pick (.t 54) (.t 56) (.k (.c (.s (.pv (.bool false)))))), none, [3, 5]⟩,
    ⟨(some 50), 50, (.mv (.t 57)), none, [6, 3]⟩])
  (.cond (.t 50) (.seq (.reg [⟨(some 58), 58, (.load true 1 (.t 2)), none, []⟩,
    ⟨(some 59), 59, (.build [(.s (.pv (.int .i64 0))), (.s (.pv (.int .i64 0))), (.s (.pv (.int .i64 0))), (.s (.pv (.string ⟨#[]⟩)))] [(0, 1, (.k (.c (.s (.pv (.int .i64 3))))))]), none, []⟩,
    ⟨none, 106, (.store 1 (.t 4) (.t 58)), none, [0, 0]⟩,
    ⟨none, 107, (.store 4 (.t 5) (.t 59)), none, [1, 2, 0, 1, 2]⟩])
  .ret) .skip)))))
  (.seq (.seq (.reg [⟨(some 60), 60, (.fld 0 (.t 3)), none, []⟩,
    ⟨(some 61), 61, (.load false 1 (.t 60)), none, [0]⟩])
  (.block 1 (.seq (.reg [⟨(some 63), 63, (.bin false .eql (.t 61) (.k (.c (.s (.pv (.int .i64 1)))))), none, []⟩,
    ⟨(some 62), 62, (.mv (.t 63)), none, [0]⟩])
  (.cond (.t 62) (.seq (.reg [⟨(some 64), 64, (.fld 1 (.t 3)), none, []⟩,
    ⟨(some 65), 65, (.load false 1 (.t 64)), none, [0]⟩,
    ⟨(some 66), 66, (.build [(.s (.pv (.int .i64 0))), (.s (.pv (.int .i64 0))), (.s (.pv (.string ⟨#[]⟩)))] [(0, 1, (.t 65)), (1, 1, (.k (.c (.s (.pv (.int .i64 1))))))]), none, [1]⟩,
    ⟨(some 8), 8, (.mk 41 3 [[(.s (.pv (.int .i64 0))), (.s (.pv (.int .i64 0))), (.s (.pv (.string ⟨#[]⟩)))]]), none, []⟩,
    ⟨none, 108, (.store 3 (.t 8) (.t 66)), none, [3, 2, 0, 1, 2, 3]⟩])
  (.seq (.draw [⟨(some 67), 67, (.fld 0 (.t 2)), none, []⟩,
    ⟨(some 68), 68, (.load false 1 (.t 67)), none, [0]⟩,
    ⟨(some 69), 69, (.call 34 [(.t 68)]), none, [1]⟩,
    ⟨(some 70), 70, (.mv (.t 6)), none, []⟩,
    ⟨(some 71), 71, (.load true 3 (.t 8)), none, []⟩,
    ⟨(some 72), 72, (.bslice 41 3 [(.s (.pv (.int .i64 0))), (.s (.pv (.int .i64 0))), (.s (.pv (.string ⟨#[]⟩)))] 1 [(0, 3, (.t 71))]), none, [4]⟩,
    ⟨(some 73), 73, (.call 33 [(.t 69), (.t 70), (.t 72)]), none, [2, 3, 5, 2]⟩,
    ⟨(some 74), 74, (.build [.zc] [(0, 1, (.t 73))]), none, [6]⟩,
    ⟨(some 75), 75, (.load true 3 (.t 8)), none, []⟩,
    ⟨(some 76), 76, (.build [(.s (.pv (.int .i64 0))), (.s (.pv (.int .i64 0))), (.s (.pv (.int .i64 0))), (.s (.pv (.string ⟨#[]⟩)))] [(1, 3, (.t 75))]), none, [8]⟩,
    ⟨none, 114, (.store 1 (.t 4) (.t 74)), none, [7, 6, 0, 1, 2, 3, 4, 5, 6, 7]⟩,
    ⟨none, 115, (.store 4 (.t 5) (.t 76)), none, [9, 10, 0, 1, 2, 3, 4, 5, 6, 7, 8, 9, 10]⟩])
  .ret)) (.seq (.reg [⟨(some 78), 78, (.bin false .eql (.t 61) (.k (.c (.s (.pv (.int .i64 3)))))), none, []⟩,
    ⟨(some 77), 77, (.mv (.t 78)), none, [0]⟩])
  (.cond (.t 77) (.seq (.reg [⟨(some 79), 79, (.load true 1 (.t 2)), none, []⟩,
    ⟨(some 80), 80, (.mv (.t 6)), none, []⟩,
    ⟨(some 81), 81, (.fld 2 (.t 3)), none, []⟩,
    ⟨(some 82), 82, (.load false 1 (.t 81)), none, [2]⟩,
    ⟨(some 83), 83, (.call 35 [(.t 79), (.t 80), (.t 82)]), none, [0, 1, 3]⟩,
    ⟨(some 84), 84, (.ext 0 (.t 83)), none, [4]⟩,
    ⟨(some 85), 85, (.ext 1 (.t 83)), none, [4]⟩,
    ⟨none, 111, (.store 1 (.t 4) (.t 84)), none, [5, 4, 0, 1, 2, 3, 4, 5, 6]⟩,
    ⟨none, 112, (.store 4 (.t 5) (.t 85)), none, [6, 7, 0, 1, 2, 3, 4, 5, 6, 7]⟩])
  .ret) (.seq (.reg [⟨(some 87), 87, (.bin false .eql (.t 61) (.k (.c (.s (.pv (.int .i64 4)))))), none, []⟩,
    ⟨(some 86), 86, (.mv (.t 87)), none, [0]⟩])
  (.cond (.t 86) (.seq (.reg [⟨(some 88), 88, (.fld 0 (.t 2)), none, []⟩,
    ⟨(some 89), 89, (.load false 1 (.t 88)), none, [0]⟩,
    ⟨(some 90), 90, (.call 34 [(.t 89)]), none, [1]⟩,
    ⟨(some 91), 91, (.mv (.t 6)), none, []⟩,
    ⟨(some 92), 92, (.mv (.t 6)), none, []⟩,
    ⟨(some 93), 93, (.bin false .add (.t 92) (.k (.c (.s (.pv (.int .i64 1)))))), none, [4]⟩,
    ⟨(some 94), 94, (.call 36 [(.t 90), (.t 91), (.t 93)]), none, [2, 3, 5, 2]⟩,
    ⟨(some 95), 95, (.build [.zc] [(0, 1, (.t 94))]), none, [6]⟩,
    ⟨(some 96), 96, (.build [(.s (.pv (.int .i64 0))), (.s (.pv (.int .i64 0))), (.s (.pv (.int .i64 0))), (.s (.pv (.string ⟨#[]⟩)))] []), none, []⟩,
    ⟨none, 113, (.store 1 (.t 4) (.t 95)), none, [7, 6, 0, 1, 2, 3, 4, 5, 6, 7]⟩,
    ⟨none, 114, (.store 4 (.t 5) (.t 96)), none, [8, 9, 0, 1, 2, 3, 4, 5, 6, 7, 8, 9]⟩])
  .ret) .skip))))))))
  (.seq (.draw [⟨(some 97), 97, (.load true 1 (.t 2)), none, []⟩,
    ⟨(some 98), 98, (.fld 0 (.t 2)), none, []⟩,
    ⟨(some 99), 99, (.load false 1 (.t 98)), none, [1]⟩,
    ⟨(some 100), 100, (.mv (.t 6)), none, []⟩,
    ⟨(some 101), 101, (.idx 3 (.t 99) (.t 100)), none, [2, 3]⟩,
    ⟨(some 102), 102, (.load true 3 (.t 101)), none, [4]⟩,
    ⟨(some 103), 103, (.build [(.s (.pv (.int .i64 0))), (.s (.pv (.int .i64 0))), (.s (.pv (.int .i64 0))), (.s (.pv (.string ⟨#[]⟩)))] [(1, 3, (.t 102))]), none, [5]⟩,
    ⟨none, 111, (.store 1 (.t 4) (.t 97)), none, [0, 0]⟩,
    ⟨none, 112, (.store 4 (.t 5) (.t 103)), none, [6, 7, 0, 1, 2, 3, 4, 5, 6, 7]⟩])
  .ret))))))
theorem fn23 : FnIs Try.prog 23 ac23 [(.cell 4 true 1), (.cell 5 true 4)] 104 := ⟨Try.f23, Try.func23, by kernel_rfl, by kernel_rfl, by kernel_rfl⟩
/- lockkeeper/lockkeeperref18.Do -/
def ac24 : ACode := (.seq (.reg [⟨(some 3), 3, (.box 39 3 (.t 1)), none, []⟩,
    ⟨(some 4), 4, (.mv (.k (.c .zc))), none, []⟩,
    ⟨(some 5), 5, (.mk 64 4 [[(.s (.pv (.int .i64 0))), (.s (.pv (.int .i64 0))), (.s (.pv (.int .i64 0))), (.s (.pv (.string ⟨#[]⟩)))]]), none, []⟩])
  (.seq (.seq (.reg [⟨(some 11), 11, (.mv (.t 0)), none, []⟩,
    ⟨(some 12), 12, (.call 20 [(.t 11)]), none, [0]⟩,
    ⟨(some 13), 13, (.not (.t 12)), none, [1]⟩,
    ⟨(some 14), 14, (.mv (.t 13)), none, [2, 1]⟩,
    ⟨(some 15), 15, (.fld 0 (.t 3)), (some (14, false)), [3]⟩,
    ⟨(some 16), 16, (.load false 1 (.t 15)), (some (14, false)), [4, 3]⟩,
    ⟨(some 17), 17, (.bin false .lss (.t 16) (.k (.c (.s (.pv (.int .i64 1)))))), (some (14, false)), [5, 3]⟩,
    ⟨(some 18), 18, (.pick (.t 14) (.k (.c (.s (.pv (.bool true))))) (.t 17)), none, [3, 6]⟩,
    ⟨(some 19), 19, (.mv (.t 18)), none, [7, 3]⟩,
    ⟨(some 20), 20, (.fld 0 (.t 3)), (some (19, false)), [8]⟩,
    ⟨(some 21), 21, (.load false 1 (.t 20)), (some (19, false)), [9, 8]⟩,
    ⟨(some 22), 22, (.bin false .gtr (.t 21) (.k (.c (.s (.pv (.int .i64 4)))))), (some (19, false)), [10, 8]⟩,
    ⟨(some 23), 23, (.pick (.t 19) (.k (.c (.s (.pv (.bool true))))) (.t 22)), none, [8, 11]⟩,
    ⟨(some 24), 24, (.mv (.t 23)), none, [12, 8]⟩,
    ⟨(some 25), 25, (.fld 1 (.t 3)), (some (24, false)), [13]⟩,
    ⟨(some 26), 26, (.load false 1 (.t 25)), (some (24, false)), [14, 13]⟩,
    ⟨(some 27), 27, (.bin false .lss (.t 26) (.k (.c (.s (.pv (.int .i64 1)))))), (some (24, false)), [15, 13]⟩,
    ⟨(some 28), 28, (.pick (.t 24) (.k (.c (.s (.pv (.bool true))))) (.t 27)), none, [13, 16]⟩,
    ⟨(some 29), 29, (.mv (.t 28)), none, [17, 13]⟩,
    ⟨(some 30), 30, (.fld 1 (.t 3)), (some (29, false)), [18]⟩,
    ⟨(some 31), 31, (.load false 1 (.t 30)), (some (29, false)), [19, 18]⟩,
    ⟨(some 32), 32, (.bin false .gtr (.t 31) (.k (.c (.s (.pv (.int .i64 16)))))), (some (29, false)), [20, 18]⟩,
    ⟨(some 33), 33, (.pick (.t 29) (.k (.c (.s (.pv (.bool true))))) (.t 32)), none, [18, 21]⟩])
  (.cond (.t 33) (.seq (.reg [⟨(some 34), 34, (.mv (.t 0)), none, []⟩,
    ⟨(some 35), 35, (.build [(.s (.pv (.int .i64 0))), (.s (.pv (.int .i64 0))), (.s (.pv (.int .i64 0))), (.s (.pv (.string ⟨#[]⟩)))] [(0, 1, (.k (.c (.s (.pv (.int .i64 1))))))]), none, []⟩,
    ⟨(some 4), 4, (.mv (.t 34)), none, [0, 0]⟩,
    ⟨none, 131, (.store 4 (.t 5) (.t 35)), none, [1, 2, 0, 1, 2]⟩])
  .ret) .skip))
  (.seq (.reg [⟨(some 6), 6, (.mk 77 3 [[(.s (.pv (.int .i64 0))), (.s (.pv (.int .i64 0))), (.s (.pv (.string ⟨#[]⟩)))], [(.s (.pv (.int .i64 0))), (.s (.pv (.int .i64 0))), (.s (.pv (.string ⟨#[]⟩)))], [(.s (.pv (.int .i64 0))), (.s (.pv (.int .i64 0))), (.s (.pv (.string ⟨#[]⟩)))], [(.s (.pv (.int .i64 0))), (.s (.pv (.int .i64 0))), (.s (.pv (.string ⟨#[]⟩)))], [(.s (.pv (.int .i64 0))), (.s (.pv (.int .i64 0))), (.s (.pv (.string ⟨#[]⟩)))], [(.s (.pv (.int .i64 0))), (.s (.pv (.int .i64 0))), (.s (.pv (.string ⟨#[]⟩)))], [(.s (.pv (.int .i64 0))), (.s (.pv (.int .i64 0))), (.s (.pv (.string ⟨#[]⟩)))], [(.s (.pv (.int .i64 0))), (.s (.pv (.int .i64 0))), (.s (.pv (.string ⟨#[]⟩)))], [(.s (.pv (.int .i64 0))), (.s (.pv (.int .i64 0))), (.s (.pv (.string ⟨#[]⟩)))], [(.s (.pv (.int .i64 0))), (.s (.pv (.int .i64 0))), (.s (.pv (.string ⟨#[]⟩)))], [(.s (.pv (.int .i64 0))), (.s (.pv (.int .i64 0))), (.s (.pv (.string ⟨#[]⟩)))], [(.s (.pv (.int .i64 0))), (.s (.pv (.int .i64 0))), (.s (.pv (.string ⟨#[]⟩)))], [(.s (.pv (.int .i64 0))), (.s (.pv (.int .i64 0))), (.s (.pv (.string ⟨#[]⟩)))], [(.s (.pv (.int .i64 0))), (.s (.pv (.int .i64 0))), (.s (.pv (.string ⟨#[]⟩)))], [(.s (.pv (.int .i64 0))), (.s (.pv (.int .i64 0))), (.s (.pv (.string ⟨#[]⟩)))], [(.s (.pv (.int .i64 0))), (.s (.pv (.int .i64 0))), (.s (.pv (.string ⟨#[]⟩)))], [(.s (.pv (.int .i64 0))), (.s (.pv (.int .i64 0))), (.s (.pv (.string ⟨#[]⟩)))]]), none, []⟩])
  (.seq (.seq (.reg [⟨(some 7), 7, (.mv (.k (.c (.s (.pv (.int .i64 0)))))), none, []⟩])
  (.block 0 (.loop (.seq (.seq (.reg [⟨(some 36), 36, (.mv (.t 7)), none, []⟩,
    ⟨(some 37), 37, (.mv (.t 0)), none, []⟩,
    ⟨(some 38), 38, (.len (.t 37)), none, [1]⟩,
    ⟨(some 39), 39, (.bin false .lss (.t 36) (.t 38)), none, [0, 2]⟩])
  (.cond (.t 39) .skip (.exit 0)))
  (.seq (.block 1 (.draw [⟨(some 42), 42, (.mv (.t 0)), none, []⟩,
    ⟨(some 43), 43, (.mv (.t 7)), none, []⟩,
    ⟨(some 44), 44, (.idx 3 (.t 42) (.t 43)), none, [0, 1]⟩,
    ⟨(some 45), 45, (.fld 0 (.t 44)), none, [2]⟩,
    ⟨(some 46), 46, (.load false 1 (.t 45)), none, [3]⟩,
    ⟨(some 47), 47, (.mv (.t 0)), none, []⟩,
    ⟨(some 48), 48, (.mv (.t 7)), none, []⟩,
    ⟨(some 49), 49, (.idx 3 (.t 47) (.t 48)), none, [5, 6]⟩,
    ⟨(some 50), 50, (.load true 3 (.t 49)), none, [7]⟩,
    ⟨(some 51), 51, (.aidx 17 3 (.t 6) (.t 46)), none, [4, 0, 1, 2, 3, 4, 5, 6, 7, 8]⟩,
    ⟨none, 138, (.store 3 (.t 51) (.t 50)), none, [9, 8, 0, 1, 2, 3, 4, 5, 6, 7, 8]⟩]))
  (.reg [⟨(some 40), 40, (.mv (.t 7)), none, []⟩,
    ⟨(some 41), 41, (.bin false .add (.t 40) (.k (.c (.s (.pv (.int .i64 1)))))), none, [0]⟩,
    ⟨(some 7), 7, (.mv (.t 41)), none, [1, 0, 1]⟩]))))))
  (.seq (.reg [⟨(some 52), 52, (.fld 1 (.t 3)), none, []⟩,
    ⟨(some 53), 53, (.load false 1 (.t 52)), none, [0]⟩,
    ⟨(some 54), 54, (.aidx 17 3 (.t 6) (.t 53)), none, [1]⟩,
    ⟨(some 55), 55, (.load true 3 (.t 54)), none, [2]⟩,
    ⟨(some 8), 8, (.mk 41 3 [[(.s (.pv (.int .i64 0))), (.s (.pv (.int .i64 0))), (.s (.pv (.string ⟨#[]⟩)))]]), none, []⟩,
    ⟨none, 133, (.store 3 (.t 8) (.t 55)), none, [4, 3, 0, 1, 2, 3, 4]⟩])
  (.seq (.seq (.reg [⟨(some 56), 56, (.fld 0 (.t 3)), none, []⟩,
    ⟨(some 57), 57, (.load false 1 (.t 56)), none, [0]⟩,
    ⟨(some 58), 58, (.bin false .eql (.t 57) (.k (.c (.s (.pv (.int .i64 1)))))), none, [1]⟩,
    ⟨(some 59), 59, (.mv (.t 58)), none, [2]⟩,
    ⟨(some 60), 60, (.fld 0 (.t 8)), (some (59, true)), [3]⟩,
    ⟨(some 61), 61, (.load false 1 (.t 60)), (some (59, true)), [4, 3]⟩,
    ⟨(some 62), 62, (.bin false .neq (.t 61) (.k (.c (.s (.pv (.int .i64 0)))))), (some (59, true)), [5, 3]⟩,
    ⟨(some 63), 63, (.pick (.t 59) (.t 62) (.k (.c (.s (.pv (.bool false)))))), none, [3, 6]⟩])
  (.cond (.t 63) (.seq (.reg [⟨(some 64), 64, (.mv (.t 0)), none, []⟩,
    ⟨(some 65), 65, (.build [(.s (.pv (.int .i64 0))), (.s (.pv (.int .i64 0))), (.s (.pv (.int .i64 0))), (.s (.pv (.string ⟨#[]⟩)))] [(0, 1, (.k (.c (.s (.pv (.int .i64 4))))))]), none, []⟩,
    ⟨(some 4), 4, (.mv (.t 64)), none, [0, 0]⟩,
    ⟨none, 131, (.store 4 (.t 5) (.t 65)), none, [1, 2, 0, 1, 2]⟩])
  .ret) .skip))
  (.seq (.seq (.reg [⟨(some 66), 66, (.fld 0 (.t 3)), none, []⟩,
    ⟨(some 67), 67, (.load false 1 (.t 66)), none, [0]⟩,
    ⟨(some 68), 68, (.bin false .gtr (.t 67) (.k (.c (.s (.pv (.int .i64 1)))))), none, [1]⟩,
    ⟨(some 69), 69, (.mv (.t 68)), none, [2]⟩,
    ⟨(some 70), 70, (.fld 0 (.t 8)), (some (69, true)), [3]⟩,
    ⟨(some 71), 71, (.load false 1 (.t 70)), (some (69, true)), [4, 3]⟩,
    ⟨(some 72), 72, (.bin false .eql (.t 71) (.k (.c (.s (.pv (.int .i64 0)))))), (some (69, true)), [5, 3]⟩,
    ⟨(some 73), 73, (.pick (.t 69) (.t 72) (.k (.c (.s (.pv (.bool false)))))), none, [3, 6]⟩])
  (.cond (.t 73) (.seq (.reg [⟨(some 74), 74, (.mv (.t 0)), none, []⟩,
    ⟨(some 75), 75, (.build [(.s (.pv (.int .i64 0))), (.s (.pv (.int .i64 0))), (.s (.pv (.int .i64 0))), (.s (.pv (.string ⟨#[]⟩)))] [(0, 1, (.k (.c (.s (.pv (.int .i64 3))))))]), none, []⟩,
    ⟨(some 4), 4, (.mv (.t 74)), none, [0, 0]⟩,
    ⟨none, 131, (.store 4 (.t 5) (.t 75)), none, [1, 2, 0, 1, 2]⟩])
  .ret) .skip))
  (.seq (.seq (.reg [⟨(some 76), 76, (.fld 0 (.t 3)), none, []⟩,
    ⟨(some 77), 77, (.load false 1 (.t 76)), none, [0]⟩])
  (.block 2 (.seq (.reg [⟨(some 79), 79, (.bin false .eql (.t 77) (.k (.c (.s (.pv (.int .i64 1)))))), none, []⟩,
    ⟨(some 78), 78, (.mv (.t 79)), none, [0]⟩])
  (.cond (.t 78) (.reg [⟨(some 80), 80, (.fld 1 (.t 3)), none, []⟩,
    ⟨(some 81), 81, (.load false 1 (.t 80)), none, [0]⟩,
    ⟨(some 82), 82, (.build [(.s (.pv (.int .i64 0))), (.s (.pv (.int .i64 0))), (.s (.pv (.string ⟨#[]⟩)))] [(0, 1, (.t 81)), (1, 1, (.k (.c (.s (.pv (.int .i64 1))))))]), none, [1]⟩,
    ⟨none, 131, (.store 3 (.t 8) (.t 82)), none, [2, 0, 1, 2]⟩]) (.seq (.reg [⟨(some 84), 84, (.bin false .eql (.t 77) (.k (.c (.s (.pv (.int .i64 3)))))), none, []⟩,
    ⟨(some 83), 83, (.mv (.t 84)), none, [0]⟩])
  (.cond (.t 83) (.seq (.seq (.reg [⟨(some 85), 85, (.fld 2 (.t 3)), none, []⟩,
    ⟨(some 86), 86, (.load false 1 (.t 85)), none, [0]⟩,
    ⟨(some 87), 87, (.slen (.t 86)), none, [1]⟩,
    ⟨(some 88), 88, (.bin false .gtr (.t 87) (.k (.c (.s (.pv (.int .i64 16)))))), none, [2]⟩])
  (.cond (.t 88) (.seq (.reg [⟨(some 89), 89, (.mv (.t 0)), none, []⟩,
    ⟨(some 90), 90, (.build [(.s (.pv (.int .i64 0))), (.s (.pv (.int .i64 0))), (.s (.pv (.int .i64 0))), (.s (.pv (.string ⟨#[]⟩)))] [(0, 1, (.k (.c (.s (.pv (.int .i64 5))))))]), none, []⟩,
    ⟨(some 4), 4, (.mv (.t 89)), none, [0, 0]⟩,
    ⟨none, 131, (.store 4 (.t 5) (.t 90)), none, [1, 2, 0, 1, 2]⟩])
  .ret) .skip))
  (.seq (.seq (.reg [⟨(some 91), 91, (.fld 1 (.t 8)), none, []⟩,
    ⟨(some 92), 92, (.load false 1 (.t 91)), none, [0]⟩,
    ⟨(some 93), 93, (.bin false .eql (.t 92) (.k (.c (.s (.pv (.int .i64 2147483647)))))), none, [1]⟩])
  (.cond (.t 93) (.seq (.reg [⟨(some 94), 94, (.mv (.t 0)), none, []⟩,
    ⟨(some 95), 95, (.build [(.s (.pv (.int .i64 0))), (.s (.pv (.int .i64 0))), (.s (.pv (.int .i64 0))), (.s (.pv (.string ⟨#[]⟩)))] [(0, 1, (.k (.c (.s (.pv (.int .i64 7))))))]), none, []⟩,
    ⟨(some 4), 4, (.mv (.t 94)), none, [0, 0]⟩,
    ⟨none, 131, (.store 4 (.t 5) (.t 95)), none, [1, 2, 0, 1, 2]⟩])
  .ret) .skip))
  (.seq (.reg [⟨(some 96), 96, (.fld 2 (.t 3)), none, []⟩,
    ⟨(some 97), 97, (.load false 1 (.t 96)), none, [0]⟩,
    ⟨(some 98), 98, (.fld 2 (.t 8)), none, [0, 1]⟩,
    ⟨none, 131, (.store 1 (.t 98) (.t 97)), none, [2, 1, 0, 1]⟩])
  (.reg [⟨(some 99), 99, (.fld 1 (.t 8)), none, []⟩,
    ⟨(some 100), 100, (.load false 1 (.t 99)), none, [0]⟩,
    ⟨(some 101), 101, (.bin false .add (.t 100) (.k (.c (.s (.pv (.int .i64 1)))))), none, [1]⟩,
    ⟨(some 102), 102, (.fld 1 (.t 8)), none, [0, 1, 2]⟩,
    ⟨none, 132, (.store 1 (.t 102) (.t 101)), none, [3, 2, 0, 1, 2]⟩])))) (.seq (.reg [⟨(some 104), 104, (.bin false .eql (.t 77) (.k (.c (.s (.pv (.int .i64 4)))))), none, []⟩,
    ⟨(some 103), 103, (.mv (.t 104)), none, [0]⟩])
  (.cond (.t 103) (.reg [⟨(some 105), 105, (.build [(.s (.pv (.int .i64 0))), (.s (.pv (.int .i64 0))), (.s (.pv (.string ⟨#[]⟩)))] []), none, []⟩,
    ⟨none, 129, (.store 3 (.t 8) (.t 105)), none, [0, 0]⟩]) .skip))))))))
  (.seq (.reg [⟨(some 106), 106, (.fld 1 (.t 3)), none, []⟩,
    ⟨(some 107), 107, (.load false 1 (.t 106)), none, [0]⟩,
    ⟨(some 108), 108, (.load true 3 (.t 8)), none, []⟩,
    ⟨(some 109), 109, (.aidx 17 3 (.t 6) (.t 107)), none, [1, 0, 1, 2]⟩,
    ⟨none, 132, (.store 3 (.t 109) (.t 108)), none, [3, 2, 0, 1, 2]⟩])
  (.seq (.reg [⟨(some 9), 9, (.mv (.k (.c .zc))), none, []⟩])
  (.seq (.seq (.reg [⟨(some 10), 10, (.mv (.k (.c (.s (.pv (.int .i64 1)))))), none, []⟩])
  (.block 3 (.loop (.seq (.seq (.reg [⟨(some 110), 110, (.mv (.t 10)), none, []⟩,
    ⟨(some 111), 111, (.bin false .lss (.t 110) (.k (.c (.s (.pv (.int .i64 17)))))), none, [0]⟩])
  (.cond (.t 111) .skip (.exit 3)))
  (.seq (.block 4 (.seq (.reg [⟨(some 114), 114, (.mv (.t 10)), none, []⟩,
    ⟨(some 115), 115, (.aidx 17 3 (.t 6) (.t 114)), none, [0]⟩,
    ⟨(some 116), 116, (.fld 0 (.t 115)), none, [1]⟩,
    ⟨(some 117), 117, (.load false 1 (.t 116)), none, [2]⟩,
    ⟨(some 118), 118, (.bin false .neq (.t 117) (.k (.c (.s (.pv (.int .i64 0)))))), none, [3]⟩])
  (.cond (.t 118) (.reg [⟨(some 119), 119, (.mv (.t 9)), none, []⟩,
    ⟨(some 120), 120, (.mv (.t 10)), none, []⟩,
    ⟨(some 121), 121, (.aidx 17 3 (.t 6) (.t 120)), none, [1]⟩,
    ⟨(some 122), 122, (.load true 3 (.t 121)), none, [2]⟩,
    ⟨(some 123), 123, (.bslice 41 3 [(.s (.pv (.int .i64 0))), (.s (.pv (.int .i64 0))), (.s (.pv (.string ⟨#[]⟩)))] 1 [(0, 3, (.t 122))]), none, [3]⟩,
    ⟨(some 124), 124, (.app 41 3 32 (.t 119) (.t 123)), none, [0, 4]⟩,
    ⟨(some 9), 9, (.mv (.t 124)), none, [5, 5, 0, 1, 2, 3, 4, 5]⟩]) .skip)))
  (.reg [⟨(some 112), 112, (.mv (.t 10)), none, []⟩,
    ⟨(some 113), 113, (.bin false .add (.t 112) (.k (.c (.s (.pv (.int .i64 1)))))), none, [0]⟩,
    ⟨(some 10), 10, (.mv (.t 113)), none, [1, 0, 1]⟩]))))))
  (.seq (.draw [⟨(some 125), 125, (.mv (.t 9)), none, []⟩,
    ⟨(some 126), 126, (.load true 3 (.t 8)), none, []⟩,
    ⟨(some 127), 127, (.build [(.s (.pv (.int .i64 0))), (.s (.pv (.int .i64 0))), (.s (.pv (.int .i64 0))), (.s (.pv (.string ⟨#[]⟩)))] [(1, 3, (.t 126))]), none, [1]⟩,
    ⟨(some 4), 4, (.mv (.t 125)), none, [0, 0]⟩,
    ⟨none, 132, (.store 4 (.t 5) (.t 127)), none, [2, 3, 0, 1, 2, 3]⟩])
  .ret))))))))))))
theorem fn24 : FnIs Try.prog 24 ac24 [(.t 4), (.cell 5 true 4)] 128 := ⟨Try.f24, Try.func24, by kernel_rfl, by kernel_rfl, by kernel_rfl⟩
/- lockkeeper/history.sorted -/
def ac25 : ACode := (.seq (.reg [⟨(some 4), 4, (.mv (.k (.c .zc))), none, []⟩])
  (.seq (.reg [⟨(some 5), 5, (.mv (.t 0)), none, []⟩,
    ⟨(some 6), 6, (.call 37 [(.t 5)]), none, [0]⟩,
    ⟨(some 0), 0, (.mv (.t 6)), none, [1, 1, 0, 1]⟩])
  (.seq (.reg [⟨(some 7), 7, (.mv (.t 0)), none, []⟩,
    ⟨(some 8), 8, (.mv (.t 1)), none, []⟩,
    ⟨(some 9), 9, (.call 38 [(.t 7), (.t 8)]), none, [0, 1]⟩])
  (.seq (.reg [⟨(some 10), 10, (.mv (.t 0)), none, []⟩,
    ⟨(some 4), 4, (.mv (.t 10)), none, [0, 0]⟩])
  .ret))))
theorem fn25 : FnIs Try.prog 25 ac25 [(.t 4)] 11 := ⟨Try.f25, Try.func25, by kernel_rfl, by kernel_rfl, by kernel_rfl⟩
/- lockkeeper/history.Sort$1 -/
def ac26 : ACode := (.seq (.reg [⟨(some 2), 2, (.box 52 11 (.t 0)), none, []⟩,
    ⟨(some 3), 3, (.box 52 11 (.t 1)), none, []⟩,
    ⟨(some 4), 4, (.mv (.k (.c (.s (.pv (.int .i64 0)))))), none, []⟩])
  (.seq (.reg [⟨(some 5), 5, (.fld 9 (.t 2)), none, []⟩,
    ⟨(some 6), 6, (.load false 1 (.t 5)), none, [0]⟩,
    ⟨(some 7), 7, (.fld 9 (.t 3)), none, []⟩,
    ⟨(some 8), 8, (.load false 1 (.t 7)), none, [2]⟩,
    ⟨(some 9), 9, (.call 27 [(.t 6), (.t 8)]), none, [1, 3]⟩,
    ⟨(some 4), 4, (.mv (.t 9)), none, [4, 4, 0, 1, 2, 3, 4]⟩])
  .ret))
theorem fn26 : FnIs Try.prog 26 ac26 [(.t 4)] 10 := ⟨Try.f26, Try.func26, by kernel_rfl, by kernel_rfl, by kernel_rfl⟩
/- cmp.Compare[int] -/
def ac27 : ACode := (.seq (.reg [⟨(some 4), 4, (.mv (.k (.c (.s (.pv (.int .i64 0)))))), none, []⟩])
  (.seq (.reg [⟨(some 7), 7, (.mv (.t 0)), none, []⟩,
    ⟨(some 8), 8, (.call 39 [(.t 7)]), none, [0]⟩,
    ⟨(some 5), 5, (.mv (.t 8)), none, [1, 1, 0, 1]⟩])
  (.seq (.reg [⟨(some 9), 9, (.mv (.t 1)), none, []⟩,
    ⟨(some 10), 10, (.call 39 [(.t 9)]), none, [0]⟩,
    ⟨(some 6), 6, (.mv (.t 10)), none, [1, 1, 0, 1]⟩])
  (.seq (.seq (.reg [⟨(some 11), 11, (.mv (.t 5)), none, []⟩])
  (.cond (.t 11) (.seq (.seq (.reg [⟨(some 12), 12, (.mv (.t 6)), none, []⟩])
  (.cond (.t 12) (.seq (.reg [⟨(some 4), 4, (.mv (.k (.c (.s (.pv (.int .i64 0)))))), none, []⟩])
  .ret) .skip))
  (.seq (.reg [⟨(some 4), 4, (.mv (.k (.c (.s (.pv (.int .i64 (-1))))))), none, []⟩])
  .ret)) .skip))
  (.seq (.seq (.reg [⟨(some 13), 13, (.mv (.t 6)), none, []⟩])
  (.cond (.t 13) (.seq (.reg [⟨(some 4), 4, (.mv (.k (.c (.s (.pv (.int .i64 1)))))), none, []⟩])
  .ret) .skip))
  (.seq (.seq (.reg [⟨(some 14), 14, (.mv (.t 0)), none, []⟩,
    ⟨(some 15), 15, (.mv (.t 1)), none, []⟩,
    ⟨(some 16), 16, (.bin false .lss (.t 14) (.t 15)), none, [0, 1]⟩])
  (.cond (.t 16) (.seq (.reg [⟨(some 4), 4, (.mv (.k (.c (.s (.pv (.int .i64 (-1))))))), none, []⟩])
  .ret) .skip))
  (.seq (.seq (.reg [⟨(some 17), 17, (.mv (.t 0)), none, []⟩,
    ⟨(some 18), 18, (.mv (.t 1)), none, []⟩,
    ⟨(some 19), 19, (.bin false .gtr (.t 17) (.t 18)), none, [0, 1]⟩])
  (.cond (.t 19) (.seq (.reg [⟨(some 4), 4, (.mv (.k (.c (.s (.pv (.int .i64 1)))))), none, []⟩])
  .ret) .skip))
  (.seq (.reg [⟨(some 4), 4, (.mv (.k (.c (.s (.pv (.int .i64 0)))))), none, []⟩])
  .ret))))))))
theorem fn27 : FnIs Try.prog 27 ac27 [(.t 4)] 20 := ⟨Try.f27, Try.func27, by kernel_rfl, by kernel_rfl, by kernel_rfl⟩
/- lockkeeper/history.doneApart -/
def ac28 : ACode := (.seq (.reg [⟨(some 2), 2, (.mv (.k (.c (.s (.pv (.bool false)))))), none, []⟩])
  (.seq (.reg [⟨(some 4), 4, (.mv (.t 0)), none, []⟩,
    ⟨(some 5), 5, (.call 15 [(.t 4)]), none, [0]⟩,
    ⟨(some 0), 0, (.mv (.t 5)), none, [1, 1, 0, 1]⟩])
  (.seq (.seq (.reg [⟨(some 3), 3, (.mv (.k (.c (.s (.pv (.int .i64 1)))))), none, []⟩])
  (.block 0 (.loop (.seq (.seq (.reg [⟨(some 6), 6, (.mv (.t 3)), none, []⟩,
    ⟨(some 7), 7, (.mv (.t 0)), none, []⟩,
    ⟨(some 8), 8, (.len (.t 7)), none, [1]⟩,
    ⟨(some 9), 9, (.bin false .lss (.t 6) (.t 8)), none, [0, 2]⟩])
  (.cond (.t 9) .skip (.exit 0)))
  (.seq (.block 1 (.seq (.draw [⟨(some 12), 12, (.mv (.t 0)), none, []⟩,
    ⟨(some 13), 13, (.mv (.t 3)), none, []⟩,
    ⟨(some 14), 14, (.bin false .sub (.t 13) (.k (.c (.s (.pv (.int .i64 1)))))), none, [1]⟩,
    ⟨(some 15), 15, (.idx 11 (.t 12) (.t 14)), none, [0, 2]⟩,
    ⟨(some 16), 16, (.fld 9 (.t 15)), none, [3]⟩,
    ⟨(some 17), 17, (.load false 1 (.t 16)), none, [4]⟩,
    ⟨(some 18), 18, (.mv (.t 0)), none, []⟩,
    ⟨(some 19), 19, (.mv (.t 3)), none, []⟩,
    ⟨(some 20), 20, (.idx 11 (.t 18) (.t 19)), none, [6, 7]⟩,
    ⟨(some 21), 21, (.fld 9 (.t 20)), none, [8]⟩,
    ⟨(some 22), 22, (.load false 1 (.t 21)), none, [9]⟩,
    ⟨(some 23), 23, (.bin false .eql (.t 17) (.t 22)), none, [5, 10]⟩])
  (.cond (.t 23) (.seq (.reg [⟨(some 2), 2, (.mv (.k (.c (.s (.pv (.bool false)))))), none, []⟩])
  .ret) .skip)))
  (.reg [⟨(some 10), 10, (.mv (.t 3)), none, []⟩,
    ⟨(some 11), 11, (.bin false .add (.t 10) (.k (.c (.s (.pv (.int .i64 1)))))), none, [0]⟩,
    ⟨(some 3), 3, (.mv (.t 11)), none, [1, 0, 1]⟩]))))))
  (.seq (.reg [⟨(some 2), 2, (.mv (.k (.c (.s (.pv (.bool true)))))), none, []⟩])
  .ret))))
theorem fn28 : FnIs Try.prog 28 ac28 [(.t 2)] 24 := ⟨Try.f28, Try.func28, by kernel_rfl, by kernel_rfl, by kernel_rfl⟩
/- lockkeeper/history.workersApart -/
def ac29 : ACode := (.seq (.reg [⟨(some 2), 2, (.mv (.k (.c (.s (.pv (.bool false)))))), none, []⟩])
  (.seq (.reg [⟨(some 4), 4, (.mv (.t 0)), none, []⟩,
    ⟨(some 5), 5, (.call 25 [(.t 4), (.k (.c (.s (.fn 40 []))))]), none, [0]⟩,
    ⟨(some 0), 0, (.mv (.t 5)), none, [1, 1, 0, 1]⟩])
  (.seq (.seq (.reg [⟨(some 3), 3, (.mv (.k (.c (.s (.pv (.int .i64 1)))))), none, []⟩])
  (.block 0 (.loop (.seq (.seq (.reg [⟨(some 6), 6, (.mv (.t 3)), none, []⟩,
    ⟨(some 7), 7, (.mv (.t 0)), none, []⟩,
    ⟨(some 8), 8, (.len (.t 7)), none, [1]⟩,
    ⟨(some 9), 9, (.bin false .lss (.t 6) (.t 8)), none, [0, 2]⟩])
  (.cond (.t 9) .skip (.exit 0)))
  (.seq (.block 1 (.seq (.draw [⟨(some 12), 12, (.mv (.t 0)), none, []⟩,
    ⟨(some 13), 13, (.mv (.t 3)), none, []⟩,
    ⟨(some 14), 14, (.bin false .sub (.t 13) (.k (.c (.s (.pv (.int .i64 1)))))), none, [1]⟩,
    ⟨(some 15), 15, (.idx 11 (.t 12) (.t 14)), none, [0, 2]⟩,
    ⟨(some 16), 16, (.fld 0 (.t 15)), none, [3]⟩,
    ⟨(some 17), 17, (.load false 1 (.t 16)), none, [4]⟩,
    ⟨(some 18), 18, (.mv (.t 0)), none, []⟩,
    ⟨(some 19), 19, (.mv (.t 3)), none, []⟩,
    ⟨(some 20), 20, (.idx 11 (.t 18) (.t 19)), none, [6, 7]⟩,
    ⟨(some 21), 21, (.fld 0 (.t 20)), none, [8]⟩,
    ⟨(some 22), 22, (.load false 1 (.t 21)), none, [9]⟩,
    ⟨(some 23), 23, (.bin false .eql (.t 17) (.t 22)), none, [5, 10]⟩,
    ⟨(some 24), 24, (.mv (.t 23)), none, [11]⟩,
    ⟨(some 25), 25, (.mv (.t 0)), (some (24, true)), [12]⟩,
    ⟨(some 26), 26, (.mv (.t 3)), (some (24, true)), [12]⟩,
    ⟨(some 27), 27, (.idx 11 (.t 25) (.t 26)), (some (24, true)), [13, 14, 12]⟩,
    ⟨(some 28), 28, (.fld 8 (.t 27)), (some (24, true)), [15, 12]⟩,
    ⟨(some 29), 29, (.load false 1 (.t 28)), (some (24, true)), [16, 12]⟩,
    ⟨(some 30), 30, (.mv (.t 0)), (some (24, true)), [12]⟩,
    ⟨(some 31), 31, (.mv (.t 3)), (some (24, true)), [12]⟩,
    ⟨(some 32), 32, (.bin false .sub (.t 31) (.k (.c (.s (.pv (.int .i64 1)))))), (some (24, true)), [19, 12]⟩,
    ⟨(some 33), 33, (.idx 11 (.t 30) (.t 32)), (some (24, true)), [18, 20, 12]⟩,
    ⟨(some 34), 34, (.fld 10 (.t 33)), (some (24, true)), [21, 12]⟩,
    ⟨(some 35), 35, (.load false 1 (.t 34)), (some (24, true)), [22, 12]⟩,
    ⟨(some 36), 36, (.bin false .leq (.t 29) (.t 35)), (some (24, true)), [17, 23, 12]⟩,
    ⟨(some 37), 37, (.pick (.t 24) (.t 36) (.k (.c (.s (.pv (.bool false)))))), none, [12, 24]⟩])
  (.cond (.t 37) (.seq (.reg [⟨(some 2), 2, (.mv (.k (.c (.s (.pv (.bool false)))))), none, []⟩])
  .ret) .skip)))
  (.reg [⟨(some 10), 10, (.mv (.t 3)), none, []⟩,
    ⟨(some 11), 11, (.bin false .add (.t 10) (.k (.c (.s (.pv (.int .i64 1)))))), none, [0]⟩,
    ⟨(some 3), 3, (.mv (.t 11)), none, [1, 0, 1]⟩]))))))
  (.seq (.reg [⟨(some 2), 2, (.mv (.k (.c (.s (.pv (.bool true)))))), none, []⟩])
  .ret))))
theorem fn29 : FnIs Try.prog 29 ac29 [(.t 2)] 38 := ⟨Try.f29, Try.func29, by kernel_rfl, by kernel_rfl, by kernel_rfl⟩
/- lockkeeper/lockkeeperref02.Right -/
def ac30 : ACode := (.seq (.reg [⟨(some 1), 1, (.box 41 3 (.t 0)), none, []⟩,
    ⟨(some 2), 2, (.mv (.k (.c (.s (.pv (.bool false)))))), none, []⟩])
  (.seq (.reg [⟨(some 3), 3, (.fld 0 (.t 1)), none, []⟩,
    ⟨(some 4), 4, (.load false 1 (.t 3)), none, [0]⟩,
    ⟨(some 5), 5, (.bin false .gtr (.t 4) (.k (.c (.s (.pv (.int .i64 0)))))), none, [1]⟩,
    ⟨(some 6), 6, (.mv (.t 5)), none, [2]⟩,
    ⟨(some 7), 7, (.fld 0 (.t 1)), (some (6, true)), [3]⟩,
    ⟨(some 8), 8, (.load false 1 (.t 7)), (some (6, true)), [4, 3]⟩,
    ⟨(some 9), 9, (.bin false .lss (.t 8) (.k (.c (.s (.pv (.int .i64 17)))))), (some (6, true)), [5, 3]⟩,
    ⟨(some 10), 10, (.pick (.t 6) (.t 9) (.k (.c (.s (.pv (.bool false)))))), none, [3, 6]⟩,
    ⟨(some 11), 11, (.mv (.t 10)), none, [7, 3]⟩,
    ⟨(some 12), 12, (.fld 1 (.t 1)), (some (11, true)), [8]⟩,
    ⟨(some 13), 13, (.load false 1 (.t 12)), (some (11, true)), [9, 8]⟩,
    ⟨(some 14), 14, (.bin false .gtr (.t 13) (.k (.c (.s (.pv (.int .i64 0)))))), (some (11, true)), [10, 8]⟩,
    ⟨(some 15), 15, (.pick (.t 11) (.t 14) (.k (.c (.s (.pv (.bool false)))))), none, [8, 11]⟩,
    ⟨(some 16), 16, (.mv (.t 15)), none, [12, 8]⟩,
    ⟨(some 17), 17, (.fld 1 (.t 1)), (some (16, true)), [13]⟩,
    ⟨(some 18), 18, (.load false 1 (.t 17)), (some (16, true)), [14, 13]⟩,
    ⟨(some 19), 19, (.bin false .lss (.t 18) (.k (.c (.s (.pv (.int .i64 2147483648)))))), (some (16, true)), [15, 13]⟩,
    ⟨(some 20), 20, (.pick (.t 16) (.t 19) (.k (.c (.s (.pv (.bool false)))))), none, [13, 16]⟩,
    ⟨(some 21), 21, (.mv (.t 20)), none, [17, 13]⟩,
    ⟨(some 22), 22, (.fld 2 (.t 1)), (some (21, true)), [18]⟩,
    ⟨(some 23), 23, (.load false 1 (.t 22)), (some (21, true)), [19, 18]⟩,
    ⟨(some 24), 24, (.slen (.t 23)), (some (21, true)), [20, 18]⟩,
    ⟨(some 25), 25, (.bin false .lss (.t 24) (.k (.c (.s (.pv (.int .i64 17)))))), (some (21, true)), [21, 18]⟩,
    ⟨(some 26), 26, (.pick (.t 21) (.t 25) (.k (.c (.s (.pv (.bool false)))))), none, [18, 22]⟩,
    ⟨(some 2), 2, (.mv (.t 26)), none, [23, 18, 0, 1, 2, 3, 4, 5, 6, 7, 8, 9, 10, 11, 12, 13, 14, 15, 16, 17, 18, 19, 20, 21, 22, 23]⟩])
  .ret))
theorem fn30 : FnIs Try.prog 30 ac30 [(.t 2)] 27 := ⟨Try.f30, Try.func30, by kernel_rfl, by kernel_rfl, by kernel_rfl⟩
/- lockkeeper/page.Right -/
def ac31 : ACode := (.seq (.reg [⟨(some 1), 1, (.box 41 3 (.t 0)), none, []⟩,
    ⟨(some 2), 2, (.mv (.k (.c (.s (.pv (.bool false)))))), none, []⟩])
  (.seq (.reg [⟨(some 3), 3, (.fld 0 (.t 1)), none, []⟩,
    ⟨(some 4), 4, (.load false 1 (.t 3)), none, [0]⟩,
    ⟨(some 5), 5, (.bin false .geq (.t 4) (.k (.c (.s (.pv (.int .i64 1)))))), none, [1]⟩,
    ⟨(some 6), 6, (.mv (.t 5)), none, [2]⟩,
    ⟨(some 7), 7, (.fld 0 (.t 1)), (some (6, true)), [3]⟩,
    ⟨(some 8), 8, (.load false 1 (.t 7)), (some (6, true)), [4, 3]⟩,
    ⟨(some 9), 9, (.bin false .leq (.t 8) (.k (.c (.s (.pv (.int .i64 16)))))), (some (6, true)), [5, 3]⟩,
    ⟨(some 10), 10, (.pick (.t 6) (.t 9) (.k (.c (.s (.pv (.bool false)))))), none, [3, 6]⟩,
    ⟨(some 11), 11, (.mv (.t 10)), none, [7, 3]⟩,
    ⟨(some 12), 12, (.fld 1 (.t 1)), (some (11, true)), [8]⟩,
    ⟨(some 13), 13, (.load false 1 (.t 12)), (some (11, true)), [9, 8]⟩,
    ⟨(some 14), 14, (.bin false .geq (.t 13) (.k (.c (.s (.pv (.int .i64 1)))))), (some (11, true)), [10, 8]⟩,
    ⟨(some 15), 15, (.pick (.t 11) (.t 14) (.k (.c (.s (.pv (.bool false)))))), none, [8, 11]⟩,
    ⟨(some 16), 16, (.mv (.t 15)), none, [12, 8]⟩,
    ⟨(some 17), 17, (.fld 1 (.t 1)), (some (16, true)), [13]⟩,
    ⟨(some 18), 18, (.load false 1 (.t 17)), (some (16, true)), [14, 13]⟩,
    ⟨(some 19), 19, (.bin false .leq (.t 18) (.k (.c (.s (.pv (.int .i64 2147483647)))))), (some (16, true)), [15, 13]⟩,
    ⟨(some 20), 20, (.pick (.t 16) (.t 19) (.k (.c (.s (.pv (.bool false)))))), none, [13, 16]⟩,
    ⟨(some 21), 21, (.mv (.t 20)), none, [17, 13]⟩,
    ⟨(some 22), 22, (.fld 2 (.t 1)), (some (21, true)), [18]⟩,
    ⟨(some 23), 23, (.load false 1 (.t 22)), (some (21, true)), [19, 18]⟩,
    ⟨(some 24), 24, (.slen (.t 23)), (some (21, true)), [20, 18]⟩,
    ⟨(some 25), 25, (.bin false .leq (.t 24) (.k (.c (.s (.pv (.int .i64 16)))))), (some (21, true)), [21, 18]⟩,
    ⟨(some 26), 26, (.pick (.t 21) (.t 25) (.k (.c (.s (.pv (.bool false)))))), none, [18, 22]⟩,
    ⟨(some 2), 2, (.mv (.t 26)), none, [23, 18, 0, 1, 2, 3, 4, 5, 6, 7, 8, 9, 10, 11, 12, 13, 14, 15, 16, 17, 18, 19, 20, 21, 22, 23]⟩])
  .ret))
theorem fn31 : FnIs Try.prog 31 ac31 [(.t 2)] 27 := ⟨Try.f31, Try.func31, by kernel_rfl, by kernel_rfl, by kernel_rfl⟩
/- lockkeeper/ops.place -/
def ac32 : ACode := (.seq (.reg [⟨(some 2), 2, (.box 24 1 (.t 0)), none, []⟩,
    ⟨(some 4), 4, (.mv (.k (.c (.s (.pv (.int .i64 0)))))), none, []⟩,
    ⟨(some 5), 5, (.mv (.k (.c (.s (.pv (.bool false)))))), none, [1]⟩])
  (.seq (.reg [⟨(some 6), 6, (.fld 0 (.t 2)), none, []⟩,
    ⟨(some 7), 7, (.load false 1 (.t 6)), none, [0]⟩,
    ⟨(some 8), 8, (.mv (.t 1)), none, []⟩,
    ⟨(some 9), 9, (.call 42 [(.t 7), (.t 8), (.k (.c (.s (.fn 43 []))))]), none, [1, 2]⟩,
    ⟨(some 10), 10, (.ext 0 (.t 9)), none, [3]⟩,
    ⟨(some 11), 11, (.ext 1 (.t 9)), none, [3]⟩,
    ⟨(some 4), 4, (.mv (.t 10)), none, [4, 3, 0, 1, 2, 3, 4, 5]⟩,
    ⟨(some 5), 5, (.mv (.t 11)), none, [5, 6, 0, 1, 2, 3, 4, 5, 6]⟩])
  .ret))
theorem fn32 : FnIs Try.prog 32 ac32 [(.t 4), (.t 5)] 12 := ⟨Try.f32, Try.func32, by kernel_rfl, by kernel_rfl, by kernel_rfl⟩
/- slices.Clone[[]lockkeeper/api.Page,lockkeeper/api.Page] -/
def ac34 : ACode := (.seq (.reg [⟨(some 2), 2, (.mv (.k (.c .zc))), none, []⟩])
  (.seq (.seq (.reg [⟨(some 3), 3, (.mv (.t 0)), none, []⟩,
    ⟨(some 4), 4, (.isnil (.t 3)), none, [0]⟩])
  (.cond (.t 4) (.seq (.reg [⟨(some 2), 2, (.mv (.k (.c .zc))), none, []⟩])
  .ret) .skip))
  (.seq (.reg [⟨(some 5), 5, (.bslice 41 3 [(.s (.pv (.int .i64 0))), (.s (.pv (.int .i64 0))), (.s (.pv (.string ⟨#[]⟩)))] 0 []), none, []⟩,
    ⟨(some 6), 6, (.mv (.t 0)), none, []⟩,
    ⟨(some 7), 7, (.app 41 3 32 (.t 5) (.t 6)), none, [0, 1]⟩,
    ⟨(some 2), 2, (.mv (.t 7)), none, [2, 2, 0, 1, 2]⟩])
  .ret)))
theorem fn34 : FnIs Try.prog 34 ac34 [(.t 2)] 8 := ⟨Try.f34, Try.func34, by kernel_rfl, by kernel_rfl, by kernel_rfl⟩
/- lockkeeper/ops.write -/
def ac35 : ACode := (.seq (.reg [⟨(some 3), 3, (.box 24 1 (.t 0)), none, []⟩,
    ⟨(some 6), 6, (.mk 24 1 [[.zc]]), none, []⟩,
    ⟨(some 7), 7, (.mk 49 4 [[(.s (.pv (.int .i64 0))), (.s (.pv (.int .i64 0))), (.s (.pv (.int .i64 0))), (.s (.pv (.string ⟨#[]⟩)))]]), none, []⟩])
  (.seq (.reg [⟨(some 10), 10, (.fld 0 (.t 3)), none, []⟩,
    ⟨(some 11), 11, (.load false 1 (.t 10)), none, [0]⟩,
    ⟨(some 12), 12, (.mv (.t 1)), none, []⟩,
    ⟨(some 13), 13, (.idx 3 (.t 11) (.t 12)), none, [1, 2]⟩,
    ⟨(some 14), 14, (.load true 3 (.t 13)), none, [3]⟩,
    ⟨(some 8), 8, (.mk 41 3 [[(.s (.pv (.int .i64 0))), (.s (.pv (.int .i64 0))), (.s (.pv (.string ⟨#[]⟩)))]]), none, []⟩,
    ⟨none, 50, (.store 3 (.t 8) (.t 14)), none, [5, 4, 0, 1, 2, 3, 4, 5]⟩])
  (.seq (.block 0 (.seq (.reg [⟨(some 16), 16, (.mv (.t 2)), none, []⟩,
    ⟨(some 17), 17, (.slen (.t 16)), none, [0]⟩,
    ⟨(some 18), 18, (.bin false .gtr (.t 17) (.k (.c (.s (.pv (.int .i64 16)))))), none, [1]⟩,
    ⟨(some 15), 15, (.mv (.t 18)), none, [2]⟩])
  (.cond (.t 15) (.seq (.reg [⟨(some 19), 19, (.load true 1 (.t 3)), none, []⟩,
    ⟨(some 20), 20, (.build [(.s (.pv (.int .i64 0))), (.s (.pv (.int .i64 0))), (.s (.pv (.int .i64 0))), (.s (.pv (.string ⟨#[]⟩)))] [(0, 1, (.k (.c (.s (.pv (.int .i64 5))))))]), none, []⟩,
    ⟨none, 46, (.store 1 (.t 6) (.t 19)), none, [0, 0]⟩,
    ⟨none, 47, (.store 4 (.t 7) (.t 20)), none, [1, 2, 0, 1, 2]⟩])
  .ret) (.seq (.reg [⟨(some 22), 22, (.fld 1 (.t 8)), none, []⟩,
    ⟨(some 23), 23, (.load false 1 (.t 22)), none, [0]⟩,
    ⟨(some 24), 24, (.bin false .eql (.t 23) (.k (.c (.s (.pv (.int .i64 2147483647)))))), none, [1]⟩,
    ⟨(some 21), 21, (.mv (.t 24)), none, [2]⟩])
  (.cond (.t 21) (.seq (.reg [⟨(some 25), 25, (.load true 1 (.t 3)), none, []⟩,
    ⟨(some 26), 26, (.build [(.s (.pv (.int .i64 0))), (.s (.pv (.int .i64 0))), (.s (.pv (.int .i64 0))), (.s (.pv (.string ⟨#[]⟩)))] [(0, 1, (.k (.c (.s (.pv (.int .i64 7))))))]), none, []⟩,
    ⟨none, 46, (.store 1 (.t 6) (.t 25)), none, [0, 0]⟩,
    ⟨none, 47, (.store 4 (.t 7) (.t 26)), none, [1, 2, 0, 1, 2]⟩])
  .ret) .skip)))))
  (.seq (.reg [⟨(some 27), 27, (.fld 1 (.t 8)), none, []⟩,
    ⟨(some 28), 28, (.load false 1 (.t 27)), none, [0]⟩,
    ⟨(some 29), 29, (.bin false .add (.t 28) (.k (.c (.s (.pv (.int .i64 1)))))), none, [1]⟩,
    ⟨(some 30), 30, (.fld 1 (.t 8)), none, [0, 1, 2]⟩,
    ⟨none, 48, (.store 1 (.t 30) (.t 29)), none, [3, 2, 0, 1, 2]⟩])
  (.seq (.reg [⟨(some 31), 31, (.mv (.t 2)), none, []⟩,
    ⟨(some 32), 32, (.fld 2 (.t 8)), none, [0]⟩,
    ⟨none, 46, (.store 1 (.t 32) (.t 31)), none, [1, 0, 0]⟩])
  (.seq (.reg [⟨(some 33), 33, (.fld 0 (.t 3)), none, []⟩,
    ⟨(some 34), 34, (.load false 1 (.t 33)), none, [0]⟩,
    ⟨(some 35), 35, (.call 34 [(.t 34)]), none, [1]⟩,
    ⟨(some 9), 9, (.mv (.t 35)), none, [2, 2, 0, 1, 2]⟩])
  (.seq (.reg [⟨(some 36), 36, (.mv (.t 9)), none, []⟩,
    ⟨(some 37), 37, (.mv (.t 1)), none, []⟩,
    ⟨(some 38), 38, (.load true 3 (.t 8)), none, []⟩,
    ⟨(some 39), 39, (.idx 3 (.t 36) (.t 37)), none, [0, 1, 0, 1, 2]⟩,
    ⟨none, 48, (.store 3 (.t 39) (.t 38)), none, [3, 2, 0, 1, 2]⟩])
  (.seq (.draw [⟨(some 40), 40, (.mv (.t 9)), none, []⟩,
    ⟨(some 41), 41, (.build [.zc] [(0, 1, (.t 40))]), none, [0]⟩,
    ⟨(some 42), 42, (.load true 3 (.t 8)), none, []⟩,
    ⟨(some 43), 43, (.build [(.s (.pv (.int .i64 0))), (.s (.pv (.int .i64 0))), (.s (.pv (.int .i64 0))), (.s (.pv (.string ⟨#[]⟩)))] [(1, 3, (.t 42))]), none, [2]⟩,
    ⟨none, 48, (.store 1 (.t 6) (.t 41)), none, [1, 0, 1]⟩,
    ⟨none, 49, (.store 4 (.t 7) (.t 43)), none, [3, 4, 0, 1, 2, 3, 4]⟩])
  .ret))))))))
theorem fn35 : FnIs Try.prog 35 ac35 [(.cell 6 true 1), (.cell 7 true 4)] 44 := ⟨Try.f35, Try.func35, by kernel_rfl, by kernel_rfl, by kernel_rfl⟩
/- slices.Clone[[]lockkeeper/machine.Event,lockkeeper/machine.Event] -/
def ac37 : ACode := (.seq (.reg [⟨(some 2), 2, (.mv (.k (.c .zc))), none, []⟩])
  (.seq (.seq (.reg [⟨(some 3), 3, (.mv (.t 0)), none, []⟩,
    ⟨(some 4), 4, (.isnil (.t 3)), none, [0]⟩])
  (.cond (.t 4) (.seq (.reg [⟨(some 2), 2, (.mv (.k (.c .zc))), none, []⟩])
  .ret) .skip))
  (.seq (.reg [⟨(some 5), 5, (.bslice 52 11 [(.s (.pv (.int .i64 0))), (.s (.pv (.int .i64 0))), (.s (.pv (.int .i64 0))), (.s (.pv (.string ⟨#[]⟩))), (.s (.pv (.int .i64 0))), (.s (.pv (.int .i64 0))), (.s (.pv (.int .i64 0))), (.s (.pv (.string ⟨#[]⟩))), (.s (.pv (.int .i64 0))), (.s (.pv (.int .i64 0))), (.s (.pv (.int .i64 0)))] 0 []), none, []⟩,
    ⟨(some 6), 6, (.mv (.t 0)), none, []⟩,
    ⟨(some 7), 7, (.app 52 11 104 (.t 5) (.t 6)), none, [0, 1]⟩,
    ⟨(some 2), 2, (.mv (.t 7)), none, [2, 2, 0, 1, 2]⟩])
  .ret)))
theorem fn37 : FnIs Try.prog 37 ac37 [(.t 2)] 8 := ⟨Try.f37, Try.func37, by kernel_rfl, by kernel_rfl, by kernel_rfl⟩
/- slices.SortStableFunc[[]lockkeeper/machine.Event,lockkeeper/machine.Event] -/
def ac38 : ACode := (.reg [⟨(some 4), 4, (.mv (.t 0)), none, []⟩,
    ⟨(some 5), 5, (.mv (.t 0)), none, []⟩,
    ⟨(some 6), 6, (.len (.t 5)), none, [1]⟩,
    ⟨(some 7), 7, (.mv (.t 1)), none, []⟩,
    ⟨(some 8), 8, (.call 46 [(.t 4), (.t 6), (.t 7)]), none, [0, 2, 3]⟩])
theorem fn38 : FnIs Try.prog 38 ac38 [] 9 := ⟨Try.f38, Try.func38, by kernel_rfl, by kernel_rfl, by kernel_rfl⟩
/- cmp.isNaN[int] -/
def ac39 : ACode := (.seq (.reg [⟨(some 2), 2, (.mv (.k (.c (.s (.pv (.bool false)))))), none, []⟩])
  (.seq (.reg [⟨(some 3), 3, (.mv (.t 0)), none, []⟩,
    ⟨(some 4), 4, (.mv (.t 0)), none, []⟩,
    ⟨(some 5), 5, (.bin false .neq (.t 3) (.t 4)), none, [0, 1]⟩,
    ⟨(some 2), 2, (.mv (.t 5)), none, [2, 0, 1, 2]⟩])
  .ret))
theorem fn39 : FnIs Try.prog 39 ac39 [(.t 2)] 6 := ⟨Try.f39, Try.func39, by kernel_rfl, by kernel_rfl, by kernel_rfl⟩
/- lockkeeper/history.workersApart$1 -/
def ac40 : ACode := (.seq (.reg [⟨(some 2), 2, (.box 52 11 (.t 0)), none, []⟩,
    ⟨(some 3), 3, (.box 52 11 (.t 1)), none, []⟩,
    ⟨(some 4), 4, (.mv (.k (.c (.s (.pv (.int .i64 0)))))), none, []⟩])
  (.seq (.draw [⟨(some 5), 5, (.fld 0 (.t 2)), none, []⟩,
    ⟨(some 6), 6, (.load false 1 (.t 5)), none, [0]⟩,
    ⟨(some 7), 7, (.fld 0 (.t 3)), none, []⟩,
    ⟨(some 8), 8, (.load false 1 (.t 7)), none, [2]⟩,
    ⟨(some 9), 9, (.call 27 [(.t 6), (.t 8)]), none, [1, 3]⟩,
    ⟨(some 10), 10, (.fld 8 (.t 2)), none, []⟩,
    ⟨(some 11), 11, (.load false 1 (.t 10)), none, [5]⟩,
    ⟨(some 12), 12, (.fld 8 (.t 3)), none, []⟩,
    ⟨(some 13), 13, (.load false 1 (.t 12)), none, [7]⟩,
    ⟨(some 14), 14, (.call 27 [(.t 11), (.t 13)]), none, [6, 8, 4]⟩,
    ⟨(some 15), 15, (.bslice 3 1 [(.s (.pv (.int .i64 0)))] 2 [(0, 1, (.t 9)), (1, 1, (.t 14))]), none, [4, 9]⟩,
    ⟨(some 16), 16, (.call 41 [(.t 15)]), none, [10, 9]⟩,
    ⟨(some 4), 4, (.mv (.t 16)), none, [11, 11, 0, 1, 2, 3, 4, 5, 6, 7, 8, 9, 10, 11]⟩])
  .ret))
theorem fn40 : FnIs Try.prog 40 ac40 [(.t 4)] 17 := ⟨Try.f40, Try.func40, by kernel_rfl, by kernel_rfl, by kernel_rfl⟩
/- cmp.Or[int] -/
def ac41 : ACode := (.seq (.reg [⟨(some 2), 2, (.mv (.k (.c (.s (.pv (.int .i64 0)))))), none, []⟩])
  (.seq (.reg [⟨(some 3), 3, (.mv (.k (.c (.s (.pv (.int .i64 0)))))), none, []⟩])
  (.seq (.seq (.reg [⟨(some 6), 6, (.mv (.t 0)), none, []⟩,
    ⟨(some 7), 7, (.len (.t 6)), none, [0]⟩,
    ⟨(some 8), 8, (.mv (.k (.c (.s (.pv (.int .i64 0)))))), none, []⟩])
  (.block 0 (.loop (.seq (.reg [⟨(some 9), 9, (.bin false .lss (.t 8) (.t 7)), none, []⟩])
  (.seq (.cond (.t 9) .skip (.exit 0))
  (.seq (.block 1 (.seq (.reg [⟨(some 10), 10, (.idx 1 (.t 6) (.t 8)), none, []⟩,
    ⟨(some 11), 11, (.load false 1 (.t 10)), none, [0]⟩,
    ⟨(some 5), 5, (.mv (.t 11)), none, [1, 0, 1]⟩])
  (.seq (.reg [⟨(some 12), 12, (.mv (.t 5)), none, []⟩,
    ⟨(some 13), 13, (.mv (.t 3)), none, []⟩,
    ⟨(some 14), 14, (.bin false .neq (.t 12) (.t 13)), none, [0, 1]⟩])
  (.cond (.t 14) (.seq (.reg [⟨(some 15), 15, (.mv (.t 5)), none, []⟩,
    ⟨(some 2), 2, (.mv (.t 15)), none, [0, 0]⟩])
  .ret) .skip))))
  (.reg [⟨(some 16), 16, (.bin false .add (.t 8) (.k (.c (.s (.pv (.int .i64 1)))))), none, []⟩,
    ⟨(some 8), 8, (.mv (.t 16)), none, [0]⟩])))))))
  (.seq (.reg [⟨(some 17), 17, (.mv (.t 3)), none, []⟩,
    ⟨(some 2), 2, (.mv (.t 17)), none, [0, 0]⟩])
  .ret))))
theorem fn41 : FnIs Try.prog 41 ac41 [(.t 2)] 18 := ⟨Try.f41, Try.func41, by kernel_rfl, by kernel_rfl, by kernel_rfl⟩
/- slices.BinarySearchFunc[[]lockkeeper/api.Page,lockkeeper/api.Page,int] -/
def ac42 : ACode := (.seq (.reg [⟨(some 6), 6, (.mv (.k (.c (.s (.pv (.int .i64 0)))))), none, []⟩,
    ⟨(some 7), 7, (.mv (.k (.c (.s (.pv (.bool false)))))), none, [0]⟩])
  (.seq (.reg [⟨(some 12), 12, (.mv (.t 0)), none, []⟩,
    ⟨(some 13), 13, (.len (.t 12)), none, [0]⟩,
    ⟨(some 8), 8, (.mv (.t 13)), none, [1, 0, 1]⟩])
  (.seq (.reg [⟨(some 14), 14, (.mv (.t 8)), none, []⟩,
    ⟨(some 9), 9, (.mv (.k (.c (.s (.pv (.int .i64 0)))))), none, []⟩,
    ⟨(some 10), 10, (.mv (.t 14)), none, [0, 1, 0, 1]⟩])
  (.seq (.block 0 (.loop (.seq (.seq (.reg [⟨(some 15), 15, (.mv (.t 9)), none, []⟩,
    ⟨(some 16), 16, (.mv (.t 10)), none, []⟩,
    ⟨(some 17), 17, (.bin false .lss (.t 15) (.t 16)), none, [0, 1]⟩])
  (.cond (.t 17) .skip (.exit 0)))
  (.block 1 (.seq (.reg [⟨(some 18), 18, (.mv (.t 9)), none, []⟩,
    ⟨(some 19), 19, (.mv (.t 10)), none, []⟩,
    ⟨(some 20), 20, (.bin false .add (.t 18) (.t 19)), none, [0, 1]⟩,
    ⟨(some 21), 21, (.conv .u64 (.t 20)), none, [2]⟩,
    ⟨(some 22), 22, (.bin false .shr (.t 21) (.k (.c (.s (.pv (.int .u64 1)))))), none, [3]⟩,
    ⟨(some 23), 23, (.conv .i64 (.t 22)), none, [4]⟩,
    ⟨(some 11), 11, (.mv (.t 23)), none, [5, 0, 1, 2, 3, 4, 5]⟩])
  (.seq (.reg [⟨(some 24), 24, (.mv (.t 2)), none, []⟩,
    ⟨(some 25), 25, (.mv (.t 0)), none, []⟩,
    ⟨(some 26), 26, (.mv (.t 11)), none, []⟩,
    ⟨(some 27), 27, (.idx 3 (.t 25) (.t 26)), none, [1, 2]⟩,
    ⟨(some 28), 28, (.load true 3 (.t 27)), none, [3]⟩,
    ⟨(some 29), 29, (.mv (.t 1)), none, []⟩,
    ⟨(some 30), 30, (.callv (.t 24) [(.t 28), (.t 29)]), none, [0, 4, 5]⟩,
    ⟨(some 31), 31, (.bin false .lss (.t 30) (.k (.c (.s (.pv (.int .i64 0)))))), none, [6]⟩])
  (.cond (.t 31) (.reg [⟨(some 32), 32, (.mv (.t 11)), none, []⟩,
    ⟨(some 33), 33, (.bin false .add (.t 32) (.k (.c (.s (.pv (.int .i64 1)))))), none, [0]⟩,
    ⟨(some 9), 9, (.mv (.t 33)), none, [1, 0, 1]⟩]) (.reg [⟨(some 34), 34, (.mv (.t 11)), none, []⟩,
    ⟨(some 10), 10, (.mv (.t 34)), none, [0, 0]⟩]))))))))
  (.seq (.reg [⟨(some 35), 35, (.mv (.t 9)), none, []⟩,
    ⟨(some 36), 36, (.mv (.t 9)), none, []⟩,
    ⟨(some 37), 37, (.mv (.t 8)), none, []⟩,
    ⟨(some 38), 38, (.bin false .lss (.t 36) (.t 37)), none, [1, 2]⟩,
    ⟨(some 39), 39, (.mv (.t 38)), none, [3]⟩,
    ⟨(some 40), 40, (.mv (.t 2)), (some (39, true)), [4]⟩,
    ⟨(some 41), 41, (.mv (.t 0)), (some (39, true)), [4]⟩,
    ⟨(some 42), 42, (.mv (.t 9)), (some (39, true)), [4]⟩,
    ⟨(some 43), 43, (.idx 3 (.t 41) (.t 42)), (some (39, true)), [6, 7, 4]⟩,
    ⟨(some 44), 44, (.load true 3 (.t 43)), (some (39, true)), [8, 4]⟩,
    ⟨(some 45), 45, (.mv (.t 1)), (some (39, true)), [4]⟩,
    ⟨(some 46), 46, (.callv (.t 40) [(.t 44), (.t 45)]), (some (39, true)), [5, 9, 10, 4, 4]⟩,
    ⟨(some 47), 47, (.bin false .eql (.t 46) (.k (.c (.s (.pv (.int .i64 0)))))), (some (39, true)), [11, 4]⟩,
    ⟨(some 48), 48, (.pick (.t 39) (.t 47) (.k (.c (.s (.pv (.bool false)))))), none, [4, 12]⟩,
    ⟨(some 6), 6, (.mv (.t 35)), none, [0, 11, 0]⟩,
    ⟨(some 7), 7, (.mv (.t 48)), none, [13, 14, 0, 1, 2, 3, 4, 5, 6, 7, 8, 9, 10, 11, 12, 13, 14]⟩])
  .ret)))))
theorem fn42 : FnIs Try.prog 42 ac42 [(.t 6), (.t 7)] 49 := ⟨Try.f42, Try.func42, by kernel_rfl, by kernel_rfl, by kernel_rfl⟩
/- lockkeeper/ops.place$1 -/
def ac43 : ACode := (.seq (.reg [⟨(some 2), 2, (.box 41 3 (.t 0)), none, []⟩,
    ⟨(some 4), 4, (.mv (.k (.c (.s (.pv (.int .i64 0)))))), none, []⟩])
  (.seq (.reg [⟨(some 5), 5, (.fld 0 (.t 2)), none, []⟩,
    ⟨(some 6), 6, (.load false 1 (.t 5)), none, [0]⟩,
    ⟨(some 7), 7, (.mv (.t 1)), none, []⟩,
    ⟨(some 8), 8, (.call 27 [(.t 6), (.t 7)]), none, [1, 2]⟩,
    ⟨(some 4), 4, (.mv (.t 8)), none, [3, 3, 0, 1, 2, 3]⟩])
  .ret))
theorem fn43 : FnIs Try.prog 43 ac43 [(.t 4)] 9 := ⟨Try.f43, Try.func43, by kernel_rfl, by kernel_rfl, by kernel_rfl⟩
/- slices.rotateRight[lockkeeper/api.Page] -/
def ac45 : ACode := (.reg [⟨(some 4), 4, (.mv (.t 0)), none, []⟩,
    ⟨(some 5), 5, (.mv (.t 0)), none, []⟩,
    ⟨(some 6), 6, (.len (.t 5)), none, [1]⟩,
    ⟨(some 7), 7, (.mv (.t 1)), none, []⟩,
    ⟨(some 8), 8, (.bin false .sub (.t 6) (.t 7)), none, [2, 3]⟩,
    ⟨(some 9), 9, (.call 47 [(.t 4), (.t 8)]), none, [0, 4]⟩])
theorem fn45 : FnIs Try.prog 45 ac45 [] 10 := ⟨Try.f45, Try.func45, by kernel_rfl, by kernel_rfl, by kernel_rfl⟩
/- slices.stableCmpFunc[lockkeeper/machine.Event] -/
def ac46 : ACode := (.seq (.reg [⟨(some 6), 6, (.mv (.k (.c (.s (.pv (.int .i64 20)))))), none, []⟩])
  (.seq (.reg [⟨(some 10), 10, (.mv (.t 6)), none, []⟩,
    ⟨(some 7), 7, (.mv (.k (.c (.s (.pv (.int .i64 0)))))), none, []⟩,
    ⟨(some 8), 8, (.mv (.t 10)), none, [0, 1, 0, 1]⟩])
  (.seq (.block 0 (.loop (.seq (.seq (.reg [⟨(some 11), 11, (.mv (.t 8)), none, []⟩,
    ⟨(some 12), 12, (.mv (.t 1)), none, []⟩,
    ⟨(some 13), 13, (.bin false .leq (.t 11) (.t 12)), none, [0, 1]⟩])
  (.cond (.t 13) .skip (.exit 0)))
  (.block 1 (.seq (.reg [⟨(some 14), 14, (.mv (.t 0)), none, []⟩,
    ⟨(some 15), 15, (.mv (.t 7)), none, []⟩,
    ⟨(some 16), 16, (.mv (.t 8)), none, []⟩,
    ⟨(some 17), 17, (.mv (.t 2)), none, []⟩,
    ⟨(some 18), 18, (.call 48 [(.t 14), (.t 15), (.t 16), (.t 17)]), none, [0, 1, 2, 3]⟩])
  (.seq (.reg [⟨(some 19), 19, (.mv (.t 8)), none, []⟩,
    ⟨(some 7), 7, (.mv (.t 19)), none, [0, 0]⟩])
  (.reg [⟨(some 20), 20, (.mv (.t 8)), none, []⟩,
    ⟨(some 21), 21, (.mv (.t 6)), none, []⟩,
    ⟨(some 22), 22, (.bin false .add (.t 20) (.t 21)), none, [0, 1]⟩,
    ⟨(some 8), 8, (.mv (.t 22)), none, [2, 0, 1, 2]⟩])))))))
  (.seq (.reg [⟨(some 23), 23, (.mv (.t 0)), none, []⟩,
    ⟨(some 24), 24, (.mv (.t 7)), none, []⟩,
    ⟨(some 25), 25, (.mv (.t 1)), none, []⟩,
    ⟨(some 26), 26, (.mv (.t 2)), none, []⟩,
    ⟨(some 27), 27, (.call 48 [(.t 23), (.t 24), (.t 25), (.t 26)]), none, [0, 1, 2, 3]⟩])
  (.block 2 (.loop (.seq (.seq (.reg [⟨(some 28), 28, (.mv (.t 6)), none, []⟩,
    ⟨(some 29), 29, (.mv (.t 1)), none, []⟩,
    ⟨(some 30), 30, (.bin false .lss (.t 28) (.t 29)), none, [0, 1]⟩])
  (.cond (.t 30) .skip (.exit 2)))
  (.block 3 (.seq (.reg [⟨(some 31), 31, (.mv (.t 6)), none, []⟩,
    ⟨(some 32), 32, (.bin false .mul (.k (.c (.s (.pv (.int .i64 2))))) (.t 31)), none, [0]⟩,
    ⟨(some 7), 7, (.mv (.k (.c (.s (.pv (.int .i64 0)))))), none, []⟩,
    ⟨(some 8), 8, (.mv (.t 32)), none, [1, 2, 0, 1, 2]⟩])
  (.seq (.block 4 (.loop (.seq (.seq (.reg [⟨(some 33), 33, (.mv (.t 8)), none, []⟩,
    ⟨(some 34), 34, (.mv (.t 1)), none, []⟩,
    ⟨(some 35), 35, (.bin false .leq (.t 33) (.t 34)), none, [0, 1]⟩])
  (.cond (.t 35) .skip (.exit 4)))
  (.block 5 (.seq (.reg [⟨(some 36), 36, (.mv (.t 0)), none, []⟩,
    ⟨(some 37), 37, (.mv (.t 7)), none, []⟩,
    ⟨(some 38), 38, (.mv (.t 7)), none, []⟩,
    ⟨(some 39), 39, (.mv (.t 6)), none, []⟩,
    ⟨(some 40), 40, (.bin false .add (.t 38) (.t 39)), none, [2, 3]⟩,
    ⟨(some 41), 41, (.mv (.t 8)), none, []⟩,
    ⟨(some 42), 42, (.mv (.t 2)), none, []⟩,
    ⟨(some 43), 43, (.call 49 [(.t 36), (.t 37), (.t 40), (.t 41), (.t 42)]), none, [0, 1, 4, 5, 6]⟩])
  (.seq (.reg [⟨(some 44), 44, (.mv (.t 8)), none, []⟩,
    ⟨(some 7), 7, (.mv (.t 44)), none, [0, 0]⟩])
  (.reg [⟨(some 45), 45, (.mv (.t 8)), none, []⟩,
    ⟨(some 46), 46, (.mv (.t 6)), none, []⟩,
    ⟨(some 47), 47, (.bin false .mul (.k (.c (.s (.pv (.int .i64 2))))) (.t 46)), none, [1]⟩,
    ⟨(some 48), 48, (.bin false .add (.t 45) (.t 47)), none, [0, 2]⟩,
    ⟨(some 8), 8, (.mv (.t 48)), none, [3, 0, 1, 2, 3]⟩])))))))
  (.seq (.seq (.reg [⟨(some 49), 49, (.mv (.t 7)), none, []⟩,
    ⟨(some 50), 50, (.mv (.t 6)), none, []⟩,
    ⟨(some 51), 51, (.bin false .add (.t 49) (.t 50)), none, [0, 1]⟩,
    ⟨(some 9), 9, (.mv (.t 51)), none, [2, 0, 1, 2]⟩])
  (.seq (.reg [⟨(some 52), 52, (.mv (.t 9)), none, []⟩,
    ⟨(some 53), 53, (.mv (.t 1)), none, []⟩,
    ⟨(some 54), 54, (.bin false .lss (.t 52) (.t 53)), none, [0, 1]⟩])
  (.cond (.t 54) (.reg [⟨(some 55), 55, (.mv (.t 0)), none, []⟩,
    ⟨(some 56), 56, (.mv (.t 7)), none, []⟩,
    ⟨(some 57), 57, (.mv (.t 9)), none, []⟩,
    ⟨(some 58), 58, (.mv (.t 1)), none, []⟩,
    ⟨(some 59), 59, (.mv (.t 2)), none, []⟩,
    ⟨(some 60), 60, (.call 49 [(.t 55), (.t 56), (.t 57), (.t 58), (.t 59)]), none, [0, 1, 2, 3, 4]⟩]) .skip)))
  (.reg [⟨(some 61), 61, (.mv (.t 6)), none, []⟩,
    ⟨(some 62), 62, (.bin false .mul (.t 61) (.k (.c (.s (.pv (.int .i64 2)))))), none, [0]⟩,
    ⟨(some 6), 6, (.mv (.t 62)), none, [1, 0, 1]⟩]))))))))))))
theorem fn46 : FnIs Try.prog 46 ac46 [] 63 := ⟨Try.f46, Try.func46, by kernel_rfl, by kernel_rfl, by kernel_rfl⟩
/- slices.rotateLeft[lockkeeper/api.Page] -/
def ac47 : ACode := (.seq (.reg [⟨(some 4), 4, (.mv (.t 0)), none, []⟩,
    ⟨(some 5), 5, (.mv (.t 1)), none, []⟩,
    ⟨(some 6), 6, (.sub 3 (.t 4) none (some (.t 5))), none, [0, 1]⟩,
    ⟨(some 7), 7, (.call 50 [(.t 6)]), none, [2]⟩])
  (.seq (.reg [⟨(some 8), 8, (.mv (.t 0)), none, []⟩,
    ⟨(some 9), 9, (.mv (.t 1)), none, []⟩,
    ⟨(some 10), 10, (.sub 3 (.t 8) (some (.t 9)) none), none, [0, 1]⟩,
    ⟨(some 11), 11, (.call 50 [(.t 10)]), none, [2]⟩])
  (.reg [⟨(some 12), 12, (.mv (.t 0)), none, []⟩,
    ⟨(some 13), 13, (.call 50 [(.t 12)]), none, [0]⟩])))
theorem fn47 : FnIs Try.prog 47 ac47 [] 14 := ⟨Try.f47, Try.func47, by kernel_rfl, by kernel_rfl, by kernel_rfl⟩
/- slices.insertionSortCmpFunc[lockkeeper/machine.Event] -/
def ac48 : ACode := (.seq (.reg [⟨(some 10), 10, (.mv (.t 1)), none, []⟩,
    ⟨(some 11), 11, (.bin false .add (.t 10) (.k (.c (.s (.pv (.int .i64 1)))))), none, [0]⟩,
    ⟨(some 8), 8, (.mv (.t 11)), none, [1, 0, 1]⟩])
  (.block 0 (.loop (.seq (.seq (.reg [⟨(some 12), 12, (.mv (.t 8)), none, []⟩,
    ⟨(some 13), 13, (.mv (.t 2)), none, []⟩,
    ⟨(some 14), 14, (.bin false .lss (.t 12) (.t 13)), none, [0, 1]⟩])
  (.cond (.t 14) .skip (.exit 0)))
  (.seq (.block 1 (.seq (.reg [⟨(some 17), 17, (.mv (.t 8)), none, []⟩,
    ⟨(some 9), 9, (.mv (.t 17)), none, [0, 0]⟩])
  (.block 2 (.loop (.seq (.seq (.draw [⟨(some 18), 18, (.mv (.t 9)), none, []⟩,
    ⟨(some 19), 19, (.mv (.t 1)), none, []⟩,
    ⟨(some 20), 20, (.bin false .gtr (.t 18) (.t 19)), none, [0, 1]⟩,
    ⟨(some 21), 21, (.mv (.t 20)), none, [2]⟩,
    ⟨(some 22), 22, (.mv (.t 3)), (some (21, true)), [3]⟩,
    ⟨(some 23), 23, (.mv (.t 0)), (some (21, true)), [3]⟩,
    ⟨(some 24), 24, (.mv (.t 9)), (some (21, true)), [3]⟩,
    ⟨(some 25), 25, (.idx 11 (.t 23) (.t 24)), (some (21, true)), [5, 6, 3]⟩,
    ⟨(some 26), 26, (.load true 11 (.t 25)), (some (21, true)), [7, 3]⟩,
    ⟨(some 27), 27, (.mv (.t 0)), (some (21, true)), [3]⟩,
    ⟨(some 28), 28, (.mv (.t 9)), (some (21, true)), [3]⟩,
    ⟨(some 29), 29, (.bin false .sub (.t 28) (.k (.c (.s (.pv (.int .i64 1)))))), (some (21, true)), [10, 3]⟩,
    ⟨(some 30), 30, (.idx 11 (.t 27) (.t 29)), (some (21, true)), [9, 11, 3]⟩,
    ⟨(some 31), 31, (.load true 11 (.t 30)), (some (21, true)), [12, 3]⟩,
    ⟨(some 32), 32, (.callv (.t 22) [(.t 26), (.t 31)]), (some (21, true)), [4, 8, 13, 3, 3]⟩,
    ⟨(some 33), 33, (.bin false .lss (.t 32) (.k (.c (.s (.pv (.int .i64 0)))))), (some (21, true)), [14, 3]⟩,
    ⟨(some 34), 34, (.pick (.t 21) (.t 33) (.k (.c (.s (.pv (.bool false)))))), none, [3, 15]⟩])
  (.cond (.t 34) .skip (.exit 2)))
  (.seq (.block 3 (.draw [⟨(some 37), 37, (.mv (.t 0)), none, []⟩,
    ⟨(some 38), 38, (.mv (.t 9)), none, []⟩,
    ⟨(some 39), 39, (.mv (.t 0)), none, []⟩,
    ⟨(some 40), 40, (.mv (.t 9)), none, []⟩,
    ⟨(some 41), 41, (.bin false .sub (.t 40) (.k (.c (.s (.pv (.int .i64 1)))))), none, [3]⟩,
    ⟨(some 42), 42, (.mv (.t 0)), none, []⟩,
    ⟨(some 43), 43, (.mv (.t 9)), none, []⟩,
    ⟨(some 44), 44, (.bin false .sub (.t 43) (.k (.c (.s (.pv (.int .i64 1)))))), none, [6]⟩,
    ⟨(some 45), 45, (.idx 11 (.t 42) (.t 44)), none, [5, 7]⟩,
    ⟨(some 46), 46, (.load true 11 (.t 45)), none, [8]⟩,
    ⟨(some 47), 47, (.mv (.t 0)), none, []⟩,
    ⟨(some 48), 48, (.mv (.t 9)), none, []⟩,
    ⟨(some 49), 49, (.idx 11 (.t 47) (.t 48)), none, [10, 11]⟩,
    ⟨(some 50), 50, (.load true 11 (.t 49)), none, [12]⟩,
    ⟨(some 51), 51, (.idx 11 (.t 37) (.t 38)), none, [0, 1, 0, 1, 5, 6, 7, 8, 9, 13]⟩,
    ⟨none, 68, (.store 11 (.t 51) (.t 46)), none, [14, 9, 0, 1, 5, 6, 7, 8, 9, 13]⟩,
    ⟨(some 52), 52, (.idx 11 (.t 39) (.t 41)), none, [2, 4, 0, 1, 2, 3, 4, 5, 6, 7, 8, 9, 10, 11, 12, 13, 14, 15]⟩,
    ⟨none, 70, (.store 11 (.t 52) (.t 50)), none, [16, 13, 15, 0, 1, 2, 3, 4, 5, 6, 7, 8, 9, 10, 11, 12, 13, 14, 15]⟩]))
  (.reg [⟨(some 35), 35, (.mv (.t 9)), none, []⟩,
    ⟨(some 36), 36, (.bin false .sub (.t 35) (.k (.c (.s (.pv (.int .i64 1)))))), none, [0]⟩,
    ⟨(some 9), 9, (.mv (.t 36)), none, [1, 0, 1]⟩])))))))
  (.reg [⟨(some 15), 15, (.mv (.t 8)), none, []⟩,
    ⟨(some 16), 16, (.bin false .add (.t 15) (.k (.c (.s (.pv (.int .i64 1)))))), none, [0]⟩,
    ⟨(some 8), 8, (.mv (.t 16)), none, [1, 0, 1]⟩]))))))
theorem fn48 : FnIs Try.prog 48 ac48 [] 53 := ⟨Try.f48, Try.func48, by kernel_rfl, by kernel_rfl, by kernel_rfl⟩
/- slices.symMergeCmpFunc[lockkeeper/machine.Event] -/
def ac49 : ACode := (.seq (.seq (.reg [⟨(some 25), 25, (.mv (.t 2)), none, []⟩,
    ⟨(some 26), 26, (.mv (.t 1)), none, []⟩,
    ⟨(some 27), 27, (.bin false .sub (.t 25) (.t 26)), none, [0, 1]⟩,
    ⟨(some 28), 28, (.bin false .eql (.t 27) (.k (.c (.s (.pv (.int .i64 1)))))), none, [2]⟩])
  (.cond (.t 28) (.seq (.reg [⟨(some 29), 29, (.mv (.t 2)), none, []⟩,
    ⟨(some 10), 10, (.mv (.t 29)), none, [0, 0]⟩])
  (.seq (.reg [⟨(some 30), 30, (.mv (.t 3)), none, []⟩,
    ⟨(some 11), 11, (.mv (.t 30)), none, [0, 0]⟩])
  (.seq (.block 0 (.loop (.seq (.seq (.reg [⟨(some 31), 31, (.mv (.t 10)), none, []⟩,
    ⟨(some 32), 32, (.mv (.t 11)), none, []⟩,
    ⟨(some 33), 33, (.bin false .lss (.t 31) (.t 32)), none, [0, 1]⟩])
  (.cond (.t 33) .skip (.exit 0)))
  (.block 1 (.seq (.reg [⟨(some 34), 34, (.mv (.t 10)), none, []⟩,
    ⟨(some 35), 35, (.mv (.t 11)), none, []⟩,
    ⟨(some 36), 36, (.bin false .add (.t 34) (.t 35)), none, [0, 1]⟩,
    ⟨(some 37), 37, (.conv .u64 (.t 36)), none, [2]⟩,
    ⟨(some 38), 38, (.bin false .shr (.t 37) (.k (.c (.s (.pv (.int .u64 1)))))), none, [3]⟩,
    ⟨(some 39), 39, (.conv .i64 (.t 38)), none, [4]⟩,
    ⟨(some 12), 12, (.mv (.t 39)), none, [5, 0, 1, 2, 3, 4, 5]⟩])
  (.seq (.draw [⟨(some 40), 40, (.mv (.t 4)), none, []⟩,
    ⟨(some 41), 41, (.mv (.t 0)), none, []⟩,
    ⟨(some 42), 42, (.mv (.t 12)), none, []⟩,
    ⟨(some 43), 43, (.idx 11 (.t 41) (.t 42)), none, [1, 2]⟩,
    ⟨(some 44), 44, (.load true 11 (.t 43)), none, [3]⟩,
    ⟨(some 45), 45, (.mv (.t 0)), none, []⟩,
    ⟨(some 46), 46, (.mv (.t 1)), none, []⟩,
    ⟨(some 47), 47, (.idx 11 (.t 45) (.t 46)), none, [5, 6]⟩,
    ⟨(some 48), 48, (.load true 11 (.t 47)), none, [7]⟩,
    ⟨(some 49), 49, (.callv (.t 40) [(.t 44), (.t 48)]), none, [0, 4, 8]⟩,
    ⟨(some 50), 50, (.bin false .lss (.t 49) (.k (.c (.s (.pv (.int .i64 0)))))), none, [9]⟩])
  (.cond (.t 50) (.reg [⟨(some 51), 51, (.mv (.t 12)), none, []⟩,
    ⟨(some 52), 52, (.bin false .add (.t 51) (.k (.c (.s (.pv (.int .i64 1)))))), none, [0]⟩,
    ⟨(some 10), 10, (.mv (.t 52)), none, [1, 0, 1]⟩]) (.reg [⟨(some 53), 53, (.mv (.t 12)), none, []⟩,
    ⟨(some 11), 11, (.mv (.t 53)), none, [0, 0]⟩]))))))))
  (.seq (.seq (.reg [⟨(some 54), 54, (.mv (.t 1)), none, []⟩,
    ⟨(some 13), 13, (.mv (.t 54)), none, [0, 0]⟩])
  (.block 2 (.loop (.seq (.seq (.reg [⟨(some 55), 55, (.mv (.t 13)), none, []⟩,
    ⟨(some 56), 56, (.mv (.t 10)), none, []⟩,
    ⟨(some 57), 57, (.bin false .sub (.t 56) (.k (.c (.s (.pv (.int .i64 1)))))), none, [1]⟩,
    ⟨(some 58), 58, (.bin false .lss (.t 55) (.t 57)), none, [0, 2]⟩])
  (.cond (.t 58) .skip (.exit 2)))
  (.seq (.block 3 (.draw [⟨(some 61), 61, (.mv (.t 0)), none, []⟩,
    ⟨(some 62), 62, (.mv (.t 13)), none, []⟩,
    ⟨(some 63), 63, (.mv (.t 0)), none, []⟩,
    ⟨(some 64), 64, (.mv (.t 13)), none, []⟩,
    ⟨(some 65), 65, (.bin false .add (.t 64) (.k (.c (.s (.pv (.int .i64 1)))))), none, [3]⟩,
    ⟨(some 66), 66, (.mv (.t 0)), none, []⟩,
    ⟨(some 67), 67, (.mv (.t 13)), none, []⟩,
    ⟨(some 68), 68, (.bin false .add (.t 67) (.k (.c (.s (.pv (.int .i64 1)))))), none, [6]⟩,
    ⟨(some 69), 69, (.idx 11 (.t 66) (.t 68)), none, [5, 7]⟩,
    ⟨(some 70), 70, (.load true 11 (.t 69)), none, [8]⟩,
    ⟨(some 71), 71, (.mv (.t 0)), none, []⟩,
    ⟨(some 72), 72, (.mv (.t 13)), none, []⟩,
    ⟨(some 73), 73, (.idx 11 (.t 71) (.t 72)), none, [10, 11]⟩,
    ⟨(some 74), 74, (.load true 11 (.t 73)), none, [12]⟩,
    ⟨(some 75), 75, (.idx 11 (.t 61) (.t 62)), none, [0, 1, 0, 1, 5, 6, 7, 8, 9, 13]⟩,
    ⟨none, 235, (.store 11 (.t 75) (.t 70)), none, [14, 9, 0, 1, 5, 6, 7, 8, 9, 13]⟩,
    ⟨(some 76), 76, (.idx 11 (.t 63) (.t 65)), none, [2, 4, 0, 1, 2, 3, 4, 5, 6, 7, 8, 9, 10, 11, 12, 13, 14, 15]⟩,
    ⟨none, 237, (.store 11 (.t 76) (.t 74)), none, [16, 13, 15, 0, 1, 2, 3, 4, 5, 6, 7, 8, 9, 10, 11, 12, 13, 14, 15]⟩]))
  (.reg [⟨(some 59), 59, (.mv (.t 13)), none, []⟩,
    ⟨(some 60), 60, (.bin false .add (.t 59) (.k (.c (.s (.pv (.int .i64 1)))))), none, [0]⟩,
    ⟨(some 13), 13, (.mv (.t 60)), none, [1, 0, 1]⟩]))))))
  .ret)))) .skip))
  (.seq (.seq (.reg [⟨(some 77), 77, (.mv (.t 3)), none, []⟩,
    ⟨(some 78), 78, (.mv (.t 2)), none, []⟩,
    ⟨(some 79), 79, (.bin false .sub (.t 77) (.t 78)), none, [0, 1]⟩,
    ⟨(some 80), 80, (.bin false .eql (.t 79) (.k (.c (.s (.pv (.int .i64 1)))))), none, [2]⟩])
  (.cond (.t 80) (.seq (.reg [⟨(some 81), 81, (.mv (.t 1)), none, []⟩,
    ⟨(some 14), 14, (.mv (.t 81)), none, [0, 0]⟩])
  (.seq (.reg [⟨(some 82), 82, (.mv (.t 2)), none, []⟩,
    ⟨(some 15), 15, (.mv (.t 82)), none, [0, 0]⟩])
  (.seq (.block 4 (.loop (.seq (.seq (.reg [⟨(some 83), 83, (.mv (.t 14)), none, []⟩,
    ⟨(some 84), 84, (.mv (.t 15)), none, []⟩,
    ⟨(some 85), 85, (.bin false .lss (.t 83) (.t 84)), none, [0, 1]⟩])
  (.cond (.t 85) .skip (.exit 4)))
  (.block 5 (.seq (.reg [⟨(some 86), 86, (.mv (.t 14)), none, []⟩,
    ⟨(some 87), 87, (.mv (.t 15)), none, []⟩,
    ⟨(some 88), 88, (.bin false .add (.t 86) (.t 87)), none, [0, 1]⟩,
    ⟨(some 89), 89, (.conv .u64 (.t 88)), none, [2]⟩,
    ⟨(some 90), 90, (.bin false .shr (.t 89) (.k (.c (.s (.pv (.int .u64 1)))))), none, [3]⟩,
    ⟨(some 91), 91, (.conv .i64 (.t 90)), none, [4]⟩,
    ⟨(some 16), 16, (.mv (.t 91)), none, [5, 0, 1, 2, 3, 4, 5]⟩])
  (.seq (.draw [⟨(some 92), 92, (.mv (.t 4)), none, []⟩,
    ⟨(some 93), 93, (.mv (.t 0)), none, []⟩,
    ⟨(some 94), 94, (.mv (.t 2)), none, []⟩,
    ⟨(some 95), 95, (.idx 11 (.t 93) (.t 94)), none, [1, 2]⟩,
    ⟨(some 96), 96, (.load true 11 (.t 95)), none, [3]⟩,
    ⟨(some 97), 97, (.mv (.t 0)), none, []⟩,
    ⟨(some 98), 98, (.mv (.t 16)), none, []⟩,
    ⟨(some 99), 99, (.idx 11 (.t 97) (.t 98)), none, [5, 6]⟩,
    ⟨(some 100), 100, (.load true 11 (.t 99)), none, [7]⟩,
    ⟨(some 101), 101, (.callv (.t 92) [(.t 96), (.t 100)]), none, [0, 4, 8]⟩,
    ⟨(some 102), 102, (.bin false .lss (.t 101) (.k (.c (.s (.pv (.int .i64 0)))))), none, [9]⟩,
    ⟨(some 103), 103, (.not (.t 102)), none, [10]⟩])
  (.cond (.t 103) (.reg [⟨(some 104), 104, (.mv (.t 16)), none, []⟩,
    ⟨(some 105), 105, (.bin false .add (.t 104) (.k (.c (.s (.pv (.int .i64 1)))))), none, [0]⟩,
    ⟨(some 14), 14, (.mv (.t 105)), none, [1, 0, 1]⟩]) (.reg [⟨(some 106), 106, (.mv (.t 16)), none, []⟩,
    ⟨(some 15), 15, (.mv (.t 106)), none, [0, 0]⟩]))))))))
  (.seq (.seq (.reg [⟨(some 107), 107, (.mv (.t 2)), none, []⟩,
    ⟨(some 17), 17, (.mv (.t 107)), none, [0, 0]⟩])
  (.block 6 (.loop (.seq (.seq (.reg [⟨(some 108), 108, (.mv (.t 17)), none, []⟩,
    ⟨(some 109), 109, (.mv (.t 14)), none, []⟩,
    ⟨(some 110), 110, (.bin false .gtr (.t 108) (.t 109)), none, [0, 1]⟩])
  (.cond (.t 110) .skip (.exit 6)))
  (.seq (.block 7 (.draw [⟨(some 113), 113, (.mv (.t 0)), none, []⟩,
    ⟨(some 114), 114, (.mv (.t 17)), none, []⟩,
    ⟨(some 115), 115, (.mv (.t 0)), none, []⟩,
    ⟨(some 116), 116, (.mv (.t 17)), none, []⟩,
    ⟨(some 117), 117, (.bin false .sub (.t 116) (.k (.c (.s (.pv (.int .i64 1)))))), none, [3]⟩,
    ⟨(some 118), 118, (.mv (.t 0)), none, []⟩,
    ⟨(some 119), 119, (.mv (.t 17)), none, []⟩,
    ⟨(some 120), 120, (.bin false .sub (.t 119) (.k (.c (.s (.pv (.int .i64 1)))))), none, [6]⟩,
    ⟨(some 121), 121, (.idx 11 (.t 118) (.t 120)), none, [5, 7]⟩,
    ⟨(some 122), 122, (.load true 11 (.t 121)), none, [8]⟩,
    ⟨(some 123), 123, (.mv (.t 0)), none, []⟩,
    ⟨(some 124), 124, (.mv (.t 17)), none, []⟩,
    ⟨(some 125), 125, (.idx 11 (.t 123) (.t 124)), none, [10, 11]⟩,
    ⟨(some 126), 126, (.load true 11 (.t 125)), none, [12]⟩,
    ⟨(some 127), 127, (.idx 11 (.t 113) (.t 114)), none, [0, 1, 0, 1, 5, 6, 7, 8, 9, 13]⟩,
    ⟨none, 235, (.store 11 (.t 127) (.t 122)), none, [14, 9, 0, 1, 5, 6, 7, 8, 9, 13]⟩,
    ⟨(some 128), 128, (.idx 11 (.t 115) (.t 117)), none, [2, 4, 0, 1, 2, 3, 4, 5, 6, 7, 8, 9, 10, 11, 12, 13, 14, 15]⟩,
    ⟨none, 237, (.store 11 (.t 128) (.t 126)), none, [16, 13, 15, 0, 1, 2, 3, 4, 5, 6, 7, 8, 9, 10, 11, 12, 13, 14, 15]⟩]))
  (.reg [⟨(some 111), 111, (.mv (.t 17)), none, []⟩,
    ⟨(some 112), 112, (.bin false .sub (.t 111) (.k (.c (.s (.pv (.int .i64 1)))))), none, [0]⟩,
    ⟨(some 17), 17, (.mv (.t 112)), none, [1, 0, 1]⟩]))))))
  .ret)))) .skip))
  (.seq (.reg [⟨(some 129), 129, (.mv (.t 1)), none, []⟩,
    ⟨(some 130), 130, (.mv (.t 3)), none, []⟩,
    ⟨(some 131), 131, (.bin false .add (.t 129) (.t 130)), none, [0, 1]⟩,
    ⟨(some 132), 132, (.conv .u64 (.t 131)), none, [2]⟩,
    ⟨(some 133), 133, (.bin false .shr (.t 132) (.k (.c (.s (.pv (.int .u64 1)))))), none, [3]⟩,
    ⟨(some 134), 134, (.conv .i64 (.t 133)), none, [4]⟩,
    ⟨(some 18), 18, (.mv (.t 134)), none, [5, 0, 1, 2, 3, 4, 5]⟩])
  (.seq (.reg [⟨(some 135), 135, (.mv (.t 18)), none, []⟩,
    ⟨(some 136), 136, (.mv (.t 2)), none, []⟩,
    ⟨(some 137), 137, (.bin false .add (.t 135) (.t 136)), none, [0, 1]⟩,
    ⟨(some 19), 19, (.mv (.t 137)), none, [2, 0, 1, 2]⟩])
  (.seq (.reg [⟨(some 20), 20, (.mv (.k (.c (.s (.pv (.int .i64 0)))))), none, []⟩,
    ⟨(some 21), 21, (.mv (.k (.c (.s (.pv (.int .i64 0)))))), none, [0]⟩])
  (.seq (.seq (.reg [⟨(some 138), 138, (.mv (.t 2)), none, []⟩,
    ⟨(some 139), 139, (.mv (.t 18)), none, []⟩,
    ⟨(some 140), 140, (.bin false .gtr (.t 138) (.t 139)), none, [0, 1]⟩])
  (.cond (.t 140) (.seq (.reg [⟨(some 141), 141, (.mv (.t 19)), none, []⟩,
    ⟨(some 142), 142, (.mv (.t 3)), none, []⟩,
    ⟨(some 143), 143, (.bin false .sub (.t 141) (.t 142)), none, [0, 1]⟩,
    ⟨(some 20), 20, (.mv (.t 143)), none, [2, 0, 1, 2]⟩])
  (.reg [⟨(some 144), 144, (.mv (.t 18)), none, []⟩,
    ⟨(some 21), 21, (.mv (.t 144)), none, [0, 0]⟩])) (.seq (.reg [⟨(some 145), 145, (.mv (.t 1)), none, []⟩,
    ⟨(some 20), 20, (.mv (.t 145)), none, [0, 0]⟩])
  (.reg [⟨(some 146), 146, (.mv (.t 2)), none, []⟩,
    ⟨(some 21), 21, (.mv (.t 146)), none, [0, 0]⟩]))))
  (.seq (.reg [⟨(some 147), 147, (.mv (.t 19)), none, []⟩,
    ⟨(some 148), 148, (.bin false .sub (.t 147) (.k (.c (.s (.pv (.int .i64 1)))))), none, [0]⟩,
    ⟨(some 22), 22, (.mv (.t 148)), none, [1, 0, 1]⟩])
  (.seq (.block 8 (.loop (.seq (.seq (.reg [⟨(some 149), 149, (.mv (.t 20)), none, []⟩,
    ⟨(some 150), 150, (.mv (.t 21)), none, []⟩,
    ⟨(some 151), 151, (.bin false .lss (.t 149) (.t 150)), none, [0, 1]⟩])
  (.cond (.t 151) .skip (.exit 8)))
  (.block 9 (.seq (.reg [⟨(some 152), 152, (.mv (.t 20)), none, []⟩,
    ⟨(some 153), 153, (.mv (.t 21)), none, []⟩,
    ⟨(some 154), 154, (.bin false .add (.t 152) (.t 153)), none, [0, 1]⟩,
    ⟨(some 155), 155, (.conv .u64 (.t 154)), none, [2]⟩,
    ⟨(some 156), 156, (.bin false .shr (.t 155) (.k (.c (.s (.pv (.int .u64 1)))))), none, [3]⟩,
    ⟨(some 157), 157, (.conv .i64 (.t 156)), none, [4]⟩,
    ⟨(some 23), 23, (.mv (.t 157)), none, [5, 0, 1, 2, 3, 4, 5]⟩])
  (.seq (.draw [⟨(some 158), 158, (.mv (.t 4)), none, []⟩,
    ⟨(some 159), 159, (.mv (.t 0)), none, []⟩,
    ⟨(some 160), 160, (.mv (.t 22)), none, []⟩,
    ⟨(some 161), 161, (.mv (.t 23)), none, []⟩,
    ⟨(some 162), 162, (.bin false .sub (.t 160) (.t 161)), none, [2, 3]⟩,
    ⟨(some 163), 163, (.idx 11 (.t 159) (.t 162)), none, [1, 4]⟩,
    ⟨(some 164), 164, (.load true 11 (.t 163)), none, [5]⟩,
    ⟨(some 165), 165, (.mv (.t 0)), none, []⟩,
    ⟨(some 166), 166, (.mv (.t 23)), none, []⟩,
    ⟨(some 167), 167, (.idx 11 (.t 165) (.t 166)), none, [7, 8]⟩,
    ⟨(some 168), 168, (.load true 11 (.t 167)), none, [9]⟩,
    ⟨(some 169), 169, (.callv (.t 158) [(.t 164), (.t 168)]), none, [0, 6, 10]⟩,
    ⟨(some 170), 170, (.bin false .lss (.t 169) (.k (.c (.s (.pv (.int .i64 0)))))), none, [11]⟩,
    ⟨(some 171), 171, (.not (.t 170)), none, [12]⟩])
  (.cond (.t 171) (.reg [⟨(some 172), 172, (.mv (.t 23)), none, []⟩,
    ⟨(some 173), 173, (.bin false .add (.t 172) (.k (.c (.s (.pv (.int .i64 1)))))), none, [0]⟩,
    ⟨(some 20), 20, (.mv (.t 173)), none, [1, 0, 1]⟩]) (.reg [⟨(some 174), 174, (.mv (.t 23)), none, []⟩,
    ⟨(some 21), 21, (.mv (.t 174)), none, [0, 0]⟩]))))))))
  (.seq (.reg [⟨(some 175), 175, (.mv (.t 19)), none, []⟩,
    ⟨(some 176), 176, (.mv (.t 20)), none, []⟩,
    ⟨(some 177), 177, (.bin false .sub (.t 175) (.t 176)), none, [0, 1]⟩,
    ⟨(some 24), 24, (.mv (.t 177)), none, [2, 0, 1, 2]⟩])
  (.seq (.seq (.reg [⟨(some 178), 178, (.mv (.t 20)), none, []⟩,
    ⟨(some 179), 179, (.mv (.t 2)), none, []⟩,
    ⟨(some 180), 180, (.bin false .lss (.t 178) (.t 179)), none, [0, 1]⟩,
    ⟨(some 181), 181, (.mv (.t 180)), none, [2]⟩,
    ⟨(some 182), 182, (.mv (.t 2)), (some (181, true)), [3]⟩,
    ⟨(some 183), 183, (.mv (.t 24)), (some (181, true)), [3]⟩,
    ⟨(some 184), 184, (.bin false .lss (.t 182) (.t 183)), (some (181, true)), [4, 5, 3]⟩,
    ⟨(some 185), 185, (.pick (.t 181) (.t 184) (.k (.c (.s (.pv (.bool false)))))), none, [3, 6]⟩])
  (.cond (.t 185) (.reg [⟨(some 186), 186, (.mv (.t 0)), none, []⟩,
    ⟨(some 187), 187, (.mv (.t 20)), none, []⟩,
    ⟨(some 188), 188, (.mv (.t 2)), none, []⟩,
    ⟨(some 189), 189, (.mv (.t 24)), none, []⟩,
    ⟨(some 190), 190, (.mv (.t 4)), none, []⟩,
    ⟨(some 191), 191, (.call 51 [(.t 186), (.t 187), (.t 188), (.t 189), (.t 190)]), none, [0, 1, 2, 3, 4]⟩]) .skip))
  (.seq (.seq (.reg [⟨(some 192), 192, (.mv (.t 1)), none, []⟩,
    ⟨(some 193), 193, (.mv (.t 20)), none, []⟩,
    ⟨(some 194), 194, (.bin false .lss (.t 192) (.t 193)), none, [0, 1]⟩,
    ⟨(some 195), 195, (.mv (.t 194)), none, [2]⟩,
    ⟨(some 196), 196, (.mv (.t 20)), (some (195, true)), [3]⟩,
    ⟨(some 197), 197, (.mv (.t 18)), (some (195, true)), [3]⟩,
    ⟨(some 198), 198, (.bin false .lss (.t 196) (.t 197)), (some (195, true)), [4, 5, 3]⟩,
    ⟨(some 199), 199, (.pick (.t 195) (.t 198) (.k (.c (.s (.pv (.bool false)))))), none, [3, 6]⟩])
  (.cond (.t 199) (.reg [⟨(some 200), 200, (.mv (.t 0)), none, []⟩,
    ⟨(some 201), 201, (.mv (.t 1)), none, []⟩,
    ⟨(some 202), 202, (.mv (.t 20)), none, []⟩,
    ⟨(some 203), 203, (.mv (.t 18)), none, []⟩,
    ⟨(some 204), 204, (.mv (.t 4)), none, []⟩,
    ⟨(some 205), 205, (.call 49 [(.t 200), (.t 201), (.t 202), (.t 203), (.t 204)]), none, [0, 1, 2, 3, 4]⟩]) .skip))
  (.seq (.reg [⟨(some 206), 206, (.mv (.t 18)), none, []⟩,
    ⟨(some 207), 207, (.mv (.t 24)), none, []⟩,
    ⟨(some 208), 208, (.bin false .lss (.t 206) (.t 207)), none, [0, 1]⟩,
    ⟨(some 209), 209, (.mv (.t 208)), none, [2]⟩,
    ⟨(some 210), 210, (.mv (.t 24)), (some (209, true)), [3]⟩,
    ⟨(some 211), 211, (.mv (.t 3)), (some (209, true)), [3]⟩,
    ⟨(some 212), 212, (.bin false .lss (.t 210) (.t 211)), (some (209, true)), [4, 5, 3]⟩,
    ⟨(some 213), 213, (.pick (.t 209) (.t 212) (.k (.c (.s (.pv (.bool false)))))), none, [3, 6]⟩])
  (.cond (.t 213) (.reg [⟨(some 214), 214, (.mv (.t 0)), none, []⟩,
    ⟨(some 215), 215, (.mv (.t 18)), none, []⟩,
    ⟨(some 216), 216, (.mv (.t 24)), none, []⟩,
    ⟨(some 217), 217, (.mv (.t 3)), none, []⟩,
    ⟨(some 218), 218, (.mv (.t 4)), none, []⟩,
    ⟨(some 219), 219, (.call 49 [(.t 214), (.t 215), (.t 216), (.t 217), (.t 218)]), none, [0, 1, 2, 3, 4]⟩]) .skip)))))))))))))
theorem fn49 : FnIs Try.prog 49 ac49 [] 220 := ⟨Try.f49, Try.func49, by kernel_rfl, by kernel_rfl, by kernel_rfl⟩
/- slices.Reverse[[]lockkeeper/api.Page,lockkeeper/api.Page] -/
def ac50 : ACode := (.seq (.reg [⟨(some 4), 4, (.mv (.t 0)), none, []⟩,
    ⟨(some 5), 5, (.len (.t 4)), none, [0]⟩,
    ⟨(some 6), 6, (.bin false .sub (.t 5) (.k (.c (.s (.pv (.int .i64 1)))))), none, [1]⟩,
    ⟨(some 2), 2, (.mv (.k (.c (.s (.pv (.int .i64 0)))))), none, []⟩,
    ⟨(some 3), 3, (.mv (.t 6)), none, [2, 3, 0, 1, 2, 3]⟩])
  (.block 0 (.loop (.seq (.seq (.reg [⟨(some 7), 7, (.mv (.t 2)), none, []⟩,
    ⟨(some 8), 8, (.mv (.t 3)), none, []⟩,
    ⟨(some 9), 9, (.bin false .lss (.t 7) (.t 8)), none, [0, 1]⟩])
  (.cond (.t 9) .skip (.exit 0)))
  (.seq (.block 1 (.draw [⟨(some 14), 14, (.mv (.t 0)), none, []⟩,
    ⟨(some 15), 15, (.mv (.t 2)), none, []⟩,
    ⟨(some 16), 16, (.mv (.t 0)), none, []⟩,
    ⟨(some 17), 17, (.mv (.t 3)), none, []⟩,
    ⟨(some 18), 18, (.mv (.t 0)), none, []⟩,
    ⟨(some 19), 19, (.mv (.t 3)), none, []⟩,
    ⟨(some 20), 20, (.idx 3 (.t 18) (.t 19)), none, [4, 5]⟩,
    ⟨(some 21), 21, (.load true 3 (.t 20)), none, [6]⟩,
    ⟨(some 22), 22, (.mv (.t 0)), none, []⟩,
    ⟨(some 23), 23, (.mv (.t 2)), none, []⟩,
    ⟨(some 24), 24, (.idx 3 (.t 22) (.t 23)), none, [8, 9]⟩,
    ⟨(some 25), 25, (.load true 3 (.t 24)), none, [10]⟩,
    ⟨(some 26), 26, (.idx 3 (.t 14) (.t 15)), none, [0, 1, 0, 1, 4, 5, 6, 7, 11]⟩,
    ⟨none, 41, (.store 3 (.t 26) (.t 21)), none, [12, 7, 0, 1, 4, 5, 6, 7, 11]⟩,
    ⟨(some 27), 27, (.idx 3 (.t 16) (.t 17)), none, [2, 3, 0, 1, 2, 3, 4, 5, 6, 7, 8, 9, 10, 11, 12, 13]⟩,
    ⟨none, 43, (.store 3 (.t 27) (.t 25)), none, [14, 11, 13, 0, 1, 2, 3, 4, 5, 6, 7, 8, 9, 10, 11, 12, 13]⟩]))
  (.reg [⟨(some 10), 10, (.mv (.t 2)), none, []⟩,
    ⟨(some 11), 11, (.bin false .add (.t 10) (.k (.c (.s (.pv (.int .i64 1)))))), none, [0]⟩,
    ⟨(some 12), 12, (.mv (.t 3)), none, []⟩,
    ⟨(some 13), 13, (.bin false .sub (.t 12) (.k (.c (.s (.pv (.int .i64 1)))))), none, [2]⟩,
    ⟨(some 2), 2, (.mv (.t 11)), none, [1, 0, 1]⟩,
    ⟨(some 3), 3, (.mv (.t 13)), none, [3, 4, 0, 1, 2, 3, 4]⟩]))))))
theorem fn50 : FnIs Try.prog 50 ac50 [] 28 := ⟨Try.f50, Try.func50, by kernel_rfl, by kernel_rfl, by kernel_rfl⟩
/- slices.rotateCmpFunc[lockkeeper/machine.Event] -/
def ac51 : ACode := (.seq (.reg [⟨(some 12), 12, (.mv (.t 2)), none, []⟩,
    ⟨(some 13), 13, (.mv (.t 1)), none, []⟩,
    ⟨(some 14), 14, (.bin false .sub (.t 12) (.t 13)), none, [0, 1]⟩,
    ⟨(some 10), 10, (.mv (.t 14)), none, [2, 0, 1, 2]⟩])
  (.seq (.reg [⟨(some 15), 15, (.mv (.t 3)), none, []⟩,
    ⟨(some 16), 16, (.mv (.t 2)), none, []⟩,
    ⟨(some 17), 17, (.bin false .sub (.t 15) (.t 16)), none, [0, 1]⟩,
    ⟨(some 11), 11, (.mv (.t 17)), none, [2, 0, 1, 2]⟩])
  (.seq (.block 0 (.loop (.seq (.seq (.reg [⟨(some 18), 18, (.mv (.t 10)), none, []⟩,
    ⟨(some 19), 19, (.mv (.t 11)), none, []⟩,
    ⟨(some 20), 20, (.bin false .neq (.t 18) (.t 19)), none, [0, 1]⟩])
  (.cond (.t 20) .skip (.exit 0)))
  (.block 1 (.seq (.reg [⟨(some 21), 21, (.mv (.t 10)), none, []⟩,
    ⟨(some 22), 22, (.mv (.t 11)), none, []⟩,
    ⟨(some 23), 23, (.bin false .gtr (.t 21) (.t 22)), none, [0, 1]⟩])
  (.cond (.t 23) (.seq (.reg [⟨(some 24), 24, (.mv (.t 0)), none, []⟩,
    ⟨(some 25), 25, (.mv (.t 2)), none, []⟩,
    ⟨(some 26), 26, (.mv (.t 10)), none, []⟩,
    ⟨(some 27), 27, (.bin false .sub (.t 25) (.t 26)), none, [1, 2]⟩,
    ⟨(some 28), 28, (.mv (.t 2)), none, []⟩,
    ⟨(some 29), 29, (.mv (.t 11)), none, []⟩,
    ⟨(some 30), 30, (.mv (.t 4)), none, []⟩,
    ⟨(some 31), 31, (.call 52 [(.t 24), (.t 27), (.t 28), (.t 29), (.t 30)]), none, [0, 3, 4, 5, 6]⟩])
  (.reg [⟨(some 32), 32, (.mv (.t 10)), none, []⟩,
    ⟨(some 33), 33, (.mv (.t 11)), none, []⟩,
    ⟨(some 34), 34, (.bin false .sub (.t 32) (.t 33)), none, [0, 1]⟩,
    ⟨(some 10), 10, (.mv (.t 34)), none, [2, 0, 1, 2]⟩])) (.seq (.reg [⟨(some 35), 35, (.mv (.t 0)), none, []⟩,
    ⟨(some 36), 36, (.mv (.t 2)), none, []⟩,
    ⟨(some 37), 37, (.mv (.t 10)), none, []⟩,
    ⟨(some 38), 38, (.bin false .sub (.t 36) (.t 37)), none, [1, 2]⟩,
    ⟨(some 39), 39, (.mv (.t 2)), none, []⟩,
    ⟨(some 40), 40, (.mv (.t 11)), none, []⟩,
    ⟨(some 41), 41, (.bin false .add (.t 39) (.t 40)), none, [4, 5]⟩,
    ⟨(some 42), 42, (.mv (.t 10)), none, []⟩,
    ⟨(some 43), 43, (.bin false .sub (.t 41) (.t 42)), none, [6, 7]⟩,
    ⟨(some 44), 44, (.mv (.t 10)), none, []⟩,
    ⟨(some 45), 45, (.mv (.t 4)), none, []⟩,
    ⟨(some 46), 46, (.call 52 [(.t 35), (.t 38), (.t 43), (.t 44), (.t 45)]), none, [0, 3, 8, 9, 10]⟩])
  (.reg [⟨(some 47), 47, (.mv (.t 11)), none, []⟩,
    ⟨(some 48), 48, (.mv (.t 10)), none, []⟩,
    ⟨(some 49), 49, (.bin false .sub (.t 47) (.t 48)), none, [0, 1]⟩,
    ⟨(some 11), 11, (.mv (.t 49)), none, [2, 0, 1, 2]⟩]))))))))
  (.reg [⟨(some 50), 50, (.mv (.t 0)), none, []⟩,
    ⟨(some 51), 51, (.mv (.t 2)), none, []⟩,
    ⟨(some 52), 52, (.mv (.t 10)), none, []⟩,
    ⟨(some 53), 53, (.bin false .sub (.t 51) (.t 52)), none, [1, 2]⟩,
    ⟨(some 54), 54, (.mv (.t 2)), none, []⟩,
    ⟨(some 55), 55, (.mv (.t 10)), none, []⟩,
    ⟨(some 56), 56, (.mv (.t 4)), none, []⟩,
    ⟨(some 57), 57, (.call 52 [(.t 50), (.t 53), (.t 54), (.t 55), (.t 56)]), none, [0, 3, 4, 5, 6]⟩]))))
theorem fn51 : FnIs Try.prog 51 ac51 [] 58 := ⟨Try.f51, Try.func51, by kernel_rfl, by kernel_rfl, by kernel_rfl⟩
/- slices.swapRangeCmpFunc[lockkeeper/machine.Event] -/
def ac52 : ACode := (.seq (.reg [⟨(some 10), 10, (.mv (.k (.c (.s (.pv (.int .i64 0)))))), none, []⟩])
  (.block 0 (.loop (.seq (.seq (.reg [⟨(some 11), 11, (.mv (.t 10)), none, []⟩,
    ⟨(some 12), 12, (.mv (.t 3)), none, []⟩,
    ⟨(some 13), 13, (.bin false .lss (.t 11) (.t 12)), none, [0, 1]⟩])
  (.cond (.t 13) .skip (.exit 0)))
  (.seq (.block 1 (.draw [⟨(some 16), 16, (.mv (.t 0)), none, []⟩,
    ⟨(some 17), 17, (.mv (.t 1)), none, []⟩,
    ⟨(some 18), 18, (.mv (.t 10)), none, []⟩,
    ⟨(some 19), 19, (.bin false .add (.t 17) (.t 18)), none, [1, 2]⟩,
    ⟨(some 20), 20, (.mv (.t 0)), none, []⟩,
    ⟨(some 21), 21, (.mv (.t 2)), none, []⟩,
    ⟨(some 22), 22, (.mv (.t 10)), none, []⟩,
    ⟨(some 23), 23, (.bin false .add (.t 21) (.t 22)), none, [5, 6]⟩,
    ⟨(some 24), 24, (.mv (.t 0)), none, []⟩,
    ⟨(some 25), 25, (.mv (.t 2)), none, []⟩,
    ⟨(some 26), 26, (.mv (.t 10)), none, []⟩,
    ⟨(some 27), 27, (.bin false .add (.t 25) (.t 26)), none, [9, 10]⟩,
    ⟨(some 28), 28, (.idx 11 (.t 24) (.t 27)), none, [8, 11]⟩,
    ⟨(some 29), 29, (.load true 11 (.t 28)), none, [12]⟩,
    ⟨(some 30), 30, (.mv (.t 0)), none, []⟩,
    ⟨(some 31), 31, (.mv (.t 1)), none, []⟩,
    ⟨(some 32), 32, (.mv (.t 10)), none, []⟩,
    ⟨(some 33), 33, (.bin false .add (.t 31) (.t 32)), none, [15, 16]⟩,
    ⟨(some 34), 34, (.idx 11 (.t 30) (.t 33)), none, [14, 17]⟩,
    ⟨(some 35), 35, (.load true 11 (.t 34)), none, [18]⟩,
    ⟨(some 36), 36, (.idx 11 (.t 16) (.t 19)), none, [0, 3, 0, 1, 2, 3, 8, 9, 10, 11, 12, 13, 19]⟩,
    ⟨none, 59, (.store 11 (.t 36) (.t 29)), none, [20, 13, 0, 1, 2, 3, 8, 9, 10, 11, 12, 13, 19]⟩,
    ⟨(some 37), 37, (.idx 11 (.t 20) (.t 23)), none, [4, 7, 0, 1, 2, 3, 4, 5, 6, 7, 8, 9, 10, 11, 12, 13, 14, 15, 16, 17, 18, 19, 20, 21]⟩,
    ⟨none, 61, (.store 11 (.t 37) (.t 35)), none, [22, 19, 21, 0, 1, 2, 3, 4, 5, 6, 7, 8, 9, 10, 11, 12, 13, 14, 15, 16, 17, 18, 19, 20, 21]⟩]))
  (.reg [⟨(some 14), 14, (.mv (.t 10)), none, []⟩,
    ⟨(some 15), 15, (.bin false .add (.t 14) (.k (.c (.s (.pv (.int .i64 1)))))), none, [0]⟩,
    ⟨(some 10), 10, (.mv (.t 15)), none, [1, 0, 1]⟩]))))))
theorem fn52 : FnIs Try.prog 52 ac52 [] 38 := ⟨Try.f52, Try.func52, by kernel_rfl, by kernel_rfl, by kernel_rfl⟩

end Go.Proofs.Ytbpipdgkkdifgaa
