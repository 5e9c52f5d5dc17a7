/- THE PROGRAM's functions, as the abstract machine's code (printed by wip/tools/code.py out of the translation). No condition. -/
import Derived.Test.YtpcahlanjffilaaAm22
import Derived.Test.YtpcahlanjffilaaProg
import Derived.KernelRfl
namespace Go.Proofs.Ytpcahlanjffilaa
set_option maxRecDepth 100000
/- lockkeeper/lockkeeperlaw18.OpsExact -/
def ac3 : ACode := (.seq (.reg [⟨(some 3), 3, (.box 24 1 (.t 0)), none, []⟩,
    ⟨(some 4), 4, (.box 26 3 (.t 1)), none, []⟩,
    ⟨(some 6), 6, (.mv (.k (.c (.s (.pv (.bool false)))))), none, []⟩])
  (.seq (.seq (.reg [⟨(some 18), 18, (.load true 1 (.t 3)), none, []⟩,
    ⟨(some 19), 19, (.call 10 [(.t 18)]), none, [0]⟩,
    ⟨(some 20), 20, (.not (.t 19)), none, [1]⟩,
    ⟨(some 21), 21, (.mv (.t 20)), none, [2, 1]⟩,
    ⟨(some 22), 22, (.fld 2 (.t 4)), (some (21, false)), [3]⟩,
    ⟨(some 23), 23, (.load false 1 (.t 22)), (some (21, false)), [4, 3]⟩,
    ⟨(some 24), 24, (.slen (.t 23)), (some (21, false)), [5, 3]⟩,
    ⟨(some 25), 25, (.bin false .gtr (.t 24) (.k (.c (.s (.pv (.int .i64 100)))))), (some (21, false)), [6, 3]⟩,
    ⟨(some 26), 26, (.pick (.t 21) (.k (.c (.s (.pv (.bool true))))) (.t 25)), none, [3, 7]⟩])
  (.cond (.t 26) (.seq (.reg [⟨(some 27), 27, (.call 11 []), none, []⟩,
    ⟨(some 6), 6, (.mv (.t 27)), none, [0, 0, 0]⟩])
  .ret) .skip))
  (.seq (.reg [⟨(some 29), 29, (.load true 1 (.t 3)), none, []⟩,
    ⟨(some 30), 30, (.load true 3 (.t 4)), none, []⟩,
    ⟨(some 31), 31, (.call 12 [(.t 29), (.t 30)]), none, [0, 1]⟩,
    ⟨(some 28), 28, (.mv (.t 31)), none, [2]⟩,
    ⟨(some 32), 32, (.ext 0 (.t 28)), none, [3]⟩,
    ⟨(some 33), 33, (.ext 1 (.t 28)), none, [3]⟩,
    ⟨(some 7), 7, (.mk 24 1 [[.zc]]), none, []⟩,
    ⟨(some 8), 8, (.mk 33 4 [[(.s (.pv (.int .i64 0))), (.s (.pv (.int .i64 0))), (.s (.pv (.int .i64 0))), (.s (.pv (.string ⟨#[]⟩)))]]), none, []⟩,
    ⟨none, 112, (.store 1 (.t 7) (.t 32)), none, [6, 4, 2, 0, 1, 2, 3, 4, 6, 7]⟩,
    ⟨none, 113, (.store 4 (.t 8) (.t 33)), none, [7, 5, 8, 0, 1, 2, 3, 4, 5, 6, 7, 8]⟩])
  (.seq (.reg [⟨(some 35), 35, (.fld 0 (.t 3)), none, []⟩,
    ⟨(some 36), 36, (.load false 1 (.t 35)), none, [0]⟩,
    ⟨(some 37), 37, (.load true 3 (.t 4)), none, []⟩,
    ⟨(some 38), 38, (.call 13 [(.t 36), (.t 37)]), none, [1, 2]⟩,
    ⟨(some 34), 34, (.mv (.t 38)), none, [3]⟩,
    ⟨(some 39), 39, (.ext 0 (.t 34)), none, [4]⟩,
    ⟨(some 40), 40, (.ext 1 (.t 34)), none, [4]⟩,
    ⟨(some 10), 10, (.mk 37 4 [[(.s (.pv (.int .i64 0))), (.s (.pv (.int .i64 0))), (.s (.pv (.int .i64 0))), (.s (.pv (.string ⟨#[]⟩)))]]), none, []⟩,
    ⟨(some 9), 9, (.mv (.t 39)), none, [5, 3, 0, 1, 2, 3, 4, 5, 7]⟩,
    ⟨none, 113, (.store 4 (.t 10) (.t 40)), none, [7, 6, 8, 0, 1, 2, 3, 4, 5, 6, 7, 8]⟩])
  (.seq (.reg [⟨(some 41), 41, (.fld 0 (.t 3)), none, []⟩,
    ⟨(some 42), 42, (.load false 1 (.t 41)), none, [0]⟩,
    ⟨(some 43), 43, (.call 14 [(.t 42)]), none, [1]⟩,
    ⟨(some 11), 11, (.mv (.t 43)), none, [2, 2, 0, 1, 2]⟩])
  (.seq (.reg [⟨(some 45), 45, (.load true 1 (.t 3)), none, []⟩,
    ⟨(some 46), 46, (.mv (.t 2)), none, []⟩,
    ⟨(some 47), 47, (.call 15 [(.t 45), (.t 46)]), none, [0, 1]⟩,
    ⟨(some 44), 44, (.mv (.t 47)), none, [2]⟩,
    ⟨(some 48), 48, (.ext 0 (.t 44)), none, [3]⟩,
    ⟨(some 49), 49, (.ext 1 (.t 44)), none, [3]⟩,
    ⟨(some 12), 12, (.mk 31 3 [[(.s (.pv (.int .i64 0))), (.s (.pv (.int .i64 0))), (.s (.pv (.string ⟨#[]⟩)))]]), none, []⟩,
    ⟨none, 111, (.store 3 (.t 12) (.t 48)), none, [6, 4, 2, 0, 1, 2, 3, 4, 6]⟩,
    ⟨(some 13), 13, (.mv (.t 49)), none, [5, 7, 0, 1, 2, 3, 4, 5, 6, 7]⟩])
  (.seq (.reg [⟨(some 50), 50, (.build [(.s (.pv (.int .i64 0))), (.s (.pv (.int .i64 0))), (.s (.pv (.string ⟨#[]⟩)))] []), none, []⟩,
    ⟨(some 14), 14, (.mk 31 3 [[(.s (.pv (.int .i64 0))), (.s (.pv (.int .i64 0))), (.s (.pv (.string ⟨#[]⟩)))]]), none, []⟩,
    ⟨none, 106, (.store 3 (.t 14) (.t 50)), none, [1, 0, 0, 1]⟩,
    ⟨(some 15), 15, (.mv (.k (.c (.s (.pv (.bool false)))))), none, [2, 0, 1, 2]⟩])
  (.seq (.seq (.reg [⟨(some 51), 51, (.fld 0 (.t 3)), none, []⟩,
    ⟨(some 52), 52, (.load false 1 (.t 51)), none, [0]⟩,
    ⟨(some 53), 53, (.len (.t 52)), none, [1]⟩,
    ⟨(some 54), 54, (.mv (.k (.c (.s (.pv (.int .i64 0)))))), none, []⟩])
  (.block 0 (.loop (.seq (.reg [⟨(some 55), 55, (.bin false .lss (.t 54) (.t 53)), none, []⟩])
  (.seq (.cond (.t 55) .skip (.exit 0))
  (.seq (.block 1 (.seq (.reg [⟨(some 56), 56, (.idx 3 (.t 52) (.t 54)), none, []⟩,
    ⟨(some 57), 57, (.load true 3 (.t 56)), none, [0]⟩,
    ⟨(some 17), 17, (.mk 31 3 [[(.s (.pv (.int .i64 0))), (.s (.pv (.int .i64 0))), (.s (.pv (.string ⟨#[]⟩)))]]), none, []⟩,
    ⟨none, 107, (.store 3 (.t 17) (.t 57)), none, [2, 1, 0, 1, 2]⟩])
  (.seq (.reg [⟨(some 58), 58, (.mv (.t 11)), none, []⟩,
    ⟨(some 59), 59, (.mv (.t 58)), none, [0]⟩,
    ⟨(some 60), 60, (.fld 0 (.t 17)), (some (59, true)), [1]⟩,
    ⟨(some 61), 61, (.load false 1 (.t 60)), (some (59, true)), [2, 1]⟩,
    ⟨(some 62), 62, (.mv (.t 2)), (some (59, true)), [1]⟩,
    ⟨(some 63), 63, (.bin false .eql (.t 61) (.t 62)), (some (59, true)), [3, 4, 1]⟩,
    ⟨(some 64), 64, (.pick (.t 59) (.t 63) (.k (.c (.s (.pv (.bool false)))))), none, [1, 5]⟩])
  (.cond (.t 64) (.reg [⟨(some 65), 65, (.load true 3 (.t 17)), none, []⟩,
    ⟨none, 105, (.store 3 (.t 14) (.t 65)), none, [0, 0]⟩,
    ⟨(some 15), 15, (.mv (.k (.c (.s (.pv (.bool true)))))), none, [1, 0, 1]⟩]) .skip))))
  (.reg [⟨(some 66), 66, (.bin false .add (.t 54) (.k (.c (.s (.pv (.int .i64 1)))))), none, []⟩,
    ⟨(some 54), 54, (.mv (.t 66)), none, [0]⟩])))))))
  (.seq (.reg [⟨(some 67), 67, (.load true 1 (.t 3)), none, []⟩,
    ⟨(some 68), 68, (.call 16 [(.t 67)]), none, [0]⟩,
    ⟨(some 69), 69, (.mv (.t 11)), none, []⟩,
    ⟨(some 70), 70, (.bin true .eql (.t 68) (.t 69)), none, [1, 2]⟩,
    ⟨(some 71), 71, (.mv (.t 70)), none, [3, 1]⟩,
    ⟨(some 72), 72, (.fld 0 (.t 7)), (some (71, true)), [4]⟩,
    ⟨(some 73), 73, (.load false 1 (.t 72)), (some (71, true)), [5, 4]⟩,
    ⟨(some 74), 74, (.mv (.t 9)), (some (71, true)), [4]⟩,
    ⟨(some 75), 75, (.call 17 [(.t 73), (.t 74)]), (some (71, true)), [6, 7, 4, 4]⟩,
    ⟨(some 76), 76, (.pick (.t 71) (.t 75) (.k (.c (.s (.pv (.bool false)))))), none, [4, 8]⟩,
    ⟨(some 77), 77, (.mv (.t 76)), none, [9, 8]⟩,
    ⟨(some 78), 78, (.fld 0 (.t 8)), (some (77, true)), [10]⟩,
    ⟨(some 79), 79, (.load false 1 (.t 78)), (some (77, true)), [11, 10]⟩,
    ⟨(some 80), 80, (.fld 0 (.t 10)), (some (77, true)), [10]⟩,
    ⟨(some 81), 81, (.load false 1 (.t 80)), (some (77, true)), [13, 10]⟩,
    ⟨(some 82), 82, (.bin false .eql (.t 79) (.t 81)), (some (77, true)), [12, 14, 10]⟩,
    ⟨(some 83), 83, (.pick (.t 77) (.t 82) (.k (.c (.s (.pv (.bool false)))))), none, [10, 15]⟩,
    ⟨(some 84), 84, (.mv (.t 83)), none, [16, 10]⟩,
    ⟨(some 85), 85, (.fld 1 (.t 8)), (some (84, true)), [17]⟩,
    ⟨(some 86), 86, (.load true 3 (.t 85)), (some (84, true)), [18, 17]⟩,
    ⟨(some 87), 87, (.fld 1 (.t 10)), (some (84, true)), [17]⟩,
    ⟨(some 88), 88, (.load true 3 (.t 87)), (some (84, true)), [20, 17]⟩,
    ⟨(some 89), 89, (.eqs false 31 (.t 86) (.t 88)), (some (84, true)), [19, 21, 17]⟩,
    ⟨(some 90), 90, (.pick (.t 84) (.t 89) (.k (.c (.s (.pv (.bool false)))))), none, [17, 22]⟩,
    ⟨(some 91), 91, (.mv (.t 90)), none, [23, 17]⟩,
    ⟨(some 92), 92, (.load true 3 (.t 12)), (some (91, true)), [24]⟩,
    ⟨(some 93), 93, (.load true 3 (.t 14)), (some (91, true)), [24]⟩,
    ⟨(some 94), 94, (.eqs false 31 (.t 92) (.t 93)), (some (91, true)), [25, 26, 24]⟩,
    ⟨(some 95), 95, (.pick (.t 91) (.t 94) (.k (.c (.s (.pv (.bool false)))))), none, [24, 27]⟩,
    ⟨(some 96), 96, (.mv (.t 95)), none, [28, 24]⟩,
    ⟨(some 97), 97, (.mv (.t 13)), (some (96, true)), [29]⟩,
    ⟨(some 98), 98, (.mv (.t 15)), (some (96, true)), [29]⟩,
    ⟨(some 99), 99, (.bin true .eql (.t 97) (.t 98)), (some (96, true)), [30, 31, 29]⟩,
    ⟨(some 100), 100, (.pick (.t 96) (.t 99) (.k (.c (.s (.pv (.bool false)))))), none, [29, 32]⟩,
    ⟨(some 101), 101, (.mv (.t 100)), none, [33, 29]⟩,
    ⟨(some 102), 102, (.call 11 []), (some (101, true)), [34, 34]⟩,
    ⟨(some 103), 103, (.pick (.t 101) (.t 102) (.k (.c (.s (.pv (.bool false)))))), none, [34, 35]⟩,
    ⟨(some 6), 6, (.mv (.t 103)), none, [36, 35, 0, 1, 2, 3, 4, 5, 6, 7, 8, 9, 10, 11, 12, 13, 14, 15, 16, 17, 18, 19, 20, 21, 22, 23, 24, 25, 26, 27, 28, 29, 30, 31, 32, 33, 34, 35, 36]⟩])
  .ret)))))))))
theorem fn3 : FnIs Try.prog 3 ac3 [(.t 6)] 104 := ⟨Try.f3, Try.func3, by kernel_rfl, by kernel_rfl, by kernel_rfl⟩
/- lockkeeper/lockkeeperlaw18.OpsAll -/
def ac4 : ACode := (.seq (.reg [⟨(some 2), 2, (.mv (.k (.c (.s (.pv (.bool false)))))), none, []⟩])
  (.seq (.seq (.reg [⟨(some 13), 13, (.mv (.t 0)), none, []⟩,
    ⟨(some 14), 14, (.len (.t 13)), none, [0]⟩,
    ⟨(some 15), 15, (.bin false .gtr (.t 14) (.k (.c (.s (.pv (.int .i64 60)))))), none, [1]⟩])
  (.cond (.t 15) (.seq (.reg [⟨(some 16), 16, (.call 11 []), none, []⟩,
    ⟨(some 2), 2, (.mv (.t 16)), none, [0, 0, 0]⟩])
  .ret) .skip))
  (.seq (.reg [⟨(some 3), 3, (.mv (.k (.c .zc))), none, []⟩])
  (.seq (.reg [⟨(some 4), 4, (.mv (.k (.c .zc))), none, []⟩])
  (.seq (.seq (.reg [⟨(some 17), 17, (.mv (.t 0)), none, []⟩,
    ⟨(some 18), 18, (.len (.t 17)), none, [0]⟩,
    ⟨(some 19), 19, (.mv (.k (.c (.s (.pv (.int .i64 0)))))), none, []⟩])
  (.block 0 (.loop (.seq (.reg [⟨(some 20), 20, (.bin false .lss (.t 19) (.t 18)), none, []⟩])
  (.seq (.cond (.t 20) .skip (.exit 0))
  (.seq (.block 1 (.seq (.reg [⟨(some 21), 21, (.idx 3 (.t 17) (.t 19)), none, []⟩,
    ⟨(some 22), 22, (.load true 3 (.t 21)), none, [0]⟩,
    ⟨(some 6), 6, (.mk 26 3 [[(.s (.pv (.int .i64 0))), (.s (.pv (.int .i64 0))), (.s (.pv (.string ⟨#[]⟩)))]]), none, []⟩,
    ⟨none, 92, (.store 3 (.t 6) (.t 22)), none, [2, 1, 0, 1, 2]⟩])
  (.seq (.seq (.reg [⟨(some 23), 23, (.fld 2 (.t 6)), none, []⟩,
    ⟨(some 24), 24, (.load false 1 (.t 23)), none, [0]⟩,
    ⟨(some 25), 25, (.slen (.t 24)), none, [1]⟩,
    ⟨(some 26), 26, (.bin false .gtr (.t 25) (.k (.c (.s (.pv (.int .i64 100)))))), none, [2]⟩])
  (.cond (.t 26) (.seq (.reg [⟨(some 27), 27, (.call 11 []), none, []⟩,
    ⟨(some 2), 2, (.mv (.t 27)), none, [0, 0, 0]⟩])
  .ret) .skip))
  (.seq (.reg [⟨(some 29), 29, (.mv (.t 3)), none, []⟩,
    ⟨(some 30), 30, (.load true 3 (.t 6)), none, []⟩,
    ⟨(some 31), 31, (.call 13 [(.t 29), (.t 30)]), none, [0, 1]⟩,
    ⟨(some 28), 28, (.mv (.t 31)), none, [2]⟩,
    ⟨(some 32), 32, (.ext 0 (.t 28)), none, [3]⟩,
    ⟨(some 33), 33, (.ext 1 (.t 28)), none, [3]⟩,
    ⟨(some 8), 8, (.mk 37 4 [[(.s (.pv (.int .i64 0))), (.s (.pv (.int .i64 0))), (.s (.pv (.int .i64 0))), (.s (.pv (.string ⟨#[]⟩)))]]), none, []⟩,
    ⟨(some 7), 7, (.mv (.t 32)), none, [4, 2, 0, 1, 2, 3, 4, 6]⟩,
    ⟨none, 97, (.store 4 (.t 8) (.t 33)), none, [6, 5, 7, 0, 1, 2, 3, 4, 5, 6, 7]⟩])
  (.reg [⟨(some 34), 34, (.mv (.t 7)), none, []⟩,
    ⟨(some 35), 35, (.mv (.t 4)), none, []⟩,
    ⟨(some 36), 36, (.load true 4 (.t 8)), none, []⟩,
    ⟨(some 37), 37, (.bslice 37 4 [(.s (.pv (.int .i64 0))), (.s (.pv (.int .i64 0))), (.s (.pv (.int .i64 0))), (.s (.pv (.string ⟨#[]⟩)))] 1 [(0, 4, (.t 36))]), none, [2]⟩,
    ⟨(some 38), 38, (.app 37 4 40 (.t 35) (.t 37)), none, [1, 3]⟩,
    ⟨(some 3), 3, (.mv (.t 34)), none, [0, 4, 0]⟩,
    ⟨(some 4), 4, (.mv (.t 38)), none, [4, 5, 0, 1, 2, 3, 4, 5]⟩])))))
  (.reg [⟨(some 39), 39, (.bin false .add (.t 19) (.k (.c (.s (.pv (.int .i64 1)))))), none, []⟩,
    ⟨(some 19), 19, (.mv (.t 39)), none, [0]⟩])))))))
  (.seq (.reg [⟨(some 41), 41, (.build [.zc] []), none, []⟩,
    ⟨(some 42), 42, (.mv (.t 0)), none, []⟩,
    ⟨(some 43), 43, (.call 18 [(.t 41), (.t 42)]), none, [0, 1]⟩,
    ⟨(some 40), 40, (.mv (.t 43)), none, [2]⟩,
    ⟨(some 44), 44, (.ext 0 (.t 40)), none, [3]⟩,
    ⟨(some 45), 45, (.ext 1 (.t 40)), none, [3]⟩,
    ⟨(some 9), 9, (.mk 24 1 [[.zc]]), none, []⟩,
    ⟨none, 96, (.store 1 (.t 9) (.t 44)), none, [6, 4, 2, 0, 1, 2, 3, 4, 6]⟩,
    ⟨(some 10), 10, (.mv (.t 45)), none, [5, 7, 0, 1, 2, 3, 4, 5, 6, 7]⟩])
  (.seq (.seq (.reg [⟨(some 46), 46, (.mv (.t 10)), none, []⟩,
    ⟨(some 47), 47, (.len (.t 46)), none, [0]⟩,
    ⟨(some 48), 48, (.mv (.t 4)), none, []⟩,
    ⟨(some 49), 49, (.len (.t 48)), none, [2]⟩,
    ⟨(some 50), 50, (.bin false .neq (.t 47) (.t 49)), none, [1, 3]⟩,
    ⟨(some 51), 51, (.mv (.t 50)), none, [4]⟩,
    ⟨(some 52), 52, (.fld 0 (.t 9)), (some (51, false)), [5]⟩,
    ⟨(some 53), 53, (.load false 1 (.t 52)), (some (51, false)), [6, 5]⟩,
    ⟨(some 54), 54, (.mv (.t 3)), (some (51, false)), [5]⟩,
    ⟨(some 55), 55, (.call 17 [(.t 53), (.t 54)]), (some (51, false)), [7, 8, 5, 5]⟩,
    ⟨(some 56), 56, (.not (.t 55)), (some (51, false)), [9, 5]⟩,
    ⟨(some 57), 57, (.pick (.t 51) (.k (.c (.s (.pv (.bool true))))) (.t 56)), none, [5, 10]⟩])
  (.cond (.t 57) (.seq (.reg [⟨(some 2), 2, (.mv (.k (.c (.s (.pv (.bool false)))))), none, []⟩])
  .ret) .skip))
  (.seq (.seq (.reg [⟨(some 58), 58, (.mv (.t 10)), none, []⟩,
    ⟨(some 59), 59, (.len (.t 58)), none, [0]⟩,
    ⟨(some 60), 60, (.mv (.k (.c (.s (.pv (.int .i64 0)))))), none, []⟩])
  (.block 2 (.loop (.seq (.reg [⟨(some 61), 61, (.bin false .lss (.t 60) (.t 59)), none, []⟩])
  (.seq (.cond (.t 61) .skip (.exit 2))
  (.seq (.block 3 (.seq (.reg [⟨(some 62), 62, (.mv (.t 60)), none, []⟩,
    ⟨(some 63), 63, (.idx 4 (.t 58) (.t 60)), none, []⟩,
    ⟨(some 64), 64, (.load true 4 (.t 63)), none, [1]⟩,
    ⟨(some 12), 12, (.mk 33 4 [[(.s (.pv (.int .i64 0))), (.s (.pv (.int .i64 0))), (.s (.pv (.int .i64 0))), (.s (.pv (.string ⟨#[]⟩)))]]), none, []⟩,
    ⟨(some 11), 11, (.mv (.t 62)), none, [0, 0, 1, 2, 3]⟩,
    ⟨none, 94, (.store 4 (.t 12) (.t 64)), none, [3, 2, 4, 0, 1, 2, 3, 4]⟩])
  (.seq (.draw [⟨(some 65), 65, (.fld 0 (.t 12)), none, []⟩,
    ⟨(some 66), 66, (.load false 1 (.t 65)), none, [0]⟩,
    ⟨(some 67), 67, (.mv (.t 4)), none, []⟩,
    ⟨(some 68), 68, (.mv (.t 11)), none, []⟩,
    ⟨(some 69), 69, (.idx 4 (.t 67) (.t 68)), none, [2, 3]⟩,
    ⟨(some 70), 70, (.fld 0 (.t 69)), none, [4]⟩,
    ⟨(some 71), 71, (.load false 1 (.t 70)), none, [5]⟩,
    ⟨(some 72), 72, (.bin false .neq (.t 66) (.t 71)), none, [1, 6]⟩,
    ⟨(some 73), 73, (.mv (.t 72)), none, [7]⟩,
    ⟨(some 74), 74, (.fld 1 (.t 12)), (some (73, false)), [8]⟩,
    ⟨(some 75), 75, (.load true 3 (.t 74)), (some (73, false)), [9, 8]⟩,
    ⟨(some 76), 76, (.mv (.t 4)), (some (73, false)), [8]⟩,
    ⟨(some 77), 77, (.mv (.t 11)), (some (73, false)), [8]⟩,
    ⟨(some 78), 78, (.idx 4 (.t 76) (.t 77)), (some (73, false)), [11, 12, 8]⟩,
    ⟨(some 79), 79, (.fld 1 (.t 78)), (some (73, false)), [13, 8]⟩,
    ⟨(some 80), 80, (.load true 3 (.t 79)), (some (73, false)), [14, 8]⟩,
    ⟨(some 81), 81, (.eqs true 31 (.t 75) (.t 80)), (some (73, false)), [10, 15, 8]⟩,
    ⟨(some 82), 82, (.pick (.t 73) (.k (.c (.s (.pv (.bool true))))) (.t 81)), none, [8, 16]⟩])
  (.cond (.t 82) (.seq (.reg [⟨(some 2), 2, (.mv (.k (.c (.s (.pv (.bool false)))))), none, []⟩])
  .ret) .skip))))
  (.reg [⟨(some 83), 83, (.bin false .add (.t 60) (.k (.c (.s (.pv (.int .i64 1)))))), none, []⟩,
    ⟨(some 60), 60, (.mv (.t 83)), none, [0]⟩])))))))
  (.seq (.reg [⟨(some 84), 84, (.load true 1 (.t 9)), none, []⟩,
    ⟨(some 85), 85, (.call 16 [(.t 84)]), none, [0]⟩,
    ⟨(some 86), 86, (.mv (.t 85)), none, [1, 1]⟩,
    ⟨(some 87), 87, (.call 11 []), (some (86, true)), [2, 2]⟩,
    ⟨(some 88), 88, (.pick (.t 86) (.t 87) (.k (.c (.s (.pv (.bool false)))))), none, [2, 3]⟩,
    ⟨(some 2), 2, (.mv (.t 88)), none, [4, 3, 0, 1, 2, 3, 4]⟩])
  .ret)))))))))
theorem fn4 : FnIs Try.prog 4 ac4 [(.t 2)] 89 := ⟨Try.f4, Try.func4, by kernel_rfl, by kernel_rfl, by kernel_rfl⟩
/- lockkeeper/lockkeeperlaw18.OpsApart -/
def ac5 : ACode := (.seq (.reg [⟨(some 3), 3, (.box 24 1 (.t 0)), none, []⟩,
    ⟨(some 4), 4, (.box 26 3 (.t 1)), none, []⟩,
    ⟨(some 5), 5, (.box 26 3 (.t 2)), none, []⟩,
    ⟨(some 6), 6, (.mv (.k (.c (.s (.pv (.bool false)))))), none, []⟩])
  (.seq (.seq (.reg [⟨(some 13), 13, (.load true 1 (.t 3)), none, []⟩,
    ⟨(some 14), 14, (.call 10 [(.t 13)]), none, [0]⟩,
    ⟨(some 15), 15, (.not (.t 14)), none, [1]⟩,
    ⟨(some 16), 16, (.mv (.t 15)), none, [2, 1]⟩,
    ⟨(some 17), 17, (.fld 2 (.t 4)), (some (16, false)), [3]⟩,
    ⟨(some 18), 18, (.load false 1 (.t 17)), (some (16, false)), [4, 3]⟩,
    ⟨(some 19), 19, (.slen (.t 18)), (some (16, false)), [5, 3]⟩,
    ⟨(some 20), 20, (.bin false .gtr (.t 19) (.k (.c (.s (.pv (.int .i64 100)))))), (some (16, false)), [6, 3]⟩,
    ⟨(some 21), 21, (.pick (.t 16) (.k (.c (.s (.pv (.bool true))))) (.t 20)), none, [3, 7]⟩,
    ⟨(some 22), 22, (.mv (.t 21)), none, [8, 3]⟩,
    ⟨(some 23), 23, (.fld 2 (.t 5)), (some (22, false)), [9]⟩,
    ⟨(some 24), 24, (.load false 1 (.t 23)), (some (22, false)), [10, 9]⟩,
    ⟨(some 25), 25, (.slen (.t 24)), (some (22, false)), [11, 9]⟩,
    ⟨(some 26), 26, (.bin false .gtr (.t 25) (.k (.c (.s (.pv (.int .i64 100)))))), (some (22, false)), [12, 9]⟩,
    ⟨(some 27), 27, (.pick (.t 22) (.k (.c (.s (.pv (.bool true))))) (.t 26)), none, [9, 13]⟩])
  (.cond (.t 27) (.seq (.reg [⟨(some 28), 28, (.call 11 []), none, []⟩,
    ⟨(some 6), 6, (.mv (.t 28)), none, [0, 0, 0]⟩])
  .ret) .skip))
  (.seq (.reg [⟨(some 30), 30, (.load true 1 (.t 3)), none, []⟩,
    ⟨(some 31), 31, (.load true 3 (.t 4)), none, []⟩,
    ⟨(some 32), 32, (.call 12 [(.t 30), (.t 31)]), none, [0, 1]⟩,
    ⟨(some 29), 29, (.mv (.t 32)), none, [2]⟩,
    ⟨(some 33), 33, (.ext 0 (.t 29)), none, [3]⟩,
    ⟨(some 34), 34, (.ext 1 (.t 29)), none, [3]⟩,
    ⟨(some 7), 7, (.mk 24 1 [[.zc]]), none, []⟩,
    ⟨(some 8), 8, (.mk 33 4 [[(.s (.pv (.int .i64 0))), (.s (.pv (.int .i64 0))), (.s (.pv (.int .i64 0))), (.s (.pv (.string ⟨#[]⟩)))]]), none, []⟩,
    ⟨none, 102, (.store 1 (.t 7) (.t 33)), none, [6, 4, 2, 0, 1, 2, 3, 4, 6, 7]⟩,
    ⟨none, 103, (.store 4 (.t 8) (.t 34)), none, [7, 5, 8, 0, 1, 2, 3, 4, 5, 6, 7, 8]⟩])
  (.seq (.seq (.reg [⟨(some 35), 35, (.fld 0 (.t 8)), none, []⟩,
    ⟨(some 36), 36, (.load false 1 (.t 35)), none, [0]⟩,
    ⟨(some 37), 37, (.bin false .neq (.t 36) (.k (.c (.s (.pv (.int .i64 0)))))), none, [1]⟩,
    ⟨(some 38), 38, (.mv (.t 37)), none, [2]⟩,
    ⟨(some 39), 39, (.fld 0 (.t 7)), (some (38, true)), [3]⟩,
    ⟨(some 40), 40, (.load false 1 (.t 39)), (some (38, true)), [4, 3]⟩,
    ⟨(some 41), 41, (.fld 0 (.t 3)), (some (38, true)), [3]⟩,
    ⟨(some 42), 42, (.load false 1 (.t 41)), (some (38, true)), [6, 3]⟩,
    ⟨(some 43), 43, (.call 17 [(.t 40), (.t 42)]), (some (38, true)), [5, 7, 3, 3]⟩,
    ⟨(some 44), 44, (.not (.t 43)), (some (38, true)), [8, 3]⟩,
    ⟨(some 45), 45, (.mv (.t 44)), (some (38, true)), [9, 8, 3]⟩,
    ⟨(some 46), 46, (.fld 1 (.t 8)), (some (45, false)), [10]⟩,
    ⟨(some 47), 47, (.load true 3 (.t 46)), (some (45, false)), [11, 10]⟩,
    ⟨(some 48), 48, (.build [(.s (.pv (.int .i64 0))), (.s (.pv (.int .i64 0))), (.s (.pv (.string ⟨#[]⟩)))] []), (some (45, false)), [10]⟩,
    ⟨(some 49), 49, (.eqs true 31 (.t 47) (.t 48)), (some (45, false)), [12, 13, 10]⟩,
    ⟨(some 50), 50, (.pick (.t 45) (.k (.c (.s (.pv (.bool true))))) (.t 49)), (some (38, true)), [10, 14, 3]⟩,
    ⟨(some 51), 51, (.pick (.t 38) (.t 50) (.k (.c (.s (.pv (.bool false)))))), none, [3, 15]⟩])
  (.cond (.t 51) (.seq (.reg [⟨(some 6), 6, (.mv (.k (.c (.s (.pv (.bool false)))))), none, []⟩])
  .ret) .skip))
  (.seq (.seq (.reg [⟨(some 52), 52, (.fld 1 (.t 4)), none, []⟩,
    ⟨(some 53), 53, (.load false 1 (.t 52)), none, [0]⟩,
    ⟨(some 54), 54, (.fld 1 (.t 5)), none, []⟩,
    ⟨(some 55), 55, (.load false 1 (.t 54)), none, [2]⟩,
    ⟨(some 56), 56, (.bin false .eql (.t 53) (.t 55)), none, [1, 3]⟩])
  (.cond (.t 56) (.seq (.reg [⟨(some 57), 57, (.call 11 []), none, []⟩,
    ⟨(some 6), 6, (.mv (.t 57)), none, [0, 0, 0]⟩])
  .ret) .skip))
  (.seq (.reg [⟨(some 59), 59, (.load true 1 (.t 7)), none, []⟩,
    ⟨(some 60), 60, (.load true 3 (.t 5)), none, []⟩,
    ⟨(some 61), 61, (.call 12 [(.t 59), (.t 60)]), none, [0, 1]⟩,
    ⟨(some 58), 58, (.mv (.t 61)), none, [2]⟩,
    ⟨(some 62), 62, (.ext 0 (.t 58)), none, [3]⟩,
    ⟨(some 63), 63, (.ext 1 (.t 58)), none, [3]⟩,
    ⟨(some 9), 9, (.mk 33 4 [[(.s (.pv (.int .i64 0))), (.s (.pv (.int .i64 0))), (.s (.pv (.int .i64 0))), (.s (.pv (.string ⟨#[]⟩)))]]), none, []⟩,
    ⟨none, 101, (.store 1 (.t 7) (.t 62)), none, [4, 2, 0, 1, 2, 3, 4, 6]⟩,
    ⟨none, 102, (.store 4 (.t 9) (.t 63)), none, [6, 5, 7, 0, 1, 2, 3, 4, 5, 6, 7]⟩])
  (.seq (.reg [⟨(some 65), 65, (.load true 1 (.t 3)), none, []⟩,
    ⟨(some 66), 66, (.load true 3 (.t 5)), none, []⟩,
    ⟨(some 67), 67, (.call 12 [(.t 65), (.t 66)]), none, [0, 1]⟩,
    ⟨(some 64), 64, (.mv (.t 67)), none, [2]⟩,
    ⟨(some 68), 68, (.ext 0 (.t 64)), none, [3]⟩,
    ⟨(some 69), 69, (.ext 1 (.t 64)), none, [3]⟩,
    ⟨(some 10), 10, (.mk 24 1 [[.zc]]), none, []⟩,
    ⟨(some 11), 11, (.mk 33 4 [[(.s (.pv (.int .i64 0))), (.s (.pv (.int .i64 0))), (.s (.pv (.int .i64 0))), (.s (.pv (.string ⟨#[]⟩)))]]), none, []⟩,
    ⟨none, 102, (.store 1 (.t 10) (.t 68)), none, [6, 4, 2, 0, 1, 2, 3, 4, 6, 7]⟩,
    ⟨none, 103, (.store 4 (.t 11) (.t 69)), none, [7, 5, 8, 0, 1, 2, 3, 4, 5, 6, 7, 8]⟩])
  (.seq (.reg [⟨(some 71), 71, (.load true 1 (.t 10)), none, []⟩,
    ⟨(some 72), 72, (.load true 3 (.t 4)), none, []⟩,
    ⟨(some 73), 73, (.call 12 [(.t 71), (.t 72)]), none, [0, 1]⟩,
    ⟨(some 70), 70, (.mv (.t 73)), none, [2]⟩,
    ⟨(some 74), 74, (.ext 0 (.t 70)), none, [3]⟩,
    ⟨(some 75), 75, (.ext 1 (.t 70)), none, [3]⟩,
    ⟨(some 12), 12, (.mk 33 4 [[(.s (.pv (.int .i64 0))), (.s (.pv (.int .i64 0))), (.s (.pv (.int .i64 0))), (.s (.pv (.string ⟨#[]⟩)))]]), none, []⟩,
    ⟨none, 101, (.store 1 (.t 10) (.t 74)), none, [4, 2, 0, 1, 2, 3, 4, 6]⟩,
    ⟨none, 102, (.store 4 (.t 12) (.t 75)), none, [6, 5, 7, 0, 1, 2, 3, 4, 5, 6, 7]⟩])
  (.seq (.reg [⟨(some 76), 76, (.fld 0 (.t 7)), none, []⟩,
    ⟨(some 77), 77, (.load false 1 (.t 76)), none, [0]⟩,
    ⟨(some 78), 78, (.fld 0 (.t 10)), none, []⟩,
    ⟨(some 79), 79, (.load false 1 (.t 78)), none, [2]⟩,
    ⟨(some 80), 80, (.call 17 [(.t 77), (.t 79)]), none, [1, 3]⟩,
    ⟨(some 81), 81, (.mv (.t 80)), none, [4, 4]⟩,
    ⟨(some 82), 82, (.load true 4 (.t 8)), (some (81, true)), [5]⟩,
    ⟨(some 83), 83, (.load true 4 (.t 12)), (some (81, true)), [5]⟩,
    ⟨(some 84), 84, (.eqs false 33 (.t 82) (.t 83)), (some (81, true)), [6, 7, 5]⟩,
    ⟨(some 85), 85, (.pick (.t 81) (.t 84) (.k (.c (.s (.pv (.bool false)))))), none, [5, 8]⟩,
    ⟨(some 86), 86, (.mv (.t 85)), none, [9, 5]⟩,
    ⟨(some 87), 87, (.load true 4 (.t 9)), (some (86, true)), [10]⟩,
    ⟨(some 88), 88, (.load true 4 (.t 11)), (some (86, true)), [10]⟩,
    ⟨(some 89), 89, (.eqs false 33 (.t 87) (.t 88)), (some (86, true)), [11, 12, 10]⟩,
    ⟨(some 90), 90, (.pick (.t 86) (.t 89) (.k (.c (.s (.pv (.bool false)))))), none, [10, 13]⟩,
    ⟨(some 91), 91, (.mv (.t 90)), none, [14, 10]⟩,
    ⟨(some 92), 92, (.call 11 []), (some (91, true)), [15, 15]⟩,
    ⟨(some 93), 93, (.pick (.t 91) (.t 92) (.k (.c (.s (.pv (.bool false)))))), none, [15, 16]⟩,
    ⟨(some 6), 6, (.mv (.t 93)), none, [17, 16, 0, 1, 2, 3, 4, 5, 6, 7, 8, 9, 10, 11, 12, 13, 14, 15, 16, 17]⟩])
  .ret)))))))))
theorem fn5 : FnIs Try.prog 5 ac5 [(.t 6)] 94 := ⟨Try.f5, Try.func5, by kernel_rfl, by kernel_rfl, by kernel_rfl⟩
/- lockkeeper/lockkeeperlaw18.OpsLast -/
def ac6 : ACode := (.seq (.reg [⟨(some 4), 4, (.mv (.k (.c (.s (.pv (.bool false)))))), none, []⟩])
  (.seq (.reg [⟨(some 15), 15, (.mv (.t 0)), none, []⟩,
    ⟨(some 16), 16, (.bin false .rem (.t 15) (.k (.c (.s (.pv (.int .u8 16)))))), none, [0]⟩,
    ⟨(some 17), 17, (.conv .i64 (.t 16)), none, [1]⟩,
    ⟨(some 18), 18, (.bin false .add (.k (.c (.s (.pv (.int .i64 1))))) (.t 17)), none, [2]⟩,
    ⟨(some 5), 5, (.mv (.t 18)), none, [3, 0, 1, 2, 3]⟩])
  (.seq (.reg [⟨(some 20), 20, (.build [.zc] []), none, []⟩,
    ⟨(some 21), 21, (.mv (.t 5)), none, []⟩,
    ⟨(some 22), 22, (.build [(.s (.pv (.int .i64 0))), (.s (.pv (.int .i64 0))), (.s (.pv (.string ⟨#[]⟩)))] [(0, 1, (.k (.c (.s (.pv (.int .i64 1)))))), (1, 1, (.t 21))]), none, [1]⟩,
    ⟨(some 23), 23, (.call 12 [(.t 20), (.t 22)]), none, [0, 2]⟩,
    ⟨(some 19), 19, (.mv (.t 23)), none, [3]⟩,
    ⟨(some 24), 24, (.ext 0 (.t 19)), none, [4]⟩,
    ⟨(some 25), 25, (.ext 1 (.t 19)), none, [4]⟩,
    ⟨(some 6), 6, (.mk 24 1 [[.zc]]), none, []⟩,
    ⟨(some 7), 7, (.mk 33 4 [[(.s (.pv (.int .i64 0))), (.s (.pv (.int .i64 0))), (.s (.pv (.int .i64 0))), (.s (.pv (.string ⟨#[]⟩)))]]), none, []⟩,
    ⟨none, 105, (.store 1 (.t 6) (.t 24)), none, [7, 5, 3, 0, 1, 2, 3, 4, 5, 7, 8]⟩,
    ⟨none, 106, (.store 4 (.t 7) (.t 25)), none, [8, 6, 9, 0, 1, 2, 3, 4, 5, 6, 7, 8, 9]⟩])
  (.seq (.reg [⟨(some 8), 8, (.mv (.k (.c (.s (.pv (.string ⟨#[]⟩)))))), none, []⟩,
    ⟨(some 9), 9, (.mv (.k (.c (.s (.pv (.int .i64 1)))))), none, [0, 0]⟩])
  (.seq (.seq (.reg [⟨(some 10), 10, (.mv (.k (.c (.s (.pv (.int .i64 0)))))), none, []⟩])
  (.block 0 (.loop (.seq (.seq (.reg [⟨(some 26), 26, (.mv (.t 10)), none, []⟩,
    ⟨(some 27), 27, (.mv (.t 1)), none, []⟩,
    ⟨(some 28), 28, (.len (.t 27)), none, [1]⟩,
    ⟨(some 29), 29, (.bin false .lss (.t 26) (.t 28)), none, [0, 2]⟩,
    ⟨(some 30), 30, (.mv (.t 29)), none, [3]⟩,
    ⟨(some 31), 31, (.mv (.t 10)), (some (30, true)), [4]⟩,
    ⟨(some 32), 32, (.bin false .lss (.t 31) (.k (.c (.s (.pv (.int .i64 60)))))), (some (30, true)), [5, 4]⟩,
    ⟨(some 33), 33, (.pick (.t 30) (.t 32) (.k (.c (.s (.pv (.bool false)))))), none, [4, 6]⟩])
  (.cond (.t 33) .skip (.exit 0)))
  (.seq (.block 1 (.seq (.seq (.reg [⟨(some 36), 36, (.mv (.t 1)), none, []⟩,
    ⟨(some 37), 37, (.mv (.t 10)), none, []⟩,
    ⟨(some 38), 38, (.idx 1 (.t 36) (.t 37)), none, [0, 1]⟩,
    ⟨(some 39), 39, (.load false 1 (.t 38)), none, [2]⟩,
    ⟨(some 40), 40, (.slen (.t 39)), none, [3]⟩,
    ⟨(some 41), 41, (.bin false .gtr (.t 40) (.k (.c (.s (.pv (.int .i64 100)))))), none, [4]⟩])
  (.cond (.t 41) (.seq (.reg [⟨(some 42), 42, (.call 11 []), none, []⟩,
    ⟨(some 4), 4, (.mv (.t 42)), none, [0, 0, 0]⟩])
  .ret) .skip))
  (.seq (.draw [⟨(some 44), 44, (.load true 1 (.t 6)), none, []⟩,
    ⟨(some 45), 45, (.mv (.t 5)), none, []⟩,
    ⟨(some 46), 46, (.mv (.t 1)), none, []⟩,
    ⟨(some 47), 47, (.mv (.t 10)), none, []⟩,
    ⟨(some 48), 48, (.idx 1 (.t 46) (.t 47)), none, [2, 3]⟩,
    ⟨(some 49), 49, (.load false 1 (.t 48)), none, [4]⟩,
    ⟨(some 50), 50, (.build [(.s (.pv (.int .i64 0))), (.s (.pv (.int .i64 0))), (.s (.pv (.string ⟨#[]⟩)))] [(0, 1, (.k (.c (.s (.pv (.int .i64 3)))))), (1, 1, (.t 45)), (2, 1, (.t 49))]), none, [1, 5]⟩,
    ⟨(some 51), 51, (.call 12 [(.t 44), (.t 50)]), none, [0, 6]⟩,
    ⟨(some 43), 43, (.mv (.t 51)), none, [7]⟩,
    ⟨(some 52), 52, (.ext 0 (.t 43)), none, [8]⟩,
    ⟨(some 53), 53, (.ext 1 (.t 43)), none, [8]⟩,
    ⟨(some 11), 11, (.mk 24 1 [[.zc]]), none, []⟩,
    ⟨(some 12), 12, (.mk 33 4 [[(.s (.pv (.int .i64 0))), (.s (.pv (.int .i64 0))), (.s (.pv (.int .i64 0))), (.s (.pv (.string ⟨#[]⟩)))]]), none, []⟩,
    ⟨none, 109, (.store 1 (.t 11) (.t 52)), none, [11, 9, 7, 0, 1, 2, 3, 4, 5, 6, 7, 8, 9, 11, 12]⟩,
    ⟨none, 110, (.store 4 (.t 12) (.t 53)), none, [12, 10, 13, 0, 1, 2, 3, 4, 5, 6, 7, 8, 9, 10, 11, 12, 13]⟩])
  (.seq (.seq (.draw [⟨(some 54), 54, (.fld 0 (.t 12)), none, []⟩,
    ⟨(some 55), 55, (.load false 1 (.t 54)), none, [0]⟩,
    ⟨(some 56), 56, (.bin false .eql (.t 55) (.k (.c (.s (.pv (.int .i64 0)))))), none, [1]⟩,
    ⟨(some 57), 57, (.mv (.t 1)), none, []⟩,
    ⟨(some 58), 58, (.mv (.t 10)), none, []⟩,
    ⟨(some 59), 59, (.idx 1 (.t 57) (.t 58)), none, [3, 4]⟩,
    ⟨(some 60), 60, (.load false 1 (.t 59)), none, [5]⟩,
    ⟨(some 61), 61, (.slen (.t 60)), none, [6]⟩,
    ⟨(some 62), 62, (.bin false .leq (.t 61) (.k (.c (.s (.pv (.int .i64 16)))))), none, [7]⟩,
    ⟨(some 63), 63, (.bin true .neq (.t 56) (.t 62)), none, [2, 8]⟩])
  (.cond (.t 63) (.seq (.reg [⟨(some 4), 4, (.mv (.k (.c (.s (.pv (.bool false)))))), none, []⟩])
  .ret) .skip))
  (.seq (.seq (.reg [⟨(some 64), 64, (.fld 0 (.t 12)), none, []⟩,
    ⟨(some 65), 65, (.load false 1 (.t 64)), none, [0]⟩,
    ⟨(some 66), 66, (.bin false .eql (.t 65) (.k (.c (.s (.pv (.int .i64 0)))))), none, [1]⟩])
  (.cond (.t 66) (.seq (.reg [⟨(some 67), 67, (.mv (.t 1)), none, []⟩,
    ⟨(some 68), 68, (.mv (.t 10)), none, []⟩,
    ⟨(some 69), 69, (.idx 1 (.t 67) (.t 68)), none, [0, 1]⟩,
    ⟨(some 70), 70, (.load false 1 (.t 69)), none, [2]⟩,
    ⟨(some 8), 8, (.mv (.t 70)), none, [3, 0, 1, 2, 3]⟩])
  (.reg [⟨(some 71), 71, (.mv (.t 9)), none, []⟩,
    ⟨(some 72), 72, (.bin false .add (.t 71) (.k (.c (.s (.pv (.int .i64 1)))))), none, [0]⟩,
    ⟨(some 9), 9, (.mv (.t 72)), none, [1, 0, 1]⟩])) .skip))
  (.reg [⟨(some 73), 73, (.load true 1 (.t 11)), none, []⟩,
    ⟨none, 97, (.store 1 (.t 6) (.t 73)), none, [0, 0]⟩]))))))
  (.reg [⟨(some 34), 34, (.mv (.t 10)), none, []⟩,
    ⟨(some 35), 35, (.bin false .add (.t 34) (.k (.c (.s (.pv (.int .i64 1)))))), none, [0]⟩,
    ⟨(some 10), 10, (.mv (.t 35)), none, [1, 0, 1]⟩]))))))
  (.seq (.reg [⟨(some 75), 75, (.load true 1 (.t 6)), none, []⟩,
    ⟨(some 76), 76, (.mv (.t 5)), none, []⟩,
    ⟨(some 77), 77, (.build [(.s (.pv (.int .i64 0))), (.s (.pv (.int .i64 0))), (.s (.pv (.string ⟨#[]⟩)))] [(0, 1, (.k (.c (.s (.pv (.int .i64 2)))))), (1, 1, (.t 76))]), none, [1]⟩,
    ⟨(some 78), 78, (.call 12 [(.t 75), (.t 77)]), none, [0, 2]⟩,
    ⟨(some 74), 74, (.mv (.t 78)), none, [3]⟩,
    ⟨(some 79), 79, (.ext 0 (.t 74)), none, [4]⟩,
    ⟨(some 80), 80, (.ext 1 (.t 74)), none, [4]⟩,
    ⟨(some 13), 13, (.mk 24 1 [[.zc]]), none, []⟩,
    ⟨(some 14), 14, (.mk 33 4 [[(.s (.pv (.int .i64 0))), (.s (.pv (.int .i64 0))), (.s (.pv (.int .i64 0))), (.s (.pv (.string ⟨#[]⟩)))]]), none, []⟩,
    ⟨none, 105, (.store 1 (.t 13) (.t 79)), none, [7, 5, 3, 0, 1, 2, 3, 4, 5, 7, 8]⟩,
    ⟨none, 106, (.store 4 (.t 14) (.t 80)), none, [8, 6, 9, 0, 1, 2, 3, 4, 5, 6, 7, 8, 9]⟩])
  (.seq (.reg [⟨(some 81), 81, (.fld 0 (.t 7)), none, []⟩,
    ⟨(some 82), 82, (.load false 1 (.t 81)), none, [0]⟩,
    ⟨(some 83), 83, (.bin false .eql (.t 82) (.k (.c (.s (.pv (.int .i64 0)))))), none, [1]⟩,
    ⟨(some 84), 84, (.mv (.t 83)), none, [2]⟩,
    ⟨(some 85), 85, (.fld 1 (.t 14)), (some (84, true)), [3]⟩,
    ⟨(some 86), 86, (.load true 3 (.t 85)), (some (84, true)), [4, 3]⟩,
    ⟨(some 87), 87, (.mv (.t 5)), (some (84, true)), [3]⟩,
    ⟨(some 88), 88, (.mv (.t 9)), (some (84, true)), [3]⟩,
    ⟨(some 89), 89, (.mv (.t 8)), (some (84, true)), [3]⟩,
    ⟨(some 90), 90, (.build [(.s (.pv (.int .i64 0))), (.s (.pv (.int .i64 0))), (.s (.pv (.string ⟨#[]⟩)))] [(0, 1, (.t 87)), (1, 1, (.t 88)), (2, 1, (.t 89))]), (some (84, true)), [6, 7, 8, 3]⟩,
    ⟨(some 91), 91, (.eqs false 31 (.t 86) (.t 90)), (some (84, true)), [5, 9, 3]⟩,
    ⟨(some 92), 92, (.pick (.t 84) (.t 91) (.k (.c (.s (.pv (.bool false)))))), none, [3, 10]⟩,
    ⟨(some 93), 93, (.mv (.t 92)), none, [11, 3]⟩,
    ⟨(some 94), 94, (.call 11 []), (some (93, true)), [12, 12]⟩,
    ⟨(some 95), 95, (.pick (.t 93) (.t 94) (.k (.c (.s (.pv (.bool false)))))), none, [12, 13]⟩,
    ⟨(some 4), 4, (.mv (.t 95)), none, [14, 13, 0, 1, 2, 3, 4, 5, 6, 7, 8, 9, 10, 11, 12, 13, 14]⟩])
  .ret)))))))
theorem fn6 : FnIs Try.prog 6 ac6 [(.t 4)] 96 := ⟨Try.f6, Try.func6, by kernel_rfl, by kernel_rfl, by kernel_rfl⟩
/- lockkeeper/lockkeeperlaw18.OpsBack -/
def ac7 : ACode := (.seq (.reg [⟨(some 2), 2, (.box 24 1 (.t 0)), none, []⟩,
    ⟨(some 4), 4, (.mv (.k (.c (.s (.pv (.bool false)))))), none, []⟩])
  (.seq (.seq (.reg [⟨(some 11), 11, (.load true 1 (.t 2)), none, []⟩,
    ⟨(some 12), 12, (.call 10 [(.t 11)]), none, [0]⟩,
    ⟨(some 13), 13, (.not (.t 12)), none, [1]⟩])
  (.cond (.t 13) (.seq (.reg [⟨(some 14), 14, (.call 11 []), none, []⟩,
    ⟨(some 4), 4, (.mv (.t 14)), none, [0, 0, 0]⟩])
  .ret) .skip))
  (.seq (.reg [⟨(some 16), 16, (.load true 1 (.t 2)), none, []⟩,
    ⟨(some 17), 17, (.mv (.t 1)), none, []⟩,
    ⟨(some 18), 18, (.build [(.s (.pv (.int .i64 0))), (.s (.pv (.int .i64 0))), (.s (.pv (.string ⟨#[]⟩)))] [(0, 1, (.k (.c (.s (.pv (.int .i64 1)))))), (1, 1, (.t 17))]), none, [1]⟩,
    ⟨(some 19), 19, (.mv (.t 1)), none, []⟩,
    ⟨(some 20), 20, (.build [(.s (.pv (.int .i64 0))), (.s (.pv (.int .i64 0))), (.s (.pv (.string ⟨#[]⟩)))] [(0, 1, (.k (.c (.s (.pv (.int .i64 4)))))), (1, 1, (.t 19))]), none, [3]⟩,
    ⟨(some 21), 21, (.bslice 26 3 [(.s (.pv (.int .i64 0))), (.s (.pv (.int .i64 0))), (.s (.pv (.string ⟨#[]⟩)))] 2 [(0, 3, (.t 18)), (3, 3, (.t 20))]), none, [2, 4]⟩,
    ⟨(some 22), 22, (.call 18 [(.t 16), (.t 21)]), none, [0, 5]⟩,
    ⟨(some 15), 15, (.mv (.t 22)), none, [6]⟩,
    ⟨(some 23), 23, (.ext 0 (.t 15)), none, [7]⟩,
    ⟨(some 24), 24, (.ext 1 (.t 15)), none, [7]⟩,
    ⟨(some 5), 5, (.mk 24 1 [[.zc]]), none, []⟩,
    ⟨none, 164, (.store 1 (.t 5) (.t 23)), none, [10, 8, 6, 0, 1, 2, 3, 4, 5, 6, 7, 8, 10]⟩,
    ⟨(some 6), 6, (.mv (.t 24)), none, [9, 11, 0, 1, 2, 3, 4, 5, 6, 7, 8, 9, 10, 11]⟩])
  (.seq (.reg [⟨(some 26), 26, (.load true 1 (.t 2)), none, []⟩,
    ⟨(some 27), 27, (.mv (.t 1)), none, []⟩,
    ⟨(some 28), 28, (.build [(.s (.pv (.int .i64 0))), (.s (.pv (.int .i64 0))), (.s (.pv (.string ⟨#[]⟩)))] [(0, 1, (.k (.c (.s (.pv (.int .i64 4)))))), (1, 1, (.t 27))]), none, [1]⟩,
    ⟨(some 29), 29, (.mv (.t 1)), none, []⟩,
    ⟨(some 30), 30, (.build [(.s (.pv (.int .i64 0))), (.s (.pv (.int .i64 0))), (.s (.pv (.string ⟨#[]⟩)))] [(0, 1, (.k (.c (.s (.pv (.int .i64 1)))))), (1, 1, (.t 29))]), none, [3]⟩,
    ⟨(some 31), 31, (.bslice 26 3 [(.s (.pv (.int .i64 0))), (.s (.pv (.int .i64 0))), (.s (.pv (.string ⟨#[]⟩)))] 2 [(0, 3, (.t 28)), (3, 3, (.t 30))]), none, [2, 4]⟩,
    ⟨(some 32), 32, (.call 18 [(.t 26), (.t 31)]), none, [0, 5]⟩,
    ⟨(some 25), 25, (.mv (.t 32)), none, [6]⟩,
    ⟨(some 33), 33, (.ext 0 (.t 25)), none, [7]⟩,
    ⟨(some 34), 34, (.ext 1 (.t 25)), none, [7]⟩,
    ⟨(some 7), 7, (.mk 24 1 [[.zc]]), none, []⟩,
    ⟨none, 164, (.store 1 (.t 7) (.t 33)), none, [10, 8, 6, 0, 1, 2, 3, 4, 5, 6, 7, 8, 10]⟩,
    ⟨(some 8), 8, (.mv (.t 34)), none, [9, 11, 0, 1, 2, 3, 4, 5, 6, 7, 8, 9, 10, 11]⟩])
  (.seq (.seq (.reg [⟨(some 35), 35, (.mv (.t 6)), none, []⟩,
    ⟨(some 36), 36, (.len (.t 35)), none, [0]⟩,
    ⟨(some 37), 37, (.bin false .neq (.t 36) (.k (.c (.s (.pv (.int .i64 2)))))), none, [1]⟩,
    ⟨(some 38), 38, (.mv (.t 37)), none, [2]⟩,
    ⟨(some 39), 39, (.mv (.t 8)), (some (38, false)), [3]⟩,
    ⟨(some 40), 40, (.len (.t 39)), (some (38, false)), [4, 3]⟩,
    ⟨(some 41), 41, (.bin false .neq (.t 40) (.k (.c (.s (.pv (.int .i64 2)))))), (some (38, false)), [5, 3]⟩,
    ⟨(some 42), 42, (.pick (.t 38) (.k (.c (.s (.pv (.bool true))))) (.t 41)), none, [3, 6]⟩])
  (.cond (.t 42) (.seq (.reg [⟨(some 4), 4, (.mv (.k (.c (.s (.pv (.bool false)))))), none, []⟩])
  .ret) .skip))
  (.seq (.seq (.reg [⟨(some 43), 43, (.mv (.t 6)), none, []⟩,
    ⟨(some 44), 44, (.idx 4 (.t 43) (.k (.c (.s (.pv (.int .i64 0)))))), none, [0]⟩,
    ⟨(some 45), 45, (.fld 0 (.t 44)), none, [1]⟩,
    ⟨(some 46), 46, (.load false 1 (.t 45)), none, [2]⟩,
    ⟨(some 47), 47, (.bin false .eql (.t 46) (.k (.c (.s (.pv (.int .i64 0)))))), none, [3]⟩])
  (.cond (.t 47) (.seq (.draw [⟨(some 48), 48, (.mv (.t 6)), none, []⟩,
    ⟨(some 49), 49, (.idx 4 (.t 48) (.k (.c (.s (.pv (.int .i64 1)))))), none, [0]⟩,
    ⟨(some 50), 50, (.fld 0 (.t 49)), none, [1]⟩,
    ⟨(some 51), 51, (.load false 1 (.t 50)), none, [2]⟩,
    ⟨(some 52), 52, (.bin false .eql (.t 51) (.k (.c (.s (.pv (.int .i64 0)))))), none, [3]⟩,
    ⟨(some 53), 53, (.mv (.t 52)), none, [4]⟩,
    ⟨(some 54), 54, (.fld 0 (.t 5)), (some (53, true)), [5]⟩,
    ⟨(some 55), 55, (.load false 1 (.t 54)), (some (53, true)), [6, 5]⟩,
    ⟨(some 56), 56, (.fld 0 (.t 2)), (some (53, true)), [5]⟩,
    ⟨(some 57), 57, (.load false 1 (.t 56)), (some (53, true)), [8, 5]⟩,
    ⟨(some 58), 58, (.call 17 [(.t 55), (.t 57)]), (some (53, true)), [7, 9, 5, 5]⟩,
    ⟨(some 59), 59, (.pick (.t 53) (.t 58) (.k (.c (.s (.pv (.bool false)))))), none, [5, 10]⟩,
    ⟨(some 60), 60, (.mv (.t 59)), none, [11, 10]⟩,
    ⟨(some 61), 61, (.mv (.t 8)), (some (60, true)), [12]⟩,
    ⟨(some 62), 62, (.idx 4 (.t 61) (.k (.c (.s (.pv (.int .i64 0)))))), (some (60, true)), [13, 12]⟩,
    ⟨(some 63), 63, (.fld 0 (.t 62)), (some (60, true)), [14, 12]⟩,
    ⟨(some 64), 64, (.load false 1 (.t 63)), (some (60, true)), [15, 12]⟩,
    ⟨(some 65), 65, (.bin false .eql (.t 64) (.k (.c (.s (.pv (.int .i64 3)))))), (some (60, true)), [16, 12]⟩,
    ⟨(some 66), 66, (.pick (.t 60) (.t 65) (.k (.c (.s (.pv (.bool false)))))), none, [12, 17]⟩,
    ⟨(some 67), 67, (.mv (.t 66)), none, [18, 12]⟩,
    ⟨(some 68), 68, (.mv (.t 8)), (some (67, true)), [19]⟩,
    ⟨(some 69), 69, (.idx 4 (.t 68) (.k (.c (.s (.pv (.int .i64 1)))))), (some (67, true)), [20, 19]⟩,
    ⟨(some 70), 70, (.load true 4 (.t 69)), (some (67, true)), [21, 19]⟩,
    ⟨(some 71), 71, (.mv (.t 6)), (some (67, true)), [19]⟩,
    ⟨(some 72), 72, (.idx 4 (.t 71) (.k (.c (.s (.pv (.int .i64 0)))))), (some (67, true)), [23, 19]⟩,
    ⟨(some 73), 73, (.load true 4 (.t 72)), (some (67, true)), [24, 19]⟩,
    ⟨(some 74), 74, (.eqs false 33 (.t 70) (.t 73)), (some (67, true)), [22, 25, 19]⟩,
    ⟨(some 75), 75, (.pick (.t 67) (.t 74) (.k (.c (.s (.pv (.bool false)))))), none, [19, 26]⟩,
    ⟨(some 76), 76, (.mv (.t 75)), none, [27, 19]⟩,
    ⟨(some 77), 77, (.call 11 []), (some (76, true)), [28, 28]⟩,
    ⟨(some 78), 78, (.pick (.t 76) (.t 77) (.k (.c (.s (.pv (.bool false)))))), none, [28, 29]⟩,
    ⟨(some 4), 4, (.mv (.t 78)), none, [30, 29, 0, 1, 2, 3, 4, 5, 6, 7, 8, 9, 10, 11, 12, 13, 14, 15, 16, 17, 18, 19, 20, 21, 22, 23, 24, 25, 26, 27, 28, 29, 30]⟩])
  .ret) .skip))
  (.seq (.seq (.reg [⟨(some 79), 79, (.mv (.t 8)), none, []⟩,
    ⟨(some 80), 80, (.idx 4 (.t 79) (.k (.c (.s (.pv (.int .i64 0)))))), none, [0]⟩,
    ⟨(some 81), 81, (.fld 0 (.t 80)), none, [1]⟩,
    ⟨(some 82), 82, (.load false 1 (.t 81)), none, [2]⟩,
    ⟨(some 83), 83, (.bin false .eql (.t 82) (.k (.c (.s (.pv (.int .i64 0)))))), none, [3]⟩])
  (.cond (.t 83) (.seq (.reg [⟨(some 85), 85, (.load true 1 (.t 7)), none, []⟩,
    ⟨(some 86), 86, (.mv (.t 1)), none, []⟩,
    ⟨(some 87), 87, (.call 15 [(.t 85), (.t 86)]), none, [0, 1]⟩,
    ⟨(some 84), 84, (.mv (.t 87)), none, [2]⟩,
    ⟨(some 88), 88, (.ext 0 (.t 84)), none, [3]⟩,
    ⟨(some 89), 89, (.ext 1 (.t 84)), none, [3]⟩,
    ⟨(some 9), 9, (.mk 31 3 [[(.s (.pv (.int .i64 0))), (.s (.pv (.int .i64 0))), (.s (.pv (.string ⟨#[]⟩)))]]), none, []⟩,
    ⟨none, 160, (.store 3 (.t 9) (.t 88)), none, [6, 4, 2, 0, 1, 2, 3, 4, 6]⟩,
    ⟨(some 10), 10, (.mv (.t 89)), none, [5, 7, 0, 1, 2, 3, 4, 5, 6, 7]⟩])
  (.seq (.draw [⟨(some 90), 90, (.mv (.t 6)), none, []⟩,
    ⟨(some 91), 91, (.idx 4 (.t 90) (.k (.c (.s (.pv (.int .i64 0)))))), none, [0]⟩,
    ⟨(some 92), 92, (.fld 0 (.t 91)), none, [1]⟩,
    ⟨(some 93), 93, (.load false 1 (.t 92)), none, [2]⟩,
    ⟨(some 94), 94, (.bin false .eql (.t 93) (.k (.c (.s (.pv (.int .i64 4)))))), none, [3]⟩,
    ⟨(some 95), 95, (.mv (.t 94)), none, [4]⟩,
    ⟨(some 96), 96, (.mv (.t 8)), (some (95, true)), [5]⟩,
    ⟨(some 97), 97, (.idx 4 (.t 96) (.k (.c (.s (.pv (.int .i64 1)))))), (some (95, true)), [6, 5]⟩,
    ⟨(some 98), 98, (.fld 1 (.t 97)), (some (95, true)), [7, 5]⟩,
    ⟨(some 99), 99, (.load true 3 (.t 98)), (some (95, true)), [8, 5]⟩,
    ⟨(some 100), 100, (.load true 3 (.t 9)), (some (95, true)), [5]⟩,
    ⟨(some 101), 101, (.eqs false 31 (.t 99) (.t 100)), (some (95, true)), [9, 10, 5]⟩,
    ⟨(some 102), 102, (.pick (.t 95) (.t 101) (.k (.c (.s (.pv (.bool false)))))), none, [5, 11]⟩,
    ⟨(some 103), 103, (.mv (.t 102)), none, [12, 5]⟩,
    ⟨(some 104), 104, (.mv (.t 10)), (some (103, true)), [13]⟩,
    ⟨(some 105), 105, (.pick (.t 103) (.t 104) (.k (.c (.s (.pv (.bool false)))))), none, [13, 14]⟩,
    ⟨(some 106), 106, (.mv (.t 105)), none, [15, 13]⟩,
    ⟨(some 107), 107, (.load true 3 (.t 9)), (some (106, true)), [16]⟩,
    ⟨(some 108), 108, (.mv (.t 1)), (some (106, true)), [16]⟩,
    ⟨(some 109), 109, (.build [(.s (.pv (.int .i64 0))), (.s (.pv (.int .i64 0))), (.s (.pv (.string ⟨#[]⟩)))] [(0, 1, (.t 108)), (1, 1, (.k (.c (.s (.pv (.int .i64 1))))))]), (some (106, true)), [18, 16]⟩,
    ⟨(some 110), 110, (.eqs false 31 (.t 107) (.t 109)), (some (106, true)), [17, 19, 16]⟩,
    ⟨(some 111), 111, (.pick (.t 106) (.t 110) (.k (.c (.s (.pv (.bool false)))))), none, [16, 20]⟩,
    ⟨(some 112), 112, (.mv (.t 111)), none, [21, 16]⟩,
    ⟨(some 113), 113, (.fld 0 (.t 7)), (some (112, true)), [22]⟩,
    ⟨(some 114), 114, (.load false 1 (.t 113)), (some (112, true)), [23, 22]⟩,
    ⟨(some 115), 115, (.len (.t 114)), (some (112, true)), [24, 22]⟩,
    ⟨(some 116), 116, (.fld 0 (.t 2)), (some (112, true)), [22]⟩,
    ⟨(some 117), 117, (.load false 1 (.t 116)), (some (112, true)), [26, 22]⟩,
    ⟨(some 118), 118, (.len (.t 117)), (some (112, true)), [27, 22]⟩,
    ⟨(some 119), 119, (.bin false .eql (.t 115) (.t 118)), (some (112, true)), [25, 28, 22]⟩,
    ⟨(some 120), 120, (.pick (.t 112) (.t 119) (.k (.c (.s (.pv (.bool false)))))), none, [22, 29]⟩,
    ⟨(some 121), 121, (.mv (.t 120)), none, [30, 22]⟩,
    ⟨(some 122), 122, (.call 11 []), (some (121, true)), [31, 31]⟩,
    ⟨(some 123), 123, (.pick (.t 121) (.t 122) (.k (.c (.s (.pv (.bool false)))))), none, [31, 32]⟩,
    ⟨(some 4), 4, (.mv (.t 123)), none, [33, 32, 0, 1, 2, 3, 4, 5, 6, 7, 8, 9, 10, 11, 12, 13, 14, 15, 16, 17, 18, 19, 20, 21, 22, 23, 24, 25, 26, 27, 28, 29, 30, 31, 32, 33]⟩])
  .ret)) .skip))
  (.seq (.reg [⟨(some 124), 124, (.mv (.t 6)), none, []⟩,
    ⟨(some 125), 125, (.idx 4 (.t 124) (.k (.c (.s (.pv (.int .i64 0)))))), none, [0]⟩,
    ⟨(some 126), 126, (.fld 0 (.t 125)), none, [1]⟩,
    ⟨(some 127), 127, (.load false 1 (.t 126)), none, [2]⟩,
    ⟨(some 128), 128, (.bin false .eql (.t 127) (.k (.c (.s (.pv (.int .i64 1)))))), none, [3]⟩,
    ⟨(some 129), 129, (.mv (.t 128)), none, [4]⟩,
    ⟨(some 130), 130, (.mv (.t 6)), (some (129, true)), [5]⟩,
    ⟨(some 131), 131, (.idx 4 (.t 130) (.k (.c (.s (.pv (.int .i64 1)))))), (some (129, true)), [6, 5]⟩,
    ⟨(some 132), 132, (.fld 0 (.t 131)), (some (129, true)), [7, 5]⟩,
    ⟨(some 133), 133, (.load false 1 (.t 132)), (some (129, true)), [8, 5]⟩,
    ⟨(some 134), 134, (.bin false .eql (.t 133) (.k (.c (.s (.pv (.int .i64 1)))))), (some (129, true)), [9, 5]⟩,
    ⟨(some 135), 135, (.pick (.t 129) (.t 134) (.k (.c (.s (.pv (.bool false)))))), none, [5, 10]⟩,
    ⟨(some 136), 136, (.mv (.t 135)), none, [11, 5]⟩,
    ⟨(some 137), 137, (.mv (.t 8)), (some (136, true)), [12]⟩,
    ⟨(some 138), 138, (.idx 4 (.t 137) (.k (.c (.s (.pv (.int .i64 1)))))), (some (136, true)), [13, 12]⟩,
    ⟨(some 139), 139, (.fld 0 (.t 138)), (some (136, true)), [14, 12]⟩,
    ⟨(some 140), 140, (.load false 1 (.t 139)), (some (136, true)), [15, 12]⟩,
    ⟨(some 141), 141, (.bin false .eql (.t 140) (.k (.c (.s (.pv (.int .i64 1)))))), (some (136, true)), [16, 12]⟩,
    ⟨(some 142), 142, (.pick (.t 136) (.t 141) (.k (.c (.s (.pv (.bool false)))))), none, [12, 17]⟩,
    ⟨(some 143), 143, (.mv (.t 142)), none, [18, 12]⟩,
    ⟨(some 144), 144, (.fld 0 (.t 5)), (some (143, true)), [19]⟩,
    ⟨(some 145), 145, (.load false 1 (.t 144)), (some (143, true)), [20, 19]⟩,
    ⟨(some 146), 146, (.fld 0 (.t 2)), (some (143, true)), [19]⟩,
    ⟨(some 147), 147, (.load false 1 (.t 146)), (some (143, true)), [22, 19]⟩,
    ⟨(some 148), 148, (.call 17 [(.t 145), (.t 147)]), (some (143, true)), [21, 23, 19, 19]⟩,
    ⟨(some 149), 149, (.pick (.t 143) (.t 148) (.k (.c (.s (.pv (.bool false)))))), none, [19, 24]⟩,
    ⟨(some 150), 150, (.mv (.t 149)), none, [25, 24]⟩,
    ⟨(some 151), 151, (.call 11 []), (some (150, true)), [26, 26]⟩,
    ⟨(some 152), 152, (.pick (.t 150) (.t 151) (.k (.c (.s (.pv (.bool false)))))), none, [26, 27]⟩,
    ⟨(some 4), 4, (.mv (.t 152)), none, [28, 27, 0, 1, 2, 3, 4, 5, 6, 7, 8, 9, 10, 11, 12, 13, 14, 15, 16, 17, 18, 19, 20, 21, 22, 23, 24, 25, 26, 27, 28]⟩])
  .ret))))))))
theorem fn7 : FnIs Try.prog 7 ac7 [(.t 4)] 153 := ⟨Try.f7, Try.func7, by kernel_rfl, by kernel_rfl, by kernel_rfl⟩
/- lockkeeper/lockkeeperlaw18.OpsReads -/
def ac8 : ACode := (.seq (.reg [⟨(some 2), 2, (.box 24 1 (.t 0)), none, []⟩,
    ⟨(some 4), 4, (.mv (.k (.c (.s (.pv (.bool false)))))), none, []⟩])
  (.seq (.seq (.reg [⟨(some 11), 11, (.load true 1 (.t 2)), none, []⟩,
    ⟨(some 12), 12, (.call 10 [(.t 11)]), none, [0]⟩,
    ⟨(some 13), 13, (.not (.t 12)), none, [1]⟩,
    ⟨(some 14), 14, (.mv (.t 13)), none, [2, 1]⟩,
    ⟨(some 15), 15, (.mv (.t 1)), (some (14, false)), [3]⟩,
    ⟨(some 16), 16, (.len (.t 15)), (some (14, false)), [4, 3]⟩,
    ⟨(some 17), 17, (.bin false .gtr (.t 16) (.k (.c (.s (.pv (.int .i64 40)))))), (some (14, false)), [5, 3]⟩,
    ⟨(some 18), 18, (.pick (.t 14) (.k (.c (.s (.pv (.bool true))))) (.t 17)), none, [3, 6]⟩])
  (.cond (.t 18) (.seq (.reg [⟨(some 19), 19, (.call 11 []), none, []⟩,
    ⟨(some 4), 4, (.mv (.t 19)), none, [0, 0, 0]⟩])
  .ret) .skip))
  (.seq (.seq (.reg [⟨(some 20), 20, (.mv (.t 1)), none, []⟩,
    ⟨(some 21), 21, (.len (.t 20)), none, [0]⟩,
    ⟨(some 22), 22, (.mv (.k (.c (.s (.pv (.int .i64 0)))))), none, []⟩])
  (.block 0 (.loop (.seq (.reg [⟨(some 23), 23, (.bin false .lss (.t 22) (.t 21)), none, []⟩])
  (.seq (.cond (.t 23) .skip (.exit 0))
  (.seq (.block 1 (.seq (.reg [⟨(some 24), 24, (.idx 1 (.t 20) (.t 22)), none, []⟩,
    ⟨(some 25), 25, (.load false 1 (.t 24)), none, [0]⟩,
    ⟨(some 6), 6, (.mv (.t 25)), none, [1, 0, 1]⟩])
  (.seq (.reg [⟨(some 27), 27, (.load true 1 (.t 2)), none, []⟩,
    ⟨(some 28), 28, (.mv (.t 6)), none, []⟩,
    ⟨(some 29), 29, (.build [(.s (.pv (.int .i64 0))), (.s (.pv (.int .i64 0))), (.s (.pv (.string ⟨#[]⟩)))] [(0, 1, (.k (.c (.s (.pv (.int .i64 2)))))), (1, 1, (.t 28))]), none, [1]⟩,
    ⟨(some 30), 30, (.call 12 [(.t 27), (.t 29)]), none, [0, 2]⟩,
    ⟨(some 26), 26, (.mv (.t 30)), none, [3]⟩,
    ⟨(some 31), 31, (.ext 0 (.t 26)), none, [4]⟩,
    ⟨(some 32), 32, (.ext 1 (.t 26)), none, [4]⟩,
    ⟨(some 7), 7, (.mk 24 1 [[.zc]]), none, []⟩,
    ⟨(some 8), 8, (.mk 33 4 [[(.s (.pv (.int .i64 0))), (.s (.pv (.int .i64 0))), (.s (.pv (.int .i64 0))), (.s (.pv (.string ⟨#[]⟩)))]]), none, []⟩,
    ⟨none, 69, (.store 1 (.t 7) (.t 31)), none, [7, 5, 3, 0, 1, 2, 3, 4, 5, 7, 8]⟩,
    ⟨none, 70, (.store 4 (.t 8) (.t 32)), none, [8, 6, 9, 0, 1, 2, 3, 4, 5, 6, 7, 8, 9]⟩])
  (.seq (.reg [⟨(some 34), 34, (.load true 1 (.t 2)), none, []⟩,
    ⟨(some 35), 35, (.mv (.t 6)), none, []⟩,
    ⟨(some 36), 36, (.call 15 [(.t 34), (.t 35)]), none, [0, 1]⟩,
    ⟨(some 33), 33, (.mv (.t 36)), none, [2]⟩,
    ⟨(some 37), 37, (.ext 0 (.t 33)), none, [3]⟩,
    ⟨(some 38), 38, (.ext 1 (.t 33)), none, [3]⟩,
    ⟨(some 9), 9, (.mk 31 3 [[(.s (.pv (.int .i64 0))), (.s (.pv (.int .i64 0))), (.s (.pv (.string ⟨#[]⟩)))]]), none, []⟩,
    ⟨none, 67, (.store 3 (.t 9) (.t 37)), none, [6, 4, 2, 0, 1, 2, 3, 4, 6]⟩,
    ⟨(some 10), 10, (.mv (.t 38)), none, [5, 7, 0, 1, 2, 3, 4, 5, 6, 7]⟩])
  (.seq (.reg [⟨(some 39), 39, (.fld 0 (.t 7)), none, []⟩,
    ⟨(some 40), 40, (.load false 1 (.t 39)), none, [0]⟩,
    ⟨(some 41), 41, (.fld 0 (.t 2)), none, []⟩,
    ⟨(some 42), 42, (.load false 1 (.t 41)), none, [2]⟩,
    ⟨(some 43), 43, (.call 17 [(.t 40), (.t 42)]), none, [1, 3]⟩,
    ⟨(some 44), 44, (.not (.t 43)), none, [4]⟩,
    ⟨(some 45), 45, (.mv (.t 44)), none, [5, 4]⟩,
    ⟨(some 46), 46, (.fld 1 (.t 8)), (some (45, false)), [6]⟩,
    ⟨(some 47), 47, (.load true 3 (.t 46)), (some (45, false)), [7, 6]⟩,
    ⟨(some 48), 48, (.load true 3 (.t 9)), (some (45, false)), [6]⟩,
    ⟨(some 49), 49, (.eqs true 31 (.t 47) (.t 48)), (some (45, false)), [8, 9, 6]⟩,
    ⟨(some 50), 50, (.pick (.t 45) (.k (.c (.s (.pv (.bool true))))) (.t 49)), none, [6, 10]⟩,
    ⟨(some 51), 51, (.mv (.t 50)), none, [11, 6]⟩,
    ⟨(some 52), 52, (.fld 0 (.t 8)), (some (51, false)), [12]⟩,
    ⟨(some 53), 53, (.load false 1 (.t 52)), (some (51, false)), [13, 12]⟩,
    ⟨(some 54), 54, (.bin false .eql (.t 53) (.k (.c (.s (.pv (.int .i64 0)))))), (some (51, false)), [14, 12]⟩,
    ⟨(some 55), 55, (.mv (.t 10)), (some (51, false)), [12]⟩,
    ⟨(some 56), 56, (.bin true .neq (.t 54) (.t 55)), (some (51, false)), [15, 16, 12]⟩,
    ⟨(some 57), 57, (.pick (.t 51) (.k (.c (.s (.pv (.bool true))))) (.t 56)), none, [12, 17]⟩])
  (.cond (.t 57) (.seq (.reg [⟨(some 4), 4, (.mv (.k (.c (.s (.pv (.bool false)))))), none, []⟩])
  .ret) .skip))))))
  (.reg [⟨(some 58), 58, (.bin false .add (.t 22) (.k (.c (.s (.pv (.int .i64 1)))))), none, []⟩,
    ⟨(some 22), 22, (.mv (.t 58)), none, [0]⟩])))))))
  (.seq (.reg [⟨(some 59), 59, (.call 11 []), none, []⟩,
    ⟨(some 4), 4, (.mv (.t 59)), none, [0, 0, 0]⟩])
  .ret))))
theorem fn8 : FnIs Try.prog 8 ac8 [(.t 4)] 60 := ⟨Try.f8, Try.func8, by kernel_rfl, by kernel_rfl, by kernel_rfl⟩
/- lockkeeper/lockkeeperlaw18.OpsPages -/
def ac9 : ACode := (.seq (.reg [⟨(some 1), 1, (.box 24 1 (.t 0)), none, []⟩,
    ⟨(some 2), 2, (.mv (.k (.c (.s (.pv (.bool false)))))), none, []⟩])
  (.seq (.seq (.reg [⟨(some 10), 10, (.load true 1 (.t 1)), none, []⟩,
    ⟨(some 11), 11, (.call 10 [(.t 10)]), none, [0]⟩,
    ⟨(some 12), 12, (.not (.t 11)), none, [1]⟩,
    ⟨(some 13), 13, (.mv (.t 12)), none, [2, 1]⟩,
    ⟨(some 14), 14, (.fld 0 (.t 1)), (some (13, false)), [3]⟩,
    ⟨(some 15), 15, (.load false 1 (.t 14)), (some (13, false)), [4, 3]⟩,
    ⟨(some 16), 16, (.call 14 [(.t 15)]), (some (13, false)), [5, 3, 3]⟩,
    ⟨(some 17), 17, (.not (.t 16)), (some (13, false)), [6, 3]⟩,
    ⟨(some 18), 18, (.pick (.t 13) (.k (.c (.s (.pv (.bool true))))) (.t 17)), none, [3, 7]⟩])
  (.cond (.t 18) (.seq (.reg [⟨(some 19), 19, (.call 11 []), none, []⟩,
    ⟨(some 2), 2, (.mv (.t 19)), none, [0, 0, 0]⟩])
  .ret) .skip))
  (.seq (.reg [⟨(some 3), 3, (.mv (.k (.c .zc))), none, []⟩])
  (.seq (.seq (.reg [⟨(some 20), 20, (.fld 0 (.t 1)), none, []⟩,
    ⟨(some 21), 21, (.load false 1 (.t 20)), none, [0]⟩,
    ⟨(some 22), 22, (.len (.t 21)), none, [1]⟩,
    ⟨(some 23), 23, (.mv (.k (.c (.s (.pv (.int .i64 0)))))), none, []⟩])
  (.block 0 (.loop (.seq (.reg [⟨(some 24), 24, (.bin false .lss (.t 23) (.t 22)), none, []⟩])
  (.seq (.cond (.t 24) .skip (.exit 0))
  (.seq (.block 1 (.seq (.reg [⟨(some 25), 25, (.idx 3 (.t 21) (.t 23)), none, []⟩,
    ⟨(some 26), 26, (.load true 3 (.t 25)), none, [0]⟩,
    ⟨(some 5), 5, (.mk 31 3 [[(.s (.pv (.int .i64 0))), (.s (.pv (.int .i64 0))), (.s (.pv (.string ⟨#[]⟩)))]]), none, []⟩,
    ⟨none, 100, (.store 3 (.t 5) (.t 26)), none, [2, 1, 0, 1, 2]⟩])
  (.seq (.seq (.reg [⟨(some 27), 27, (.fld 1 (.t 5)), none, []⟩,
    ⟨(some 28), 28, (.load false 1 (.t 27)), none, [0]⟩,
    ⟨(some 29), 29, (.bin false .gtr (.t 28) (.k (.c (.s (.pv (.int .i64 50)))))), none, [1]⟩,
    ⟨(some 30), 30, (.mv (.t 29)), none, [2]⟩,
    ⟨(some 31), 31, (.fld 1 (.t 5)), (some (30, false)), [3]⟩,
    ⟨(some 32), 32, (.load false 1 (.t 31)), (some (30, false)), [4, 3]⟩,
    ⟨(some 33), 33, (.bin false .eql (.t 32) (.k (.c (.s (.pv (.int .i64 1)))))), (some (30, false)), [5, 3]⟩,
    ⟨(some 34), 34, (.mv (.t 33)), (some (30, false)), [6, 3, 3]⟩,
    ⟨(some 35), 35, (.fld 2 (.t 5)), (some (34, true)), [7]⟩,
    ⟨(some 36), 36, (.load false 1 (.t 35)), (some (34, true)), [8, 7]⟩,
    ⟨(some 37), 37, (.bin false .neq (.t 36) (.k (.c (.s (.pv (.string ⟨#[]⟩)))))), (some (34, true)), [9, 7]⟩,
    ⟨(some 38), 38, (.pick (.t 34) (.t 37) (.k (.c (.s (.pv (.bool false)))))), (some (30, false)), [7, 10, 3]⟩,
    ⟨(some 39), 39, (.pick (.t 30) (.k (.c (.s (.pv (.bool true))))) (.t 38)), none, [3, 11]⟩])
  (.cond (.t 39) (.seq (.reg [⟨(some 40), 40, (.call 11 []), none, []⟩,
    ⟨(some 2), 2, (.mv (.t 40)), none, [0, 0, 0]⟩])
  .ret) .skip))
  (.seq (.reg [⟨(some 41), 41, (.mv (.t 3)), none, []⟩,
    ⟨(some 42), 42, (.fld 0 (.t 5)), none, []⟩,
    ⟨(some 43), 43, (.load false 1 (.t 42)), none, [1]⟩,
    ⟨(some 44), 44, (.build [(.s (.pv (.int .i64 0))), (.s (.pv (.int .i64 0))), (.s (.pv (.string ⟨#[]⟩)))] [(0, 1, (.k (.c (.s (.pv (.int .i64 1)))))), (1, 1, (.t 43))]), none, [2]⟩,
    ⟨(some 45), 45, (.bslice 26 3 [(.s (.pv (.int .i64 0))), (.s (.pv (.int .i64 0))), (.s (.pv (.string ⟨#[]⟩)))] 1 [(0, 3, (.t 44))]), none, [3]⟩,
    ⟨(some 46), 46, (.app 26 3 32 (.t 41) (.t 45)), none, [0, 4]⟩,
    ⟨(some 3), 3, (.mv (.t 46)), none, [5, 5, 0, 1, 2, 3, 4, 5]⟩])
  (.seq (.reg [⟨(some 47), 47, (.fld 1 (.t 5)), none, []⟩,
    ⟨(some 48), 48, (.load false 1 (.t 47)), none, [0]⟩,
    ⟨(some 49), 49, (.bin false .sub (.t 48) (.k (.c (.s (.pv (.int .i64 1)))))), none, [1]⟩,
    ⟨(some 50), 50, (.mv (.k (.c (.s (.pv (.int .i64 0)))))), none, []⟩])
  (.block 2 (.loop (.seq (.reg [⟨(some 51), 51, (.bin false .lss (.t 50) (.t 49)), none, []⟩])
  (.seq (.cond (.t 51) .skip (.exit 2))
  (.seq (.block 3 (.reg [⟨(some 52), 52, (.mv (.t 3)), none, []⟩,
    ⟨(some 53), 53, (.fld 0 (.t 5)), none, []⟩,
    ⟨(some 54), 54, (.load false 1 (.t 53)), none, [1]⟩,
    ⟨(some 55), 55, (.fld 2 (.t 5)), none, []⟩,
    ⟨(some 56), 56, (.load false 1 (.t 55)), none, [3]⟩,
    ⟨(some 57), 57, (.build [(.s (.pv (.int .i64 0))), (.s (.pv (.int .i64 0))), (.s (.pv (.string ⟨#[]⟩)))] [(0, 1, (.k (.c (.s (.pv (.int .i64 3)))))), (1, 1, (.t 54)), (2, 1, (.t 56))]), none, [2, 4]⟩,
    ⟨(some 58), 58, (.bslice 26 3 [(.s (.pv (.int .i64 0))), (.s (.pv (.int .i64 0))), (.s (.pv (.string ⟨#[]⟩)))] 1 [(0, 3, (.t 57))]), none, [5]⟩,
    ⟨(some 59), 59, (.app 26 3 32 (.t 52) (.t 58)), none, [0, 6]⟩,
    ⟨(some 3), 3, (.mv (.t 59)), none, [7, 7, 0, 1, 2, 3, 4, 5, 6, 7]⟩]))
  (.reg [⟨(some 60), 60, (.bin false .add (.t 50) (.k (.c (.s (.pv (.int .i64 1)))))), none, []⟩,
    ⟨(some 50), 50, (.mv (.t 60)), none, [0]⟩])))))))))))
  (.reg [⟨(some 61), 61, (.bin false .add (.t 23) (.k (.c (.s (.pv (.int .i64 1)))))), none, []⟩,
    ⟨(some 23), 23, (.mv (.t 61)), none, [0]⟩])))))))
  (.seq (.reg [⟨(some 63), 63, (.build [.zc] []), none, []⟩,
    ⟨(some 64), 64, (.mv (.t 3)), none, []⟩,
    ⟨(some 65), 65, (.call 18 [(.t 63), (.t 64)]), none, [0, 1]⟩,
    ⟨(some 62), 62, (.mv (.t 65)), none, [2]⟩,
    ⟨(some 66), 66, (.ext 0 (.t 62)), none, [3]⟩,
    ⟨(some 67), 67, (.ext 1 (.t 62)), none, [3]⟩,
    ⟨(some 6), 6, (.mk 24 1 [[.zc]]), none, []⟩,
    ⟨none, 104, (.store 1 (.t 6) (.t 66)), none, [6, 4, 2, 0, 1, 2, 3, 4, 6]⟩,
    ⟨(some 7), 7, (.mv (.t 67)), none, [5, 7, 0, 1, 2, 3, 4, 5, 6, 7]⟩])
  (.seq (.seq (.reg [⟨(some 68), 68, (.mv (.t 7)), none, []⟩,
    ⟨(some 69), 69, (.len (.t 68)), none, [0]⟩,
    ⟨(some 70), 70, (.mv (.k (.c (.s (.pv (.int .i64 0)))))), none, []⟩])
  (.block 4 (.loop (.seq (.reg [⟨(some 71), 71, (.bin false .lss (.t 70) (.t 69)), none, []⟩])
  (.seq (.cond (.t 71) .skip (.exit 4))
  (.seq (.block 5 (.seq (.reg [⟨(some 72), 72, (.idx 4 (.t 68) (.t 70)), none, []⟩,
    ⟨(some 73), 73, (.load true 4 (.t 72)), none, [0]⟩,
    ⟨(some 9), 9, (.mk 33 4 [[(.s (.pv (.int .i64 0))), (.s (.pv (.int .i64 0))), (.s (.pv (.int .i64 0))), (.s (.pv (.string ⟨#[]⟩)))]]), none, []⟩,
    ⟨none, 100, (.store 4 (.t 9) (.t 73)), none, [2, 1, 0, 1, 2]⟩])
  (.seq (.reg [⟨(some 74), 74, (.fld 0 (.t 9)), none, []⟩,
    ⟨(some 75), 75, (.load false 1 (.t 74)), none, [0]⟩,
    ⟨(some 76), 76, (.bin false .neq (.t 75) (.k (.c (.s (.pv (.int .i64 0)))))), none, [1]⟩])
  (.cond (.t 76) (.seq (.reg [⟨(some 2), 2, (.mv (.k (.c (.s (.pv (.bool false)))))), none, []⟩])
  .ret) .skip))))
  (.reg [⟨(some 77), 77, (.bin false .add (.t 70) (.k (.c (.s (.pv (.int .i64 1)))))), none, []⟩,
    ⟨(some 70), 70, (.mv (.t 77)), none, [0]⟩])))))))
  (.seq (.reg [⟨(some 78), 78, (.mv (.t 7)), none, []⟩,
    ⟨(some 79), 79, (.len (.t 78)), none, [0]⟩,
    ⟨(some 80), 80, (.mv (.t 3)), none, []⟩,
    ⟨(some 81), 81, (.len (.t 80)), none, [2]⟩,
    ⟨(some 82), 82, (.bin false .eql (.t 79) (.t 81)), none, [1, 3]⟩,
    ⟨(some 83), 83, (.mv (.t 82)), none, [4]⟩,
    ⟨(some 84), 84, (.fld 0 (.t 6)), (some (83, true)), [5]⟩,
    ⟨(some 85), 85, (.load false 1 (.t 84)), (some (83, true)), [6, 5]⟩,
    ⟨(some 86), 86, (.fld 0 (.t 1)), (some (83, true)), [5]⟩,
    ⟨(some 87), 87, (.load false 1 (.t 86)), (some (83, true)), [8, 5]⟩,
    ⟨(some 88), 88, (.call 17 [(.t 85), (.t 87)]), (some (83, true)), [7, 9, 5, 5]⟩,
    ⟨(some 89), 89, (.pick (.t 83) (.t 88) (.k (.c (.s (.pv (.bool false)))))), none, [5, 10]⟩,
    ⟨(some 90), 90, (.mv (.t 89)), none, [11, 10]⟩,
    ⟨(some 91), 91, (.load true 1 (.t 6)), (some (90, true)), [12]⟩,
    ⟨(some 92), 92, (.call 16 [(.t 91)]), (some (90, true)), [13, 12, 12]⟩,
    ⟨(some 93), 93, (.pick (.t 90) (.t 92) (.k (.c (.s (.pv (.bool false)))))), none, [12, 14]⟩,
    ⟨(some 94), 94, (.mv (.t 93)), none, [15, 14]⟩,
    ⟨(some 95), 95, (.call 11 []), (some (94, true)), [16, 16]⟩,
    ⟨(some 96), 96, (.pick (.t 94) (.t 95) (.k (.c (.s (.pv (.bool false)))))), none, [16, 17]⟩,
    ⟨(some 2), 2, (.mv (.t 96)), none, [18, 17, 0, 1, 2, 3, 4, 5, 6, 7, 8, 9, 10, 11, 12, 13, 14, 15, 16, 17, 18]⟩])
  .ret)))))))
theorem fn9 : FnIs Try.prog 9 ac9 [(.t 2)] 97 := ⟨Try.f9, Try.func9, by kernel_rfl, by kernel_rfl, by kernel_rfl⟩
/- lockkeeper/lockkeeperlaw18.small -/
def ac10 : ACode := (.seq (.reg [⟨(some 1), 1, (.box 24 1 (.t 0)), none, []⟩,
    ⟨(some 2), 2, (.mv (.k (.c (.s (.pv (.bool false)))))), none, []⟩])
  (.seq (.seq (.reg [⟨(some 5), 5, (.fld 0 (.t 1)), none, []⟩,
    ⟨(some 6), 6, (.load false 1 (.t 5)), none, [0]⟩,
    ⟨(some 7), 7, (.len (.t 6)), none, [1]⟩,
    ⟨(some 8), 8, (.mv (.k (.c (.s (.pv (.int .i64 0)))))), none, []⟩])
  (.block 0 (.loop (.seq (.reg [⟨(some 9), 9, (.bin false .lss (.t 8) (.t 7)), none, []⟩])
  (.seq (.cond (.t 9) .skip (.exit 0))
  (.seq (.block 1 (.seq (.reg [⟨(some 10), 10, (.mv (.t 8)), none, []⟩,
    ⟨(some 11), 11, (.idx 3 (.t 6) (.t 8)), none, []⟩,
    ⟨(some 12), 12, (.load true 3 (.t 11)), none, [1]⟩,
    ⟨(some 4), 4, (.mk 31 3 [[(.s (.pv (.int .i64 0))), (.s (.pv (.int .i64 0))), (.s (.pv (.string ⟨#[]⟩)))]]), none, []⟩,
    ⟨(some 3), 3, (.mv (.t 10)), none, [0, 0, 1, 2, 3]⟩,
    ⟨none, 31, (.store 3 (.t 4) (.t 12)), none, [3, 2, 4, 0, 1, 2, 3, 4]⟩])
  (.seq (.reg [⟨(some 13), 13, (.mv (.t 3)), none, []⟩,
    ⟨(some 14), 14, (.bin false .lss (.t 13) (.k (.c (.s (.pv (.int .i64 40)))))), none, [0]⟩,
    ⟨(some 15), 15, (.mv (.t 14)), none, [1]⟩,
    ⟨(some 16), 16, (.fld 2 (.t 4)), (some (15, true)), [2]⟩,
    ⟨(some 17), 17, (.load false 1 (.t 16)), (some (15, true)), [3, 2]⟩,
    ⟨(some 18), 18, (.slen (.t 17)), (some (15, true)), [4, 2]⟩,
    ⟨(some 19), 19, (.bin false .gtr (.t 18) (.k (.c (.s (.pv (.int .i64 100)))))), (some (15, true)), [5, 2]⟩,
    ⟨(some 20), 20, (.pick (.t 15) (.t 19) (.k (.c (.s (.pv (.bool false)))))), none, [2, 6]⟩])
  (.cond (.t 20) (.seq (.reg [⟨(some 2), 2, (.mv (.k (.c (.s (.pv (.bool false)))))), none, []⟩])
  .ret) .skip))))
  (.reg [⟨(some 21), 21, (.bin false .add (.t 8) (.k (.c (.s (.pv (.int .i64 1)))))), none, []⟩,
    ⟨(some 8), 8, (.mv (.t 21)), none, [0]⟩])))))))
  (.seq (.reg [⟨(some 22), 22, (.fld 0 (.t 1)), none, []⟩,
    ⟨(some 23), 23, (.load false 1 (.t 22)), none, [0]⟩,
    ⟨(some 24), 24, (.len (.t 23)), none, [1]⟩,
    ⟨(some 25), 25, (.bin false .leq (.t 24) (.k (.c (.s (.pv (.int .i64 40)))))), none, [2]⟩,
    ⟨(some 2), 2, (.mv (.t 25)), none, [3, 0, 1, 2, 3]⟩])
  .ret)))
theorem fn10 : FnIs Try.prog 10 ac10 [(.t 2)] 26 := ⟨Try.f10, Try.func10, by kernel_rfl, by kernel_rfl, by kernel_rfl⟩
/- lockkeeper/lockkeeperlaw18.awake -/
def ac11 : ACode := (.seq (.reg [⟨(some 0), 0, (.mv (.k (.c (.s (.pv (.bool false)))))), none, []⟩])
  (.seq (.reg [⟨(some 9), 9, (.build [.zc] []), none, []⟩,
    ⟨(some 10), 10, (.build [(.s (.pv (.int .i64 0))), (.s (.pv (.int .i64 0))), (.s (.pv (.string ⟨#[]⟩)))] [(0, 1, (.k (.c (.s (.pv (.int .i64 1)))))), (1, 1, (.k (.c (.s (.pv (.int .i64 2))))))]), none, []⟩,
    ⟨(some 11), 11, (.call 12 [(.t 9), (.t 10)]), none, [0, 1]⟩,
    ⟨(some 8), 8, (.mv (.t 11)), none, [2]⟩,
    ⟨(some 12), 12, (.ext 0 (.t 8)), none, [3]⟩,
    ⟨(some 13), 13, (.ext 1 (.t 8)), none, [3]⟩,
    ⟨(some 1), 1, (.mk 24 1 [[.zc]]), none, []⟩,
    ⟨(some 2), 2, (.mk 33 4 [[(.s (.pv (.int .i64 0))), (.s (.pv (.int .i64 0))), (.s (.pv (.int .i64 0))), (.s (.pv (.string ⟨#[]⟩)))]]), none, []⟩,
    ⟨none, 71, (.store 1 (.t 1) (.t 12)), none, [6, 4, 2, 0, 1, 2, 3, 4, 6, 7]⟩,
    ⟨none, 72, (.store 4 (.t 2) (.t 13)), none, [7, 5, 8, 0, 1, 2, 3, 4, 5, 6, 7, 8]⟩])
  (.seq (.reg [⟨(some 15), 15, (.load true 1 (.t 1)), none, []⟩,
    ⟨(some 16), 16, (.build [(.s (.pv (.int .i64 0))), (.s (.pv (.int .i64 0))), (.s (.pv (.string ⟨#[]⟩)))] [(0, 1, (.k (.c (.s (.pv (.int .i64 3)))))), (1, 1, (.k (.c (.s (.pv (.int .i64 2)))))), (2, 1, (.k (.c (.s (.pv (.string ⟨#[120]⟩))))))]), none, []⟩,
    ⟨(some 17), 17, (.call 12 [(.t 15), (.t 16)]), none, [0, 1]⟩,
    ⟨(some 14), 14, (.mv (.t 17)), none, [2]⟩,
    ⟨(some 18), 18, (.ext 0 (.t 14)), none, [3]⟩,
    ⟨(some 19), 19, (.ext 1 (.t 14)), none, [3]⟩,
    ⟨(some 3), 3, (.mk 33 4 [[(.s (.pv (.int .i64 0))), (.s (.pv (.int .i64 0))), (.s (.pv (.int .i64 0))), (.s (.pv (.string ⟨#[]⟩)))]]), none, []⟩,
    ⟨none, 70, (.store 1 (.t 1) (.t 18)), none, [4, 2, 0, 1, 2, 3, 4, 6]⟩,
    ⟨none, 71, (.store 4 (.t 3) (.t 19)), none, [6, 5, 7, 0, 1, 2, 3, 4, 5, 6, 7]⟩])
  (.seq (.reg [⟨(some 21), 21, (.load true 1 (.t 1)), none, []⟩,
    ⟨(some 22), 22, (.call 15 [(.t 21), (.k (.c (.s (.pv (.int .i64 2)))))]), none, [0]⟩,
    ⟨(some 20), 20, (.mv (.t 22)), none, [1]⟩,
    ⟨(some 23), 23, (.ext 0 (.t 20)), none, [2]⟩,
    ⟨(some 24), 24, (.ext 1 (.t 20)), none, [2]⟩,
    ⟨(some 4), 4, (.mk 31 3 [[(.s (.pv (.int .i64 0))), (.s (.pv (.int .i64 0))), (.s (.pv (.string ⟨#[]⟩)))]]), none, []⟩,
    ⟨none, 69, (.store 3 (.t 4) (.t 23)), none, [5, 3, 1, 0, 1, 2, 3, 5]⟩,
    ⟨(some 5), 5, (.mv (.t 24)), none, [4, 6, 0, 1, 2, 3, 4, 5, 6]⟩])
  (.seq (.reg [⟨(some 26), 26, (.load true 1 (.t 1)), none, []⟩,
    ⟨(some 27), 27, (.build [(.s (.pv (.int .i64 0))), (.s (.pv (.int .i64 0))), (.s (.pv (.string ⟨#[]⟩)))] [(0, 1, (.k (.c (.s (.pv (.int .i64 4)))))), (1, 1, (.k (.c (.s (.pv (.int .i64 2))))))]), none, []⟩,
    ⟨(some 28), 28, (.build [(.s (.pv (.int .i64 0))), (.s (.pv (.int .i64 0))), (.s (.pv (.string ⟨#[]⟩)))] [(0, 1, (.k (.c (.s (.pv (.int .i64 2)))))), (1, 1, (.k (.c (.s (.pv (.int .i64 2))))))]), none, []⟩,
    ⟨(some 29), 29, (.bslice 26 3 [(.s (.pv (.int .i64 0))), (.s (.pv (.int .i64 0))), (.s (.pv (.string ⟨#[]⟩)))] 2 [(0, 3, (.t 27)), (3, 3, (.t 28))]), none, [1, 2]⟩,
    ⟨(some 30), 30, (.call 18 [(.t 26), (.t 29)]), none, [0, 3]⟩,
    ⟨(some 25), 25, (.mv (.t 30)), none, [4]⟩,
    ⟨(some 31), 31, (.ext 0 (.t 25)), none, [5]⟩,
    ⟨(some 32), 32, (.ext 1 (.t 25)), none, [5]⟩,
    ⟨(some 6), 6, (.mk 24 1 [[.zc]]), none, []⟩,
    ⟨none, 72, (.store 1 (.t 6) (.t 31)), none, [8, 6, 4, 0, 1, 2, 3, 4, 5, 6, 8]⟩,
    ⟨(some 7), 7, (.mv (.t 32)), none, [7, 9, 0, 1, 2, 3, 4, 5, 6, 7, 8, 9]⟩])
  (.seq (.reg [⟨(some 33), 33, (.fld 0 (.t 2)), none, []⟩,
    ⟨(some 34), 34, (.load false 1 (.t 33)), none, [0]⟩,
    ⟨(some 35), 35, (.bin false .eql (.t 34) (.k (.c (.s (.pv (.int .i64 0)))))), none, [1]⟩,
    ⟨(some 36), 36, (.mv (.t 35)), none, [2]⟩,
    ⟨(some 37), 37, (.fld 1 (.t 3)), (some (36, true)), [3]⟩,
    ⟨(some 38), 38, (.load true 3 (.t 37)), (some (36, true)), [4, 3]⟩,
    ⟨(some 39), 39, (.build [(.s (.pv (.int .i64 0))), (.s (.pv (.int .i64 0))), (.s (.pv (.string ⟨#[]⟩)))] [(0, 1, (.k (.c (.s (.pv (.int .i64 2)))))), (1, 1, (.k (.c (.s (.pv (.int .i64 2)))))), (2, 1, (.k (.c (.s (.pv (.string ⟨#[120]⟩))))))]), (some (36, true)), [3]⟩,
    ⟨(some 40), 40, (.eqs false 31 (.t 38) (.t 39)), (some (36, true)), [5, 6, 3]⟩,
    ⟨(some 41), 41, (.pick (.t 36) (.t 40) (.k (.c (.s (.pv (.bool false)))))), none, [3, 7]⟩,
    ⟨(some 42), 42, (.mv (.t 41)), none, [8, 3]⟩,
    ⟨(some 43), 43, (.load true 3 (.t 4)), (some (42, true)), [9]⟩,
    ⟨(some 44), 44, (.fld 1 (.t 3)), (some (42, true)), [9]⟩,
    ⟨(some 45), 45, (.load true 3 (.t 44)), (some (42, true)), [11, 9]⟩,
    ⟨(some 46), 46, (.eqs false 31 (.t 43) (.t 45)), (some (42, true)), [10, 12, 9]⟩,
    ⟨(some 47), 47, (.pick (.t 42) (.t 46) (.k (.c (.s (.pv (.bool false)))))), none, [9, 13]⟩,
    ⟨(some 48), 48, (.mv (.t 47)), none, [14, 9]⟩,
    ⟨(some 49), 49, (.mv (.t 5)), (some (48, true)), [15]⟩,
    ⟨(some 50), 50, (.pick (.t 48) (.t 49) (.k (.c (.s (.pv (.bool false)))))), none, [15, 16]⟩,
    ⟨(some 51), 51, (.mv (.t 50)), none, [17, 15]⟩,
    ⟨(some 52), 52, (.mv (.t 7)), (some (51, true)), [18]⟩,
    ⟨(some 53), 53, (.len (.t 52)), (some (51, true)), [19, 18]⟩,
    ⟨(some 54), 54, (.bin false .eql (.t 53) (.k (.c (.s (.pv (.int .i64 2)))))), (some (51, true)), [20, 18]⟩,
    ⟨(some 55), 55, (.pick (.t 51) (.t 54) (.k (.c (.s (.pv (.bool false)))))), none, [18, 21]⟩,
    ⟨(some 56), 56, (.mv (.t 55)), none, [22, 18]⟩,
    ⟨(some 57), 57, (.mv (.t 7)), (some (56, true)), [23]⟩,
    ⟨(some 58), 58, (.idx 4 (.t 57) (.k (.c (.s (.pv (.int .i64 1)))))), (some (56, true)), [24, 23]⟩,
    ⟨(some 59), 59, (.fld 0 (.t 58)), (some (56, true)), [25, 23]⟩,
    ⟨(some 60), 60, (.load false 1 (.t 59)), (some (56, true)), [26, 23]⟩,
    ⟨(some 61), 61, (.bin false .eql (.t 60) (.k (.c (.s (.pv (.int .i64 3)))))), (some (56, true)), [27, 23]⟩,
    ⟨(some 62), 62, (.pick (.t 56) (.t 61) (.k (.c (.s (.pv (.bool false)))))), none, [23, 28]⟩,
    ⟨(some 0), 0, (.mv (.t 62)), none, [29, 23, 0, 1, 2, 3, 4, 5, 6, 7, 8, 9, 10, 11, 12, 13, 14, 15, 16, 17, 18, 19, 20, 21, 22, 23, 24, 25, 26, 27, 28, 29]⟩])
  .ret))))))
theorem fn11 : FnIs Try.prog 11 ac11 [(.t 0)] 63 := ⟨Try.f11, Try.func11, by kernel_rfl, by kernel_rfl, by kernel_rfl⟩
/- lockkeeper/ops.Do -/
def ac12 : ACode := (.seq (.reg [⟨(some 2), 2, (.box 24 1 (.t 0)), none, []⟩,
    ⟨(some 3), 3, (.box 26 3 (.t 1)), none, []⟩,
    ⟨(some 4), 4, (.mk 24 1 [[.zc]]), none, []⟩,
    ⟨(some 5), 5, (.mk 33 4 [[(.s (.pv (.int .i64 0))), (.s (.pv (.int .i64 0))), (.s (.pv (.int .i64 0))), (.s (.pv (.string ⟨#[]⟩)))]]), none, []⟩])
  (.seq (.seq (.reg [⟨(some 9), 9, (.load true 1 (.t 2)), none, []⟩,
    ⟨(some 10), 10, (.call 16 [(.t 9)]), none, [0]⟩,
    ⟨(some 11), 11, (.not (.t 10)), none, [1]⟩,
    ⟨(some 12), 12, (.mv (.t 11)), none, [2, 1]⟩,
    ⟨(some 13), 13, (.fld 0 (.t 3)), (some (12, false)), [3]⟩,
    ⟨(some 14), 14, (.load false 1 (.t 13)), (some (12, false)), [4, 3]⟩,
    ⟨(some 15), 15, (.bin false .lss (.t 14) (.k (.c (.s (.pv (.int .i64 1)))))), (some (12, false)), [5, 3]⟩,
    ⟨(some 16), 16, (.pick (.t 12) (.k (.c (.s (.pv (.bool true))))) (.t 15)), none, [3, 6]⟩,
    ⟨(some 17), 17, (.mv (.t 16)), none, [7, 3]⟩,
    ⟨(some 18), 18, (.fld 0 (.t 3)), (some (17, false)), [8]⟩,
    ⟨(some 19), 19, (.load false 1 (.t 18)), (some (17, false)), [9, 8]⟩,
    ⟨(some 20), 20, (.bin false .gtr (.t 19) (.k (.c (.s (.pv (.int .i64 4)))))), (some (17, false)), [10, 8]⟩,
    ⟨(some 21), 21, (.pick (.t 17) (.k (.c (.s (.pv (.bool true))))) (.t 20)), none, [8, 11]⟩,
    ⟨(some 22), 22, (.mv (.t 21)), none, [12, 8]⟩,
    ⟨(some 23), 23, (.fld 1 (.t 3)), (some (22, false)), [13]⟩,
    ⟨(some 24), 24, (.load false 1 (.t 23)), (some (22, false)), [14, 13]⟩,
    ⟨(some 25), 25, (.bin false .lss (.t 24) (.k (.c (.s (.pv (.int .i64 1)))))), (some (22, false)), [15, 13]⟩,
    ⟨(some 26), 26, (.pick (.t 22) (.k (.c (.s (.pv (.bool true))))) (.t 25)), none, [13, 16]⟩,
    ⟨(some 27), 27, (.mv (.t 26)), none, [17, 13]⟩,
    ⟨(some 28), 28, (.fld 1 (.t 3)), (some (27, false)), [18]⟩,
    ⟨(some 29), 29, (.load false 1 (.t 28)), (some (27, false)), [19, 18]⟩,
    ⟨(some 30), 30, (.bin false .gtr (.t 29) (.k (.c (.s (.pv (.int .i64 16)))))), (some (27, false)), [20, 18]⟩,
    ⟨(some 31), 31, (.pick (.t 27) (.k (.c (.s (.pv (.bool true))))) (.t 30)), none, [18, 21]⟩])
  (.cond (.t 31) (.seq (.reg [⟨(some 32), 32, (.load true 1 (.t 2)), none, []⟩,
    ⟨(some 33), 33, (.build [(.s (.pv (.int .i64 0))), (.s (.pv (.int .i64 0))), (.s (.pv (.int .i64 0))), (.s (.pv (.string ⟨#[]⟩)))] [(0, 1, (.k (.c (.s (.pv (.int .i64 1))))))]), none, []⟩,
    ⟨none, 106, (.store 1 (.t 4) (.t 32)), none, [0, 0]⟩,
    ⟨none, 107, (.store 4 (.t 5) (.t 33)), none, [1, 2, 0, 1, 2]⟩])
  .ret) .skip))
  (.seq (.reg [⟨(some 35), 35, (.load true 1 (.t 2)), none, []⟩,
    ⟨(some 36), 36, (.fld 1 (.t 3)), none, []⟩,
    ⟨(some 37), 37, (.load false 1 (.t 36)), none, [1]⟩,
    ⟨(some 38), 38, (.call 19 [(.t 35), (.t 37)]), none, [0, 2]⟩,
    ⟨(some 34), 34, (.mv (.t 38)), none, [3]⟩,
    ⟨(some 39), 39, (.ext 0 (.t 34)), none, [4]⟩,
    ⟨(some 40), 40, (.ext 1 (.t 34)), none, [4]⟩,
    ⟨(some 6), 6, (.mv (.t 39)), none, [5, 3, 0, 1, 2, 3, 4, 5]⟩,
    ⟨(some 7), 7, (.mv (.t 40)), none, [6, 7, 0, 1, 2, 3, 4, 5, 6, 7]⟩])
  (.seq (.block 0 (.seq (.reg [⟨(some 42), 42, (.fld 0 (.t 3)), none, []⟩,
    ⟨(some 43), 43, (.load false 1 (.t 42)), none, [0]⟩,
    ⟨(some 44), 44, (.bin false .eql (.t 43) (.k (.c (.s (.pv (.int .i64 1)))))), none, [1]⟩,
    ⟨(some 45), 45, (.mv (.t 44)), none, [2]⟩,
    ⟨(some 46), 46, (.mv (.t 7)), (some (45, true)), [3]⟩,
    ⟨(some 47), 47, (.pick (.t 45) (.t 46) (.k (.c (.s (.pv (.bool false)))))), none, [3, 4]⟩,
    ⟨(some 41), 41, (.mv (.t 47)), none, [5, 3]⟩])
  (.cond (.t 41) (.seq (.reg [⟨(some 48), 48, (.load true 1 (.t 2)), none, []⟩,
    ⟨(some 49), 49, (.build [(.s (.pv (.int .i64 0))), (.s (.pv (.int .i64 0))), (.s (.pv (.int .i64 0))), (.s (.pv (.string ⟨#[]⟩)))] [(0, 1, (.k (.c (.s (.pv (.int .i64 4))))))]), none, []⟩,
    ⟨none, 106, (.store 1 (.t 4) (.t 48)), none, [0, 0]⟩,
    ⟨none, 107, (.store 4 (.t 5) (.t 49)), none, [1, 2, 0, 1, 2]⟩])
  .ret) (.seq (.reg [⟨(some 51), 51, (.fld 0 (.t 3)), none, []⟩,
    ⟨(some 52), 52, (.load false 1 (.t 51)), none, [0]⟩,
    ⟨(some 53), 53, (.bin false .neq (.t 52) (.k (.c (.s (.pv (.int .i64 1)))))), none, [1]⟩,
    ⟨(some 54), 54, (.mv (.t 53)), none, [2]⟩,
    ⟨(some 55), 55, (.mv (.t 7)), (some (54, true)), [3]⟩,
    ⟨(some 56), 56, (.not (.t 55)), (some (54, true)), [4, 3]⟩,
    ⟨(some 57), 57, (.pick (.t 54) (.t 56) (.k (.c (.s (.pv (.bool false)))))), none, [3, 5]⟩,
    ⟨(some 50), 50, (.mv (.t 57)), none, [6, 3]⟩])
  (.cond (.t 50) (.seq (.reg [⟨(some 58), 58, (.load true 1 (.t 2)), none, []⟩,
    ⟨(some 59), 59, (.build [(.s (.pv (.int .i64 0))), (.s (.pv (.int .i64 0))), (.s (.pv (.int .i64 0))), (.s (.pv (.string ⟨#[]⟩)))] [(0, 1, (.k (.c (.s (.pv (.int .i64 3))))))]), none, []⟩,
    ⟨none, 106, (.store 1 (.t 4) (.t 58)), none, [0, 0]⟩,
    ⟨none, 107, (.store 4 (.t 5) (.t 59)), none, [1, 2, 0, 1, 2]⟩])
  .ret) .skip)))))
  (.seq (.seq (.reg [⟨(some 60), 60, (.fld 0 (.t 3)), none, []⟩,
    ⟨(some 61), 61, (.load false 1 (.t 60)), none, [0]⟩])
  (.block 1 (.seq (.reg [⟨(some 63), 63, (.bin false .eql (.t 61) (.k (.c (.s (.pv (.int .i64 1)))))), none, []⟩,
    ⟨(some 62), 62, (.mv (.t 63)), none, [0]⟩])
  (.cond (.t 62) (.seq (.reg [⟨(some 64), 64, (.fld 1 (.t 3)), none, []⟩,
    ⟨(some 65), 65, (.load false 1 (.t 64)), none, [0]⟩,
    ⟨(some 66), 66, (.build [(.s (.pv (.int .i64 0))), (.s (.pv (.int .i64 0))), (.s (.pv (.string ⟨#[]⟩)))] [(0, 1, (.t 65)), (1, 1, (.k (.c (.s (.pv (.int .i64 1))))))]), none, [1]⟩,
    ⟨(some 8), 8, (.mk 31 3 [[(.s (.pv (.int .i64 0))), (.s (.pv (.int .i64 0))), (.s (.pv (.string ⟨#[]⟩)))]]), none, []⟩,
    ⟨none, 108, (.store 3 (.t 8) (.t 66)), none, [3, 2, 0, 1, 2, 3]⟩])
  (.seq (.draw [⟨(some 67), 67, (.fld 0 (.t 2)), none, []⟩,
    ⟨(some 68), 68, (.load false 1 (.t 67)), none, [0]⟩,
    ⟨(some 69), 69, (.call 21 [(.t 68)]), none, [1]⟩,
    ⟨(some 70), 70, (.mv (.t 6)), none, []⟩,
    ⟨(some 71), 71, (.load true 3 (.t 8)), none, []⟩,
    ⟨(some 72), 72, (.bslice 31 3 [(.s (.pv (.int .i64 0))), (.s (.pv (.int .i64 0))), (.s (.pv (.string ⟨#[]⟩)))] 1 [(0, 3, (.t 71))]), none, [4]⟩,
    ⟨(some 73), 73, (.call 20 [(.t 69), (.t 70), (.t 72)]), none, [2, 3, 5, 2]⟩,
    ⟨(some 74), 74, (.build [.zc] [(0, 1, (.t 73))]), none, [6]⟩,
    ⟨(some 75), 75, (.load true 3 (.t 8)), none, []⟩,
    ⟨(some 76), 76, (.build [(.s (.pv (.int .i64 0))), (.s (.pv (.int .i64 0))), (.s (.pv (.int .i64 0))), (.s (.pv (.string ⟨#[]⟩)))] [(1, 3, (.t 75))]), none, [8]⟩,
    ⟨none, 114, (.store 1 (.t 4) (.t 74)), none, [7, 6, 0, 1, 2, 3, 4, 5, 6, 7]⟩,
    ⟨none, 115, (.store 4 (.t 5) (.t 76)), none, [9, 10, 0, 1, 2, 3, 4, 5, 6, 7, 8, 9, 10]⟩])
  .ret)) (.seq (.reg [⟨(some 78), 78, (.bin false .eql (.t 61) (.k (.c (.s (.pv (.int .i64 3)))))), none, []⟩,
    ⟨(some 77), 77, (.mv (.t 78)), none, [0]⟩])
  (.cond (.t 77) (.seq (.reg [⟨(some 79), 79, (.load true 1 (.t 2)), none, []⟩,
    ⟨(some 80), 80, (.mv (.t 6)), none, []⟩,
    ⟨(some 81), 81, (.fld 2 (.t 3)), none, []⟩,
    ⟨(some 82), 82, (.load false 1 (.t 81)), none, [2]⟩,
    ⟨(some 83), 83, (.call 22 [(.t 79), (.t 80), (.t 82)]), none, [0, 1, 3]⟩,
    ⟨(some 84), 84, (.ext 0 (.t 83)), none, [4]⟩,
    ⟨(some 85), 85, (.ext 1 (.t 83)), none, [4]⟩,
    ⟨none, 111, (.store 1 (.t 4) (.t 84)), none, [5, 4, 0, 1, 2, 3, 4, 5, 6]⟩,
    ⟨none, 112, (.store 4 (.t 5) (.t 85)), none, [6, 7, 0, 1, 2, 3, 4, 5, 6, 7]⟩])
  .ret) (.seq (.reg [⟨(some 87), 87, (.bin false .eql (.t 61) (.k (.c (.s (.pv (.int .i64 4)))))), none, []⟩,
    ⟨(some 86), 86, (.mv (.t 87)), none, [0]⟩])
  (.cond (.t 86) (.seq (.reg [⟨(some 88), 88, (.fld 0 (.t 2)), none, []⟩,
    ⟨(some 89), 89, (.load false 1 (.t 88)), none, [0]⟩,
    ⟨(some 90), 90, (.call 21 [(.t 89)]), none, [1]⟩,
    ⟨(some 91), 91, (.mv (.t 6)), none, []⟩,
    ⟨(some 92), 92, (.mv (.t 6)), none, []⟩,
    ⟨(some 93), 93, (.bin false .add (.t 92) (.k (.c (.s (.pv (.int .i64 1)))))), none, [4]⟩,
    ⟨(some 94), 94, (.call 23 [(.t 90), (.t 91), (.t 93)]), none, [2, 3, 5, 2]⟩,
    ⟨(some 95), 95, (.build [.zc] [(0, 1, (.t 94))]), none, [6]⟩,
    ⟨(some 96), 96, (.build [(.s (.pv (.int .i64 0))), (.s (.pv (.int .i64 0))), (.s (.pv (.int .i64 0))), (.s (.pv (.string ⟨#[]⟩)))] []), none, []⟩,
    ⟨none, 113, (.store 1 (.t 4) (.t 95)), none, [7, 6, 0, 1, 2, 3, 4, 5, 6, 7]⟩,
    ⟨none, 114, (.store 4 (.t 5) (.t 96)), none, [8, 9, 0, 1, 2, 3, 4, 5, 6, 7, 8, 9]⟩])
  .ret) .skip))))))))
  (.seq (.draw [⟨(some 97), 97, (.load true 1 (.t 2)), none, []⟩,
    ⟨(some 98), 98, (.fld 0 (.t 2)), none, []⟩,
    ⟨(some 99), 99, (.load false 1 (.t 98)), none, [1]⟩,
    ⟨(some 100), 100, (.mv (.t 6)), none, []⟩,
    ⟨(some 101), 101, (.idx 3 (.t 99) (.t 100)), none, [2, 3]⟩,
    ⟨(some 102), 102, (.load true 3 (.t 101)), none, [4]⟩,
    ⟨(some 103), 103, (.build [(.s (.pv (.int .i64 0))), (.s (.pv (.int .i64 0))), (.s (.pv (.int .i64 0))), (.s (.pv (.string ⟨#[]⟩)))] [(1, 3, (.t 102))]), none, [5]⟩,
    ⟨none, 111, (.store 1 (.t 4) (.t 97)), none, [0, 0]⟩,
    ⟨none, 112, (.store 4 (.t 5) (.t 103)), none, [6, 7, 0, 1, 2, 3, 4, 5, 6, 7]⟩])
  .ret))))))
theorem fn12 : FnIs Try.prog 12 ac12 [(.cell 4 true 1), (.cell 5 true 4)] 104 := ⟨Try.f12, Try.func12, by kernel_rfl, by kernel_rfl, by kernel_rfl⟩
/- lockkeeper/lockkeeperref18.Do -/
def ac13 : ACode := (.seq (.reg [⟨(some 3), 3, (.box 40 3 (.t 1)), none, []⟩,
    ⟨(some 4), 4, (.mv (.k (.c .zc))), none, []⟩,
    ⟨(some 5), 5, (.mk 37 4 [[(.s (.pv (.int .i64 0))), (.s (.pv (.int .i64 0))), (.s (.pv (.int .i64 0))), (.s (.pv (.string ⟨#[]⟩)))]]), none, []⟩])
  (.seq (.seq (.reg [⟨(some 11), 11, (.mv (.t 0)), none, []⟩,
    ⟨(some 12), 12, (.call 14 [(.t 11)]), none, [0]⟩,
    ⟨(some 13), 13, (.not (.t 12)), none, [1]⟩,
    ⟨(some 14), 14, (.mv (.t 13)), none, [2, 1]⟩,
    ⟨(some 15), 15, (.fld 0 (.t 3)), (some (14, false)), [3]⟩,
    ⟨(some 16), 16, (.load false 1 (.t 15)), (some (14, false)), [4, 3]⟩,
    ⟨(some 17), 17, (.bin false .lss (.t 16) (.k (.c (.s (.pv (.int .i64 1)))))), (some (14, false)), [5, 3]⟩,
    ⟨(some 18), 18, (.pick (.t 14) (.k (.c (.s (.pv (.bool true))))) (.t 17)), none, [3, 6]⟩,
    ⟨(some 19), 19, (.mv (.t 18)), none, [7, 3]⟩,
    ⟨(some 20), 20, (.fld 0 (.t 3)), (some (19, false)), [8]⟩,
    ⟨(some 21), 21, (.load false 1 (.t 20)), (some (19, false)), [9, 8]⟩,
    ⟨(some 22), 22, (.bin false .gtr (.t 21) (.k (.c (.s (.pv (.int .i64 4)))))), (some (19, false)), [10, 8]⟩,
    ⟨(some 23), 23, (.pick (.t 19) (.k (.c (.s (.pv (.bool true))))) (.t 22)), none, [8, 11]⟩,
    ⟨(some 24), 24, (.mv (.t 23)), none, [12, 8]⟩,
    ⟨(some 25), 25, (.fld 1 (.t 3)), (some (24, false)), [13]⟩,
    ⟨(some 26), 26, (.load false 1 (.t 25)), (some (24, false)), [14, 13]⟩,
    ⟨(some 27), 27, (.bin false .lss (.t 26) (.k (.c (.s (.pv (.int .i64 1)))))), (some (24, false)), [15, 13]⟩,
    ⟨(some 28), 28, (.pick (.t 24) (.k (.c (.s (.pv (.bool true))))) (.t 27)), none, [13, 16]⟩,
    ⟨(some 29), 29, (.mv (.t 28)), none, [17, 13]⟩,
    ⟨(some 30), 30, (.fld 1 (.t 3)), (some (29, false)), [18]⟩,
    ⟨(some 31), 31, (.load false 1 (.t 30)), (some (29, false)), [19, 18]⟩,
    ⟨(some 32), 32, (.bin false .gtr (.t 31) (.k (.c (.s (.pv (.int .i64 16)))))), (some (29, false)), [20, 18]⟩,
    ⟨(some 33), 33, (.pick (.t 29) (.k (.c (.s (.pv (.bool true))))) (.t 32)), none, [18, 21]⟩])
  (.cond (.t 33) (.seq (.reg [⟨(some 34), 34, (.mv (.t 0)), none, []⟩,
    ⟨(some 35), 35, (.build [(.s (.pv (.int .i64 0))), (.s (.pv (.int .i64 0))), (.s (.pv (.int .i64 0))), (.s (.pv (.string ⟨#[]⟩)))] [(0, 1, (.k (.c (.s (.pv (.int .i64 1))))))]), none, []⟩,
    ⟨(some 4), 4, (.mv (.t 34)), none, [0, 0]⟩,
    ⟨none, 131, (.store 4 (.t 5) (.t 35)), none, [1, 2, 0, 1, 2]⟩])
  .ret) .skip))
  (.seq (.reg [⟨(some 6), 6, (.mk 64 3 [[(.s (.pv (.int .i64 0))), (.s (.pv (.int .i64 0))), (.s (.pv (.string ⟨#[]⟩)))], [(.s (.pv (.int .i64 0))), (.s (.pv (.int .i64 0))), (.s (.pv (.string ⟨#[]⟩)))], [(.s (.pv (.int .i64 0))), (.s (.pv (.int .i64 0))), (.s (.pv (.string ⟨#[]⟩)))], [(.s (.pv (.int .i64 0))), (.s (.pv (.int .i64 0))), (.s (.pv (.string ⟨#[]⟩)))], [(.s (.pv (.int .i64 0))), (.s (.pv (.int .i64 0))), (.s (.pv (.string ⟨#[]⟩)))], [(.s (.pv (.int .i64 0))), (.s (.pv (.int .i64 0))), (.s (.pv (.string ⟨#[]⟩)))], [(.s (.pv (.int .i64 0))), (.s (.pv (.int .i64 0))), (.s (.pv (.string ⟨#[]⟩)))], [(.s (.pv (.int .i64 0))), (.s (.pv (.int .i64 0))), (.s (.pv (.string ⟨#[]⟩)))], [(.s (.pv (.int .i64 0))), (.s (.pv (.int .i64 0))), (.s (.pv (.string ⟨#[]⟩)))], [(.s (.pv (.int .i64 0))), (.s (.pv (.int .i64 0))), (.s (.pv (.string ⟨#[]⟩)))], [(.s (.pv (.int .i64 0))), (.s (.pv (.int .i64 0))), (.s (.pv (.string ⟨#[]⟩)))], [(.s (.pv (.int .i64 0))), (.s (.pv (.int .i64 0))), (.s (.pv (.string ⟨#[]⟩)))], [(.s (.pv (.int .i64 0))), (.s (.pv (.int .i64 0))), (.s (.pv (.string ⟨#[]⟩)))], [(.s (.pv (.int .i64 0))), (.s (.pv (.int .i64 0))), (.s (.pv (.string ⟨#[]⟩)))], [(.s (.pv (.int .i64 0))), (.s (.pv (.int .i64 0))), (.s (.pv (.string ⟨#[]⟩)))], [(.s (.pv (.int .i64 0))), (.s (.pv (.int .i64 0))), (.s (.pv (.string ⟨#[]⟩)))], [(.s (.pv (.int .i64 0))), (.s (.pv (.int .i64 0))), (.s (.pv (.string ⟨#[]⟩)))]]), none, []⟩])
  (.seq (.seq (.reg [⟨(some 7), 7, (.mv (.k (.c (.s (.pv (.int .i64 0)))))), none, []⟩])
  (.block 0 (.loop (.seq (.seq (.reg [⟨(some 36), 36, (.mv (.t 7)), none, []⟩,
    ⟨(some 37), 37, (.mv (.t 0)), none, []⟩,
    ⟨(some 38), 38, (.len (.t 37)), none, [1]⟩,
    ⟨(some 39), 39, (.bin false .lss (.t 36) (.t 38)), none, [0, 2]⟩])
  (.cond (.t 39) .skip (.exit 0)))
  (.seq (.block 1 (.draw [⟨(some 42), 42, (.mv (.t 0)), none, []⟩,
    ⟨(some 43), 43, (.mv (.t 7)), none, []⟩,
    ⟨(some 44), 44, (.idx 3 (.t 42) (.t 43)), none, [0, 1]⟩,
    ⟨(some 45), 45, (.fld 0 (.t 44)), none, [2]⟩,
    ⟨(some 46), 46, (.load false 1 (.t 45)), none, [3]⟩,
    ⟨(some 47), 47, (.mv (.t 0)), none, []⟩,
    ⟨(some 48), 48, (.mv (.t 7)), none, []⟩,
    ⟨(some 49), 49, (.idx 3 (.t 47) (.t 48)), none, [5, 6]⟩,
    ⟨(some 50), 50, (.load true 3 (.t 49)), none, [7]⟩,
    ⟨(some 51), 51, (.aidx 17 3 (.t 6) (.t 46)), none, [4, 0, 1, 2, 3, 4, 5, 6, 7, 8]⟩,
    ⟨none, 138, (.store 3 (.t 51) (.t 50)), none, [9, 8, 0, 1, 2, 3, 4, 5, 6, 7, 8]⟩]))
  (.reg [⟨(some 40), 40, (.mv (.t 7)), none, []⟩,
    ⟨(some 41), 41, (.bin false .add (.t 40) (.k (.c (.s (.pv (.int .i64 1)))))), none, [0]⟩,
    ⟨(some 7), 7, (.mv (.t 41)), none, [1, 0, 1]⟩]))))))
  (.seq (.reg [⟨(some 52), 52, (.fld 1 (.t 3)), none, []⟩,
    ⟨(some 53), 53, (.load false 1 (.t 52)), none, [0]⟩,
    ⟨(some 54), 54, (.aidx 17 3 (.t 6) (.t 53)), none, [1]⟩,
    ⟨(some 55), 55, (.load true 3 (.t 54)), none, [2]⟩,
    ⟨(some 8), 8, (.mk 31 3 [[(.s (.pv (.int .i64 0))), (.s (.pv (.int .i64 0))), (.s (.pv (.string ⟨#[]⟩)))]]), none, []⟩,
    ⟨none, 133, (.store 3 (.t 8) (.t 55)), none, [4, 3, 0, 1, 2, 3, 4]⟩])
  (.seq (.seq (.reg [⟨(some 56), 56, (.fld 0 (.t 3)), none, []⟩,
    ⟨(some 57), 57, (.load false 1 (.t 56)), none, [0]⟩,
    ⟨(some 58), 58, (.bin false .eql (.t 57) (.k (.c (.s (.pv (.int .i64 1)))))), none, [1]⟩,
    ⟨(some 59), 59, (.mv (.t 58)), none, [2]⟩,
    ⟨(some 60), 60, (.fld 0 (.t 8)), (some (59, true)), [3]⟩,
    ⟨(some 61), 61, (.load false 1 (.t 60)), (some (59, true)), [4, 3]⟩,
    ⟨(some 62), 62, (.bin false .neq (.t 61) (.k (.c (.s (.pv (.int .i64 0)))))), (some (59, true)), [5, 3]⟩,
    ⟨(some 63), 63, (.pick (.t 59) (.t 62) (.k (.c (.s (.pv (.bool false)))))), none, [3, 6]⟩])
  (.cond (.t 63) (.seq (.reg [⟨(some 64), 64, (.mv (.t 0)), none, []⟩,
    ⟨(some 65), 65, (.build [(.s (.pv (.int .i64 0))), (.s (.pv (.int .i64 0))), (.s (.pv (.int .i64 0))), (.s (.pv (.string ⟨#[]⟩)))] [(0, 1, (.k (.c (.s (.pv (.int .i64 4))))))]), none, []⟩,
    ⟨(some 4), 4, (.mv (.t 64)), none, [0, 0]⟩,
    ⟨none, 131, (.store 4 (.t 5) (.t 65)), none, [1, 2, 0, 1, 2]⟩])
  .ret) .skip))
  (.seq (.seq (.reg [⟨(some 66), 66, (.fld 0 (.t 3)), none, []⟩,
    ⟨(some 67), 67, (.load false 1 (.t 66)), none, [0]⟩,
    ⟨(some 68), 68, (.bin false .gtr (.t 67) (.k (.c (.s (.pv (.int .i64 1)))))), none, [1]⟩,
    ⟨(some 69), 69, (.mv (.t 68)), none, [2]⟩,
    ⟨(some 70), 70, (.fld 0 (.t 8)), (some (69, true)), [3]⟩,
    ⟨(some 71), 71, (.load false 1 (.t 70)), (some (69, true)), [4, 3]⟩,
    ⟨(some 72), 72, (.bin false .eql (.t 71) (.k (.c (.s (.pv (.int .i64 0)))))), (some (69, true)), [5, 3]⟩,
    ⟨(some 73), 73, (.pick (.t 69) (.t 72) (.k (.c (.s (.pv (.bool false)))))), none, [3, 6]⟩])
  (.cond (.t 73) (.seq (.reg [⟨(some 74), 74, (.mv (.t 0)), none, []⟩,
    ⟨(some 75), 75, (.build [(.s (.pv (.int .i64 0))), (.s (.pv (.int .i64 0))), (.s (.pv (.int .i64 0))), (.s (.pv (.string ⟨#[]⟩)))] [(0, 1, (.k (.c (.s (.pv (.int .i64 3))))))]), none, []⟩,
    ⟨(some 4), 4, (.mv (.t 74)), none, [0, 0]⟩,
    ⟨none, 131, (.store 4 (.t 5) (.t 75)), none, [1, 2, 0, 1, 2]⟩])
  .ret) .skip))
  (.seq (.seq (.reg [⟨(some 76), 76, (.fld 0 (.t 3)), none, []⟩,
    ⟨(some 77), 77, (.load false 1 (.t 76)), none, [0]⟩])
  (.block 2 (.seq (.reg [⟨(some 79), 79, (.bin false .eql (.t 77) (.k (.c (.s (.pv (.int .i64 1)))))), none, []⟩,
    ⟨(some 78), 78, (.mv (.t 79)), none, [0]⟩])
  (.cond (.t 78) (.reg [⟨(some 80), 80, (.fld 1 (.t 3)), none, []⟩,
    ⟨(some 81), 81, (.load false 1 (.t 80)), none, [0]⟩,
    ⟨(some 82), 82, (.build [(.s (.pv (.int .i64 0))), (.s (.pv (.int .i64 0))), (.s (.pv (.string ⟨#[]⟩)))] [(0, 1, (.t 81)), (1, 1, (.k (.c (.s (.pv (.int .i64 1))))))]), none, [1]⟩,
    ⟨none, 131, (.store 3 (.t 8) (.t 82)), none, [2, 0, 1, 2]⟩]) (.seq (.reg [⟨(some 84), 84, (.bin false .eql (.t 77) (.k (.c (.s (.pv (.int .i64 3)))))), none, []⟩,
    ⟨(some 83), 83, (.mv (.t 84)), none, [0]⟩])
  (.cond (.t 83) (.seq (.seq (.reg [⟨(some 85), 85, (.fld 2 (.t 3)), none, []⟩,
    ⟨(some 86), 86, (.load false 1 (.t 85)), none, [0]⟩,
    ⟨(some 87), 87, (.slen (.t 86)), none, [1]⟩,
    ⟨(some 88), 88, (.bin false .gtr (.t 87) (.k (.c (.s (.pv (.int .i64 16)))))), none, [2]⟩])
  (.cond (.t 88) (.seq (.reg [⟨(some 89), 89, (.mv (.t 0)), none, []⟩,
    ⟨(some 90), 90, (.build [(.s (.pv (.int .i64 0))), (.s (.pv (.int .i64 0))), (.s (.pv (.int .i64 0))), (.s (.pv (.string ⟨#[]⟩)))] [(0, 1, (.k (.c (.s (.pv (.int .i64 5))))))]), none, []⟩,
    ⟨(some 4), 4, (.mv (.t 89)), none, [0, 0]⟩,
    ⟨none, 131, (.store 4 (.t 5) (.t 90)), none, [1, 2, 0, 1, 2]⟩])
  .ret) .skip))
  (.seq (.seq (.reg [⟨(some 91), 91, (.fld 1 (.t 8)), none, []⟩,
    ⟨(some 92), 92, (.load false 1 (.t 91)), none, [0]⟩,
    ⟨(some 93), 93, (.bin false .eql (.t 92) (.k (.c (.s (.pv (.int .i64 2147483647)))))), none, [1]⟩])
  (.cond (.t 93) (.seq (.reg [⟨(some 94), 94, (.mv (.t 0)), none, []⟩,
    ⟨(some 95), 95, (.build [(.s (.pv (.int .i64 0))), (.s (.pv (.int .i64 0))), (.s (.pv (.int .i64 0))), (.s (.pv (.string ⟨#[]⟩)))] [(0, 1, (.k (.c (.s (.pv (.int .i64 7))))))]), none, []⟩,
    ⟨(some 4), 4, (.mv (.t 94)), none, [0, 0]⟩,
    ⟨none, 131, (.store 4 (.t 5) (.t 95)), none, [1, 2, 0, 1, 2]⟩])
  .ret) .skip))
  (.seq (.reg [⟨(some 96), 96, (.fld 2 (.t 3)), none, []⟩,
    ⟨(some 97), 97, (.load false 1 (.t 96)), none, [0]⟩,
    ⟨(some 98), 98, (.fld 2 (.t 8)), none, [0, 1]⟩,
    ⟨none, 131, (.store 1 (.t 98) (.t 97)), none, [2, 1, 0, 1]⟩])
  (.reg [⟨(some 99), 99, (.fld 1 (.t 8)), none, []⟩,
    ⟨(some 100), 100, (.load false 1 (.t 99)), none, [0]⟩,
    ⟨(some 101), 101, (.bin false .add (.t 100) (.k (.c (.s (.pv (.int .i64 1)))))), none, [1]⟩,
    ⟨(some 102), 102, (.fld 1 (.t 8)), none, [0, 1, 2]⟩,
    ⟨none, 132, (.store 1 (.t 102) (.t 101)), none, [3, 2, 0, 1, 2]⟩])))) (.seq (.reg [⟨(some 104), 104, (.bin false .eql (.t 77) (.k (.c (.s (.pv (.int .i64 4)))))), none, []⟩,
    ⟨(some 103), 103, (.mv (.t 104)), none, [0]⟩])
  (.cond (.t 103) (.reg [⟨(some 105), 105, (.build [(.s (.pv (.int .i64 0))), (.s (.pv (.int .i64 0))), (.s (.pv (.string ⟨#[]⟩)))] []), none, []⟩,
    ⟨none, 129, (.store 3 (.t 8) (.t 105)), none, [0, 0]⟩]) .skip))))))))
  (.seq (.reg [⟨(some 106), 106, (.fld 1 (.t 3)), none, []⟩,
    ⟨(some 107), 107, (.load false 1 (.t 106)), none, [0]⟩,
    ⟨(some 108), 108, (.load true 3 (.t 8)), none, []⟩,
    ⟨(some 109), 109, (.aidx 17 3 (.t 6) (.t 107)), none, [1, 0, 1, 2]⟩,
    ⟨none, 132, (.store 3 (.t 109) (.t 108)), none, [3, 2, 0, 1, 2]⟩])
  (.seq (.reg [⟨(some 9), 9, (.mv (.k (.c .zc))), none, []⟩])
  (.seq (.seq (.reg [⟨(some 10), 10, (.mv (.k (.c (.s (.pv (.int .i64 1)))))), none, []⟩])
  (.block 3 (.loop (.seq (.seq (.reg [⟨(some 110), 110, (.mv (.t 10)), none, []⟩,
    ⟨(some 111), 111, (.bin false .lss (.t 110) (.k (.c (.s (.pv (.int .i64 17)))))), none, [0]⟩])
  (.cond (.t 111) .skip (.exit 3)))
  (.seq (.block 4 (.seq (.reg [⟨(some 114), 114, (.mv (.t 10)), none, []⟩,
    ⟨(some 115), 115, (.aidx 17 3 (.t 6) (.t 114)), none, [0]⟩,
    ⟨(some 116), 116, (.fld 0 (.t 115)), none, [1]⟩,
    ⟨(some 117), 117, (.load false 1 (.t 116)), none, [2]⟩,
    ⟨(some 118), 118, (.bin false .neq (.t 117) (.k (.c (.s (.pv (.int .i64 0)))))), none, [3]⟩])
  (.cond (.t 118) (.reg [⟨(some 119), 119, (.mv (.t 9)), none, []⟩,
    ⟨(some 120), 120, (.mv (.t 10)), none, []⟩,
    ⟨(some 121), 121, (.aidx 17 3 (.t 6) (.t 120)), none, [1]⟩,
    ⟨(some 122), 122, (.load true 3 (.t 121)), none, [2]⟩,
    ⟨(some 123), 123, (.bslice 31 3 [(.s (.pv (.int .i64 0))), (.s (.pv (.int .i64 0))), (.s (.pv (.string ⟨#[]⟩)))] 1 [(0, 3, (.t 122))]), none, [3]⟩,
    ⟨(some 124), 124, (.app 31 3 32 (.t 119) (.t 123)), none, [0, 4]⟩,
    ⟨(some 9), 9, (.mv (.t 124)), none, [5, 5, 0, 1, 2, 3, 4, 5]⟩]) .skip)))
  (.reg [⟨(some 112), 112, (.mv (.t 10)), none, []⟩,
    ⟨(some 113), 113, (.bin false .add (.t 112) (.k (.c (.s (.pv (.int .i64 1)))))), none, [0]⟩,
    ⟨(some 10), 10, (.mv (.t 113)), none, [1, 0, 1]⟩]))))))
  (.seq (.draw [⟨(some 125), 125, (.mv (.t 9)), none, []⟩,
    ⟨(some 126), 126, (.load true 3 (.t 8)), none, []⟩,
    ⟨(some 127), 127, (.build [(.s (.pv (.int .i64 0))), (.s (.pv (.int .i64 0))), (.s (.pv (.int .i64 0))), (.s (.pv (.string ⟨#[]⟩)))] [(1, 3, (.t 126))]), none, [1]⟩,
    ⟨(some 4), 4, (.mv (.t 125)), none, [0, 0]⟩,
    ⟨none, 132, (.store 4 (.t 5) (.t 127)), none, [2, 3, 0, 1, 2, 3]⟩])
  .ret))))))))))))
theorem fn13 : FnIs Try.prog 13 ac13 [(.t 4), (.cell 5 true 4)] 128 := ⟨Try.f13, Try.func13, by kernel_rfl, by kernel_rfl, by kernel_rfl⟩
/- lockkeeper/lockkeeperref18.Right -/
def ac14 : ACode := (.seq (.reg [⟨(some 2), 2, (.mv (.k (.c (.s (.pv (.bool false)))))), none, []⟩])
  (.seq (.seq (.reg [⟨(some 3), 3, (.mv (.k (.c (.s (.pv (.int .i64 0)))))), none, []⟩])
  (.block 0 (.loop (.seq (.seq (.reg [⟨(some 4), 4, (.mv (.t 3)), none, []⟩,
    ⟨(some 5), 5, (.mv (.t 0)), none, []⟩,
    ⟨(some 6), 6, (.len (.t 5)), none, [1]⟩,
    ⟨(some 7), 7, (.bin false .lss (.t 4) (.t 6)), none, [0, 2]⟩])
  (.cond (.t 7) .skip (.exit 0)))
  (.seq (.block 1 (.seq (.draw [⟨(some 10), 10, (.mv (.t 0)), none, []⟩,
    ⟨(some 11), 11, (.mv (.t 3)), none, []⟩,
    ⟨(some 12), 12, (.idx 3 (.t 10) (.t 11)), none, [0, 1]⟩,
    ⟨(some 13), 13, (.load true 3 (.t 12)), none, [2]⟩,
    ⟨(some 14), 14, (.call 24 [(.t 13)]), none, [3]⟩,
    ⟨(some 15), 15, (.not (.t 14)), none, [4]⟩,
    ⟨(some 16), 16, (.mv (.t 15)), none, [5, 4]⟩,
    ⟨(some 17), 17, (.mv (.t 3)), (some (16, false)), [6]⟩,
    ⟨(some 18), 18, (.bin false .gtr (.t 17) (.k (.c (.s (.pv (.int .i64 0)))))), (some (16, false)), [7, 6]⟩,
    ⟨(some 19), 19, (.mv (.t 18)), (some (16, false)), [8, 6, 6]⟩,
    ⟨(some 20), 20, (.mv (.t 0)), (some (19, true)), [9]⟩,
    ⟨(some 21), 21, (.mv (.t 3)), (some (19, true)), [9]⟩,
    ⟨(some 22), 22, (.idx 3 (.t 20) (.t 21)), (some (19, true)), [10, 11, 9]⟩,
    ⟨(some 23), 23, (.fld 0 (.t 22)), (some (19, true)), [12, 9]⟩,
    ⟨(some 24), 24, (.load false 1 (.t 23)), (some (19, true)), [13, 9]⟩,
    ⟨(some 25), 25, (.mv (.t 0)), (some (19, true)), [9]⟩,
    ⟨(some 26), 26, (.mv (.t 3)), (some (19, true)), [9]⟩,
    ⟨(some 27), 27, (.bin false .sub (.t 26) (.k (.c (.s (.pv (.int .i64 1)))))), (some (19, true)), [16, 9]⟩,
    ⟨(some 28), 28, (.idx 3 (.t 25) (.t 27)), (some (19, true)), [15, 17, 9]⟩,
    ⟨(some 29), 29, (.fld 0 (.t 28)), (some (19, true)), [18, 9]⟩,
    ⟨(some 30), 30, (.load false 1 (.t 29)), (some (19, true)), [19, 9]⟩,
    ⟨(some 31), 31, (.bin false .leq (.t 24) (.t 30)), (some (19, true)), [14, 20, 9]⟩,
    ⟨(some 32), 32, (.pick (.t 19) (.t 31) (.k (.c (.s (.pv (.bool false)))))), (some (16, false)), [9, 21, 6]⟩,
    ⟨(some 33), 33, (.pick (.t 16) (.k (.c (.s (.pv (.bool true))))) (.t 32)), none, [6, 22]⟩])
  (.cond (.t 33) (.seq (.reg [⟨(some 2), 2, (.mv (.k (.c (.s (.pv (.bool false)))))), none, []⟩])
  .ret) .skip)))
  (.reg [⟨(some 8), 8, (.mv (.t 3)), none, []⟩,
    ⟨(some 9), 9, (.bin false .add (.t 8) (.k (.c (.s (.pv (.int .i64 1)))))), none, [0]⟩,
    ⟨(some 3), 3, (.mv (.t 9)), none, [1, 0, 1]⟩]))))))
  (.seq (.reg [⟨(some 2), 2, (.mv (.k (.c (.s (.pv (.bool true)))))), none, []⟩])
  .ret)))
theorem fn14 : FnIs Try.prog 14 ac14 [(.t 2)] 34 := ⟨Try.f14, Try.func14, by kernel_rfl, by kernel_rfl, by kernel_rfl⟩
/- lockkeeper/ops.Get -/
def ac15 : ACode := (.seq (.reg [⟨(some 2), 2, (.box 24 1 (.t 0)), none, []⟩,
    ⟨(some 4), 4, (.mk 31 3 [[(.s (.pv (.int .i64 0))), (.s (.pv (.int .i64 0))), (.s (.pv (.string ⟨#[]⟩)))]]), none, []⟩,
    ⟨(some 5), 5, (.mv (.k (.c (.s (.pv (.bool false)))))), none, []⟩])
  (.seq (.seq (.reg [⟨(some 8), 8, (.load true 1 (.t 2)), none, []⟩,
    ⟨(some 9), 9, (.call 16 [(.t 8)]), none, [0]⟩,
    ⟨(some 10), 10, (.not (.t 9)), none, [1]⟩])
  (.cond (.t 10) (.seq (.reg [⟨(some 11), 11, (.build [(.s (.pv (.int .i64 0))), (.s (.pv (.int .i64 0))), (.s (.pv (.string ⟨#[]⟩)))] []), none, []⟩,
    ⟨none, 27, (.store 3 (.t 4) (.t 11)), none, [0, 0]⟩,
    ⟨(some 5), 5, (.mv (.k (.c (.s (.pv (.bool false)))))), none, [1, 0, 1]⟩])
  .ret) .skip))
  (.seq (.reg [⟨(some 13), 13, (.load true 1 (.t 2)), none, []⟩,
    ⟨(some 14), 14, (.mv (.t 1)), none, []⟩,
    ⟨(some 15), 15, (.call 19 [(.t 13), (.t 14)]), none, [0, 1]⟩,
    ⟨(some 12), 12, (.mv (.t 15)), none, [2]⟩,
    ⟨(some 16), 16, (.ext 0 (.t 12)), none, [3]⟩,
    ⟨(some 17), 17, (.ext 1 (.t 12)), none, [3]⟩,
    ⟨(some 6), 6, (.mv (.t 16)), none, [4, 2, 0, 1, 2, 3, 4]⟩,
    ⟨(some 7), 7, (.mv (.t 17)), none, [5, 6, 0, 1, 2, 3, 4, 5, 6]⟩])
  (.seq (.seq (.reg [⟨(some 18), 18, (.mv (.t 7)), none, []⟩,
    ⟨(some 19), 19, (.not (.t 18)), none, [0]⟩])
  (.cond (.t 19) (.seq (.reg [⟨(some 20), 20, (.build [(.s (.pv (.int .i64 0))), (.s (.pv (.int .i64 0))), (.s (.pv (.string ⟨#[]⟩)))] []), none, []⟩,
    ⟨none, 27, (.store 3 (.t 4) (.t 20)), none, [0, 0]⟩,
    ⟨(some 5), 5, (.mv (.k (.c (.s (.pv (.bool false)))))), none, [1, 0, 1]⟩])
  .ret) .skip))
  (.seq (.reg [⟨(some 21), 21, (.fld 0 (.t 2)), none, []⟩,
    ⟨(some 22), 22, (.load false 1 (.t 21)), none, [0]⟩,
    ⟨(some 23), 23, (.mv (.t 6)), none, []⟩,
    ⟨(some 24), 24, (.idx 3 (.t 22) (.t 23)), none, [1, 2]⟩,
    ⟨(some 25), 25, (.load true 3 (.t 24)), none, [3]⟩,
    ⟨none, 31, (.store 3 (.t 4) (.t 25)), none, [4, 0, 1, 2, 3, 4]⟩,
    ⟨(some 5), 5, (.mv (.k (.c (.s (.pv (.bool true)))))), none, [5, 0, 1, 2, 3, 4, 5]⟩])
  .ret)))))
theorem fn15 : FnIs Try.prog 15 ac15 [(.cell 4 true 3), (.t 5)] 26 := ⟨Try.f15, Try.func15, by kernel_rfl, by kernel_rfl, by kernel_rfl⟩
/- lockkeeper/ops.Right -/
def ac16 : ACode := (.seq (.reg [⟨(some 1), 1, (.box 24 1 (.t 0)), none, []⟩,
    ⟨(some 2), 2, (.mv (.k (.c (.s (.pv (.bool false)))))), none, []⟩])
  (.seq (.reg [⟨(some 3), 3, (.mv (.k (.c (.s (.pv (.int .i64 0)))))), none, []⟩])
  (.seq (.seq (.reg [⟨(some 6), 6, (.fld 0 (.t 1)), none, []⟩,
    ⟨(some 7), 7, (.load false 1 (.t 6)), none, [0]⟩,
    ⟨(some 8), 8, (.len (.t 7)), none, [1]⟩,
    ⟨(some 9), 9, (.mv (.k (.c (.s (.pv (.int .i64 0)))))), none, []⟩])
  (.block 0 (.loop (.seq (.reg [⟨(some 10), 10, (.bin false .lss (.t 9) (.t 8)), none, []⟩])
  (.seq (.cond (.t 10) .skip (.exit 0))
  (.seq (.block 1 (.seq (.reg [⟨(some 11), 11, (.idx 3 (.t 7) (.t 9)), none, []⟩,
    ⟨(some 12), 12, (.load true 3 (.t 11)), none, [0]⟩,
    ⟨(some 5), 5, (.mk 31 3 [[(.s (.pv (.int .i64 0))), (.s (.pv (.int .i64 0))), (.s (.pv (.string ⟨#[]⟩)))]]), none, []⟩,
    ⟨none, 28, (.store 3 (.t 5) (.t 12)), none, [2, 1, 0, 1, 2]⟩])
  (.seq (.seq (.reg [⟨(some 13), 13, (.load true 3 (.t 5)), none, []⟩,
    ⟨(some 14), 14, (.call 25 [(.t 13)]), none, [0]⟩,
    ⟨(some 15), 15, (.not (.t 14)), none, [1]⟩,
    ⟨(some 16), 16, (.mv (.t 15)), none, [2, 1]⟩,
    ⟨(some 17), 17, (.fld 0 (.t 5)), (some (16, false)), [3]⟩,
    ⟨(some 18), 18, (.load false 1 (.t 17)), (some (16, false)), [4, 3]⟩,
    ⟨(some 19), 19, (.mv (.t 3)), (some (16, false)), [3]⟩,
    ⟨(some 20), 20, (.bin false .leq (.t 18) (.t 19)), (some (16, false)), [5, 6, 3]⟩,
    ⟨(some 21), 21, (.pick (.t 16) (.k (.c (.s (.pv (.bool true))))) (.t 20)), none, [3, 7]⟩])
  (.cond (.t 21) (.seq (.reg [⟨(some 2), 2, (.mv (.k (.c (.s (.pv (.bool false)))))), none, []⟩])
  .ret) .skip))
  (.reg [⟨(some 22), 22, (.fld 0 (.t 5)), none, []⟩,
    ⟨(some 23), 23, (.load false 1 (.t 22)), none, [0]⟩,
    ⟨(some 3), 3, (.mv (.t 23)), none, [1, 0, 1]⟩]))))
  (.reg [⟨(some 24), 24, (.bin false .add (.t 9) (.k (.c (.s (.pv (.int .i64 1)))))), none, []⟩,
    ⟨(some 9), 9, (.mv (.t 24)), none, [0]⟩])))))))
  (.seq (.reg [⟨(some 2), 2, (.mv (.k (.c (.s (.pv (.bool true)))))), none, []⟩])
  .ret))))
theorem fn16 : FnIs Try.prog 16 ac16 [(.t 2)] 25 := ⟨Try.f16, Try.func16, by kernel_rfl, by kernel_rfl, by kernel_rfl⟩
/- lockkeeper/lockkeeperref18.Same -/
def ac17 : ACode := (.seq (.reg [⟨(some 4), 4, (.mv (.k (.c (.s (.pv (.bool false)))))), none, []⟩])
  (.seq (.seq (.reg [⟨(some 6), 6, (.mv (.t 0)), none, []⟩,
    ⟨(some 7), 7, (.len (.t 6)), none, [0]⟩,
    ⟨(some 8), 8, (.mv (.t 1)), none, []⟩,
    ⟨(some 9), 9, (.len (.t 8)), none, [2]⟩,
    ⟨(some 10), 10, (.bin false .neq (.t 7) (.t 9)), none, [1, 3]⟩])
  (.cond (.t 10) (.seq (.reg [⟨(some 4), 4, (.mv (.k (.c (.s (.pv (.bool false)))))), none, []⟩])
  .ret) .skip))
  (.seq (.seq (.reg [⟨(some 5), 5, (.mv (.k (.c (.s (.pv (.int .i64 0)))))), none, []⟩])
  (.block 0 (.loop (.seq (.seq (.reg [⟨(some 11), 11, (.mv (.t 5)), none, []⟩,
    ⟨(some 12), 12, (.mv (.t 0)), none, []⟩,
    ⟨(some 13), 13, (.len (.t 12)), none, [1]⟩,
    ⟨(some 14), 14, (.bin false .lss (.t 11) (.t 13)), none, [0, 2]⟩])
  (.cond (.t 14) .skip (.exit 0)))
  (.seq (.block 1 (.seq (.draw [⟨(some 17), 17, (.mv (.t 0)), none, []⟩,
    ⟨(some 18), 18, (.mv (.t 5)), none, []⟩,
    ⟨(some 19), 19, (.idx 3 (.t 17) (.t 18)), none, [0, 1]⟩,
    ⟨(some 20), 20, (.load true 3 (.t 19)), none, [2]⟩,
    ⟨(some 21), 21, (.mv (.t 1)), none, []⟩,
    ⟨(some 22), 22, (.mv (.t 5)), none, []⟩,
    ⟨(some 23), 23, (.idx 3 (.t 21) (.t 22)), none, [4, 5]⟩,
    ⟨(some 24), 24, (.load true 3 (.t 23)), none, [6]⟩,
    ⟨(some 25), 25, (.eqs true 31 (.t 20) (.t 24)), none, [3, 7]⟩])
  (.cond (.t 25) (.seq (.reg [⟨(some 4), 4, (.mv (.k (.c (.s (.pv (.bool false)))))), none, []⟩])
  .ret) .skip)))
  (.reg [⟨(some 15), 15, (.mv (.t 5)), none, []⟩,
    ⟨(some 16), 16, (.bin false .add (.t 15) (.k (.c (.s (.pv (.int .i64 1)))))), none, [0]⟩,
    ⟨(some 5), 5, (.mv (.t 16)), none, [1, 0, 1]⟩]))))))
  (.seq (.reg [⟨(some 4), 4, (.mv (.k (.c (.s (.pv (.bool true)))))), none, []⟩])
  .ret))))
theorem fn17 : FnIs Try.prog 17 ac17 [(.t 4)] 26 := ⟨Try.f17, Try.func17, by kernel_rfl, by kernel_rfl, by kernel_rfl⟩
/- lockkeeper/ops.All -/
def ac18 : ACode := (.seq (.reg [⟨(some 2), 2, (.box 24 1 (.t 0)), none, []⟩,
    ⟨(some 4), 4, (.mk 24 1 [[.zc]]), none, []⟩,
    ⟨(some 5), 5, (.mv (.k (.c .zc))), none, []⟩])
  (.seq (.reg [⟨(some 6), 6, (.mv (.k (.c .zc))), none, []⟩])
  (.seq (.seq (.reg [⟨(some 10), 10, (.mv (.t 1)), none, []⟩,
    ⟨(some 11), 11, (.len (.t 10)), none, [0]⟩,
    ⟨(some 12), 12, (.mv (.k (.c (.s (.pv (.int .i64 0)))))), none, []⟩])
  (.block 0 (.loop (.seq (.reg [⟨(some 13), 13, (.bin false .lss (.t 12) (.t 11)), none, []⟩])
  (.seq (.cond (.t 13) .skip (.exit 0))
  (.seq (.block 1 (.seq (.reg [⟨(some 14), 14, (.idx 3 (.t 10) (.t 12)), none, []⟩,
    ⟨(some 15), 15, (.load true 3 (.t 14)), none, [0]⟩,
    ⟨(some 8), 8, (.mk 26 3 [[(.s (.pv (.int .i64 0))), (.s (.pv (.int .i64 0))), (.s (.pv (.string ⟨#[]⟩)))]]), none, []⟩,
    ⟨none, 32, (.store 3 (.t 8) (.t 15)), none, [2, 1, 0, 1, 2]⟩])
  (.seq (.reg [⟨(some 9), 9, (.mk 33 4 [[(.s (.pv (.int .i64 0))), (.s (.pv (.int .i64 0))), (.s (.pv (.int .i64 0))), (.s (.pv (.string ⟨#[]⟩)))]]), none, []⟩])
  (.seq (.reg [⟨(some 17), 17, (.load true 1 (.t 2)), none, []⟩,
    ⟨(some 18), 18, (.load true 3 (.t 8)), none, []⟩,
    ⟨(some 19), 19, (.call 12 [(.t 17), (.t 18)]), none, [0, 1]⟩,
    ⟨(some 16), 16, (.mv (.t 19)), none, [2]⟩,
    ⟨(some 20), 20, (.ext 0 (.t 16)), none, [3]⟩,
    ⟨(some 21), 21, (.ext 1 (.t 16)), none, [3]⟩,
    ⟨none, 35, (.store 1 (.t 2) (.t 20)), none, [4, 2, 0, 1, 2, 3, 4]⟩,
    ⟨none, 36, (.store 4 (.t 9) (.t 21)), none, [5, 6, 0, 1, 2, 3, 4, 5, 6]⟩])
  (.reg [⟨(some 22), 22, (.mv (.t 6)), none, []⟩,
    ⟨(some 23), 23, (.load true 4 (.t 9)), none, []⟩,
    ⟨(some 24), 24, (.bslice 33 4 [(.s (.pv (.int .i64 0))), (.s (.pv (.int .i64 0))), (.s (.pv (.int .i64 0))), (.s (.pv (.string ⟨#[]⟩)))] 1 [(0, 4, (.t 23))]), none, [1]⟩,
    ⟨(some 25), 25, (.app 33 4 40 (.t 22) (.t 24)), none, [0, 2]⟩,
    ⟨(some 6), 6, (.mv (.t 25)), none, [3, 3, 0, 1, 2, 3]⟩])))))
  (.reg [⟨(some 26), 26, (.bin false .add (.t 12) (.k (.c (.s (.pv (.int .i64 1)))))), none, []⟩,
    ⟨(some 12), 12, (.mv (.t 26)), none, [0]⟩])))))))
  (.seq (.reg [⟨(some 27), 27, (.load true 1 (.t 2)), none, []⟩,
    ⟨(some 28), 28, (.mv (.t 6)), none, []⟩,
    ⟨none, 31, (.store 1 (.t 4) (.t 27)), none, [0, 0]⟩,
    ⟨(some 5), 5, (.mv (.t 28)), none, [1, 2, 0, 1, 2]⟩])
  .ret))))
theorem fn18 : FnIs Try.prog 18 ac18 [(.cell 4 true 1), (.t 5)] 29 := ⟨Try.f18, Try.func18, by kernel_rfl, by kernel_rfl, by kernel_rfl⟩
/- lockkeeper/ops.place -/
def ac19 : ACode := (.seq (.reg [⟨(some 2), 2, (.box 24 1 (.t 0)), none, []⟩,
    ⟨(some 4), 4, (.mv (.k (.c (.s (.pv (.int .i64 0)))))), none, []⟩,
    ⟨(some 5), 5, (.mv (.k (.c (.s (.pv (.bool false)))))), none, [1]⟩])
  (.seq (.reg [⟨(some 6), 6, (.fld 0 (.t 2)), none, []⟩,
    ⟨(some 7), 7, (.load false 1 (.t 6)), none, [0]⟩,
    ⟨(some 8), 8, (.mv (.t 1)), none, []⟩,
    ⟨(some 9), 9, (.call 26 [(.t 7), (.t 8), (.k (.c (.s (.fn 27 []))))]), none, [1, 2]⟩,
    ⟨(some 10), 10, (.ext 0 (.t 9)), none, [3]⟩,
    ⟨(some 11), 11, (.ext 1 (.t 9)), none, [3]⟩,
    ⟨(some 4), 4, (.mv (.t 10)), none, [4, 3, 0, 1, 2, 3, 4, 5]⟩,
    ⟨(some 5), 5, (.mv (.t 11)), none, [5, 6, 0, 1, 2, 3, 4, 5, 6]⟩])
  .ret))
theorem fn19 : FnIs Try.prog 19 ac19 [(.t 4), (.t 5)] 12 := ⟨Try.f19, Try.func19, by kernel_rfl, by kernel_rfl, by kernel_rfl⟩
/- slices.Clone[[]lockkeeper/api.Page,lockkeeper/api.Page] -/
def ac21 : ACode := (.seq (.reg [⟨(some 2), 2, (.mv (.k (.c .zc))), none, []⟩])
  (.seq (.seq (.reg [⟨(some 3), 3, (.mv (.t 0)), none, []⟩,
    ⟨(some 4), 4, (.isnil (.t 3)), none, [0]⟩])
  (.cond (.t 4) (.seq (.reg [⟨(some 2), 2, (.mv (.k (.c .zc))), none, []⟩])
  .ret) .skip))
  (.seq (.reg [⟨(some 5), 5, (.bslice 31 3 [(.s (.pv (.int .i64 0))), (.s (.pv (.int .i64 0))), (.s (.pv (.string ⟨#[]⟩)))] 0 []), none, []⟩,
    ⟨(some 6), 6, (.mv (.t 0)), none, []⟩,
    ⟨(some 7), 7, (.app 31 3 32 (.t 5) (.t 6)), none, [0, 1]⟩,
    ⟨(some 2), 2, (.mv (.t 7)), none, [2, 2, 0, 1, 2]⟩])
  .ret)))
theorem fn21 : FnIs Try.prog 21 ac21 [(.t 2)] 8 := ⟨Try.f21, Try.func21, by kernel_rfl, by kernel_rfl, by kernel_rfl⟩
/- lockkeeper/ops.write -/
def ac22 : ACode := (.seq (.reg [⟨(some 3), 3, (.box 24 1 (.t 0)), none, []⟩,
    ⟨(some 6), 6, (.mk 24 1 [[.zc]]), none, []⟩,
    ⟨(some 7), 7, (.mk 33 4 [[(.s (.pv (.int .i64 0))), (.s (.pv (.int .i64 0))), (.s (.pv (.int .i64 0))), (.s (.pv (.string ⟨#[]⟩)))]]), none, []⟩])
  (.seq (.reg [⟨(some 10), 10, (.fld 0 (.t 3)), none, []⟩,
    ⟨(some 11), 11, (.load false 1 (.t 10)), none, [0]⟩,
    ⟨(some 12), 12, (.mv (.t 1)), none, []⟩,
    ⟨(some 13), 13, (.idx 3 (.t 11) (.t 12)), none, [1, 2]⟩,
    ⟨(some 14), 14, (.load true 3 (.t 13)), none, [3]⟩,
    ⟨(some 8), 8, (.mk 31 3 [[(.s (.pv (.int .i64 0))), (.s (.pv (.int .i64 0))), (.s (.pv (.string ⟨#[]⟩)))]]), none, []⟩,
    ⟨none, 50, (.store 3 (.t 8) (.t 14)), none, [5, 4, 0, 1, 2, 3, 4, 5]⟩])
  (.seq (.block 0 (.seq (.reg [⟨(some 16), 16, (.mv (.t 2)), none, []⟩,
    ⟨(some 17), 17, (.slen (.t 16)), none, [0]⟩,
    ⟨(some 18), 18, (.bin false .gtr (.t 17) (.k (.c (.s (.pv (.int .i64 16)))))), none, [1]⟩,
    ⟨(some 15), 15, (.mv (.t 18)), none, [2]⟩])
  (.cond (.t 15) (.seq (.reg [⟨(some 19), 19, (.load true 1 (.t 3)), none, []⟩,
    ⟨(some 20), 20, (.build [(.s (.pv (.int .i64 0))), (.s (.pv (.int .i64 0))), (.s (.pv (.int .i64 0))), (.s (.pv (.string ⟨#[]⟩)))] [(0, 1, (.k (.c (.s (.pv (.int .i64 5))))))]), none, []⟩,
    ⟨none, 46, (.store 1 (.t 6) (.t 19)), none, [0, 0]⟩,
    ⟨none, 47, (.store 4 (.t 7) (.t 20)), none, [1, 2, 0, 1, 2]⟩])
  .ret) (.seq (.reg [⟨(some 22), 22, (.fld 1 (.t 8)), none, []⟩,
    ⟨(some 23), 23, (.load false 1 (.t 22)), none, [0]⟩,
    ⟨(some 24), 24, (.bin false .eql (.t 23) (.k (.c (.s (.pv (.int .i64 2147483647)))))), none, [1]⟩,
    ⟨(some 21), 21, (.mv (.t 24)), none, [2]⟩])
  (.cond (.t 21) (.seq (.reg [⟨(some 25), 25, (.load true 1 (.t 3)), none, []⟩,
    ⟨(some 26), 26, (.build [(.s (.pv (.int .i64 0))), (.s (.pv (.int .i64 0))), (.s (.pv (.int .i64 0))), (.s (.pv (.string ⟨#[]⟩)))] [(0, 1, (.k (.c (.s (.pv (.int .i64 7))))))]), none, []⟩,
    ⟨none, 46, (.store 1 (.t 6) (.t 25)), none, [0, 0]⟩,
    ⟨none, 47, (.store 4 (.t 7) (.t 26)), none, [1, 2, 0, 1, 2]⟩])
  .ret) .skip)))))
  (.seq (.reg [⟨(some 27), 27, (.fld 1 (.t 8)), none, []⟩,
    ⟨(some 28), 28, (.load false 1 (.t 27)), none, [0]⟩,
    ⟨(some 29), 29, (.bin false .add (.t 28) (.k (.c (.s (.pv (.int .i64 1)))))), none, [1]⟩,
    ⟨(some 30), 30, (.fld 1 (.t 8)), none, [0, 1, 2]⟩,
    ⟨none, 48, (.store 1 (.t 30) (.t 29)), none, [3, 2, 0, 1, 2]⟩])
  (.seq (.reg [⟨(some 31), 31, (.mv (.t 2)), none, []⟩,
    ⟨(some 32), 32, (.fld 2 (.t 8)), none, [0]⟩,
    ⟨none, 46, (.store 1 (.t 32) (.t 31)), none, [1, 0, 0]⟩])
  (.seq (.reg [⟨(some 33), 33, (.fld 0 (.t 3)), none, []⟩,
    ⟨(some 34), 34, (.load false 1 (.t 33)), none, [0]⟩,
    ⟨(some 35), 35, (.call 21 [(.t 34)]), none, [1]⟩,
    ⟨(some 9), 9, (.mv (.t 35)), none, [2, 2, 0, 1, 2]⟩])
  (.seq (.reg [⟨(some 36), 36, (.mv (.t 9)), none, []⟩,
    ⟨(some 37), 37, (.mv (.t 1)), none, []⟩,
    ⟨(some 38), 38, (.load true 3 (.t 8)), none, []⟩,
    ⟨(some 39), 39, (.idx 3 (.t 36) (.t 37)), none, [0, 1, 0, 1, 2]⟩,
    ⟨none, 48, (.store 3 (.t 39) (.t 38)), none, [3, 2, 0, 1, 2]⟩])
  (.seq (.draw [⟨(some 40), 40, (.mv (.t 9)), none, []⟩,
    ⟨(some 41), 41, (.build [.zc] [(0, 1, (.t 40))]), none, [0]⟩,
    ⟨(some 42), 42, (.load true 3 (.t 8)), none, []⟩,
    ⟨(some 43), 43, (.build [(.s (.pv (.int .i64 0))), (.s (.pv (.int .i64 0))), (.s (.pv (.int .i64 0))), (.s (.pv (.string ⟨#[]⟩)))] [(1, 3, (.t 42))]), none, [2]⟩,
    ⟨none, 48, (.store 1 (.t 6) (.t 41)), none, [1, 0, 1]⟩,
    ⟨none, 49, (.store 4 (.t 7) (.t 43)), none, [3, 4, 0, 1, 2, 3, 4]⟩])
  .ret))))))))
theorem fn22 : FnIs Try.prog 22 ac22 [(.cell 6 true 1), (.cell 7 true 4)] 44 := ⟨Try.f22, Try.func22, by kernel_rfl, by kernel_rfl, by kernel_rfl⟩
/- lockkeeper/lockkeeperref02.Right -/
def ac24 : ACode := (.seq (.reg [⟨(some 1), 1, (.box 31 3 (.t 0)), none, []⟩,
    ⟨(some 2), 2, (.mv (.k (.c (.s (.pv (.bool false)))))), none, []⟩])
  (.seq (.reg [⟨(some 3), 3, (.fld 0 (.t 1)), none, []⟩,
    ⟨(some 4), 4, (.load false 1 (.t 3)), none, [0]⟩,
    ⟨(some 5), 5, (.bin false .gtr (.t 4) (.k (.c (.s (.pv (.int .i64 0)))))), none, [1]⟩,
    ⟨(some 6), 6, (.mv (.t 5)), none, [2]⟩,
    ⟨(some 7), 7, (.fld 0 (.t 1)), (some (6, true)), [3]⟩,
    ⟨(some 8), 8, (.load false 1 (.t 7)), (some (6, true)), [4, 3]⟩,
    ⟨(some 9), 9, (.bin false .lss (.t 8) (.k (.c (.s (.pv (.int .i64 17)))))), (some (6, true)), [5, 3]⟩,
    ⟨(some 10), 10, (.pick (.t 6) (.t 9) (.k (.c (.s (.pv (.bool false)))))), none, [3, 6]⟩,
    ⟨(some 11), 11, (.mv (.t 10)), none, [7, 3]⟩,
    ⟨(some 12), 12, (.fld 1 (.t 1)), (some (11, true)), [8]⟩,
    ⟨(some 13), 13, (.load false 1 (.t 12)), (some (11, true)), [9, 8]⟩,
    ⟨(some 14), 14, (.bin false .gtr (.t 13) (.k (.c (.s (.pv (.int .i64 0)))))), (some (11, true)), [10, 8]⟩,
    ⟨(some 15), 15, (.pick (.t 11) (.t 14) (.k (.c (.s (.pv (.bool false)))))), none, [8, 11]⟩,
    ⟨(some 16), 16, (.mv (.t 15)), none, [12, 8]⟩,
    ⟨(some 17), 17, (.fld 1 (.t 1)), (some (16, true)), [13]⟩,
    ⟨(some 18), 18, (.load false 1 (.t 17)), (some (16, true)), [14, 13]⟩,
    ⟨(some 19), 19, (.bin false .lss (.t 18) (.k (.c (.s (.pv (.int .i64 2147483648)))))), (some (16, true)), [15, 13]⟩,
    ⟨(some 20), 20, (.pick (.t 16) (.t 19) (.k (.c (.s (.pv (.bool false)))))), none, [13, 16]⟩,
    ⟨(some 21), 21, (.mv (.t 20)), none, [17, 13]⟩,
    ⟨(some 22), 22, (.fld 2 (.t 1)), (some (21, true)), [18]⟩,
    ⟨(some 23), 23, (.load false 1 (.t 22)), (some (21, true)), [19, 18]⟩,
    ⟨(some 24), 24, (.slen (.t 23)), (some (21, true)), [20, 18]⟩,
    ⟨(some 25), 25, (.bin false .lss (.t 24) (.k (.c (.s (.pv (.int .i64 17)))))), (some (21, true)), [21, 18]⟩,
    ⟨(some 26), 26, (.pick (.t 21) (.t 25) (.k (.c (.s (.pv (.bool false)))))), none, [18, 22]⟩,
    ⟨(some 2), 2, (.mv (.t 26)), none, [23, 18, 0, 1, 2, 3, 4, 5, 6, 7, 8, 9, 10, 11, 12, 13, 14, 15, 16, 17, 18, 19, 20, 21, 22, 23]⟩])
  .ret))
theorem fn24 : FnIs Try.prog 24 ac24 [(.t 2)] 27 := ⟨Try.f24, Try.func24, by kernel_rfl, by kernel_rfl, by kernel_rfl⟩
/- lockkeeper/page.Right -/
def ac25 : ACode := (.seq (.reg [⟨(some 1), 1, (.box 31 3 (.t 0)), none, []⟩,
    ⟨(some 2), 2, (.mv (.k (.c (.s (.pv (.bool false)))))), none, []⟩])
  (.seq (.reg [⟨(some 3), 3, (.fld 0 (.t 1)), none, []⟩,
    ⟨(some 4), 4, (.load false 1 (.t 3)), none, [0]⟩,
    ⟨(some 5), 5, (.bin false .geq (.t 4) (.k (.c (.s (.pv (.int .i64 1)))))), none, [1]⟩,
    ⟨(some 6), 6, (.mv (.t 5)), none, [2]⟩,
    ⟨(some 7), 7, (.fld 0 (.t 1)), (some (6, true)), [3]⟩,
    ⟨(some 8), 8, (.load false 1 (.t 7)), (some (6, true)), [4, 3]⟩,
    ⟨(some 9), 9, (.bin false .leq (.t 8) (.k (.c (.s (.pv (.int .i64 16)))))), (some (6, true)), [5, 3]⟩,
    ⟨(some 10), 10, (.pick (.t 6) (.t 9) (.k (.c (.s (.pv (.bool false)))))), none, [3, 6]⟩,
    ⟨(some 11), 11, (.mv (.t 10)), none, [7, 3]⟩,
    ⟨(some 12), 12, (.fld 1 (.t 1)), (some (11, true)), [8]⟩,
    ⟨(some 13), 13, (.load false 1 (.t 12)), (some (11, true)), [9, 8]⟩,
    ⟨(some 14), 14, (.bin false .geq (.t 13) (.k (.c (.s (.pv (.int .i64 1)))))), (some (11, true)), [10, 8]⟩,
    ⟨(some 15), 15, (.pick (.t 11) (.t 14) (.k (.c (.s (.pv (.bool false)))))), none, [8, 11]⟩,
    ⟨(some 16), 16, (.mv (.t 15)), none, [12, 8]⟩,
    ⟨(some 17), 17, (.fld 1 (.t 1)), (some (16, true)), [13]⟩,
    ⟨(some 18), 18, (.load false 1 (.t 17)), (some (16, true)), [14, 13]⟩,
    ⟨(some 19), 19, (.bin false .leq (.t 18) (.k (.c (.s (.pv (.int .i64 2147483647)))))), (some (16, true)), [15, 13]⟩,
    ⟨(some 20), 20, (.pick (.t 16) (.t 19) (.k (.c (.s (.pv (.bool false)))))), none, [13, 16]⟩,
    ⟨(some 21), 21, (.mv (.t 20)), none, [17, 13]⟩,
    ⟨(some 22), 22, (.fld 2 (.t 1)), (some (21, true)), [18]⟩,
    ⟨(some 23), 23, (.load false 1 (.t 22)), (some (21, true)), [19, 18]⟩,
    ⟨(some 24), 24, (.slen (.t 23)), (some (21, true)), [20, 18]⟩,
    ⟨(some 25), 25, (.bin false .leq (.t 24) (.k (.c (.s (.pv (.int .i64 16)))))), (some (21, true)), [21, 18]⟩,
    ⟨(some 26), 26, (.pick (.t 21) (.t 25) (.k (.c (.s (.pv (.bool false)))))), none, [18, 22]⟩,
    ⟨(some 2), 2, (.mv (.t 26)), none, [23, 18, 0, 1, 2, 3, 4, 5, 6, 7, 8, 9, 10, 11, 12, 13, 14, 15, 16, 17, 18, 19, 20, 21, 22, 23]⟩])
  .ret))
theorem fn25 : FnIs Try.prog 25 ac25 [(.t 2)] 27 := ⟨Try.f25, Try.func25, by kernel_rfl, by kernel_rfl, by kernel_rfl⟩
/- slices.BinarySearchFunc[[]lockkeeper/api.Page,lockkeeper/api.Page,int] -/
def ac26 : ACode := (.seq (.reg [⟨(some 6), 6, (.mv (.k (.c (.s (.pv (.int .i64 0)))))), none, []⟩,
    ⟨(some 7), 7, (.mv (.k (.c (.s (.pv (.bool false)))))), none, [0]⟩])
  (.seq (.reg [⟨(some 12), 12, (.mv (.t 0)), none, []⟩,
    ⟨(some 13), 13, (.len (.t 12)), none, [0]⟩,
    ⟨(some 8), 8, (.mv (.t 13)), none, [1, 0, 1]⟩])
  (.seq (.reg [⟨(some 14), 14, (.mv (.t 8)), none, []⟩,
    ⟨(some 9), 9, (.mv (.k (.c (.s (.pv (.int .i64 0)))))), none, []⟩,
    ⟨(some 10), 10, (.mv (.t 14)), none, [0, 1, 0, 1]⟩])
  (.seq (.block 0 (.loop (.seq (.seq (.reg [⟨(some 15), 15, (.mv (.t 9)), none, []⟩,
    ⟨(some 16), 16, (.mv (.t 10)), none, []⟩,
    ⟨(some 17), 17, (.bin false .lss (.t 15) (.t 16)), none, [0, 1]⟩])
  (.cond (.t 17) .skip (.exit 0)))
  (.block 1 (.seq (.reg [⟨(some 18), 18, (.mv (.t 9)), none, []⟩,
    ⟨(some 19), 19, (.mv (.t 10)), none, []⟩,
    ⟨(some 20), 20, (.bin false .add (.t 18) (.t 19)), none, [0, 1]⟩,
    ⟨(some 21), 21, (.conv .u64 (.t 20)), none, [2]⟩,
    ⟨(some 22), 22, (.bin false .shr (.t 21) (.k (.c (.s (.pv (.int .u64 1)))))), none, [3]⟩,
    ⟨(some 23), 23, (.conv .i64 (.t 22)), none, [4]⟩,
    ⟨(some 11), 11, (.mv (.t 23)), none, [5, 0, 1, 2, 3, 4, 5]⟩])
  (.seq (.reg [⟨(some 24), 24, (.mv (.t 2)), none, []⟩,
    ⟨(some 25), 25, (.mv (.t 0)), none, []⟩,
    ⟨(some 26), 26, (.mv (.t 11)), none, []⟩,
    ⟨(some 27), 27, (.idx 3 (.t 25) (.t 26)), none, [1, 2]⟩,
    ⟨(some 28), 28, (.load true 3 (.t 27)), none, [3]⟩,
    ⟨(some 29), 29, (.mv (.t 1)), none, []⟩,
    ⟨(some 30), 30, (.callv (.t 24) [(.t 28), (.t 29)]), none, [0, 4, 5]⟩,
    ⟨(some 31), 31, (.bin false .lss (.t 30) (.k (.c (.s (.pv (.int .i64 0)))))), none, [6]⟩])
  (.cond (.t 31) (.reg [⟨(some 32), 32, (.mv (.t 11)), none, []⟩,
    ⟨(some 33), 33, (.bin false .add (.t 32) (.k (.c (.s (.pv (.int .i64 1)))))), none, [0]⟩,
    ⟨(some 9), 9, (.mv (.t 33)), none, [1, 0, 1]⟩]) (.reg [⟨(some 34), 34, (.mv (.t 11)), none, []⟩,
    ⟨(some 10), 10, (.mv (.t 34)), none, [0, 0]⟩]))))))))
  (.seq (.reg [⟨(some 35), 35, (.mv (.t 9)), none, []⟩,
    ⟨(some 36), 36, (.mv (.t 9)), none, []⟩,
    ⟨(some 37), 37, (.mv (.t 8)), none, []⟩,
    ⟨(some 38), 38, (.bin false .lss (.t 36) (.t 37)), none, [1, 2]⟩,
    ⟨(some 39), 39, (.mv (.t 38)), none, [3]⟩,
    ⟨(some 40), 40, (.mv (.t 2)), (some (39, true)), [4]⟩,
    ⟨(some 41), 41, (.mv (.t 0)), (some (39, true)), [4]⟩,
    ⟨(some 42), 42, (.mv (.t 9)), (some (39, true)), [4]⟩,
    ⟨(some 43), 43, (.idx 3 (.t 41) (.t 42)), (some (39, true)), [6, 7, 4]⟩,
    ⟨(some 44), 44, (.load true 3 (.t 43)), (some (39, true)), [8, 4]⟩,
    ⟨(some 45), 45, (.mv (.t 1)), (some (39, true)), [4]⟩,
    ⟨(some 46), 46, (.callv (.t 40) [(.t 44), (.t 45)]), (some (39, true)), [5, 9, 10, 4, 4]⟩,
    ⟨(some 47), 47, (.bin false .eql (.t 46) (.k (.c (.s (.pv (.int .i64 0)))))), (some (39, true)), [11, 4]⟩,
    ⟨(some 48), 48, (.pick (.t 39) (.t 47) (.k (.c (.s (.pv (.bool false)))))), none, [4, 12]⟩,
    ⟨(some 6), 6, (.mv (.t 35)), none, [0, 11, 0]⟩,
    ⟨(some 7), 7, (.mv (.t 48)), none, [13, 14, 0, 1, 2, 3, 4, 5, 6, 7, 8, 9, 10, 11, 12, 13, 14]⟩])
  .ret)))))
theorem fn26 : FnIs Try.prog 26 ac26 [(.t 6), (.t 7)] 49 := ⟨Try.f26, Try.func26, by kernel_rfl, by kernel_rfl, by kernel_rfl⟩
/- lockkeeper/ops.place$1 -/
def ac27 : ACode := (.seq (.reg [⟨(some 2), 2, (.box 31 3 (.t 0)), none, []⟩,
    ⟨(some 4), 4, (.mv (.k (.c (.s (.pv (.int .i64 0)))))), none, []⟩])
  (.seq (.reg [⟨(some 5), 5, (.fld 0 (.t 2)), none, []⟩,
    ⟨(some 6), 6, (.load false 1 (.t 5)), none, [0]⟩,
    ⟨(some 7), 7, (.mv (.t 1)), none, []⟩,
    ⟨(some 8), 8, (.call 28 [(.t 6), (.t 7)]), none, [1, 2]⟩,
    ⟨(some 4), 4, (.mv (.t 8)), none, [3, 3, 0, 1, 2, 3]⟩])
  .ret))
theorem fn27 : FnIs Try.prog 27 ac27 [(.t 4)] 9 := ⟨Try.f27, Try.func27, by kernel_rfl, by kernel_rfl, by kernel_rfl⟩
/- cmp.Compare[int] -/
def ac28 : ACode := (.seq (.reg [⟨(some 4), 4, (.mv (.k (.c (.s (.pv (.int .i64 0)))))), none, []⟩])
  (.seq (.reg [⟨(some 7), 7, (.mv (.t 0)), none, []⟩,
    ⟨(some 8), 8, (.call 31 [(.t 7)]), none, [0]⟩,
    ⟨(some 5), 5, (.mv (.t 8)), none, [1, 1, 0, 1]⟩])
  (.seq (.reg [⟨(some 9), 9, (.mv (.t 1)), none, []⟩,
    ⟨(some 10), 10, (.call 31 [(.t 9)]), none, [0]⟩,
    ⟨(some 6), 6, (.mv (.t 10)), none, [1, 1, 0, 1]⟩])
  (.seq (.seq (.reg [⟨(some 11), 11, (.mv (.t 5)), none, []⟩])
  (.cond (.t 11) (.seq (.seq (.reg [⟨(some 12), 12, (.mv (.t 6)), none, []⟩])
  (.cond (.t 12) (.seq (.reg [⟨(some 4), 4, (.mv (.k (.c (.s (.pv (.int .i64 0)))))), none, []⟩])
  .ret) .skip))
  (.seq (.reg [⟨(some 4), 4, (.mv (.k (.c (.s (.pv (.int .i64 (-1))))))), none, []⟩])
  .ret)) .skip))
  (.seq (.seq (.reg [⟨(some 13), 13, (.mv (.t 6)), none, []⟩])
  (.cond (.t 13) (.seq (.reg [⟨(some 4), 4, (.mv (.k (.c (.s (.pv (.int .i64 1)))))), none, []⟩])
  .ret) .skip))
  (.seq (.seq (.reg [⟨(some 14), 14, (.mv (.t 0)), none, []⟩,
    ⟨(some 15), 15, (.mv (.t 1)), none, []⟩,
    ⟨(some 16), 16, (.bin false .lss (.t 14) (.t 15)), none, [0, 1]⟩])
  (.cond (.t 16) (.seq (.reg [⟨(some 4), 4, (.mv (.k (.c (.s (.pv (.int .i64 (-1))))))), none, []⟩])
  .ret) .skip))
  (.seq (.seq (.reg [⟨(some 17), 17, (.mv (.t 0)), none, []⟩,
    ⟨(some 18), 18, (.mv (.t 1)), none, []⟩,
    ⟨(some 19), 19, (.bin false .gtr (.t 17) (.t 18)), none, [0, 1]⟩])
  (.cond (.t 19) (.seq (.reg [⟨(some 4), 4, (.mv (.k (.c (.s (.pv (.int .i64 1)))))), none, []⟩])
  .ret) .skip))
  (.seq (.reg [⟨(some 4), 4, (.mv (.k (.c (.s (.pv (.int .i64 0)))))), none, []⟩])
  .ret))))))))
theorem fn28 : FnIs Try.prog 28 ac28 [(.t 4)] 20 := ⟨Try.f28, Try.func28, by kernel_rfl, by kernel_rfl, by kernel_rfl⟩
/- slices.rotateRight[lockkeeper/api.Page] -/
def ac30 : ACode := (.reg [⟨(some 4), 4, (.mv (.t 0)), none, []⟩,
    ⟨(some 5), 5, (.mv (.t 0)), none, []⟩,
    ⟨(some 6), 6, (.len (.t 5)), none, [1]⟩,
    ⟨(some 7), 7, (.mv (.t 1)), none, []⟩,
    ⟨(some 8), 8, (.bin false .sub (.t 6) (.t 7)), none, [2, 3]⟩,
    ⟨(some 9), 9, (.call 32 [(.t 4), (.t 8)]), none, [0, 4]⟩])
theorem fn30 : FnIs Try.prog 30 ac30 [] 10 := ⟨Try.f30, Try.func30, by kernel_rfl, by kernel_rfl, by kernel_rfl⟩
/- cmp.isNaN[int] -/
def ac31 : ACode := (.seq (.reg [⟨(some 2), 2, (.mv (.k (.c (.s (.pv (.bool false)))))), none, []⟩])
  (.seq (.reg [⟨(some 3), 3, (.mv (.t 0)), none, []⟩,
    ⟨(some 4), 4, (.mv (.t 0)), none, []⟩,
    ⟨(some 5), 5, (.bin false .neq (.t 3) (.t 4)), none, [0, 1]⟩,
    ⟨(some 2), 2, (.mv (.t 5)), none, [2, 0, 1, 2]⟩])
  .ret))
theorem fn31 : FnIs Try.prog 31 ac31 [(.t 2)] 6 := ⟨Try.f31, Try.func31, by kernel_rfl, by kernel_rfl, by kernel_rfl⟩
/- slices.rotateLeft[lockkeeper/api.Page] -/
def ac32 : ACode := (.seq (.reg [⟨(some 4), 4, (.mv (.t 0)), none, []⟩,
    ⟨(some 5), 5, (.mv (.t 1)), none, []⟩,
    ⟨(some 6), 6, (.sub 3 (.t 4) none (some (.t 5))), none, [0, 1]⟩,
    ⟨(some 7), 7, (.call 33 [(.t 6)]), none, [2]⟩])
  (.seq (.reg [⟨(some 8), 8, (.mv (.t 0)), none, []⟩,
    ⟨(some 9), 9, (.mv (.t 1)), none, []⟩,
    ⟨(some 10), 10, (.sub 3 (.t 8) (some (.t 9)) none), none, [0, 1]⟩,
    ⟨(some 11), 11, (.call 33 [(.t 10)]), none, [2]⟩])
  (.reg [⟨(some 12), 12, (.mv (.t 0)), none, []⟩,
    ⟨(some 13), 13, (.call 33 [(.t 12)]), none, [0]⟩])))
theorem fn32 : FnIs Try.prog 32 ac32 [] 14 := ⟨Try.f32, Try.func32, by kernel_rfl, by kernel_rfl, by kernel_rfl⟩
/- slices.Reverse[[]lockkeeper/api.Page,lockkeeper/api.Page] -/
def ac33 : ACode := (.seq (.reg [⟨(some 4), 4, (.mv (.t 0)), none, []⟩,
    ⟨(some 5), 5, (.len (.t 4)), none, [0]⟩,
    ⟨(some 6), 6, (.bin false .sub (.t 5) (.k (.c (.s (.pv (.int .i64 1)))))), none, [1]⟩,
    ⟨(some 2), 2, (.mv (.k (.c (.s (.pv (.int .i64 0)))))), none, []⟩,
    ⟨(some 3), 3, (.mv (.t 6)), none, [2, 3, 0, 1, 2, 3]⟩])
  (.block 0 (.loop (.seq (.seq (.reg [⟨(some 7), 7, (.mv (.t 2)), none, []⟩,
    ⟨(some 8), 8, (.mv (.t 3)), none, []⟩,
    ⟨(some 9), 9, (.bin false .lss (.t 7) (.t 8)), none, [0, 1]⟩])
  (.cond (.t 9) .skip (.exit 0)))
  (.seq (.block 1 (.draw [⟨(some 14), 14, (.mv (.t 0)), none, []⟩,
    ⟨(some 15), 15, (.mv (.t 2)), none, []⟩,
    ⟨(some 16), 16, (.mv (.t 0)), none, []⟩,
    ⟨(some 17), 17, (.mv (.t 3)), none, []⟩,
    ⟨(some 18), 18, (.mv (.t 0)), none, []⟩,
    ⟨(some 19), 19, (.mv (.t 3)), none, []⟩,
    ⟨(some 20), 20, (.idx 3 (.t 18) (.t 19)), none, [4, 5]⟩,
    ⟨(some 21), 21, (.load true 3 (.t 20)), none, [6]⟩,
    ⟨(some 22), 22, (.mv (.t 0)), none, []⟩,
    ⟨(some 23), 23, (.mv (.t 2)), none, []⟩,
    ⟨(some 24), 24, (.idx 3 (.t 22) (.t 23)), none, [8, 9]⟩,
    ⟨(some 25), 25, (.load true 3 (.t 24)), none, [10]⟩,
    ⟨(some 26), 26, (.idx 3 (.t 14) (.t 15)), none, [0, 1, 0, 1, 4, 5, 6, 7, 11]⟩,
    ⟨none, 41, (.store 3 (.t 26) (.t 21)), none, [12, 7, 0, 1, 4, 5, 6, 7, 11]⟩,
    ⟨(some 27), 27, (.idx 3 (.t 16) (.t 17)), none, [2, 3, 0, 1, 2, 3, 4, 5, 6, 7, 8, 9, 10, 11, 12, 13]⟩,
    ⟨none, 43, (.store 3 (.t 27) (.t 25)), none, [14, 11, 13, 0, 1, 2, 3, 4, 5, 6, 7, 8, 9, 10, 11, 12, 13]⟩]))
  (.reg [⟨(some 10), 10, (.mv (.t 2)), none, []⟩,
    ⟨(some 11), 11, (.bin false .add (.t 10) (.k (.c (.s (.pv (.int .i64 1)))))), none, [0]⟩,
    ⟨(some 12), 12, (.mv (.t 3)), none, []⟩,
    ⟨(some 13), 13, (.bin false .sub (.t 12) (.k (.c (.s (.pv (.int .i64 1)))))), none, [2]⟩,
    ⟨(some 2), 2, (.mv (.t 11)), none, [1, 0, 1]⟩,
    ⟨(some 3), 3, (.mv (.t 13)), none, [3, 4, 0, 1, 2, 3, 4]⟩]))))))
theorem fn33 : FnIs Try.prog 33 ac33 [] 28 := ⟨Try.f33, Try.func33, by kernel_rfl, by kernel_rfl, by kernel_rfl⟩

end Go.Proofs.Ytpcahlanjffilaa
